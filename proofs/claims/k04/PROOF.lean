import PyProof.Rows.All
import Wide.All
import OpenK.AllK
import Wide.FinOn
import Lean
import PyProof.EqAt
import PyProof.EqKinds
import PyProof.TupleCall
import PyProof.NeKinds
import KE.KEqDict
import KE.KDictLaws
import PyProof.JoinWalk
import PyProof.ZipIter
import KE.KSortTup
import PyProof.Rows.IntRules
import PyProof.Rows.StrRules
import PyProof.SetKind
import PyProof.Rows.SetFrom
import PyProof.CollectWalk
import PyProof.FactsAll.set_1
import PyProof.TupleIter
import PyProof.CollectStr
import PyProof.SetRoads
import PyProof.DictKinds
import PyProof.Rows.SortStr
import PyProof.ListMulRoad
import PySem.Challenge.RW_reason_k04_safe_and_widths
set_option Elab.async false
set_option linter.all false
set_option maxRecDepth 100000
universe u v
theorem obE {α : Type u} {β : Type v} {x : Option α} {f : α → Option β} {b : β} : x.bind f = some b → ∃ a, x = some a ∧ f a = some b := (Option.bind_eq_some_iff).mp
theorem omE {α : Type u} {β : Type v} {x : Option α} {f : α → β} {b : β} : x.map f = some b → ∃ a, x = some a ∧ f a = b := (Option.map_eq_some_iff).mp
theorem nlL {n m k : Nat} : n ≤ m → m < k → n < k := Nat.lt_of_le_of_lt
theorem naL {n m : Nat} : n ≤ m → ∀ k : Nat, k + n ≤ k + m := Nat.add_le_add_left
local macro_rules | `(tactic| walk_at "vi") => `(tactic| first | exact Or.inl rfl | exact Or.inr (Or.inl rfl) | exact Or.inr (Or.inr rfl))
local macro_rules | `(tactic| walk_at "or") => `(tactic| first | exact Or.inl rfl | exact Or.inr rfl)
local macro_rules | `(tactic| walk_at "fo") => `(tactic| first | exact Or.inl rfl | exact Or.inr rfl | assumption)
namespace L2
open PySem PySem.Spec PyProof.Rows
abbrev Key := Sum Int Str
noncomputable def keyIs : Key -> Value -> Bool
 | .inl k, v => Value.isInt k v
 | .inr x, v => Value.isStrOf x v
noncomputable def keyH (w : World) : Key -> Int
 | .inl k => hashInt k
 | .inr x => hashStr w x
theorem keyIs_shape : ∀ {k : Key} {v : Value}, keyIs k v = true -> (∃ i t, k = Sum.inl i /\ v = Value.int i t) \/ (∃ x t, k = Sum.inr x /\ v = Value.str x t)
 | .inl i, v, h => by
  obtain ⟨t, e⟩ := Value.isInt_shape (k := i) (v := v) h
  exact .inl ⟨i, t, rfl, e⟩
 | .inr x, v, h => by
  obtain ⟨t, e⟩ := Value.isStrOf_shape (x := x) (v := v) h
  exact .inr ⟨x, t, rfl, e⟩
theorem keyIs_int (i : Int) (t : Tok) : keyIs (.inl i) (.int i t) = true := by simp [keyIs, Value.isInt]
theorem keyIs_str (x : Str) (t : Tok) : keyIs (.inr x) (.str x t) = true := by simp [keyIs, Value.isStrOf]
theorem key_ll (a b : Int) : decide ((Sum.inl a : Key) = Sum.inl b) = (a == b) := by
 by_cases e : a = b
 ·subst e; simp
 ·have h : ¬ (Sum.inl a : Key) = Sum.inl b := fun q => e (Sum.inl.inj q)
  rw [decide_eq_false h]
  exact (beq_eq_false_iff_ne.mpr e).symm
theorem key_rr (a b : Str) : decide ((Sum.inr a : Key) = Sum.inr b) = decide (a = b) := by
 by_cases e : a = b
 ·subst e; simp
 ·have h : ¬ (Sum.inr a : Key) = Sum.inr b := fun q => e (Sum.inr.inj q)
  rw [decide_eq_false h, decide_eq_false e]
theorem key_lr (a : Int) (b : Str) : decide ((Sum.inl a : Key) = Sum.inr b) = false := decide_eq_false (fun q => nomatch q)
theorem key_rl (a : Str) (b : Int) : decide ((Sum.inr a : Key) = Sum.inl b) = false := decide_eq_false (fun q => nomatch q)
noncomputable def mixKind (prog : Program) (w : World) : PySem.KeyKind prog w Key where
 is := keyIs
 hash := keyH w
 inj := fun v a b ha hb => by
  rcases keyIs_shape ha with ⟨i, t, rfl, rfl⟩ | ⟨x, t, rfl, rfl⟩
  ·rcases keyIs_shape hb with ⟨j, u, rfl, e⟩ | ⟨y, u, rfl, e⟩
   ·injection e with e1 _; rw [e1]
   ·exact nomatch e
  ·rcases keyIs_shape hb with ⟨j, u, rfl, e⟩ | ⟨y, u, rfl, e⟩
   ·exact nomatch e
   ·injection e with e1 _; rw [e1]
 byValue := fun k v h => by
  rcases keyIs_shape h with ⟨i, t, rfl, rfl⟩ | ⟨x, t, rfl, rfl⟩ <;> rfl
 pyHash := fun hv h => by
  rcases keyIs_shape hv with ⟨i, t, rfl, rfl⟩ | ⟨x, t, rfl, rfl⟩
  ·exact wpAny_pyHash_int h
  ·exact wpAny_pyHash_str h
 eqBool := fun hu hv h => by
  rcases keyIs_shape hu with ⟨i, t, rfl, rfl⟩ | ⟨x, t, rfl, rfl⟩
  ·rcases keyIs_shape hv with ⟨j, u, rfl, rfl⟩ | ⟨y, u, rfl, rfl⟩
   ·rw [key_ll] at h; exact wpAny_eqBool_int h
   ·rw [key_lr] at h; exact SeqAt.EqAt.int_str i t y u _ _ _ _ h
  ·rcases keyIs_shape hv with ⟨j, u, rfl, rfl⟩ | ⟨y, u, rfl, rfl⟩
   ·rw [key_rl] at h; exact SeqAt.EqAt.str_int x t j u _ _ _ _ h
   ·rw [key_rr] at h; exact wpAny_eqBool_str h
 «strs» := fun k x t v h => by
  rcases keyIs_shape h with ⟨i, u, rfl, e⟩ | ⟨y, u, rfl, e⟩
  ·exact nomatch e
  ·injection e with e1 _
   subst e1
   cases v <;> rfl
theorem mixKind_int (prog : Program) (w : World) (i : Int) (t : Tok) : (mixKind prog w).is (.inl i) (.int i t) = true := keyIs_int i t
theorem mixKind_str (prog : Program) (w : World) (x : Str) (t : Tok) : (mixKind prog w).is (.inr x) (.str x t) = true := keyIs_str x t
inductive V where
 | non | bl (b : Bool) | int (i : Int) | str (x : Str) | byt (b : Array UInt8) | flt (b : UInt64) | ref (a : Addr) | ty (n : String)
 deriving DecidableEq
def RelV : V -> Value -> Prop
 | .non, u => u = Value.none
 | .bl b, u => u = Value.bool b
 | .int i, u => ∃ t, u = Value.int i t
 | .str x, u => ∃ t, u = Value.str x t
 | .byt b, u => ∃ t, u = Value.bytes b t
 | .flt b, u => ∃ t, u = Value.float b t
 | .ref a, u => u = Value.ref a
 | .ty n, u => u = Value.type n
abbrev Vals : List V -> List Value -> Prop := Paired RelV
theorem Vals.length {xs : List V} {us : List Value} (r : Vals xs us) : xs.length = us.length := Paired.length r
theorem Vals.get : ∀ {xs : List V} {us : List Value} {i : Nat} {x : V}, Vals xs us -> xs[i]? = some x -> ∃ u, us[i]? = some u /\ RelV x u
 | _, _, _, _, .nil, e => by simp at e
 | _, _, 0, _, .cons r _, e => by simp at e; subst e; exact ⟨_, rfl, r⟩
 | _, _, i + 1, x, .cons _ t, e => by
  obtain ⟨u, h1, h2⟩ := Vals.get (i := i) (x := x) t (by simpa using e)
  exact ⟨u, by simpa using h1, h2⟩
theorem Vals.append : ∀ {xs ys : List V} {us ws : List Value}, Vals xs us -> Vals ys ws -> Vals (xs ++ ys) (us ++ ws)
 | _, _, _, _, .nil, s => s
 | _, _, _, _, .cons r t, s => .cons r (Vals.append t s)
theorem Vals.take : ∀ {xs : List V} {us : List Value} (n : Nat), Vals xs us -> Vals (xs.take n) (us.take n)
 | _, _, 0, _ => .nil
 | _, _, _ + 1, .nil => .nil
 | _, _, n + 1, .cons r t => .cons r (Vals.take n t)
theorem Vals.drop : ∀ {xs : List V} {us : List Value} (n : Nat), Vals xs us -> Vals (xs.drop n) (us.drop n)
 | _, _, 0, r => r
 | _, _, _ + 1, .nil => .nil
 | _, _, n + 1, .cons _ t => Vals.drop n t
def RelO : Option V -> Option Value -> Prop
 | some v, some u => RelV v u
 | none, none => True
 | _, _ => False
def KV {κ : Type} : List (κ × V) -> List (κ × Value) -> Prop := Paired fun (p : κ × V) (q : κ × Value) => p.1 = q.1 /\ RelV p.2 q.2
noncomputable def kV : Key -> V
 | .inl i => .int i
 | .inr x => .str x
inductive HO where
 /-- a list -/
 | lst (xs : List V)
 /-- a tuple (never changes) -/
 | tup (xs : List V)
 /-- a dict whose keys are ints and texts; one whose keys are tuples of ints and texts (the empty one is both) -/
 | dK (kvs : List (Key × V)) | dT (kvs : List (List Key × V))
 /-- a set of ints: its members, its size -/
 | set (S : Int -> Bool) (n : Nat)
 /-- an instance of the class at C, its dict at dx, its attributes -/
 | ins (C dx : Addr) (fs : List (Str × V))
 /-- the dict of the instance at x -/
 | own (x : Addr)
 /-- the dict of an exception -/
 | xd (fs : List (Str × V))
 /-- a bound method, f of x -/
 | met (f x : Addr)
 /-- a range object lo, lo + 1, .. below hi -/
 | rng (lo hi : Int)
 /-- a thing that is known to the object (the script; a dict while a loop walks it): read, never written while it is so -/
 | frz (o : Obj) (u : HO)
 /-- a code object's table -/
 | tbl (ps : Array Value)
 /-- any other thing, by what is true of its one object (a def of one's own: SetO a S n := HO.ext fun h => ..) -/
 | ext (φ : Heap -> Prop)
abbrev Hp := Addr -> Option HO
noncomputable def upd (H : Hp) (a : Addr) (o : HO) : Hp := fun b => if b = a then some o else H b
theorem upd_same {H : Hp} {a : Addr} {o : HO} : upd H a o a = some o := by unfold upd; rw [if_pos rfl]
theorem upd_ne {H : Hp} {a b : Addr} {o : HO} (h : b ≠ a) : upd H a o b = H b := by unfold upd; rw [if_neg h]
theorem ne_of {H : Hp} {a b : Addr} {o u : HO} (h : H a = some o) (h' : H b = some u) (d : o ≠ u) : a ≠ b := by
 intro e; subst e; rw [h] at h'; exact d (Option.some.inj h')
theorem ne_of_none {H : Hp} {a b : Addr} {o : HO} (h : H a = some o) (h' : H b = none) : a ≠ b := by
 intro e; subst e; rw [h] at h'; cases h'
section
variable (P : Program) (w : World)
def ObjOk (H : Hp) (h : Heap) (a : Addr) : HO -> Prop
 | .lst xs => xs.length <= sizeLine /\ ∃ (its : List Value) (n : Nat), Vals xs its /\ h.get? a = some { cls := .type "list", data := .seq its.toArray n }
 | .tup xs => xs.length <= sizeLine /\ ∃ its : List Value, Vals xs its /\ IsTup h a its.toArray
 | .dK kvs => kvs.length <= sizeLine /\ (a == sysModules) = false /\ ∃ vs, KV kvs vs /\ h.DictOf (mixKind P w) a vs
 | .dT kvs => kvs.length <= sizeLine /\ (a == sysModules) = false /\ ∃ xs : List (List Key × Addr × Value),
   Paired (fun (p : List Key × V) (q : List Key × Addr × Value) => p.1 = q.1 /\ H q.2.1 = some (.tup (p.1.map kV)) /\ RelV p.2 q.2.2) kvs xs /\
   ∃ o es ep, h.get? a = some o /\ o.ExactDict /\ o.data = .dict es ep /\ es.toList = xs.map (entryOfKey (tupleKind (mixKind P w))) /\ (xs.map (·.1)).Nodup
 | .set S n => h.SetOf (intKind P w) a S n
 | .ins C dx fs => H dx = some (.own a) /\ fs.length <= 1000 /\ dx ≠ a /\ h.get? a = some (PySem.W.instObj C dx) /\
   ∃ mA, h.Ns1 dx mA /\ (∀ f, RelO (fs.lookup f) (mA f)) /\ PySem.Within mA (fs.map (·.1))
 | .own _ => ∃ o, h.get? a = some o
 | .xd fs => ∃ mA, h.Ns1 a mA /\ ∀ f, RelO (fs.lookup f) (mA f)
 | .rng lo hi => ∃ t u v, h.get? a = some { cls := .type "range", data := .fields #[.int lo t, .int hi u, .int 1 v] }
 | .frz o u => h.get? a = some o /\ ObjOk H h a u
 | .tbl ps => h.get? a = some { cls := .none, data := .fields ps }
 | .met f x => h.get? a = some (PySem.W.methodObj (.ref f) (.ref x))
 | .ext φ => φ h /\ (∃ o, h.get? a = some o) /\ ∀ h1 h2 : Heap, φ h1 -> (∀ o, h1.get? a = some o -> h2.get? a = some o) -> φ h2
def HOk (H : Hp) (h : Heap) : Prop := ∀ a o, H a = some o -> ObjOk P w H h a o
end
section
variable {P : Program} {w : World} {H H' : Hp} {h h' : Heap} {a : Addr} {o : HO}
theorem ObjOk.lt (x : ObjOk P w H h a o) : a < h.objs.size := by
 cases o with
 | lst xs => obtain ⟨_, _, _, _, e⟩ := x; exact Heap.lt_size e
 | tup xs => obtain ⟨_, _, _, p⟩ := x; exact p.lt
 | dK kvs => obtain ⟨_, _, _, _, o, _, _, e, _⟩ := x; exact Heap.lt_size e
 | dT kvs => obtain ⟨_, _, _, _, o, _, _, e, _⟩ := x; exact Heap.lt_size e
 | set S n => obtain ⟨o, _, _, _, e, _⟩ := x; exact Heap.lt_size e
 | ins C dx fs => obtain ⟨_, _, _, e, _⟩ := x; exact Heap.lt_size e
 | own y => obtain ⟨_, e⟩ := x; exact Heap.lt_size e
 | xd fs => obtain ⟨_, ⟨_, _, _, e, _⟩, _⟩ := x; exact Heap.lt_size e
 | rng lo hi => obtain ⟨_, _, _, e⟩ := x; exact Heap.lt_size e
 | frz ob u => obtain ⟨e, _⟩ := x; exact Heap.lt_size e
 | tbl ps => exact Heap.lt_size (show h.get? a = some _ from x)
 | met f y => exact Heap.lt_size (show h.get? a = some _ from x)
 | ext φ => obtain ⟨_, ⟨_, e⟩, _⟩ := x; exact Heap.lt_size e
theorem Paired.mapP {α β : Type} {F G : α -> β -> Prop} : ∀ {l₁ : List α} {l₂ : List β}, Paired F l₁ l₂ -> (∀ a b, F a b -> G a b) -> Paired G l₁ l₂
 | _, _, .nil, _ => .nil
 | _, _, .cons r t, f => .cons (f _ _ r) (Paired.mapP t f)
theorem ObjOk.stay (x : ObjOk P w H h a o) (k : ∀ b u, (b = a \/ H b = some (.own a)) -> h.get? b = some u -> h'.get? b = some u)
  (ho : ∀ b, H b = some (.own a) -> H' b = some (.own a)) (ht : ∀ b xs, H b = some (.tup xs) -> H' b = some (.tup xs)) : ObjOk P w H' h' a o := by
 induction o with
 | lst xs => obtain ⟨z, its, n, r, e⟩ := x; exact ⟨z, its, n, r, k _ _ (.inl rfl) e⟩
 | tup xs => obtain ⟨z, its, r, ob, e, c⟩ := x; exact ⟨z, its, r, ob, k _ _ (.inl rfl) e, c⟩
 | dK kvs => obtain ⟨z, y, vs, r, ob, es, ep, e, c⟩ := x; exact ⟨z, y, vs, r, ob, es, ep, k _ _ (.inl rfl) e, c⟩
 | dT kvs =>
  obtain ⟨z, y, xs, r, ob, es, ep, e, c⟩ := x
  exact ⟨z, y, xs, Paired.mapP r fun p q z => ⟨z.1, ht _ _ z.2.1, z.2.2⟩, ob, es, ep, k _ _ (.inl rfl) e, c⟩
 | set S n => obtain ⟨ob, es, ep, t, e, c⟩ := x; exact ⟨ob, es, ep, t, k _ _ (.inl rfl) e, c⟩
 | ins C dx fs =>
  obtain ⟨d, z, ne, e, mA, ⟨od, es, ep, e2, c⟩, r⟩ := x
  exact ⟨ho _ d, z, ne, k _ _ (.inl rfl) e, mA, ⟨od, es, ep, k _ _ (.inr d) e2, c⟩, r⟩
 | own y => obtain ⟨ob, e⟩ := x; exact ⟨ob, k _ _ (.inl rfl) e⟩
 | xd fs => obtain ⟨mA, ⟨od, es, ep, e, c⟩, r⟩ := x; exact ⟨mA, ⟨od, es, ep, k _ _ (.inl rfl) e, c⟩, r⟩
 | rng lo hi => obtain ⟨t, u, v, e⟩ := x; exact ⟨t, u, v, k _ _ (.inl rfl) e⟩
 | frz ob u ih => obtain ⟨e, q⟩ := x; exact ⟨k _ _ (.inl rfl) e, ih q⟩
 | tbl ps =>
  have e : h.get? a = some { cls := .none, data := .fields ps } := x
  show h'.get? a = some { cls := .none, data := .fields ps }
  exact k a _ (.inl rfl) e
 | met f y =>
  have e : h.get? a = some (PySem.W.methodObj (.ref f) (.ref y)) := x
  show h'.get? a = some (PySem.W.methodObj (.ref f) (.ref y))
  exact k a _ (.inl rfl) e
 | ext φ => obtain ⟨p, ⟨o, e⟩, st⟩ := x; exact ⟨st _ _ p fun o q => k _ _ (.inl rfl) q, ⟨o, k _ _ (.inl rfl) e⟩, st⟩
theorem HOk.lt (x : HOk P w H h) (e : H a = some o) : a < h.objs.size := (x a o e).lt
theorem HOk.fresh (x : HOk P w H h) (e : h.objs.size <= a) : H a = none := by
 cases q : H a with
 | none => rfl
 | some u => exact absurd (Nat.lt_of_lt_of_le (x.lt q) e) (Nat.lt_irrefl _)
theorem HOk.kept (x : HOk P w H h) (k : ∀ b u, h.get? b = some u -> h'.get? b = some u) : HOk P w H h' := fun a o e =>
 (x a o e).stay (fun b u _ q => k b u q) (fun _ q => q) fun _ _ q => q
theorem HOk.laid (x : HOk P w H h) (k : ∀ b u, h.get? b = some u -> h'.get? b = some u) (hp : h.objs.size <= a) (new : ObjOk P w (upd H a o) h' a o) : HOk P w (upd H a o) h' := fun b u e => by
 have hn := x.fresh hp
 by_cases hb : b = a
 ·subst hb; rw [upd_same] at e; cases e; exact new
 ·rw [upd_ne hb] at e
  exact (x b u e).stay (fun c v _ q => k c v q) (fun c q => by rw [upd_ne (ne_of_none q hn)]; exact q) fun c xs q => by rw [upd_ne (ne_of_none q hn)]; exact q
end
def Rd (H : Hp) (a : Addr) (u : HO) : Prop := H a = some u \/ ∃ o, H a = some (.frz o u)
theorem Rd.ok {P : Program} {w : World} {H : Hp} {h : Heap} {a : Addr} {u : HO} (r : Rd H a u) (x : HOk P w H h) : ObjOk P w H h a u := by
 rcases r with r | ⟨o, r⟩
 ·exact x a u r
 ·obtain ⟨_, q⟩ := x a _ r
  exact q
def Mut : Option HO -> Prop
 | some (.lst _) => True
 | some (.dK _) => True
 | some (.dT _) => True
 | some (.set _ _) => True
 | some (.ins _ _ _) => True
 | some (.ext _) => True
 | _ => False
section
variable {P : Program} {w : World} {H : Hp} {h h' : Heap} {x e : Addr} {o' : HO}
theorem HOk.write (ok : HOk P w H h) (mu : Mut (H x)) (he : e = x \/ H e = some (.own x)) (k : ∀ b u, b ≠ e -> h.get? b = some u -> h'.get? b = some u) (heo : ∃ u, h'.get? e = some u)
  (new : ObjOk P w (upd H x o') h' x o') : HOk P w (upd H x o') h' := fun b u q => by
 have nown : ∀ c y, H c = some (.own y) -> c ≠ x := fun c y r z => by subst z; rw [r] at mu; exact mu
 have ntup : ∀ c xs, H c = some (.tup xs) -> c ≠ x := fun c xs r z => by subst z; rw [r] at mu; exact mu
 by_cases hb : b = x
 ·subst hb; rw [upd_same] at q; cases q; exact new
 ·rw [upd_ne hb] at q
  by_cases hbe : b = e
  ·have q' : H b = some (.own x) := by
    rcases he with z | z
    ·exact absurd (hbe.trans z) hb
    ·rw [hbe]; exact z
   rw [q] at q'; cases q'
   obtain ⟨v, hv⟩ := heo
   exact ⟨v, by rw [hbe]; exact hv⟩
  ·refine (ok b u q).stay (fun c v hc r => k c v ?_ r) (fun c r => by rw [upd_ne (nown c b r)]; exact r) fun c xs r => by rw [upd_ne (ntup c xs r)]; exact r
   rcases hc with rfl | hc
   ·exact hbe
   ·rintro rfl
    rcases he with z | z
    ·exact nown c b hc z
    ·rw [hc] at z; cases z; exact hb rfl
end
structure Un (fs ex : List Addr) (H H' : Hp) (h h' : Heap) : Prop where
 keep : ∀ b o, h.get? b = some o -> H b = none -> b ∉ fs -> b ∉ ex -> h'.get? b = some o
 slot : ∀ b o, h.get? b = some o -> H b = none -> b ∈ fs -> b ∉ ex -> ∃ sl, h'.get? b = some { o with slots := sl }
 free : ∀ b o, h.get? b = some o -> H b = none -> b ∉ ex -> H' b = none
 there : ∀ b o, h.get? b = some o -> b ∉ ex -> ∃ o', h'.get? b = some o'
 tups : ∀ b xs, H b = some (.tup xs) -> H' b = some (.tup xs)
 frzs : ∀ b o u, H b = some (.frz o u) -> H' b = some (.frz o u)
 tbls : ∀ b ps, H b = some (.tbl ps) -> ∃ more, H' b = some (.tbl (ps ++ more))
section
variable {fs fs' ex ex' : List Addr} {H H1 H2 : Hp} {h h1 h2 h' : Heap} {a x e : Addr} {o : HO}
theorem Un.any (u : Un fs ex H H1 h h1) {b : Addr} {ob : Obj} (q : h.get? b = some ob) (n : H b = none) (hx : b ∉ ex) : ∃ sl, h1.get? b = some { ob with slots := sl } := by
 by_cases hb : b ∈ fs
 ·exact u.slot b ob q n hb hx
 ·exact ⟨ob.slots, u.keep b ob q n hb hx⟩
theorem Un.kept (k : ∀ b u, h.get? b = some u -> h'.get? b = some u) : Un fs ex H H h h' :=
 ⟨fun b ob q _ _ _ => k b ob q, fun b ob q _ _ _ => ⟨ob.slots, k b ob q⟩, fun _ _ _ n _ => n, fun b ob q _ => ⟨ob, k b ob q⟩, fun _ _ q => q, fun _ _ _ q => q, fun _ ps q => ⟨#[], by rw [q]; simp⟩⟩
theorem Un.refl : Un fs ex H H h h := Un.kept fun _ _ q => q
theorem Un.laid (k : ∀ b u, h.get? b = some u -> h'.get? b = some u) (hp : h.objs.size <= a) (hn : H a = none) : Un fs ex H (upd H a o) h h' where
 keep := fun b u q _ _ _ => k b u q
 slot := fun b u q _ _ _ => ⟨u.slots, k b u q⟩
 free := fun b u q n _ => by rw [upd_ne (Nat.ne_of_lt (Nat.lt_of_lt_of_le (Heap.lt_size q) hp))]; exact n
 there := fun b u q _ => ⟨u, k b u q⟩
 tups := fun b xs q => by rw [upd_ne (ne_of_none q hn)]; exact q
 frzs := fun b u xs q => by rw [upd_ne (ne_of_none q hn)]; exact q
 tbls := fun b ps q => ⟨#[], by rw [upd_ne (ne_of_none q hn), q]; simp⟩
theorem Un.write (mu : Mut (H x)) (he : e = x \/ H e = some (.own x)) (k : ∀ b u, b ≠ e -> h.get? b = some u -> h'.get? b = some u) (heo : ∃ u, h'.get? e = some u) : Un fs ex H (upd H x o) h h' := by
 have hx : ∀ b, H b = none -> b ≠ x := fun b n z => by subst z; rw [n] at mu; exact mu
 have hb : ∀ b, H b = none -> b ≠ e := fun b n z => by
  subst z
  rcases he with r | r
  ·exact hx b n r
  ·rw [n] at r; cases r
 have hm : ∀ b u, H b = some u -> ¬ Mut (some u) -> b ≠ x := fun b u q nm z => by subst z; rw [q] at mu; exact nm mu
 refine ⟨fun b u q n _ _ => k b u (hb b n) q, fun b u q n _ _ => ⟨u.slots, k b u (hb b n) q⟩, fun b u q n _ => by rw [upd_ne (hx b n)]; exact n, fun b u q _ => ?_,
  fun b xs q => by rw [upd_ne (hm b _ q fun z => z)]; exact q, fun b u xs q => by rw [upd_ne (hm b _ q fun z => z)]; exact q, fun b ps q => ⟨#[], by rw [upd_ne (hm b _ q fun z => z), q]; simp⟩⟩
 by_cases hbe : b = e
 ·subst hbe; exact heo
 ·exact ⟨u, k b u hbe q⟩
end
noncomputable def trk (h : Heap) (H : Hp) : List Addr := (List.range h.objs.size).filter fun a => (H a).isSome
noncomputable def hidT (h : Heap) (H : Hp) : Heap := PySem.W.hideAll h (trk h H)
theorem hidT_size (h : Heap) (H : Hp) : (hidT h H).objs.size = h.objs.size := PySem.W.hideAll_size _ _
theorem hidT_get {h : Heap} {H : Hp} {b : Addr} {o : Obj} (e : h.get? b = some o) (n : H b = none) : (hidT h H).get? b = some o :=
 PySem.W.hideAll_get _ e fun hm => by
  have q : (H b).isSome = true := (List.mem_filter.mp hm).2
  rw [n] at q; simp at q
theorem of_hidT {h : Heap} {H : Hp} {b : Addr} {o : Obj} (e : (hidT h H).get? b = some o) : h.get? b = some o /\ H b = none := by
 have e' : h.get? b = some o := PySem.W.of_hideAll (trk h H) e
 refine ⟨e', ?_⟩
 cases q : H b with
 | none => rfl
 | some x =>
  have hm : b ∈ trk h H := List.mem_filter.mpr ⟨List.mem_range.mpr (Heap.lt_size e'), by simp [q]⟩
  have z : (hidT h H).get? b = none := PySem.W.hideAll_none (trk h H) hm
  rw [z] at e; cases e
noncomputable def allNews (g h : Heap) (L : Addr) : List (Addr × Obj) := (List.range h.objs.size).filterMap fun a => if a = L \/ (g.get? a).isSome = true then none else (h.get? a).map fun o => (a, o)
noncomputable def rest (g h : Heap) (L d : Addr) : List (Addr × Obj) := (allNews g h L).filter fun p => decide (p.1 ≠ d)
structure Mod (K : PySem.W.Frag) (mg : Str -> Option Value) (base : Heap) : Prop where
 kin : K.In base
 glob : base.Ns mainGlobals mg
 blt : ∃ mb, base.Ns builtinsNs mb /\ ∀ x : Str, x ≠ "__name__" -> mb x = bootBuiltins x
 nolimit : base.NoLimit
structure Cx where
 prog : Program
 w : World
 K : PySem.W.Frag
 mg : Str -> Option Value
 base : Heap
 A : Around
 N : List Str
 s₀ : Shared
 H₀ : Hp
 env : Env
 outer : List Env
 stack : List Env
 ex : List Addr
 fn : Str -> Bool
 calm : Bool
 pn : List (Addr × Obj)
 xe : Value -> Shared -> Prop
noncomputable def frs (l : List Env) : List Addr := l.filterMap (·.frame)
noncomputable abbrev Cx.fs (X : Cx) : List Addr := frs X.outer
def Vis (sc : Scope) (x : Str) : Prop := sc.names.lookup x = some .local \/ sc.names.lookup x = some .cell \/ sc.names.lookup x = some .free
def Loc (sc : Scope) (x : Str) : Prop := sc.names.lookup x = some .local \/ sc.names.lookup x = some .cell
def Look (env : Env) (h : Heap) (m : Str -> Option Value) (x : Str) (u : Value) : Prop :=
 (env.kindOf x = some .local /\ m x = some u) \/ ((env.kindOf x = some .cell \/ env.kindOf x = some .free) /\ ∃ c, env.cells.lookup x = some c /\ h.IsCell c (some u))
structure Cx.Ok (X : Cx) : Prop where
 mod : Mod X.K X.mg X.base
 kind : X.env.scope.kind = .function
 glob : X.env.globals = mainGlobals
 blt : X.env.builtins = builtinsNs
 above : X.s₀.heap.objs.size <= X.env.locals
 inj : ∀ x y c, X.env.cells.lookup x = some c -> X.env.cells.lookup y = some c -> x = y
 has : ∀ x, (X.env.kindOf x = some .cell \/ X.env.kindOf x = some .free) -> ∃ c, X.env.cells.lookup x = some c
 cab : ∀ x c, X.fn x = true -> X.env.cells.lookup x = some c -> X.s₀.heap.objs.size <= c
 hd : X.calm = true -> X.A.handled = none
 frames : X.A.frames = some X.stack
 stk : X.stack = X.outer \/ (X.stack = X.env :: X.outer /\ X.env.frame = some X.env.locals)
 exf : ∀ b ∈ X.ex, b ≠ X.env.locals /\ ∀ x c, X.env.cells.lookup x = some c -> c ≠ b
 bs : ∀ b o, X.base.get? b = some o -> X.s₀.heap.get? b = some o /\ X.H₀ b = none
 bsz : X.base.objs.size <= X.s₀.heap.objs.size
 noex : ∀ b o, X.base.get? b = some o -> b ∉ X.ex
 exfs : ∀ b ∈ X.ex, b ∉ X.fs
 funs : X.s₀.heap.FunFrames X.base X.outer
 frf : ∀ b ∈ X.fs, X.H₀ b = none
structure Inv (X : Cx) (pins : List (Addr × Obj)) (σ : List (Option V)) (H : Hp) (s : Shared) : Prop where
 ok : X.Ok
 os : s.os = X.s₀.os
 bare : AllBare s.gens
 base : Un X.fs X.ex X.H₀ H X.s₀.heap s.heap
 loc : ∃ m, s.heap.Ns X.env.locals m /\ ∀ (i : Nat) (x : Str) (v : V), X.N[i]? = some x -> σ[i]? = some (some v) -> Vis X.env.scope x -> ∃ u, RelV v u /\ Look X.env s.heap m x u
 cell : ∀ x c, X.env.cells.lookup x = some c -> ∃ v, s.heap.IsCell c v
 free : H X.env.locals = none
 freeC : ∀ x c, X.env.cells.lookup x = some c -> H c = none
 pin : ∀ p ∈ X.pn ++ pins, s.heap.get? p.1 = some p.2 /\ H p.1 = none /\ p.1 ≠ X.env.locals /\ p.1 ∉ X.fs /\ ∀ v, p.2.data ≠ .cell v
 hok : HOk X.prog X.w H s.heap
 len : σ.length = X.N.length
section
variable {X : Cx} {pins : List (Addr × Obj)} {σ : List (Option V)} {H H' : Hp} {s : Shared} {h' : Heap}
theorem Cx.Ok.nofr (ok : X.Ok) {b : Addr} {o : Obj} (e : X.base.get? b = some o) : b ∉ X.fs := fun hb => by
 have := (ok.funs.mem hb).1
 rw [e] at this; cases this
theorem Inv.bs (I : Inv X pins σ H s) : ∀ b o, X.base.get? b = some o -> s.heap.get? b = some o /\ H b = none := fun b o e =>
 ⟨I.base.keep b o (I.ok.bs b o e).1 (I.ok.bs b o e).2 (I.ok.nofr e) (I.ok.noex b o e), I.base.free b o (I.ok.bs b o e).1 (I.ok.bs b o e).2 (I.ok.noex b o e)⟩
theorem Inv.bk (I : Inv X pins σ H s) : ∀ b o, X.base.get? b = some o -> s.heap.get? b = some o := fun b o e => (I.bs b o e).1
theorem Inv.mod (I : Inv X pins σ H s) : Mod X.K X.mg X.base := I.ok.mod
theorem Inv.kIn (I : Inv X pins σ H s) : X.K.In s.heap := I.ok.mod.kin.keeps I.bk
theorem Inv.fr (I : Inv X pins σ H s) : ∃ m, Fr X.base X.env.locals s.heap m :=
 let ⟨m, hn, _⟩ := I.loc
 ⟨m, hn, I.bk, Nat.le_trans I.ok.bsz I.ok.above⟩
theorem Inv.lt (I : Inv X pins σ H s) : X.env.locals < s.heap.objs.size := let ⟨_, hn, _⟩ := I.loc; hn.lt
theorem Inv.sz (I : Inv X pins σ H s) : X.s₀.heap.objs.size <= s.heap.objs.size := Nat.le_trans I.ok.above (Nat.le_of_lt I.lt)
theorem Inv.nofs (I : Inv X pins σ H s) {a : Addr} (h : s.heap.objs.size <= a) : a ∉ X.fs := fun hb => by
 obtain ⟨_, o, ho, _⟩ := I.ok.funs.mem hb
 exact absurd (Nat.lt_of_lt_of_le (Heap.lt_size ho) (Nat.le_trans I.sz h)) (Nat.lt_irrefl _)
theorem Inv.cne (I : Inv X pins σ H s) : ∀ x c, X.env.cells.lookup x = some c -> c ≠ X.env.locals := fun x c e z => by
 obtain ⟨v, o, ho, hd⟩ := I.cell x c e
 obtain ⟨m, ⟨o', es, ep, ho', hd', _⟩, _⟩ := I.loc
 rw [z, ho'] at ho; cases ho; rw [hd'] at hd; cases hd
theorem Inv.funs (I : Inv X pins σ H s) : s.heap.FunFrames X.base X.outer := by
 have all : ∀ (l : List Env), (∀ b ∈ frs l, b ∈ X.fs) -> X.s₀.heap.FunFrames X.base l -> s.heap.FunFrames X.base l := by
  intro l
  induction l with
  | nil => intro _ _; trivial
  | cons env r ih =>
   intro hs hl
   obtain ⟨hk, ⟨L, o, hf, hn, ho, hd⟩, hr⟩ := hl
   have hL : L ∈ X.fs := hs L (by unfold frs; rw [List.filterMap_cons, hf]; exact List.mem_cons_self)
   obtain ⟨sl, e⟩ := I.base.slot L o ho (I.ok.frf L hL) hL fun z => I.ok.exfs L z hL
   exact ⟨hk, ⟨L, _, hf, hn, e, hd⟩, ih (fun b hb => hs b (by unfold frs; rw [List.filterMap_cons, hf]; exact List.mem_cons_of_mem _ hb)) hr⟩
 exact all X.outer (fun _ hb => hb) I.ok.funs
theorem Inv.stack (I : Inv X pins σ H s) : s.heap.FunFrames X.base X.stack := by
 rcases I.ok.stk with e | ⟨e, hf⟩
 ·rw [e]; exact I.funs
 ·rw [e]
  obtain ⟨m, hn, _⟩ := I.loc
  refine .cons (by rw [I.ok.kind]; decide) hf hn ?_ I.funs
  exact Heap.get?_none_of_le (Nat.le_trans I.ok.bsz I.ok.above)
theorem Inv.stkSub (I : Inv X pins σ H s) : ∀ b ∈ frs X.stack, b ∈ X.env.locals :: X.fs := fun b hb => by
 rcases I.ok.stk with e | ⟨e, hf⟩
 ·rw [e] at hb; exact List.mem_cons_of_mem _ hb
 ·rw [e] at hb
  unfold frs at hb
  rw [List.filterMap_cons, hf] at hb
  exact hb
theorem Inv.stkFree (I : Inv X pins σ H s) : ∀ b ∈ frs X.stack, H b = none := fun b hb => by
 rcases List.mem_cons.mp (I.stkSub b hb) with e | hb
 ·rw [e]; exact I.free
 ·obtain ⟨_, o, ho, _⟩ := I.ok.funs.mem hb
  exact I.base.free b o ho (I.ok.frf b hb) fun z => I.ok.exfs b z hb
theorem Inv.step {g' : Array GenState} {t' : Nat} {d' : Drawn} {ch : List Addr} (I : Inv X pins σ H s)
  (hch : ∀ b ∈ ch, (b ∈ X.ex \/ X.s₀.heap.objs.size <= b) /\ b ≠ X.env.locals /\ (∀ x c, X.env.cells.lookup x = some c -> c ≠ b) /\ ∀ p ∈ X.pn ++ pins, p.1 ≠ b)
  (keep : ∀ b o, b ≠ X.env.locals -> b ∉ X.fs -> b ∉ ch -> s.heap.get? b = some o -> H b = none -> h'.get? b = some o)
  (slot : ∀ b o, b ≠ X.env.locals -> b ∈ X.fs -> b ∉ ch -> s.heap.get? b = some o -> H b = none -> ∃ sl, h'.get? b = some { o with slots := sl }) (free : ∀ b o, b ∉ ch -> s.heap.get? b = some o -> H b = none -> H' b = none)
  (there : ∀ b o, b ∉ ch -> s.heap.get? b = some o -> ∃ o', h'.get? b = some o')
  (tups : ∀ b xs, H b = some (.tup xs) -> H' b = some (.tup xs)) (frzs : ∀ b o u, H b = some (.frz o u) -> H' b = some (.frz o u)) (tbls : ∀ b ps, H b = some (.tbl ps) -> ∃ more, H' b = some (.tbl (ps ++ more)))
  (ns : ∀ m, s.heap.Ns X.env.locals m -> h'.Ns X.env.locals m) (hok : HOk X.prog X.w H' h') (hg : AllBare g') :
  Inv X pins σ H' { s with heap := h', gens := g', drawn := d', toks := t' } := by
 have neL : ∀ b o, X.s₀.heap.get? b = some o -> b ≠ X.env.locals := fun b o e => Nat.ne_of_lt (Nat.lt_of_lt_of_le (Heap.lt_size e) I.ok.above)
 have neC : ∀ b o, X.s₀.heap.get? b = some o -> b ∉ X.ex -> b ∉ ch := fun b o e hx hb => by
  rcases (hch b hb).1 with z | z
  ·exact hx z
  ·exact absurd (Nat.lt_of_lt_of_le (Heap.lt_size e) z) (Nat.lt_irrefl _)
 have cellK : ∀ x c, X.env.cells.lookup x = some c -> ∀ v, s.heap.IsCell c v -> h'.IsCell c v := fun x c e v ⟨o, ho, hd⟩ => by
  have nch : c ∉ ch := fun z => (hch c z).2.2.1 x c e rfl
  by_cases hc : c ∈ X.fs
  ·obtain ⟨sl, q⟩ := slot c o (I.cne x c e) hc nch ho (I.freeC x c e)
   exact ⟨_, q, hd⟩
  ·exact ⟨o, keep c o (I.cne x c e) hc nch ho (I.freeC x c e), hd⟩
 refine ⟨I.ok, I.os, hg, ⟨fun b o e n hb hx => ?_, fun b o e n hb hx => ?_, fun b o e n hx => ?_, fun b o e hx => ?_, fun b xs e => tups b xs (I.base.tups b xs e), fun b o xs e => frzs b o xs (I.base.frzs b o xs e), fun b ps e => ?_⟩, ?_, fun x c e => ?_, ?_, fun x c e => ?_, fun p hp => ?_, hok, I.len⟩
 ·exact keep b o (neL b o e) hb (neC b o e hx) (I.base.keep b o e n hb hx) (I.base.free b o e n hx)
 ·obtain ⟨sl, e1⟩ := I.base.slot b o e n hb hx
  obtain ⟨sl', e2⟩ := slot b _ (neL b o e) hb (neC b o e hx) e1 (I.base.free b o e n hx)
  exact ⟨sl', e2⟩
 ·obtain ⟨o', e1⟩ := I.base.there b o e hx
  exact free b o' (neC b o e hx) e1 (I.base.free b o e n hx)
 ·obtain ⟨o', e1⟩ := I.base.there b o e hx
  exact there b o' (neC b o e hx) e1
 ·obtain ⟨m1, e1⟩ := I.base.tbls b ps e
  obtain ⟨m2, e2⟩ := tbls b _ e1
  exact ⟨m1 ++ m2, by rw [e2, Array.append_assoc]⟩
 ·obtain ⟨m, hn, hl⟩ := I.loc
  refine ⟨m, ns m hn, fun i x v e1 e2 e3 => ?_⟩
  obtain ⟨u, r, l⟩ := hl i x v e1 e2 e3
  refine ⟨u, r, ?_⟩
  rcases l with l | ⟨k, c, e, z⟩
  ·exact .inl l
  ·exact .inr ⟨k, c, e, cellK x c e _ z⟩
 ·obtain ⟨v, z⟩ := I.cell x c e
  exact ⟨v, cellK x c e v z⟩
 ·obtain ⟨m, ⟨o, _, _, ho, _⟩, _⟩ := I.loc
  exact free _ o (fun z => (hch _ z).2.1 rfl) ho I.free
 ·obtain ⟨v, o, ho, hd⟩ := I.cell x c e
  exact free c o (fun z => (hch c z).2.2.1 x c e rfl) ho (I.freeC x c e)
 ·obtain ⟨e, n, ne, nf, d⟩ := I.pin p hp
  have nch : p.1 ∉ ch := fun z => (hch p.1 z).2.2.2 p hp rfl
  exact ⟨keep p.1 p.2 ne nf nch e n, free p.1 p.2 nch e n, ne, nf, d⟩
theorem Inv.un {t' : Nat} (I : Inv X pins σ H s) (u : Un X.fs [] H H' s.heap h') (hok : HOk X.prog X.w H' h') : Inv X pins σ H' { s with heap := h', toks := t' } := by
 obtain ⟨m, ⟨o, es, ep, ho, r⟩, _⟩ := id I.loc
 obtain ⟨sl, hL⟩ := u.any ho I.free (by simp)
 exact I.step (g' := s.gens) (d' := s.drawn) (ch := []) (fun _ z => nomatch z) (fun b o _ hb _ e n => u.keep b o e n hb (by simp)) (fun b o _ hb _ e n => u.slot b o e n hb (by simp)) (fun b o _ e n => u.free b o e n (by simp)) (fun b o _ e => u.there b o e (by simp)) u.tups u.frzs u.tbls (fun m' hm => by
  obtain ⟨o', es', ep', ho', r'⟩ := hm
  rw [ho] at ho'; cases ho'
  exact ⟨_, es', ep', hL, r'⟩) hok I.bare
theorem Inv.call {g' : Array GenState} {t' : Nat} {d' : Drawn} {ch : List Addr} (I : Inv X pins σ H s) (u : Un (frs X.stack) ch H H' s.heap h') (hok : HOk X.prog X.w H' h') (hg : AllBare g')
  (hch : ∀ b ∈ ch, (b ∈ X.ex \/ X.s₀.heap.objs.size <= b) /\ b ≠ X.env.locals /\ (∀ x c, X.env.cells.lookup x = some c -> c ≠ b) /\ ∀ p ∈ X.pn ++ pins, p.1 ≠ b) :
  Inv X pins σ H' { s with heap := h', gens := g', drawn := d', toks := t' } := by
 obtain ⟨m, ⟨o, es, ep, ho, r⟩, _⟩ := id I.loc
 obtain ⟨sl, hL⟩ := u.any ho I.free fun z => (hch _ z).2.1 rfl
 exact I.step (ch := ch) hch (fun b o hL hb hc e n => u.keep b o e n (fun z => (List.mem_cons.mp (I.stkSub b z)).elim hL hb) hc) (fun b o _ _ hc e n => u.any e n hc) (fun b o hc e n => u.free b o e n hc) (fun b o hc e => u.there b o e hc) u.tups u.frzs u.tbls (fun m' hm => by
  obtain ⟨o', es', ep', ho', r'⟩ := hm
  rw [ho] at ho'; cases ho'
  exact ⟨_, es', ep', hL, r'⟩) hok hg
theorem Inv.turned {t' : Nat} {it : Addr} (I : Inv X pins σ H s) (k : ∀ b o, b ≠ it -> s.heap.get? b = some o -> h'.get? b = some o) (hn : H it = none) (hL : it ≠ X.env.locals)
  (h1 : it ∈ X.ex \/ X.s₀.heap.objs.size <= it) (h2 : ∀ x c, X.env.cells.lookup x = some c -> c ≠ it) (h3 : ∀ p ∈ X.pn ++ pins, p.1 ≠ it) : Inv X pins σ H { s with heap := h', toks := t' } := by
 have nit : ∀ b u, H b = some u -> b ≠ it := fun b u e z => by rw [z, hn] at e; cases e
 refine I.step (g' := s.gens) (d' := s.drawn) (ch := [it]) (fun b hb => ?_) (fun b o _ _ hc e _ => k b o (fun z => hc (by simp [z])) e) (fun b o _ _ hc e _ => ⟨o.slots, k b o (fun z => hc (by simp [z])) e⟩) (fun _ _ _ _ n => n)
  (fun b o hc e => ⟨o, k b o (fun z => hc (by simp [z])) e⟩) (fun _ _ e => e) (fun _ _ _ e => e) (fun b ps e => ⟨#[], by rw [e]; simp⟩) (fun m hm => ?_) (fun b u e => ?_) I.bare
 ·have e : b = it := by simpa using hb
  subst e
  exact ⟨h1, hL, h2, h3⟩
 ·obtain ⟨o, es, ep, ho, r⟩ := hm
  exact ⟨o, es, ep, k _ o (Ne.symm hL) ho, r⟩
 ·refine (I.hok b u e).stay (fun c v hc q => k c v ?_ q) (fun _ q => q) fun _ _ q => q
  rcases hc with z | z
  ·rw [z]; exact nit b u e
  ·exact nit c _ z
theorem Inv.tok (I : Inv X pins σ H s) (t : Nat) : Inv X pins σ H { s with toks := t } := I.un (h' := s.heap) (t' := t) Un.refl I.hok
theorem Inv.kept {t' : Nat} (I : Inv X pins σ H s) (k : ∀ b u, s.heap.get? b = some u -> h'.get? b = some u) : Inv X pins σ H { s with heap := h', toks := t' } := I.un (Un.kept k) (I.hok.kept k)
theorem Inv.laid {a : Addr} {o : HO} {t' : Nat} (I : Inv X pins σ H s) (k : ∀ b u, s.heap.get? b = some u -> h'.get? b = some u) (hp : s.heap.objs.size <= a) (new : ObjOk X.prog X.w (upd H a o) h' a o) :
  Inv X pins σ (upd H a o) { s with heap := h', toks := t' } := I.un (Un.laid k hp (I.hok.fresh hp)) (I.hok.laid k hp new)
theorem Inv.write {x e : Addr} {o : HO} {t' : Nat} (I : Inv X pins σ H s) (mu : Mut (H x)) (he : e = x \/ H e = some (.own x)) (k : ∀ b u, b ≠ e -> s.heap.get? b = some u -> h'.get? b = some u) (heo : ∃ u, h'.get? e = some u)
  (new : ObjOk X.prog X.w (upd H x o) h' x o) : Inv X pins σ (upd H x o) { s with heap := h', toks := t' } := I.un (Un.write mu he k heo) (I.hok.write mu he k heo new)
theorem Inv.weak {σ' : List (Option V)} (I : Inv X pins σ H s) (hl : σ'.length = σ.length) (w : ∀ (i : Nat) v, σ'[i]? = some (some v) -> σ[i]? = some (some v)) : Inv X pins σ' H s :=
 ⟨I.ok, I.os, I.bare, I.base, let ⟨m, hn, hl'⟩ := I.loc; ⟨m, hn, fun i x v e1 e2 e3 => hl' i x v e1 (w i v e2) e3⟩, I.cell, I.free, I.freeC, I.pin, I.hok, hl.trans I.len⟩
theorem Inv.pins_of {pins' : List (Addr × Obj)} (I : Inv X pins σ H s) (h : ∀ p ∈ pins', s.heap.get? p.1 = some p.2 /\ H p.1 = none /\ p.1 ≠ X.env.locals /\ p.1 ∉ X.fs /\ ∀ v, p.2.data ≠ .cell v) : Inv X pins' σ H s :=
 ⟨I.ok, I.os, I.bare, I.base, I.loc, I.cell, I.free, I.freeC, fun p hp => (List.mem_append.mp hp).elim (fun z => I.pin p (List.mem_append_left _ z)) (h p), I.hok, I.len⟩
theorem nodup_ix {N : List Str} (hN : N.Nodup) {i j : Nat} {x : Str} (a : N[i]? = some x) (b : N[j]? = some x) : i = j := by
 obtain ⟨h1, e1⟩ := List.getElem?_eq_some_iff.mp a
 obtain ⟨h2, e2⟩ := List.getElem?_eq_some_iff.mp b
 exact (List.getElem_inj hN).mp (e1.trans e2.symm)
theorem store_ok2 {M : Model} {A : Around} {E : Value -> Shared -> Prop} {i : Nat} {x : Str} {v : V} {u : Value} {Q : Unit -> Shared -> Prop} (I : Inv X pins σ H s) (hN : X.N.Nodup) (hi : X.N[i]? = some x) (hx : Loc X.env.scope x) (r : RelV v u)
  (h : ∀ s', Inv X pins (σ.set i (some v)) H s' -> (∃ a, Heap.SameBut a s.heap s'.heap /\ (a = X.env.locals \/ X.env.cells.lookup x = some a)) -> Q () s') (hf : X.fn x = true \/ X.env.scope.names.lookup x = some .local := by walk_at "fo") : wpAny M A (storeName X.env x u) Q E s := by
 obtain ⟨m, hn, hl⟩ := id I.loc
 have hcls : (X.env.scope.kind == .class || (X.env.scope.kind == .module && X.env.locals != X.env.globals)) = false := by rw [I.ok.kind]; rfl
 have hiσ : i < σ.length := by rw [I.len]; exact (List.getElem?_eq_some_iff.mp hi).1
 have cne := I.cne
 have tracked : ∀ {a : Addr} {h' : Heap}, (∃ o, s.heap.get? a = some o /\ H a = none) -> Heap.SameBut a s.heap h' -> HOk X.prog X.w H h' := fun {a h'} ha hs b ob e => by
  obtain ⟨_, _, hfree⟩ := ha
  refine (I.hok b ob e).stay (fun c w' hc q => (hs.2 c ?_).trans q) (fun _ q => q) fun _ _ q => q
  rintro rfl
  rcases hc with rfl | hc
  ·rw [hfree] at e; cases e
  ·rw [hfree] at hc; cases hc
 rcases hx with hk | hk
 ·refine wpAny_storeName_local hk hn (fun h' hn' hs => ?_) hcls
  obtain ⟨oL, _, _, hoL, _⟩ := id hn
  refine h _ ⟨I.ok, I.os, I.bare, ⟨fun b o e n hb hx => ?_, fun b o e n hb hx => ?_, I.base.free, fun b o e hx => ?_, I.base.tups, I.base.frzs, I.base.tbls⟩, ⟨_, hn', fun j y v' e1 e2 e3 => ?_⟩, fun y c e => ?_, I.free, I.freeC, fun p hp => ?_, tracked ⟨oL, hoL, I.free⟩ hs, by simpa using I.len⟩ ⟨_, hs, .inl rfl⟩
  ·exact (hs.2 b (Nat.ne_of_lt (Nat.lt_of_lt_of_le (Heap.lt_size e) I.ok.above))).trans (I.base.keep b o e n hb hx)
  ·obtain ⟨sl, e1⟩ := I.base.slot b o e n hb hx
   exact ⟨sl, (hs.2 b (Nat.ne_of_lt (Nat.lt_of_lt_of_le (Heap.lt_size e) I.ok.above))).trans e1⟩
  ·obtain ⟨o', e1⟩ := I.base.there b o e hx
   exact ⟨o', (hs.2 b (Nat.ne_of_lt (Nat.lt_of_lt_of_le (Heap.lt_size e) I.ok.above))).trans e1⟩
  ·by_cases hj : j = i
   ·subst hj
    rw [hi] at e1; cases e1
    rw [List.getElem?_set_self hiσ] at e2
    cases e2
    exact ⟨u, r, .inl ⟨hk, by simp⟩⟩
   ·rw [List.getElem?_set_ne (Ne.symm hj)] at e2
    obtain ⟨u', r', q⟩ := hl j y v' e1 e2 e3
    refine ⟨u', r', ?_⟩
    rcases q with ⟨k, e⟩ | ⟨k, c, e, z⟩
    ·refine .inl ⟨k, ?_⟩
     have : y ≠ x := fun e => hj (nodup_ix hN e1 (e ▸ hi))
     simp [this, e]
    ·exact .inr ⟨k, c, e, z.sameBut hs (cne y c e)⟩
  ·obtain ⟨w', z⟩ := I.cell y c e
   exact ⟨w', z.sameBut hs (cne y c e)⟩
  ·obtain ⟨e, n, ne, nf, d⟩ := I.pin p hp
   exact ⟨(hs.2 p.1 ne).trans e, n, ne, nf, d⟩
 ·have hfn : X.fn x = true := by
   rcases hf with z | z
   ·exact z
   ·rw [z] at hk; cases hk
  obtain ⟨c, hc⟩ := I.ok.has x (.inl hk)
  obtain ⟨w', z⟩ := I.cell x c hc
  refine wpAny_storeName_cell I.ok.kind hk hc z (fun h' hc' hs => ?_)
  obtain ⟨oc, hoc, hocd⟩ := id z
  refine h { s with heap := h' } ⟨I.ok, I.os, I.bare, ⟨fun b o e n hb hx => ?_, fun b o e n hb hx => ?_, I.base.free, fun b o e hx => ?_, I.base.tups, I.base.frzs, I.base.tbls⟩, ⟨m, hn.sameBut hs (Ne.symm (cne x c hc)), fun j y v' e1 e2 e3 => ?_⟩, fun y c' e => ?_, I.free, I.freeC, fun p hp => ?_, tracked ⟨oc, hoc, I.freeC x c hc⟩ hs, by simpa using I.len⟩ ⟨c, hs, .inr hc⟩
  ·exact (hs.2 b (Nat.ne_of_lt (Nat.lt_of_lt_of_le (Heap.lt_size e) (I.ok.cab x c hfn hc)))).trans (I.base.keep b o e n hb hx)
  ·obtain ⟨sl, e1⟩ := I.base.slot b o e n hb hx
   exact ⟨sl, (hs.2 b (Nat.ne_of_lt (Nat.lt_of_lt_of_le (Heap.lt_size e) (I.ok.cab x c hfn hc)))).trans e1⟩
  ·obtain ⟨o', e1⟩ := I.base.there b o e hx
   exact ⟨o', (hs.2 b (Nat.ne_of_lt (Nat.lt_of_lt_of_le (Heap.lt_size e) (I.ok.cab x c hfn hc)))).trans e1⟩
  ·by_cases hj : j = i
   ·subst hj
    rw [hi] at e1; cases e1
    rw [List.getElem?_set_self hiσ] at e2
    cases e2
    exact ⟨u, r, .inr ⟨.inl hk, c, hc, hc'⟩⟩
   ·rw [List.getElem?_set_ne (Ne.symm hj)] at e2
    obtain ⟨u', r', q⟩ := hl j y v' e1 e2 e3
    refine ⟨u', r', ?_⟩
    rcases q with q | ⟨k, c', e, z'⟩
    ·exact .inl q
    ·refine .inr ⟨k, c', e, z'.sameBut hs ?_⟩
     rintro rfl
     exact hj (nodup_ix hN e1 (I.ok.inj _ _ _ e hc ▸ hi))
  ·by_cases hcc : c' = c
   ·subst hcc; exact ⟨_, hc'⟩
   ·obtain ⟨w2, z2⟩ := I.cell y c' e
    exact ⟨w2, z2.sameBut hs hcc⟩
  ·obtain ⟨e, n, ne, nf, d⟩ := I.pin p hp
   refine ⟨(hs.2 p.1 ?_).trans e, n, ne, nf, d⟩
   intro q
   rw [q, hoc] at e
   have q' : oc = p.2 := Option.some.inj e
   exact d w' (by rw [<- q']; exact hocd)
theorem store_ok {M : Model} {A : Around} {E : Value -> Shared -> Prop} {i : Nat} {x : Str} {v : V} {u : Value} {Q : Unit -> Shared -> Prop} (I : Inv X pins σ H s) (hN : X.N.Nodup) (hi : X.N[i]? = some x) (hx : Loc X.env.scope x) (r : RelV v u)
  (h : ∀ s', Inv X pins (σ.set i (some v)) H s' -> Q () s') (hf : X.fn x = true \/ X.env.scope.names.lookup x = some .local := by walk_at "fo") : wpAny M A (storeName X.env x u) Q E s :=
 store_ok2 I hN hi hx r (fun s' I' _ => h s' I') hf
theorem Inv.call' {s' : Shared} {ch : List Addr} (I : Inv X pins σ H s) (ho : s'.os = s.os) (u : Un (frs X.stack) ch H H' s.heap s'.heap) (hok : HOk X.prog X.w H' s'.heap) (hg : AllBare s'.gens)
  (hch : ∀ b ∈ ch, (b ∈ X.ex \/ X.s₀.heap.objs.size <= b) /\ b ≠ X.env.locals /\ (∀ x c, X.env.cells.lookup x = some c -> c ≠ b) /\ ∀ p ∈ X.pn ++ pins, p.1 ≠ b) : Inv X pins σ H' s' := by
 obtain ⟨h', g', d', t', o'⟩ := s'
 have e : o' = s.os := ho
 subst e
 exact I.call (g' := g') (t' := t') (d' := d') u hok hg hch
end
abbrev XK := Value -> Option Addr -> Hp -> Prop
abbrev St := List (Option V)
abbrev VK := V -> Hp -> Prop
abbrev TE := St -> Hp -> VK -> Prop
abbrev TT := St -> Hp -> (Bool -> Hp -> Prop) -> Prop
abbrev TA := St -> Hp -> (List V -> Hp -> Prop) -> Prop
structure Ends where
 nx : St -> Hp -> Prop
 rt : VK
 bk : St -> Hp -> Prop := fun _ _ => False
 ct : St -> Hp -> Prop := fun _ _ => False
abbrev TS := Ends -> St -> Hp -> Prop
def EP (X : Cx) (pins : List (Addr × Obj)) (σ : St) (Q : VK) (u : Value) (s' : Shared) : Prop := ∃ v H', Inv X pins σ H' s' /\ RelV v u /\ Q v H'
def TP (X : Cx) (pins : List (Addr × Obj)) (σ : St) (Q : Bool -> Hp -> Prop) (b : Bool) (s' : Shared) : Prop := ∃ H', Inv X pins σ H' s' /\ Q b H'
def AP (X : Cx) (pins : List (Addr × Obj)) (σ : St) (Q : List V -> Hp -> Prop) (us : List Value) (s' : Shared) : Prop := ∃ vs H', Inv X pins σ H' s' /\ Vals vs us /\ Q vs H'
def SP (X : Cx) (pins : List (Addr × Obj)) (D : Ends) (f : Flow) (s' : Shared) : Prop :=
 match f with
 | .next => ∃ σ' H', Inv X pins σ' H' s' /\ D.nx σ' H'
 | .brk => ∃ σ' H', Inv X pins σ' H' s' /\ D.bk σ' H'
 | .cont => ∃ σ' H', Inv X pins σ' H' s' /\ D.ct σ' H'
 | .ret u => ∃ v σ' H', Inv X pins σ' H' s' /\ RelV v u /\ D.rt v H'
def PE (X : Cx) (e : Expr) (t : TE) : Prop :=
 ∀ (pins : List (Addr × Obj)) (s : Shared) (σ : St) (H : Hp) (Q : VK), Inv X pins σ H s -> t σ H Q -> wpAny (model X.prog X.w) X.A (eval e X.env) (EP X pins σ Q) X.xe s
def PT (X : Cx) (e : Expr) (t : TT) : Prop :=
 ∀ (pins : List (Addr × Obj)) (s : Shared) (σ : St) (H : Hp) (Q : Bool -> Hp -> Prop), Inv X pins σ H s -> t σ H Q -> wpAny (model X.prog X.w) X.A (isTrue e X.env (eval e X.env)) (TP X pins σ Q) X.xe s
def PW (X : Cx) (e : Expr) (t : TT) : Prop :=
 ∀ (whole : Sem Value) (pins : List (Addr × Obj)) (s : Shared) (σ : St) (H : Hp) (Q : Bool -> Hp -> Prop), Inv X pins σ H s -> t σ H Q -> wpAny (model X.prog X.w) X.A (isTrue e X.env whole) (TP X pins σ Q) X.xe s
theorem PW.pt {X : Cx} {e : Expr} {t : TT} (h : PW X e t) : PT X e t := h _
def PA (X : Cx) (es : List Expr) (t : TA) : Prop :=
 ∀ (pos : Pos) (pins : List (Addr × Obj)) (s : Shared) (σ : St) (H : Hp) (Q : List V -> Hp -> Prop), Inv X pins σ H s -> t σ H Q -> wpAny (model X.prog X.w) X.A (spliced (backTo pos (starEach es X.env))) (AP X pins σ Q) X.xe s
def PS (X : Cx) (st : Stmt) (t : TS) : Prop :=
 ∀ (pins : List (Addr × Obj)) (s : Shared) (σ : St) (H : Hp) (D : Ends), Inv X pins σ H s -> t D σ H -> wpAny (model X.prog X.w) X.A (exec st X.env) (SP X pins D) X.xe s
def PSs (X : Cx) (st : List Stmt) (t : TS) : Prop :=
 ∀ (pins : List (Addr × Obj)) (s : Shared) (σ : St) (H : Hp) (D : Ends), Inv X pins σ H s -> t D σ H -> wpAny (model X.prog X.w) X.A (execs st X.env) (SP X pins D) X.xe s
theorem thn {α : Type} {t : Sem α} {Q Q' : α -> Shared -> Prop} {M : Model} {A : Around} {E : Value -> Shared -> Prop} {s : Shared} (h : wpAny M A t Q E s) (hQ : ∀ a s, Q a s -> Q' a s) : wpAny M A t Q' E s := wpAny_mono h hQ fun _ _ x => x
section
variable {X : Cx}
theorem bin {a b : Expr} {ta tb : TE} (ha : PE X a ta) (hb : PE X b tb) {pins : List (Addr × Obj)} {s : Shared} {σ : St} {H : Hp} {R : V -> V -> Hp -> Prop} (I : Inv X pins σ H s) (h : ta σ H fun x H1 => tb σ H1 fun y H2 => R x y H2)
  {α : Type} {Q : α -> Shared -> Prop} {f : Value -> Value -> Sem α}
  (hf : ∀ v u s2 x y H2, Inv X pins σ H2 s2 -> RelV x v -> RelV y u -> R x y H2 -> wpAny (model X.prog X.w) X.A (f v u) Q X.xe s2) :
  wpAny (model X.prog X.w) X.A (eval a X.env) (fun v s₁ => wpAny (model X.prog X.w) X.A (eval b X.env) (fun u s₂ => wpAny (model X.prog X.w) X.A (f v u) Q X.xe s₂) X.xe s₁) X.xe s := by
 refine thn (ha pins s σ H _ I h) fun v s1 ⟨x, H1, I1, r1, q1⟩ => ?_
 refine thn (hb pins s1 σ H1 _ I1 q1) fun u s2 ⟨y, H2, I2, r2, q2⟩ => ?_
 exact hf v u s2 x y H2 I2 r1 r2 q2
def tVar (i : Nat) : TE := fun σ H Q => ∃ v, σ[i]? = some (some v) /\ Q v H
def tC (v : V) : TE := fun _ H Q => Q v H
theorem pe_var {i : Nat} {x : Str} {pos : Pos} (hN : X.N[i]? = some x) (hv : Vis X.env.scope x) (hd : (x == ("__debug__" : Str)) = false := by decide) (hcd : (x == ("__classdict__" : Str)) = false := by decide) : PE X (.Name x pos) (tVar i) := by
 intro pins s σ H Q I h
 obtain ⟨v, e, h⟩ := h
 obtain ⟨m, hn, hl⟩ := I.loc
 obtain ⟨u, r, l⟩ := hl i x v hN e hv
 have fin : EP X pins σ Q u s := ⟨v, H, I, r, h⟩
 rcases l with ⟨hk, hm⟩ | ⟨hk, c, hc, hcell⟩
 ·exact wpAny_Name (wpAny_loadName_local I.ok.kind hk hn hm fin) hd
 ·rcases hk with hk | hk
  ·exact wpAny_Name (wpAny_loadName_cell I.ok.kind hk hc hcell fin) hd
  ·exact wpAny_Name (wpAny_loadName_free I.ok.kind hk hc hcell fin hcd) hd
theorem pe_int {i j pos} : PE X (.Constant (.int i) j pos) (tC (.int i)) := fun _ _ _ H _ I h => wpAny_Constant_int ⟨.int i, H, I.tok _, ⟨_, rfl⟩, h⟩
theorem pe_bl {b j pos} : PE X (.Constant (.bool b) j pos) (tC (.bl b)) := fun _ _ _ H _ I h => Constant_bool ⟨.bl b, H, I, rfl, h⟩
theorem pe_non {j pos} : PE X (.Constant .none j pos) (tC .non) := fun _ _ _ H _ I h => Constant_none ⟨.non, H, I, rfl, h⟩
theorem pe_str {x j pos} : PE X (.Constant (.str x) j pos) (tC (.str x)) := fun _ _ _ H _ I h => Calls.Constant_str ⟨.str x, H, I.tok _, ⟨_, rfl⟩, h⟩
def Gl (X : Cx) (x : Str) : Prop := X.env.kindOf x = some .globalImplicit
theorem ld_glob {E : Value -> Shared -> Prop} {pins : List (Addr × Obj)} {s : Shared} {σ : St} {H : Hp} {x : Str} {u : Value} {pos : Pos} {Q : Value -> Shared -> Prop} (I : Inv X pins σ H s) (hg : Gl X x) (hm : X.mg x = some u) (h : Q u s)
  (hd : (x == ("__debug__" : Str)) = false := by decide) : wpAny (model X.prog X.w) X.A (eval (.Name x pos) X.env) Q E s :=
 Calls.Name_function_global I.ok.kind hg (Calls.loadGlobal_global (by rw [I.ok.glob]; exact I.mod.glob.keeps I.bk) hm h) hd
theorem ld_blt {E : Value -> Shared -> Prop} {pins : List (Addr × Obj)} {s : Shared} {σ : St} {H : Hp} {x : Str} {u : Value} {pos : Pos} {Q : Value -> Shared -> Prop} (I : Inv X pins σ H s) (hg : Gl X x) (hm : X.mg x = none) (hv : bootBuiltins x = some u) (h : Q u s)
  (hn : x ≠ "__name__" := by decide) (hd : (x == ("__debug__" : Str)) = false := by decide) : wpAny (model X.prog X.w) X.A (eval (.Name x pos) X.env) Q E s := by
 obtain ⟨mb, h1, h2⟩ := I.mod.blt
 exact Calls.Name_function_global I.ok.kind hg (Calls.loadGlobal_builtin (by rw [I.ok.glob]; exact I.mod.glob.keeps I.bk) hm (by rw [I.ok.blt]; exact h1.keeps I.bk) ((h2 x hn).trans hv) h) hd
theorem pe_glob {x : Str} {v : V} {u : Value} {pos : Pos} (hg : Gl X x) (hm : X.mg x = some u) (r : RelV v u) (hd : (x == ("__debug__" : Str)) = false := by decide) : PE X (.Name x pos) (tC v) :=
 fun _ _ _ H _ I h => ld_glob I hg hm ⟨v, H, I, r, h⟩ hd
theorem pe_bltn {x : Str} {v : V} {u : Value} {pos : Pos} (hg : Gl X x) (hm : X.mg x = none) (hv : bootBuiltins x = some u) (r : RelV v u) (hn : x ≠ "__name__" := by decide) (hd : (x == ("__debug__" : Str)) = false := by decide) : PE X (.Name x pos) (tC v) :=
 fun _ _ _ H _ I h => ld_blt I hg hm hv ⟨v, H, I, r, h⟩ hn hd
variable {a b : Expr} {ta tb : TE} {pos : Pos}
def PC (X : Cx) (op : CmpOp) (a b : Expr) (t : TE) : Prop :=
 ∀ (pins : List (Addr × Obj)) (s : Shared) (σ : St) (H : Hp) (Q : VK), Inv X pins σ H s -> t σ H Q ->
  wpAny (model X.prog X.w) X.A (eval a X.env) (fun v s₁ => wpAny (model X.prog X.w) X.A (eval b X.env) (fun u s₂ => wpAny (model X.prog X.w) X.A (compareOp op v u) (EP X pins σ Q) X.xe s₂) X.xe s₁) X.xe s
theorem nobehind (b : Expr) {op : CmpOp} (h : op ≠ .In) (h2 : op ≠ .NotIn) : behindInMarks op b = false := by
 have e1 : (op == CmpOp.In) = false := by cases op <;> first | rfl | exact absurd rfl h
 have e2 : (op == CmpOp.NotIn) = false := by cases op <;> first | rfl | exact absurd rfl h2
 cases b <;> simp [behindInMarks, e1, e2]
def tB (t : TE) : TT := fun σ H Q => t σ H fun x H1 => ∃ c, x = .bl c /\ Q c H1
theorem pt_cmp {op : CmpOp} {t : TE} (h : PC X op a b t) (h1 : behindInMarks op b = false := by first | exact nobehind _ (by decide) (by decide) | rfl) : PT X (.Compare a [op] [b] pos) (tB t) := by
 intro pins s σ H Q I hw
 refine wpAny_isTrue_Compare1 (thn (h pins s σ H _ I hw) fun v s1 h1 => thn h1 fun u s2 h2 => thn h2 fun c s3 ⟨x, H1, I1, r1, q1⟩ => ?_) h1
 obtain ⟨d, rfl, q⟩ := q1
 cases r1
 exact wpAny_truthy_bool ⟨H1, I1, q⟩
theorem pt_val {e : Expr} {t : TE} (h : PE X e t) (he : ∀ whole, isTrue e X.env whole = (do let v <- whole; standAt e.pos; holding [v] (truthy v)) := by intro _; rfl) : PT X e (tB t) := by
 intro pins s σ H Q I hw
 refine isTrue_plain (thn (h pins s σ H _ I hw) fun v s1 ⟨x, H1, I1, r1, q1⟩ => ?_) (he _)
 obtain ⟨d, rfl, q⟩ := q1
 cases r1
 exact wpAny_truthy_bool ⟨H1, I1, q⟩
variable {tA tB' : TT} {rest : List Expr}
def tAnd (t u : TT) : TT := fun σ H Q => t σ H fun c H1 => if c = true then u σ H1 Q else Q false H1
def tOr (t u : TT) : TT := fun σ H Q => t σ H fun c H1 => if c = true then Q true H1 else u σ H1 Q
def tNot (t : TT) : TT := fun σ H Q => t σ H fun c H1 => Q (!c) H1
theorem pw_and1 (ha : PT X a tA) : PW X (.BoolOp .And [a] pos) tA := by
 intro wh pins s σ H Q I h
 refine isTrue_and (thn (ha pins s σ H Q I h) fun c s1 e => ?_)
 cases c with
 | true => exact isTrue_and_nil e
 | false => exact e
theorem pw_or1 (ha : PT X a tA) : PW X (.BoolOp .Or [a] pos) tA := by
 intro wh pins s σ H Q I h
 refine isTrue_or (thn (ha pins s σ H Q I h) fun c s1 e => ?_)
 cases c with
 | false => exact isTrue_or_nil e
 | true => exact e
theorem pw_and (ha : PT X a tA) (hb : PW X (.BoolOp .And (b :: rest) pos) tB') : PW X (.BoolOp .And (a :: b :: rest) pos) (tAnd tA tB') := by
 intro wh pins s σ H Q I h
 refine isTrue_and (thn (ha pins s σ H _ I h) fun c s1 ⟨H1, I1, q1⟩ => ?_)
 cases c with
 | true => exact hb wh pins s1 σ H1 Q I1 q1
 | false => exact ⟨H1, I1, q1⟩
theorem pw_or (ha : PT X a tA) (hb : PW X (.BoolOp .Or (b :: rest) pos) tB') : PW X (.BoolOp .Or (a :: b :: rest) pos) (tOr tA tB') := by
 intro wh pins s σ H Q I h
 refine isTrue_or (thn (ha pins s σ H _ I h) fun c s1 ⟨H1, I1, q1⟩ => ?_)
 cases c with
 | true => exact ⟨H1, I1, q1⟩
 | false => exact hb wh pins s1 σ H1 Q I1 q1
theorem pt_not (ha : PT X a tA) : PT X (.UnaryOp .Not a pos) (tNot tA) := by
 intro pins s σ H Q I h
 exact isTrue_not (ha pins s σ H (fun c H1 => Q (!c) H1) I h)
def tAndV (ta tb : TE) : TE := fun σ H Q => ta σ H fun x H1 => ∃ c, x = .bl c /\ if c = true then tb σ H1 Q else Q (.bl false) H1
def tOrV (ta tb : TE) : TE := fun σ H Q => ta σ H fun x H1 => ∃ c, x = .bl c /\ if c = true then Q (.bl true) H1 else tb σ H1 Q
theorem pe_one {op} {t : TE} (h : PE X a t) : PE X (.BoolOp op [a] pos) t := fun pins s σ H Q I hw => BoolOp_one (h pins s σ H Q I hw)
theorem pe_and (ha : PE X a ta) (hb : PE X (.BoolOp .And (b :: rest) pos) tb) : PE X (.BoolOp .And (a :: b :: rest) pos) (tAndV ta tb) := by
 intro pins s σ H Q I h
 refine BoolOp_and (thn (ha pins s σ H _ I h) fun v s1 ⟨x, H1, I1, r1, q1⟩ => ?_)
 obtain ⟨c, rfl, q1⟩ := q1
 cases r1
 refine wpAny_truthy_bool ?_
 cases c with
 | true => exact hb pins s1 σ H1 Q I1 q1
 | false => exact ⟨.bl false, H1, I1, rfl, q1⟩
theorem pe_or (ha : PE X a ta) (hb : PE X (.BoolOp .Or (b :: rest) pos) tb) : PE X (.BoolOp .Or (a :: b :: rest) pos) (tOrV ta tb) := by
 intro pins s σ H Q I h
 refine BoolOp_or (thn (ha pins s σ H _ I h) fun v s1 ⟨x, H1, I1, r1, q1⟩ => ?_)
 obtain ⟨c, rfl, q1⟩ := q1
 cases r1
 refine wpAny_truthy_bool ?_
 cases c with
 | false => exact hb pins s1 σ H1 Q I1 q1
 | true => exact ⟨.bl true, H1, I1, rfl, q1⟩
def tIf (t : TT) (ta tb : TE) : TE := fun σ H Q => t σ H fun c H1 => if c = true then ta σ H1 Q else tb σ H1 Q
theorem pe_ifExp {c : Expr} (hc : PT X c tA) (ha : PE X a ta) (hb : PE X b tb) : PE X (.IfExp c a b pos) (tIf tA ta tb) := by
 intro pins s σ H Q I h
 refine wpAny_IfExp (thn (hc pins s σ H _ I h) fun d s1 ⟨H1, I1, q1⟩ => ?_)
 cases d with
 | true => exact ha pins s1 σ H1 Q I1 q1
 | false => exact hb pins s1 σ H1 Q I1 q1
end
def SqL (K : PySem.W.Frag) (H : Hp) (a : Addr) (xs : List V) : Prop :=
 Rd H a (.lst xs) \/
  ∃ (o : Obj) (its : Array Value) (n : Nat), K.lookup a = some o /\ o.cls = .type "list" /\ o.dict = none /\ o.data = .seq its n /\ its.size <= sizeLine /\ Vals xs its.toList
def SqT (K : PySem.W.Frag) (H : Hp) (a : Addr) (xs : List V) : Prop :=
 Rd H a (.tup xs) \/
  ∃ (o : Obj) (its : Array Value) (n : Nat), K.lookup a = some o /\ o.cls = .type "tuple" /\ o.data = .seq its n /\ its.size <= sizeLine /\ Vals xs its.toList
noncomputable def absV : Value -> Option V
 | .none => some .non
 | .bool b => some (.bl b)
 | .int i _ => some (.int i)
 | .str x _ => some (.str x)
 | .bytes b _ => some (.byt b)
 | .float b _ => some (.flt b)
 | .ref a => some (.ref a)
 | .type n => some (.ty n)
 | _ => none
theorem RelV.abs {x : V} {u : Value} (r : RelV x u) : absV u = some x := by
 cases x with
 | non => cases r; rfl
 | bl _ => cases r; rfl
 | int _ => obtain ⟨t, rfl⟩ := r; rfl
 | str _ => obtain ⟨t, rfl⟩ := r; rfl
 | byt _ => obtain ⟨t, rfl⟩ := r; rfl
 | flt _ => obtain ⟨t, rfl⟩ := r; rfl
 | ref _ => cases r; rfl
 | ty _ => cases r; rfl
theorem RelV.inj {x y : V} {u : Value} (r : RelV x u) (q : RelV y u) : x = y := Option.some.inj (r.abs.symm.trans q.abs)
theorem Vals.inj : ∀ {xs ys : List V} {us : List Value}, Vals xs us -> Vals ys us -> xs = ys
 | _, _, _, .nil, .nil => rfl
 | _, _, _, .cons r t, .cons r' t' => by rw [r.inj r', Vals.inj t t']
section
variable {X : Cx} {pins : List (Addr × Obj)} {σ : St} {H : Hp} {s : Shared} {a : Addr} {xs ys : List V}
theorem SqL.of {K : PySem.W.Frag} (h : H a = some (.lst xs)) : SqL K H a xs := .inl (.inl h)
theorem SqT.of {K : PySem.W.Frag} (h : H a = some (.tup xs)) : SqT K H a xs := .inl (.inl h)
theorem Inv.list (I : Inv X pins σ H s) (h : SqL X.K H a xs) : ∃ its : List Value, Vals xs its /\ PlainL s.heap a its.toArray /\ xs.length <= sizeLine := by
 rcases h with h | ⟨o, its, n, hk, hc, hd, hs, hz, r⟩
 ·obtain ⟨z, its, n, r, e⟩ := h.ok I.hok
  exact ⟨its, r, ⟨_, n, e, rfl, rfl, rfl⟩, z⟩
 ·refine ⟨its.toList, r, ⟨o, n, I.kIn a o hk, hc, hd, by simpa using hs⟩, ?_⟩
  have e := r.length
  simp only [Array.length_toList] at e
  omega
theorem Inv.tuple (I : Inv X pins σ H s) (h : SqT X.K H a xs) : ∃ its : List Value, Vals xs its /\ IsTup s.heap a its.toArray /\ xs.length <= sizeLine := by
 rcases h with h | ⟨o, its, n, hk, hc, hs, hz, r⟩
 ·obtain ⟨z, its, r, p⟩ := h.ok I.hok
  exact ⟨its, r, p, z⟩
 ·refine ⟨its.toList, r, ⟨o, I.kIn a o hk, hc, n, by simpa using hs⟩, ?_⟩
  have e := r.length
  simp only [Array.length_toList] at e
  omega
theorem Inv.list_inj (I : Inv X pins σ H s) (h : SqL X.K H a xs) (h' : SqL X.K H a ys) : xs = ys := by
 obtain ⟨its, r, ⟨o, n, e, _, _, d⟩, _⟩ := I.list h
 obtain ⟨its', r', ⟨o', n', e', _, _, d'⟩, _⟩ := I.list h'
 rw [e] at e'; cases e'
 rw [d] at d'
 injection d' with d1 _
 have : its = its' := by simpa using congrArg Array.toList d1
 subst this
 exact r.inj r'
theorem Inv.tuple_inj (I : Inv X pins σ H s) (h : SqT X.K H a xs) (h' : SqT X.K H a ys) : xs = ys := by
 obtain ⟨its, r, ⟨o, e, _, n, d⟩, _⟩ := I.tuple h
 obtain ⟨its', r', ⟨o', e', _, n', d'⟩, _⟩ := I.tuple h'
 rw [e] at e'; cases e'
 rw [d] at d'
 injection d' with d1 _
 have : its = its' := by simpa using congrArg Array.toList d1
 subst this
 exact r.inj r'
end
noncomputable abbrev Cx.wish (X : Cx) (E : Value -> Shared -> Prop) : Cx := { X with xe := E }
noncomputable abbrev Cx.nox (X : Cx) : Cx := X.wish fun _ _ => False
theorem Cx.Ok.wish {X : Cx} (ok : X.Ok) (E : Value -> Shared -> Prop) : (X.wish E).Ok :=
 ⟨ok.mod, ok.kind, ok.glob, ok.blt, ok.above, ok.inj, ok.has, ok.cab, ok.hd, ok.frames, ok.stk, ok.exf, ok.bs, ok.bsz, ok.noex, ok.exfs, ok.funs, ok.frf⟩
theorem Cx.Ok.unwish {X : Cx} {E : Value -> Shared -> Prop} (ok : (X.wish E).Ok) : X.Ok :=
 ⟨ok.mod, ok.kind, ok.glob, ok.blt, ok.above, ok.inj, ok.has, ok.cab, ok.hd, ok.frames, ok.stk, ok.exf, ok.bs, ok.bsz, ok.noex, ok.exfs, ok.funs, ok.frf⟩
section
variable {X : Cx} {pins : List (Addr × Obj)} {σ : St} {H : Hp} {s : Shared} {E : Value -> Shared -> Prop}
theorem Inv.wish (I : Inv X pins σ H s) (E : Value -> Shared -> Prop) : Inv (X.wish E) pins σ H s := ⟨I.ok.wish E, I.os, I.bare, I.base, I.loc, I.cell, I.free, I.freeC, I.pin, I.hok, I.len⟩
theorem Inv.unwish (I : Inv (X.wish E) pins σ H s) : Inv X pins σ H s := ⟨I.ok.unwish, I.os, I.bare, I.base, I.loc, I.cell, I.free, I.freeC, I.pin, I.hok, I.len⟩
theorem SP.unwish {D : Ends} {f : Flow} {s' : Shared} (h : SP (X.wish E) pins D f s') : SP X pins D f s' := by
 cases f with
 | next => obtain ⟨σ', H', I, q⟩ := h; exact ⟨σ', H', I.unwish, q⟩
 | brk => obtain ⟨σ', H', I, q⟩ := h; exact ⟨σ', H', I.unwish, q⟩
 | cont => obtain ⟨σ', H', I, q⟩ := h; exact ⟨σ', H', I.unwish, q⟩
 | ret u => obtain ⟨v, σ', H', I, r, q⟩ := h; exact ⟨v, σ', H', I.unwish, r, q⟩
theorem PSs.nox {st : List Stmt} {t : TS} (h : PSs X.nox st t) : PSs X st t := fun pins s σ H D I hw =>
 wpAny_mono (h pins s σ H D (I.wish _) hw) (fun _ _ q => q.unwish) fun _ _ z => False.elim z
end
section
variable {X : Cx} {st : Stmt} {rest : List Stmt} {t u : TS} {e : Expr} {te : TE} {pos : Pos}
def tNext : TS := fun D σ H => D.nx σ H
def tSeq (t u : TS) : TS := fun D σ H => t { D with nx := u D } σ H
theorem pss_nil : PSs X [] tNext := fun _ _ σ H _ I h => wpAny_execs_nil ⟨σ, H, I, h⟩
theorem pss_cons (h1 : PS X st t) (h2 : PSs X rest u) : PSs X (st :: rest) (tSeq t u) := by
 intro pins s σ H D I h
 refine wpAny_execs_cons (thn (h1 pins s σ H { D with nx := u D } I h) fun f s1 q => ?_)
 cases f with
 | next =>
  obtain ⟨σ', H', I', q⟩ := q
  exact h2 pins s1 σ' H' D I' q
 | ret v => exact q
 | brk => exact q
 | cont => exact q
theorem Inv.quiet {pins : List (Addr × Obj)} {σ : St} {H : Hp} {s : Shared} (I : Inv X pins σ H s) : interactive X.env = false := by simp [interactive, I.ok.kind]
def tDrop (te : TE) : TS := fun D σ H => te σ H fun _ H1 => D.nx σ H1
theorem ps_expr (he : PE X e te) (hs : swapsWith e none pos.line X.env = pure false := by rfl) : PS X (.Expr e pos) (tDrop te) := by
 intro pins s σ H D I h
 exact wpAny_Expr_any (thn (he pins s σ H _ I h) fun v s1 ⟨x, H1, I1, r1, q1⟩ => ⟨σ, H1, I1, q1⟩) I.quiet hs
def tRet (te : TE) : TS := fun D σ H => te σ H D.rt
theorem ps_ret (he : PE X e te) : PS X (.Return (some e) pos) (tRet te) := by
 intro pins s σ H D I h
 exact wpAny_Return_some (thn (he pins s σ H _ I h) fun v s1 ⟨x, H1, I1, r1, q1⟩ => ⟨x, σ, H1, I1, r1, q1⟩)
def tIfS (c : TT) (t u : TS) : TS := fun D σ H => c σ H fun b H1 => if b = true then t D σ H1 else u D σ H1
theorem ps_if {c : Expr} {a b : List Stmt} {tc : TT} (hc : PT X c tc) (ha : PSs X a t) (hb : PSs X b u) : PS X (.If c a b pos) (tIfS tc t u) := by
 intro pins s σ H D I h
 refine wpAny_If (thn (hc pins s σ H _ I h) fun d s1 ⟨H1, I1, q1⟩ => ?_)
 cases d with
 | true => exact ha pins s1 σ H1 D I1 q1
 | false => exact hb pins s1 σ H1 D I1 q1
end
abbrev TG := V -> St -> Hp -> (St -> Hp -> Prop) -> Prop
abbrev TGs := List V -> St -> Hp -> (St -> Hp -> Prop) -> Prop
def PG (X : Cx) (target : Expr) (t : TG) : Prop :=
 ∀ (pins : List (Addr × Obj)) (s : Shared) (σ : St) (H : Hp) (v : V) (u : Value) (Q : St -> Hp -> Prop), Inv X pins σ H s -> RelV v u -> t v σ H Q ->
  wpAny (model X.prog X.w) X.A (assign target X.env u) (fun _ s' => ∃ σ' H', Inv X pins σ' H' s' /\ Q σ' H') X.xe s
def PGs (X : Cx) (ts : List Expr) (t : TGs) : Prop :=
 ∀ (pins : List (Addr × Obj)) (s : Shared) (σ : St) (H : Hp) (vs : List V) (us : List Value) (Q : St -> Hp -> Prop), Inv X pins σ H s -> Vals vs us -> t vs σ H Q ->
  wpAny (model X.prog X.w) X.A (assignInOrder ((assignEach ts X.env).map (·.2)) us) (fun _ s' => ∃ σ' H', Inv X pins σ' H' s' /\ Q σ' H') X.xe s
section
variable {X : Cx} {pos : Pos}
def gName (i : Nat) : TG := fun v σ H Q => Q (σ.set i (some v)) H
theorem pg_name {i : Nat} {x : Str} (hN : X.N.Nodup) (hi : X.N[i]? = some x) (hx : Loc X.env.scope x) (hf : X.fn x = true \/ X.env.scope.names.lookup x = some .local := by walk_at "fo") : PG X (.Name x pos) (gName i) := by
 intro pins s σ H v u Q I r h
 exact wpAny_assign_Name (store_ok I hN hi hx r (fun s' I' => ⟨_, H, I', h⟩) hf)
def gNil : TGs := fun vs σ H Q => vs = [] /\ Q σ H
def gCons (t : TG) (u : TGs) : TGs := fun vs σ H Q => ∃ v r, vs = v :: r /\ t v σ H fun σ' H' => u r σ' H' Q
theorem pgs_nil : PGs X [] gNil := by
 intro pins s σ H vs us Q I r h
 obtain ⟨e, h⟩ := h
 subst e
 cases r
 exact assignInOrder_nil ⟨σ, H, I, h⟩
theorem pgs_cons {e : Expr} {es : List Expr} {t : TG} {u : TGs} (h1 : PG X e t) (h2 : PGs X es u)
  (hs : (assignEach (e :: es) X.env).map (·.2) = assign e X.env :: (assignEach es X.env).map (·.2) := by rfl) : PGs X (e :: es) (gCons t u) := by
 intro pins s σ H vs us Q I r h
 obtain ⟨v, vr, e1, h⟩ := h
 subst e1
 cases r with
 | cons r rr =>
  rw [hs]
  refine assignInOrder_cons (thn (h1 pins s σ H _ _ _ I r h) fun _ s1 ⟨σ1, H1, I1, q1⟩ => ?_)
  exact h2 pins s1 σ1 H1 _ _ Q I1 rr q1
def gTup (K : PySem.W.Frag) (n : Nat) (t : TGs) : TG := fun v σ H Q => ∃ a xs, v = .ref a /\ SqT K H a xs /\ xs.length = n /\ t xs σ H Q
theorem pg_tup {es : List Expr} {k : Nat} {t : TGs} {n : Nat} (hc : X.calm = true) (h : PGs X es t)
  (hn : (assignEach es X.env).length = n := by rfl) (hst : (assignEach es X.env).findIdx? (·.1) = none := by rfl) : PG X (.Tuple es k pos) (gTup X.K n t) := by
 intro pins s σ H v u Q I r hw
 obtain ⟨a, xs, e1, hq, hl, hw⟩ := hw
 subst e1
 cases r
 obtain ⟨its, rv, ht, hz⟩ := I.tuple hq
 refine assign_Tuple_tuple (I.ok.hd hc) ht (by simp [hn, <- hl, rv.length]) hst fun h' hx => ?_
 have I1 : Inv X pins σ H { s with heap := h' } := I.kept (t' := s.toks) fun b o e => hx b o (Nat.ne_of_lt (Heap.lt_size e)) e
 exact h pins _ σ H xs _ Q I1 (by simpa using rv) hw
def tAsg (te : TE) (g : TG) : TS := fun D σ H => te σ H fun x H1 => g x σ H1 D.nx
theorem ps_set {i : Nat} {x : Str} {e : Expr} {te : TE} {pos' : Pos} (hN : X.N.Nodup) (hi : X.N[i]? = some x) (hx : Loc X.env.scope x) (he : PE X e te) (hs : swapsWith e (some (.Name x pos')) pos.line X.env = pure false := by rfl) (hf : X.fn x = true \/ X.env.scope.names.lookup x = some .local := by walk_at "fo") :
  PS X (.Assign [.Name x pos'] e pos) (tAsg te (gName i)) := by
 intro pins s σ H D I h
 refine wpAny_Assign_Name (thn (he pins s σ H _ I h) fun v s1 ⟨y, H1, I1, r1, q1⟩ => ?_) hs
 exact store_ok I1 hN hi hx r1 (fun s2 I2 => ⟨_, H1, I2, q1⟩) hf
end
section
variable {X : Cx} {pos : Pos}
end
structure It where
 go : Nat -> Hp -> Prop
 yld : Nat -> Hp -> V -> Hp -> Prop
 stop : Nat -> Hp -> Prop
def FpOk (X : Cx) (pins : List (Addr × Obj)) (H : Hp) (b : Addr) : Prop :=
 H b = none /\ b ≠ X.env.locals /\ b ∉ X.fs /\ (b ∈ X.ex \/ X.s₀.heap.objs.size <= b) /\ (∀ x c, X.env.cells.lookup x = some c -> c ≠ b) /\ ∀ p ∈ X.pn ++ pins, p.1 ≠ b
theorem Inv.fpOk {X : Cx} {pins : List (Addr × Obj)} {σ : St} {H H' : Hp} {s : Shared} {b : Addr} (I : Inv X pins σ H s) (hb : s.heap.objs.size <= b) (hn : H' b = none) : FpOk X pins H' b := by
 refine ⟨hn, Nat.ne_of_gt (Nat.lt_of_lt_of_le I.lt hb), I.nofs hb, .inr (Nat.le_trans I.sz hb), fun x c e z => ?_, fun p hp z => ?_⟩
 ·obtain ⟨v, q⟩ := I.cell x c e
  exact absurd (Nat.lt_of_lt_of_le q.lt (by rw [z]; exact hb)) (Nat.lt_irrefl _)
 ·exact absurd (Nat.lt_of_lt_of_le (Heap.lt_size (I.pin p hp).1) (by rw [z]; exact hb)) (Nat.lt_irrefl _)
structure Turn (P : Program) (w : World) (K : PySem.W.Frag) (tg : Expr) (J : It) (fp : List Addr) (it : Addr) (tn : Nat -> Heap -> Prop) : Prop where
 mem : it ∈ fp
 obj : ∀ i h, tn i h -> ∀ b ∈ fp, ∃ o, h.get? b = some o /\ ∀ v, o.data ≠ .cell v
 keep : ∀ i h h', tn i h -> (∀ b ∈ fp, ∀ o, h.get? b = some o -> h'.get? b = some o) -> tn i h'
 item : ∀ (X : Cx), X.prog = P -> X.w = w -> X.K = K -> X.calm = true -> ∀ (i : Nat) (pins : List (Addr × Obj)) (s : Shared) (σ : St) (H : Hp) (E : Value -> Shared -> Prop), Inv X pins σ H s -> (∀ b ∈ fp, FpOk X pins H b) -> tn i s.heap -> J.go i H ->
  wpAny (model P w) X.A (pyNext (.ref it)) (fun r s1 => ∃ u, r = some u /\
   wpAny (model P w) X.A (letOwnedTupleGo tg (.ref it) u) (fun _ s2 => ∃ x H', Inv X pins σ H' s2 /\ RelV x u /\ J.yld i H x H' /\ tn (i + 1) s2.heap /\ ∀ b ∈ fp, H' b = none) E s1) E s
 done : ∀ (X : Cx), X.prog = P -> X.w = w -> X.K = K -> X.calm = true -> ∀ (i : Nat) (pins : List (Addr × Obj)) (s : Shared) (σ : St) (H : Hp) (E : Value -> Shared -> Prop), Inv X pins σ H s -> (∀ b ∈ fp, FpOk X pins H b) -> tn i s.heap -> J.stop i H ->
  wpAny (model P w) X.A (pyNext (.ref it)) (fun r s1 => r = none /\ Inv X pins σ H s1) E s
 self : ∀ (A : Around) (i : Nat) (s : Shared) (Q : Value -> Shared -> Prop) (E : Value -> Shared -> Prop), tn i s.heap -> Q (.ref it) s -> wpAny (model P w) A (pyIter (.ref it)) Q E s
abbrev TI := St -> Hp -> (It -> Hp -> Prop) -> Prop
def PIE (X : Cx) (pins : List (Addr × Obj)) (σ : St) (tg : Expr) (R : It -> Hp -> Prop) (itv : Value) (s2 : Shared) : Prop :=
 ∃ (it : Addr) (fp : List Addr) (tn : Nat -> Heap -> Prop) (J : It) (H' : Hp), itv = .ref it /\ Inv X pins σ H' s2 /\ Turn X.prog X.w X.K tg J fp it tn /\ tn 0 s2.heap /\ (∀ b ∈ fp, FpOk X pins H' b) /\ R J H'
def PI (X : Cx) (tg iter : Expr) (wi : TI) : Prop :=
 ∀ (pins : List (Addr × Obj)) (s : Shared) (σ : St) (H : Hp) (R : It -> Hp -> Prop), Inv X pins σ H s -> wi σ H R ->
  wpAny (model X.prog X.w) X.A (eval iter X.env) (fun v s1 => wpAny (model X.prog X.w) X.A (pyIter v) (PIE X pins σ tg R) X.xe s1) X.xe s
theorem go_of {M : Model} {A : Around} {E : Value -> Shared -> Prop} {s : Shared} {tg : Expr} {it : Addr} {u : Value} {o : Obj} {n : String} {vs : Array Value} {Q : Unit -> Shared -> Prop} (ho : s.heap.get? it = some o) (hc : o.cls = .type n) (hd : o.data = .fields vs)
  (hn : ["enumerate", "zip", "dict_itemiterator", "dict_reverseitemiterator", "odict_iterator", "itertools.zip_longest", "itertools.pairwise"].contains n = false) (hQ : Q () s) : wpAny M A (letOwnedTupleGo tg (.ref it) u) Q E s := by
 unfold letOwnedTupleGo
 cases tg <;> first
  | exact wpAny_pure hQ
  | (cases u <;> first
    | exact wpAny_pure hQ
    | (refine wpAny_bind (wpAny_load ho ?_)
       rw [hc, hd]
       show wpAny M A (if (["enumerate", "zip", "dict_itemiterator", "dict_reverseitemiterator", "odict_iterator", "itertools.zip_longest", "itertools.pairwise"].contains n && vs[0]? == some (rawInt _)) = true then _ else _) Q E s
       rw [if_neg (by intro h; rw [hn, Bool.false_and] at h; cases h)]
       exact wpAny_pure hQ))
noncomputable def Itl (K : PySem.W.Frag) (a : Addr) : It :=
 ⟨fun i H => ∃ xs x, SqL K H a xs /\ xs[i]? = some x, fun i H x H' => H' = H /\ ∀ xs, SqL K H a xs -> xs[i]? = some x, fun i H => ∃ xs, SqL K H a xs /\ xs.length <= i⟩
noncomputable def Itt (K : PySem.W.Frag) (a : Addr) : It :=
 ⟨fun i H => ∃ xs x, SqT K H a xs /\ xs[i]? = some x, fun i H x H' => H' = H /\ ∀ xs, SqT K H a xs -> xs[i]? = some x, fun i H => ∃ xs, SqT K H a xs /\ xs.length <= i⟩
noncomputable def Itr (lo : Int) (n : Nat) : It := ⟨fun i _ => i < n, fun i H x H' => H' = H /\ x = .int (lo + i), fun i _ => n <= i⟩
theorem turn_list {P : Program} {w : World} {K : PySem.W.Frag} {tg : Expr} (a it : Addr) : Turn P w K tg (Itl K a) [it] it (fun i h => h.IsListIter it a i) where
 mem := by simp
 obj := fun i h st b hb => by
  have e : b = it := by simpa using hb
  subst e
  obtain ⟨o, e, c, d⟩ := st
  exact ⟨o, e, fun v z => by rw [d] at z; cases z⟩
 keep := fun i h h' st k => st.at fun o e => k it (by simp) o e
 item := by
  intro X hP hw hK hc i pins s σ H E I hf st hg
  subst hP hw hK
  obtain ⟨xs, x, hq, hx⟩ := hg
  obtain ⟨its, rv, p, hz⟩ := I.list hq
  obtain ⟨u, hu, ru⟩ := rv.get hx
  obtain ⟨f0, f1, f2, f3, f4, f5⟩ := hf it (by simp)
  refine wpAny_pyNext_list_item st p.isList (x := u) (by simpa using hu) fun h' st' sb => ?_
  have I1 : Inv X pins σ H { s with heap := h' } := I.turned (t' := s.toks) (fun b o hb e => (sb.2 b hb).trans e) f0 f1 f3 f4 f5
  obtain ⟨o, e, c, d⟩ := id st'
  exact ⟨u, rfl, go_of (s := { s with heap := h' }) e c d (by decide) ⟨x, H, I1, ru, ⟨rfl, fun ys hy => by rw [I.list_inj hy hq]; exact hx⟩, st', fun b hb => (hf b hb).1⟩⟩
 done := by
  intro X hP hw hK hc i pins s σ H E I hf st hg
  subst hP hw hK
  obtain ⟨xs, hq, hx⟩ := hg
  obtain ⟨its, rv, p, hz⟩ := I.list hq
  obtain ⟨f0, f1, f2, f3, f4, f5⟩ := hf it (by simp)
  have hl := rv.length
  exact wpAny_pyNext_list_end (I.ok.hd hc) st p.isList (by simp; omega) fun h' eb => ⟨rfl, I.turned (t' := s.toks) (fun b o hb e => eb b o hb e) f0 f1 f3 f4 f5⟩
 self := fun _ _ _ _ _ st h => wpAny_pyIter_listiter st h
theorem turn_tuple {P : Program} {w : World} {K : PySem.W.Frag} {tg : Expr} (a it : Addr) : Turn P w K tg (Itt K a) [it] it (fun i h => h.IsTupleIter it a i) where
 mem := by simp
 obj := fun i h st b hb => by
  have e : b = it := by simpa using hb
  subst e
  obtain ⟨o, e, c, d⟩ := st
  exact ⟨o, e, fun v z => by rw [d] at z; cases z⟩
 keep := fun i h h' st k => st.at fun o e => k it (by simp) o e
 item := by
  intro X hP hw hK hc i pins s σ H E I hf st hg
  subst hP hw hK
  obtain ⟨xs, x, hq, hx⟩ := hg
  obtain ⟨its, rv, p, hz⟩ := I.tuple hq
  obtain ⟨u, hu, ru⟩ := rv.get hx
  obtain ⟨f0, f1, f2, f3, f4, f5⟩ := hf it (by simp)
  refine wpAny_pyNext_tuple_item st (show s.heap.IsTuple a its.toArray from p) (x := u) (by simpa using hu) fun h' st' sb => ?_
  have I1 : Inv X pins σ H { s with heap := h' } := I.turned (t' := s.toks) (fun b o hb e => (sb.2 b hb).trans e) f0 f1 f3 f4 f5
  obtain ⟨o, e, c, d⟩ := id st'
  exact ⟨u, rfl, go_of (s := { s with heap := h' }) e c d (by decide) ⟨x, H, I1, ru, ⟨rfl, fun ys hy => by rw [I.tuple_inj hy hq]; exact hx⟩, st', fun b hb => (hf b hb).1⟩⟩
 done := by
  intro X hP hw hK hc i pins s σ H E I hf st hg
  subst hP hw hK
  obtain ⟨xs, hq, hx⟩ := hg
  obtain ⟨its, rv, p, hz⟩ := I.tuple hq
  obtain ⟨f0, f1, f2, f3, f4, f5⟩ := hf it (by simp)
  have hl := rv.length
  exact wpAny_pyNext_tuple_end (I.ok.hd hc) st (show s.heap.IsTuple a its.toArray from p) (by simp; omega) fun h' eb => ⟨rfl, I.turned (t' := s.toks) (fun b o hb e => eb b o hb e) f0 f1 f3 f4 f5⟩
 self := fun _ _ _ _ _ st h => wpAny_pyIter_tupleiter st h
theorem turn_range {P : Program} {w : World} {K : PySem.W.Frag} {tg : Expr} (it : Addr) (lo : Int) (n : Nat) : Turn P w K tg (Itr lo n) [it] it (fun i h => IsRangeIter h it (lo + (i : Nat) * 1) ((n : Int) - (i : Nat)) 1) where
 mem := by simp
 obj := fun i h st b hb => by
  have e : b = it := by simpa using hb
  subst e
  exact ⟨_, st, fun v z => by
   have z' : Data.fields _ = Data.cell v := z
   cases z'⟩
 keep := fun i h h' st k => k it (by simp) _ st
 item := by
  intro X hP hw hK hc i pins s σ H E I hf st hg
  subst hP hw hK
  obtain ⟨f0, f1, f2, f3, f4, f5⟩ := hf it (by simp)
  have W := Walks.range (prog := X.prog) (w := X.w) (I.ok.hd hc) it lo 1 n
  refine W.item i s _ _ hg st fun v h' tk hv st' kk => ?_
  obtain ⟨t, rfl⟩ := hv
  have I1 : Inv X pins σ H { s with heap := h', toks := tk } := I.turned (fun b o hb e => kk b o (by simpa using hb) e) f0 f1 f3 f4 f5
  refine ⟨_, rfl, go_of (s := { s with heap := h', toks := tk }) (n := "range_iterator") st' rfl rfl (by decide) ⟨.int (lo + i), H, I1, ⟨t, ?_⟩, ⟨rfl, rfl⟩, st', fun b hb => (hf b hb).1⟩⟩
  rw [Int.mul_one]
 done := by
  intro X hP hw hK hc i pins s σ H E I hf st hg
  subst hP hw hK
  obtain ⟨f0, f1, f2, f3, f4, f5⟩ := hf it (by simp)
  exact wpAny_pyNext_range_end (I.ok.hd hc) st (by have : n <= i := hg; omega) fun h' eb => ⟨rfl, I.turned (t' := s.toks) (fun b o hb e => eb b o hb e) f0 f1 f3 f4 f5⟩
 self := fun _ _ _ _ _ st h => wpAny_pyIter_rangeiter st h
section
variable {X : Cx} {tg : Expr}
theorem range_it {pins : List (Addr × Obj)} {σ : St} {H : Hp} {s : Shared} {R : It -> Hp -> Prop} {E : Value -> Shared -> Prop} {lo hi : Int} {t u v : Tok} {tk : Nat} (I : Inv X pins σ H s) (h1 : -(2 ^ 62) <= lo) (h2 : lo < 2 ^ 62) (h3 : -(2 ^ 62) <= hi) (h4 : hi < 2 ^ 62)
  (q : R (Itr lo (hi - lo).toNat) H) : wpAny (model X.prog X.w) X.A (pyIter (.ref s.heap.objs.size)) (PIE X pins σ tg R) E { s with heap := s.heap.push { cls := .type "range", data := .fields #[.int lo t, .int hi u, .int 1 v] }, toks := tk } := by
 refine wpAny_pyIter_range (IsRange.new ..) (small_one h1 h2 h3 h4) ?_
 have I1 : Inv X pins σ H { s with heap := s.heap.push { cls := .type "range", data := .fields #[.int lo t, .int hi u, .int 1 v] }, toks := tk } := I.kept fun b o e => Heap.get?_push_of_some _ e
 refine ⟨(s.heap.push { cls := .type "range", data := .fields #[.int lo t, .int hi u, .int 1 v] }).objs.size, [(s.heap.push { cls := .type "range", data := .fields #[.int lo t, .int hi u, .int 1 v] }).objs.size], _, _, H, rfl,
  I1.kept (t' := tk) fun b o e => Heap.get?_push_of_some _ e, turn_range _ lo (hi - lo).toNat, ?_, fun b hb => ?_, q⟩
 ·have e1 : lo + ((0 : Nat) : Int) * 1 = lo := by simp
  have e2 : (((hi - lo).toNat : Nat) : Int) - ((0 : Nat) : Int) = Builtin.Range.rangeSize lo hi 1 := by rw [rangeSize_one]; split <;> omega
  show IsRangeIter _ _ (lo + ((0 : Nat) : Int) * 1) ((((hi - lo).toNat : Nat) : Int) - ((0 : Nat) : Int)) 1
  rw [e1, e2]
  exact Heap.get?_push_size _ rfl
 ·have e : b = (s.heap.push { cls := .type "range", data := .fields #[.int lo t, .int hi u, .int 1 v] }).objs.size := by simpa using hb
  subst e
  exact I1.fpOk (Nat.le_refl _) (I1.hok.fresh (Nat.le_refl _))
def iRng1 (ta : TA) : TI := fun σ H R => ta σ H fun vs H1 => ∃ j : Int, vs = [.int j] /\ -(2 ^ 62) <= j /\ j < 2 ^ 62 /\ R (Itr 0 j.toNat) H1
theorem pi_range1 {a : Expr} {ta : TA} {p pos : Pos} (hg : Gl X "range") (hm : X.mg "range" = none) (ha : PA X [a] ta) (hs : starEach [a] X.env = [(false, eval a X.env)] := by rfl) : PI X tg (.Call (.Name "range" p) [a] [] pos) (iRng1 ta) := by
 intro pins s σ H R I h
 refine Call_ (ld_blt I hg hm boot_range (PyProof.Rows.callWith_type1 (thn (ha pos pins s σ H _ I h) fun us s1 ⟨vs, H1, I1, r1, q1⟩ => ?_) hs rfl))
 obtain ⟨j, e, q1, q2, q⟩ := q1
 subst e
 cases r1 with
 | cons r rr =>
  cases rr
  obtain ⟨t, rfl⟩ := r
  exact call_range_1 (range_it I1 (by omega) (by omega) q1 q2 (by simpa using q))
def tFor (wi : TI) (g : TG) (tb : TS) : TS := fun D σ H => wi σ H fun J H1 => ∃ W : Nat -> Nat -> St -> Hp -> Prop, (∃ m, W 0 m σ H1) /\ ∀ i m σ H, W i m σ H ->
 (J.stop i H /\ D.nx σ H) \/ (J.go i H /\ ∃ N : St -> Hp -> Prop, (∀ σ' H', N σ' H' -> ∃ m', m' < m /\ W (i + 1) m' σ' H') /\ ∀ x H', J.yld i H x H' -> g x σ H' fun σ2 H2 => tb { D with nx := N, ct := N, bk := D.nx } σ2 H2)
noncomputable def pinsAt (fp : List Addr) (h : Heap) : List (Addr × Obj) := fp.filterMap fun b => (h.get? b).map fun o => (b, o)
theorem mem_pinsAt {fp : List Addr} {h : Heap} {b : Addr} {o : Obj} (hb : b ∈ fp) (e : h.get? b = some o) : (b, o) ∈ pinsAt fp h := List.mem_filterMap.mpr ⟨b, hb, by rw [e]; rfl⟩
theorem of_pinsAt {fp : List Addr} {h : Heap} {p : Addr × Obj} (hp : p ∈ pinsAt fp h) : p.1 ∈ fp /\ h.get? p.1 = some p.2 := by
 obtain ⟨b, hb, e⟩ := List.mem_filterMap.mp hp
 cases q : h.get? b with
 | none => rw [q] at e; cases e
 | some o =>
  rw [q] at e
  have e' : (b, o) = p := Option.some.inj e
  subst e'
  exact ⟨hb, q⟩
theorem Inv.pinned {pins : List (Addr × Obj)} {σ : St} {H : Hp} {s : Shared} {fp : List Addr} (I : Inv X pins σ H s) (hf : ∀ b ∈ fp, FpOk X pins H b) (ho : ∀ b ∈ fp, ∃ o, s.heap.get? b = some o /\ ∀ v, o.data ≠ .cell v) : Inv X (pins ++ pinsAt fp s.heap) σ H s :=
 I.pins_of fun p hp => (List.mem_append.mp hp).elim (fun z => I.pin p (List.mem_append_right _ z)) fun z => by
  obtain ⟨hb, e⟩ := of_pinsAt z
  obtain ⟨f0, f1, f2, _⟩ := hf p.1 hb
  obtain ⟨o, e', d⟩ := ho p.1 hb
  rw [e] at e'; cases e'
  exact ⟨e, f0, f1, f2, d⟩
theorem Inv.unpinned {pins pl : List (Addr × Obj)} {σ : St} {H : Hp} {s : Shared} (I : Inv X (pins ++ pl) σ H s) : Inv X pins σ H s := I.pins_of fun p hp => I.pin p (List.mem_append_right _ (List.mem_append_left _ hp))
theorem ps_for {iter : Expr} {body : List Stmt} {wi : TI} {g : TG} {tb : TS} {pos : Pos} (hp : PassesOwn (model X.prog X.w) X.A X.env X.xe) (hc : X.calm = true) (hi : PI X tg iter wi) (hg : PG X tg g) (hb : PSs X body tb)
  (hs : ∀ x, foldedSetIterable iter X.env x = pure x := by intro _; rfl) : PS X (.For tg iter body [] pos) (tFor wi g tb) := by
 intro pins s σ H D I h
 refine wpAny_For (thn (hi pins s σ H _ I h) fun v s1 h1 => thn h1 fun itv s2 h2 => ?_) hs
 obtain ⟨it, fp, tn, J, H2, e, I2, T, st2, f2, W, ⟨m0, w0⟩, turn⟩ := h2
 subst e
 -- what stays true of the iterator's objects through the loop
 have stat : ∀ {H' : Hp}, (∀ b ∈ fp, H' b = none) -> ∀ b ∈ fp, FpOk X pins H' b := fun hn b hb => ⟨hn b hb, (f2 b hb).2⟩
 refine codeAny_forLoop_any (fun n s' => ∃ i σ' H', Inv X pins σ' H' s' /\ tn i s'.heap /\ (∀ b ∈ fp, H' b = none) /\ W i n σ' H') ?_ m0 ⟨0, σ, H2, I2, st2, fun b hb => (f2 b hb).1, w0⟩
 rintro n s3 ⟨i, σ3, H3, I3, st3, fr3, w3⟩
 rcases turn i n σ3 H3 w3 with ⟨stop, qn⟩ | ⟨go, N, hN, step⟩
 ·refine wpAny_passesOwn hp (thn (T.done X rfl rfl rfl hc i pins s3 σ3 H3 X.xe I3 (stat fr3) st3 stop) fun r s4 ⟨hr, I4⟩ => ?_)
  subst hr
  exact wpAny_execs_nil ⟨σ3, H3, I4, qn⟩
 ·refine wpAny_passesOwn hp (thn (T.item X rfl rfl rfl hc i pins s3 σ3 H3 X.xe I3 (stat fr3) st3 go) fun r s4 ⟨u, hr, h4⟩ => ?_)
  subst hr
  refine wpAny_passesOwn hp (thn h4 fun _ s5 ⟨x, H5, I5, r5, y5, st5, fr5⟩ => ?_)
  have I5' := I5.pinned (stat fr5) (T.obj _ _ st5)
  refine wpAny_passesOwn hp (thn (hg _ s5 σ3 H5 x u _ I5' r5 (step x H5 y5)) fun _ s6 ⟨σ6, H6, I6, q6⟩ => ?_)
  refine wpAny_passesOwn hp (thn (hb _ s6 σ6 H6 _ I6 q6) fun f s7 q7 => ?_)
  have again : ∀ {σ7 : St} {H7 : Hp}, Inv X (pins ++ pinsAt fp s5.heap) σ7 H7 s7 -> N σ7 H7 -> ∃ m, m < n /\ ∃ i σ' H', Inv X pins σ' H' s7 /\ tn i s7.heap /\ (∀ b ∈ fp, H' b = none) /\ W i m σ' H' := fun {σ7 H7} I7 n7 => by
   obtain ⟨m', hm, w7⟩ := hN σ7 H7 n7
   refine ⟨m', hm, i + 1, σ7, H7, I7.unpinned, T.keep _ _ _ st5 fun b hb o e => (I7.pin (b, o) (List.mem_append_right _ (List.mem_append_right _ (mem_pinsAt hb e)))).1, fun b hb => ?_, w7⟩
   obtain ⟨o, e, d⟩ := T.obj _ _ st5 b hb
   exact (I7.pin (b, o) (List.mem_append_right _ (List.mem_append_right _ (mem_pinsAt hb e)))).2.1
  cases f with
  | next => obtain ⟨σ7, H7, I7, n7⟩ := q7; exact again I7 n7
  | cont => obtain ⟨σ7, H7, I7, n7⟩ := q7; exact again I7 n7
  | brk => obtain ⟨σ7, H7, I7, q7⟩ := q7; exact ⟨σ7, H7, I7.unpinned, q7⟩
  | ret v => obtain ⟨x7, σ7, H7, I7, r7, q7⟩ := q7; exact ⟨x7, σ7, H7, I7.unpinned, r7, q7⟩
end
abbrev R2 := V -> V -> Hp -> VK -> Prop
def OpR (X : Cx) (f : Value -> Value -> Sem Value) (r : R2) : Prop :=
 ∀ (pins : List (Addr × Obj)) (s : Shared) (σ : St) (H : Hp) (x y : V) (v u : Value) (Q : VK), Inv X pins σ H s -> RelV x v -> RelV y u -> r x y H Q ->
  wpAny (model X.prog X.w) X.A (f v u) (EP X pins σ Q) X.xe s
def UnR (X : Cx) (f : Value -> Sem Value) (r : V -> Hp -> VK -> Prop) : Prop :=
 ∀ (pins : List (Addr × Obj)) (s : Shared) (σ : St) (H : Hp) (x : V) (v : Value) (Q : VK), Inv X pins σ H s -> RelV x v -> r x H Q ->
  wpAny (model X.prog X.w) X.A (f v) (EP X pins σ Q) X.xe s
def CallR (X : Cx) (f : Value) (r : List V -> Hp -> VK -> Prop) : Prop :=
 ∀ (pins : List (Addr × Obj)) (s : Shared) (σ : St) (H : Hp) (xs : List V) (us : List Value) (Q : VK), Inv X pins σ H s -> Vals xs us -> r xs H Q ->
  wpAny (model X.prog X.w) X.A (call f us) (EP X pins σ Q) X.xe s
def tOp (r : R2) (ta tb : TE) : TE := fun σ H Q => ta σ H fun x H1 => tb σ H1 fun y H2 => r x y H2 Q
def tUn (r : V -> Hp -> VK -> Prop) (ta : TE) : TE := fun σ H Q => ta σ H fun x H1 => r x H1 Q
def rI (C : Int -> Int -> Prop) (g : Int -> Int -> V) : R2 := fun x y H Q => ∃ i j, x = .int i /\ y = .int j /\ C i j /\ Q (g i j) H
def rI0 (g : Int -> Int -> V) : R2 := fun x y H Q => ∃ i j, x = .int i /\ y = .int j /\ Q (g i j) H
def rU (g : Int -> V) : V -> Hp -> VK -> Prop := fun x H Q => ∃ i, x = .int i /\ Q (g i) H
section
variable {X : Cx} {a b c : Expr} {ta tb tc : TE} {pos : Pos}
theorem binT (ha : PE X a ta) (hb : PE X b tb) {pins : List (Addr × Obj)} {s : Shared} {σ : St} {H : Hp} {R : V -> V -> Hp -> Prop} (I : Inv X pins σ H s)
  (h : ta σ H fun x H1 => tb σ H1 fun y H2 => R x y H2) {Q : Value -> Shared -> Prop} {f : Value -> Value -> Sem Value}
  (hf : ∀ v u s2 x y H2, Inv X pins σ H2 s2 -> RelV x v -> RelV y u -> R x y H2 -> wpAny (model X.prog X.w) X.A (f v u) Q X.xe s2) :
  wpAny (model X.prog X.w) X.A (eval a X.env) (fun v s₁ => wpAny (model X.prog X.w) X.A (eval b X.env) (fun u s₂ => wpAny (model X.prog X.w) X.A (f v u) Q X.xe s₂) X.xe s₁) X.xe s := by
 refine thn (ha pins s σ H _ I h) fun v s1 ⟨x, H1, I1, r1, q1⟩ => ?_
 refine thn (hb pins s1 σ H1 _ I1 q1) fun u s2 ⟨y, H2, I2, r2, q2⟩ => ?_
 exact hf v u s2 x y H2 I2 r1 r2 q2
theorem pe_op {op : Operator} {r : R2} (ho : OpR X (binaryOp op) r) (ha : PE X a ta) (hb : PE X b tb) : PE X (.BinOp a op b pos) (tOp r ta tb) := by
 intro pins s σ H Q I h
 exact wpAny_BinOp (binT ha hb I h fun v u s2 x y H2 I2 rx ry q => ho pins s2 σ H2 x y v u Q I2 rx ry q)
theorem pe_un {op : UnaryOp} {r : V -> Hp -> VK -> Prop} (ho : UnR X (unaryOp op) r) (ha : PE X a ta) : PE X (.UnaryOp op a pos) (tUn r ta) := by
 intro pins s σ H Q I h
 exact UnaryOp_ (thn (ha pins s σ H _ I h) fun v s1 ⟨x, H1, I1, r1, q1⟩ => ho pins s1 σ H1 x v Q I1 r1 q1)
theorem opI {f : Value -> Value -> Sem Value} {C : Int -> Int -> Prop} {g : Int -> Int -> Int}
  (rule : ∀ (i j : Int) (t u : Tok) (s : Shared) (Q : Value -> Shared -> Prop) (E : Value -> Shared -> Prop), C i j -> Q (.int (g i j) s.toks) { s with toks := s.toks + 1 } -> wpAny (model X.prog X.w) X.A (f (.int i t) (.int j u)) Q E s) :
  OpR X f (rI C fun i j => .int (g i j)) := by
 intro pins s σ H x y v u Q I rx ry h
 obtain ⟨i, j, rfl, rfl, hc, q⟩ := h
 obtain ⟨t, rfl⟩ := rx
 obtain ⟨t', rfl⟩ := ry
 exact rule i j t t' s _ _ hc ⟨.int (g i j), H, I.tok _, ⟨_, rfl⟩, q⟩
theorem opI0 {f : Value -> Value -> Sem Value} {g : Int -> Int -> Int}
  (rule : ∀ (i j : Int) (t u : Tok) (s : Shared) (Q : Value -> Shared -> Prop) (E : Value -> Shared -> Prop), Q (.int (g i j) s.toks) { s with toks := s.toks + 1 } -> wpAny (model X.prog X.w) X.A (f (.int i t) (.int j u)) Q E s) :
  OpR X f (rI0 fun i j => .int (g i j)) := by
 intro pins s σ H x y v u Q I rx ry h
 obtain ⟨i, j, rfl, rfl, q⟩ := h
 obtain ⟨t, rfl⟩ := rx
 obtain ⟨t', rfl⟩ := ry
 exact rule i j t t' s _ _ ⟨.int (g i j), H, I.tok _, ⟨_, rfl⟩, q⟩
theorem opB0 {f : Value -> Value -> Sem Value} {g : Int -> Int -> Bool}
  (rule : ∀ (i j : Int) (t u : Tok) (s : Shared) (Q : Value -> Shared -> Prop) (E : Value -> Shared -> Prop), Q (.bool (g i j)) s -> wpAny (model X.prog X.w) X.A (f (.int i t) (.int j u)) Q E s) :
  OpR X f (rI0 fun i j => .bl (g i j)) := by
 intro pins s σ H x y v u Q I rx ry h
 obtain ⟨i, j, rfl, rfl, q⟩ := h
 obtain ⟨t, rfl⟩ := rx
 obtain ⟨t', rfl⟩ := ry
 exact rule i j t t' s _ _ ⟨.bl (g i j), H, I, rfl, q⟩
def CDiv (i j : Int) : Prop := 0 < j /\ j < 1073741824
def CPow (i j : Int) : Prop := 0 <= j /\ j <= 1000000 /\ i.natAbs < 2 ^ 64
def CMul (i j : Int) : Prop := (-(2 ^ 64) < i /\ i < 2 ^ 64) \/ (-(2 ^ 64) < j /\ j < 2 ^ 64)
theorem CMul.ok {i j : Int} (h : CMul i j) : IntMulOk i j := by
 rcases h with ⟨h1, h2⟩ | ⟨h1, h2⟩
 ·exact .of_left (intBits_le_64 h1 h2)
 ·exact .of_right (intBits_le_64 h1 h2)
theorem op_add : OpR X (binaryOp .Add) (rI0 fun i j => .int (i + j)) := opI0 fun _ _ _ _ _ _ _ q => add_int q
theorem op_sub : OpR X (binaryOp .Sub) (rI0 fun i j => .int (i - j)) := opI0 fun _ _ _ _ _ _ _ q => sub_int q
theorem op_mul : OpR X (binaryOp .Mult) (rI CMul fun i j => .int (i * j)) := opI fun _ _ _ _ _ _ _ hc q => mul_int q hc.ok
theorem op_fdiv : OpR X (binaryOp .FloorDiv) (rI CDiv fun i j => .int (i / j)) := opI fun i j _ _ _ _ _ hc q => by
 have h1 : (0 : Int) < j := hc.1
 have h2 : j < 1073741824 := hc.2
 exact floordiv_int (by omega) (by rw [Int.fdiv_eq_ediv_of_nonneg i (by omega)]; exact q) (.inl (PyProof.noPylong_small (by omega)))
theorem op_mod : OpR X (binaryOp .Mod) (rI (fun _ j => 0 < j) fun i j => .int (i % j)) := opI fun i j _ _ _ _ _ hc q => by
 have h1 : (0 : Int) < j := hc
 exact mod_int' (by omega) (by rw [Int.fmod_eq_emod_of_nonneg i (by omega)]; exact q)
theorem unI {f : Value -> Sem Value} {g : Int -> Int}
  (rule : ∀ (i : Int) (t : Tok) (s : Shared) (Q : Value -> Shared -> Prop) (E : Value -> Shared -> Prop), Q (.int (g i) s.toks) { s with toks := s.toks + 1 } -> wpAny (model X.prog X.w) X.A (f (.int i t)) Q E s) :
  UnR X f (rU fun i => .int (g i)) := by
 intro pins s σ H x v Q I rx h
 obtain ⟨i, rfl, q⟩ := h
 obtain ⟨t, rfl⟩ := rx
 exact rule i t s _ _ ⟨.int (g i), H, I.tok _, ⟨_, rfl⟩, q⟩
theorem un_neg : UnR X (unaryOp .USub) (rU fun i => .int (-i)) := unI fun _ _ _ _ _ q => neg_int q
end
noncomputable def scal : V -> V -> Bool
 | .non, .non => true | .non, .int _ => true | .int _, .non => true | .non, .bl _ => true | .bl _, .non => true | .non, .str _ => true | .str _, .non => true
 | .int _, .int _ => true | .bl _, .bl _ => true | .str _, .str _ => true | .byt _, .byt _ => true
 | .int _, .str _ => true | .str _, .int _ => true | .bl _, .str _ => true | .str _, .bl _ => true
 | _, _ => false
def rEq : R2 := fun x y H Q => scal x y = true /\ Q (.bl (decide (x = y))) H
def rNe : R2 := fun x y H Q => scal x y = true /\ Q (.bl (!decide (x = y))) H
theorem dec_int {i j : Int} : decide (V.int i = V.int j) = (i == j) := by
 rw [Bool.eq_iff_iff]
 simp
theorem dec_bl {i j : Bool} : decide (V.bl i = V.bl j) = (i == j) := by
 rw [Bool.eq_iff_iff]
 simp
theorem dec_str {i j : Str} : decide (V.str i = V.str j) = (i == j) := by
 rw [Bool.eq_iff_iff]
 simp
theorem dec_byt {i j : Array UInt8} : decide (V.byt i = V.byt j) = (i.toList == j.toList) := by
 rw [Bool.eq_iff_iff]
 cases i
 cases j
 simp
section
variable {X : Cx} {a b c : Expr} {ta tb tc : TE} {pos : Pos}
theorem fin_bl {pins : List (Addr × Obj)} {σ : St} {H : Hp} {s : Shared} {Q : VK} {k k' : Bool} (I : Inv X pins σ H s) (q : Q (.bl k) H) (e : k = k') : EP X pins σ Q (.bool k') s := by
 subst e
 exact ⟨.bl k, H, I, rfl, q⟩
theorem op_eq : OpR X (compareOp .Eq) rEq := by
 intro pins s σ H x y v u Q I rx ry h
 obtain ⟨hs, q⟩ := h
 cases x with
 | non =>
  cases rx
  cases y with
  | non => cases ry; exact PySem.EqNone.eq_none_none (fin_bl I q (by simp))
  | bl j => cases ry; exact PySem.EqNone.eq_none_bool (fin_bl I q (by simp))
  | int j => obtain ⟨t', rfl⟩ := ry; exact PySem.EqNone.eq_none_int (fin_bl I q (by simp))
  | str j => obtain ⟨t', rfl⟩ := ry; exact PySem.EqNone.eq_none_str (fin_bl I q (by simp))
  | _ => exact absurd (show false = true from hs) Bool.false_ne_true
 | bl i =>
  cases rx
  cases y with
  | non => cases ry; exact PySem.EqNone.eq_bool_none (fin_bl I q (by simp))
  | bl j => cases ry; exact eq_bool (fin_bl I q dec_bl)
  | str j => obtain ⟨t', rfl⟩ := ry; exact PySem.EqMixed.eq_bool_str (fin_bl I q (by simp))
  | _ => exact absurd (show false = true from hs) Bool.false_ne_true
 | int i =>
  obtain ⟨t, rfl⟩ := rx
  cases y with
  | non => cases ry; exact PySem.EqNone.eq_int_none (fin_bl I q (by simp))
  | int j => obtain ⟨t', rfl⟩ := ry; exact eq_int (fin_bl I q dec_int)
  | str j => obtain ⟨t', rfl⟩ := ry; exact PySem.EqMixed.eq_int_str (fin_bl I q (by simp))
  | _ => exact absurd (show false = true from hs) Bool.false_ne_true
 | str i =>
  obtain ⟨t, rfl⟩ := rx
  cases y with
  | non => cases ry; exact PySem.EqNone.eq_str_none (fin_bl I q (by simp))
  | bl j => cases ry; exact PySem.EqMixed.eq_str_bool (fin_bl I q (by simp))
  | int j => obtain ⟨t', rfl⟩ := ry; exact PySem.EqMixed.eq_str_int (fin_bl I q (by simp))
  | str j => obtain ⟨t', rfl⟩ := ry; exact eq_str (fin_bl I q dec_str)
  | _ => exact absurd (show false = true from hs) Bool.false_ne_true
 | byt i =>
  obtain ⟨t, rfl⟩ := rx
  cases y with
  | byt j => obtain ⟨t', rfl⟩ := ry; exact PySem.W.eq_bytes (fin_bl I q dec_byt)
  | _ => exact absurd (show false = true from hs) Bool.false_ne_true
 | _ => cases y <;> exact absurd (show false = true from hs) Bool.false_ne_true
theorem op_ne : OpR X (compareOp .NotEq) rNe := by
 intro pins s σ H x y v u Q I rx ry h
 obtain ⟨hs, q⟩ := h
 cases x with
 | non =>
  cases rx
  cases y with
  | non => cases ry; exact PySem.EqNone.ne_none_none (fin_bl I q (by simp))
  | bl j => cases ry; exact PySem.EqNone.ne_none_bool (fin_bl I q (by simp))
  | int j => obtain ⟨t', rfl⟩ := ry; exact PySem.EqNone.ne_none_int (fin_bl I q (by simp))
  | str j => obtain ⟨t', rfl⟩ := ry; exact PySem.EqNone.ne_none_str (fin_bl I q (by simp))
  | _ => exact absurd (show false = true from hs) Bool.false_ne_true
 | bl i =>
  cases rx
  cases y with
  | non => cases ry; exact PySem.EqNone.ne_bool_none (fin_bl I q (by simp))
  | bl j => cases ry; exact ne_bool (fin_bl I q (congrArg not dec_bl))
  | str j => obtain ⟨t', rfl⟩ := ry; exact PySem.EqMixed.ne_bool_str (fin_bl I q (by simp))
  | _ => exact absurd (show false = true from hs) Bool.false_ne_true
 | int i =>
  obtain ⟨t, rfl⟩ := rx
  cases y with
  | non => cases ry; exact PySem.EqNone.ne_int_none (fin_bl I q (by simp))
  | int j => obtain ⟨t', rfl⟩ := ry; exact ne_int (fin_bl I q (congrArg not dec_int))
  | str j => obtain ⟨t', rfl⟩ := ry; exact PySem.EqMixed.ne_int_str (fin_bl I q (by simp))
  | _ => exact absurd (show false = true from hs) Bool.false_ne_true
 | str i =>
  obtain ⟨t, rfl⟩ := rx
  cases y with
  | non => cases ry; exact PySem.EqNone.ne_str_none (fin_bl I q (by simp))
  | bl j => cases ry; exact PySem.EqMixed.ne_str_bool (fin_bl I q (by simp))
  | int j => obtain ⟨t', rfl⟩ := ry; exact PySem.EqMixed.ne_str_int (fin_bl I q (by simp))
  | str j => obtain ⟨t', rfl⟩ := ry; exact ne_str (fin_bl I q (congrArg not dec_str))
  | _ => exact absurd (show false = true from hs) Bool.false_ne_true
 | byt i =>
  obtain ⟨t, rfl⟩ := rx
  cases y with
  | byt j => obtain ⟨t', rfl⟩ := ry; exact PySem.W.ne_bytes (fin_bl I q (congrArg not dec_byt))
  | _ => exact absurd (show false = true from hs) Bool.false_ne_true
 | _ => cases y <;> exact absurd (show false = true from hs) Bool.false_ne_true
theorem op_le : OpR X (compareOp .LtE) (rI0 fun i j => .bl (decide (i <= j))) := opB0 fun _ _ _ _ _ _ _ q => le_int q
theorem op_gt : OpR X (compareOp .Gt) (rI0 fun i j => .bl (decide (j < i))) := opB0 fun _ _ _ _ _ _ _ q => gt_int q
theorem op_in_str : OpR X (compareOp .In) (fun x y H Q => ∃ i j, x = .str i /\ y = .str j /\ Q (.bl (!(Builtin.Str.occurrences j i 0 j.length 1).isEmpty)) H) := by
 intro pins s σ H x y v u Q I rx ry h
 obtain ⟨i, j, rfl, rfl, q⟩ := h
 obtain ⟨t, rfl⟩ := rx
 obtain ⟨t', rfl⟩ := ry
 exact in_str (fin_bl I q rfl)
theorem op_isN : OpR X (compareOp .Is) (fun x y H Q => y = .non /\ Q (.bl (decide (x = .non))) H) := by
 intro pins s σ H x y v u Q I rx ry h
 obtain ⟨rfl, q⟩ := h
 cases ry
 refine is_none_gen (fin_bl I q ?_)
 cases x <;> first
  | (cases rx; rfl)
  | (obtain ⟨t, rfl⟩ := rx; rfl)
theorem OpR.or {f : Value -> Value -> Sem Value} {r r' : R2} (h : OpR X f r) (h' : OpR X f r') : OpR X f (fun x y H Q => r x y H Q \/ r' x y H Q) := by
 intro pins s σ H x y v u Q I rx ry q
 rcases q with q | q
 ·exact h pins s σ H x y v u Q I rx ry q
 ·exact h' pins s σ H x y v u Q I rx ry q
theorem nomark (b : Expr) {op : CmpOp} (h : op ≠ .In := by decide) (h2 : op ≠ .NotIn := by decide) : behindInMarks op b = false := by
 have e1 : (op == CmpOp.In) = false := by cases op <;> first | rfl | exact absurd rfl h
 have e2 : (op == CmpOp.NotIn) = false := by cases op <;> first | rfl | exact absurd rfl h2
 cases b <;> simp [behindInMarks, e1, e2]
theorem pe_cmpR {op : CmpOp} {r : R2} (ho : OpR X (compareOp op) r) (ha : PE X a ta) (hb : PE X b tb) (hm : behindInMarks op b = false) : PE X (.Compare a [op] [b] pos) (tOp r ta tb) := by
 intro pins s σ H Q I h
 exact wpAny_Compare1 (binT ha hb I h fun v u s2 x y H2 I2 rx ry q => ho pins s2 σ H2 x y v u Q I2 rx ry q) hm
def tTest (t : TE) : TT := fun σ H Q => t σ H fun x H' => ∃ k, x = .bl k /\ Q k H'
theorem pt_cmpR {op : CmpOp} {r : R2} (ho : OpR X (compareOp op) r) (ha : PE X a ta) (hb : PE X b tb) (hm : behindInMarks op b = false) : PT X (.Compare a [op] [b] pos) (tTest (tOp r ta tb)) := by
 intro pins s σ H Q I h
 refine wpAny_isTrue_Compare1 (thn (ha pins s σ H _ I h) fun v s1 ⟨x, H1, I1, r1, q1⟩ => thn (hb pins s1 σ H1 _ I1 q1) fun u s2 ⟨y, H2, I2, r2, q2⟩ =>
  thn (ho pins s2 σ H2 x y v u _ I2 r1 r2 q2) fun c s3 ⟨z, H3, I3, r3, k, e, q3⟩ => ?_) hm
 subst e
 cases r3
 exact wpAny_truthy_bool ⟨H3, I3, q3⟩
def tChain (r r' : R2) (ta tb tc : TE) : TE := fun σ H Q => ta σ H fun x H1 => tb σ H1 fun y H2 => r x y H2 fun z H3 => ∃ k, z = .bl k /\
 (if k = true then tc σ H3 fun w' H4 => r' y w' H4 Q else Q (.bl false) H3)
theorem pe_chain {op op' : CmpOp} {r r' : R2} (ho : OpR X (compareOp op) r) (ho' : OpR X (compareOp op') r') (ha : PE X a ta) (hb : PE X b tb) (hc : PE X c tc)
  (hm : lastMarks [op, op'] [b, c] = false := by with_unfolding_all rfl) : PE X (.Compare a [op, op'] [b, c] pos) (tChain r r' ta tb tc) := by
 intro pins s σ H Q I h
 refine Compare_chain (thn (ha pins s σ H _ I h) fun v s1 ⟨x, H1, I1, r1, q1⟩ => chain_link (thn (hb pins s1 σ H1 _ I1 q1) fun u s2 ⟨y, H2, I2, r2, q2⟩ =>
  thn (ho pins s2 σ H2 x y v u _ I2 r1 r2 q2) fun d s3 ⟨z, H3, I3, r3, k, e, q3⟩ => ?_)) hm
 subst e
 cases r3
 refine wpAny_truthy_bool ?_
 cases k with
 | false => exact ite_ff ⟨.bl false, H3, I3, rfl, q3⟩
 | true => exact ite_tt (chain_last (thn (hc pins s3 σ H3 _ I3 q3) fun w' s4 ⟨z', H4, I4, r4, q4⟩ => ho' pins s4 σ H4 y z' u w' Q I4 r2 r4 q4))
theorem line63 : (sizeLine : Nat) < 2 ^ 63 := by rw [sizeLine_eq]; decide
theorem op_add_str : OpR X (binaryOp .Add) (fun x y H Q => ∃ i j, x = .str i /\ y = .str j /\ i.length + j.length <= sizeLine /\ Q (.str (i ++ j)) H) := by
 intro pins s σ H x y v u Q I rx ry h
 obtain ⟨i, j, rfl, rfl, hz, q⟩ := h
 obtain ⟨t, rfl⟩ := rx
 obtain ⟨t', rfl⟩ := ry
 exact add_str (fun t' tk => ⟨.str (i ++ j), H, I.tok _, ⟨_, rfl⟩, q⟩) hz
theorem vals1 {x : V} {us : List Value} (r : Vals [x] us) : ∃ u, us = [u] /\ RelV x u := by
 cases r with
 | cons r1 r2 => cases r2; exact ⟨_, rfl, r1⟩
theorem vals2 {x y : V} {us : List Value} (r : Vals [x, y] us) : ∃ u w', us = [u, w'] /\ RelV x u /\ RelV y w' := by
 cases r with
 | cons r1 r2 =>
  cases r2 with
  | cons r3 r4 => cases r4; exact ⟨_, _, rfl, r1, r3⟩
end
structure ObjM (h : Heap) (x dx C : Addr) (mA : Str -> Option Value) : Prop where
 obj : h.get? x = some (PySem.W.instObj C dx)
 ns : h.Ns1 dx mA
 ne : dx ≠ x
theorem lookIn_ns {h : Heap} {dx : Addr} {mA : Str -> Option Value} (n : h.Ns1 dx mA) : ∃ od, h.get? dx = some od /\ ∀ name, PySem.W.lookIn name od = some (mA name) := by
 obtain ⟨o, es, ep, ho, hd, hk, _, hm⟩ := n
 refine ⟨o, ho, fun name => ?_⟩
 have e := hm name
 unfold nsFind findBy at e
 rw [<- Array.find?_toList] at e
 unfold PySem.W.lookIn
 rw [hd]
 dsimp only
 split
 ·rename_i y q
  rw [q] at e
  exact congrArg some e
 ·rename_i q
  rw [q] at e
  have a : es.toList.any (·.refKey) = false := by
   rw [List.any_eq_false]
   intro y hy
   obtain ⟨z, t, hkey⟩ := hk y (Array.mem_toList_iff.mp hy)
   simp [DictEntry.refKey, hkey]
  have a' : ¬ es.toList.any (·.refKey) = true := by rw [a]; exact Bool.false_ne_true
  rw [if_neg a']
  exact congrArg some e
theorem ObjM.look {h : Heap} {x dx C : Addr} {mA : Str -> Option Value} (I : ObjM h x dx C mA) : ∃ od, PySem.W.InstAt h x (PySem.W.instObj C dx) C (some od) /\ ∀ name, PySem.W.lookIn name od = some (mA name) :=
 let ⟨od, ho, hl⟩ := lookIn_ns I.ns
 ⟨od, ⟨I.obj, rfl, rfl, ho⟩, hl⟩
section
variable {prog : Program} {w : World} {A : Around} {E : Value -> Shared -> Prop} {s : Shared} {K : PySem.W.Frag} {x dx C f : Addr} {mA : Str -> Option Value} {name : Str} {v : Value}
end
theorem RelO.some_of {v : V} {o : Option Value} (r : RelO (some v) o) : ∃ u, o = some u /\ RelV v u := by
 cases o with
 | none => exact (show False from r).elim
 | some u => exact ⟨u, rfl, r⟩
theorem RelO.none_of {o : Option Value} (r : RelO none o) : o = none := by
 cases o with
 | none => rfl
 | some u => exact (show False from r).elim
section
variable {P : Program} {w : World} {H H' : Hp} {h h' : Heap} {a C dx : Addr} {fs fs' : List (Str × V)}
theorem ins_get (hok : HOk P w H h) (e : H a = some (.ins C dx fs)) : ∃ mA, ObjM h a dx C mA /\ (∀ f, RelO (fs.lookup f) (mA f)) /\ PySem.Within mA (fs.map (·.1)) /\ fs.length <= 1000 /\ H dx = some (.own a) := by
 obtain ⟨d, z, ne, ob, mA, n, r, q⟩ := (show ObjOk P w H h a (.ins C dx fs) from hok a _ e)
 exact ⟨mA, ⟨ob, n, ne⟩, r, q, z, d⟩
end
structure Cls (K : PySem.W.Frag) (C : Addr) : Prop where
 pg : PySem.W.plainGet K C Str.empty = true
 hd : PySem.W.hasDictIn K C = true
 po : PySem.W.plainOver K C = true
 sa : PySem.W.findIn K (.ref C) "__setattr__" = some (some (.builtin "object.__setattr__"))
theorem Cls.get {K : PySem.W.Frag} {C : Addr} (c : Cls K C) (f : Str) : PySem.W.plainGet K C f = true := c.pg
section
variable {X : Cx} {pins : List (Addr × Obj)} {σ : St} {H : Hp} {s : Shared} {a C dx : Addr} {fs : List (Str × V)} {f : Str} {v : V} {A : Around} {E : Value -> Shared -> Prop}
end
section
variable {X : Cx} {o e value : Expr} {f : Str} {pos pos' tpos : Pos} {ta tv : TE}
end
section
variable {X : Cx} {pins : List (Addr × Obj)} {σ : St} {H : Hp} {s : Shared} {A : Around} {E : Value -> Shared -> Prop} {Q : Value -> Shared -> Prop} {c : Value} {b : Bool}
inductive TyOf (K : PySem.W.Frag) (H : Hp) : V -> Value -> Prop where
 | non : TyOf K H .non (.type "NoneType")
 | bl (x : Bool) : TyOf K H (.bl x) (.type "bool")
 | int (i : Int) : TyOf K H (.int i) (.type "int")
 | str (x : Str) : TyOf K H (.str x) (.type "str")
 | flt (x : UInt64) : TyOf K H (.flt x) (.type "float")
 | lst {a : Addr} {xs : List V} (e : H a = some (.lst xs)) : TyOf K H (.ref a) (.type "list")
 | frz {a : Addr} {o : Obj} {xs : List V} (e : H a = some (.frz o (.lst xs))) : TyOf K H (.ref a) (.type "list")
 | tup {a : Addr} {xs : List V} (e : H a = some (.tup xs)) : TyOf K H (.ref a) (.type "tuple")
 | dK {a : Addr} {kvs : List (Key × V)} (e : H a = some (.dK kvs)) : TyOf K H (.ref a) (.type "dict")
 | dT {a : Addr} {kvs : List (List Key × V)} (e : H a = some (.dT kvs)) : TyOf K H (.ref a) (.type "dict")
 | ins {a C dx : Addr} {fs : List (Str × V)} (e : H a = some (.ins C dx fs)) (cl : Cls K C) (ha : PySem.W.findIn K (.ref C) "__class__" = some (some (.builtin "object.__class__")))
   (hn : PySem.W.specialIn K (.builtin "object.__class__") "__get__" = some (some (.builtin "getset_descriptor.__get__"))) (htk : PySem.W.takesIn K (.builtin "object.__class__") = some true)
   (hm : PySem.W.mroIn K C (.type "object") = some true) : TyOf K H (.ref a) (.ref C)
theorem isinst_ok {x : V} {u t : Value} (I : Inv X pins σ H s) (rx : RelV x u) (ty : TyOf X.K H x t) (e : PySem.W.kitOne X.K t c = some b) (h : ∀ tk, Q (.bool b) { s with toks := tk }) :
  wpAny (model X.prog X.w) A (call (.builtin "isinstance") [u, c]) Q E s := by
 cases ty with
 | non => cases (show u = Value.none from rx); exact PySem.W.kia_one PySem.W.kitx_none I.kIn True.intro e (fun z => nomatch z) h
 | bl y => cases (show u = Value.bool y from rx); exact PySem.W.kia_one PySem.W.kitx_bool I.kIn True.intro e (fun z => nomatch z) h
 | int i => obtain ⟨t, q⟩ := (show ∃ t, u = Value.int i t from rx); cases q; exact PySem.W.kia_one PySem.W.kitx_int I.kIn True.intro e (fun z => nomatch z) h
 | str y => obtain ⟨t, q⟩ := (show ∃ t, u = Value.str y t from rx); cases q; exact PySem.W.kia_one PySem.W.kitx_str I.kIn True.intro e (fun z => nomatch z) h
 | flt y => obtain ⟨t, q⟩ := (show ∃ t, u = Value.float y t from rx); cases q; exact PySem.W.kia_one PySem.W.kitx_float I.kIn True.intro e (fun z => nomatch z) h
 | @lst a xs ea =>
  cases (show u = Value.ref a from rx)
  obtain ⟨_, _, n, _, h1⟩ := (show ObjOk X.prog X.w H s.heap a (.lst xs) from I.hok a _ ea)
  exact PySem.W.kia_one PySem.W.kitx_list I.kIn ⟨_, h1, rfl⟩ e (fun z => nomatch z) h
 | @frz a ob xs ea =>
  cases (show u = Value.ref a from rx)
  obtain ⟨_, _, _, n, _, h1⟩ := (show ObjOk X.prog X.w H s.heap a (.frz ob (.lst xs)) from I.hok a _ ea)
  exact PySem.W.kia_one PySem.W.kitx_list I.kIn ⟨_, h1, rfl⟩ e (fun z => nomatch z) h
 | @tup a xs ea =>
  cases (show u = Value.ref a from rx)
  obtain ⟨_, _, _, p⟩ := (show ObjOk X.prog X.w H s.heap a (.tup xs) from I.hok a _ ea)
  obtain ⟨o, h1, h2, _⟩ := p
  exact PySem.W.kia_one PySem.W.kitx_tuple I.kIn ⟨o, h1, h2⟩ e (fun z => nomatch z) h
 | @dK a kvs ea =>
  cases (show u = Value.ref a from rx)
  obtain ⟨_, _, vs, _, p⟩ := (show ObjOk X.prog X.w H s.heap a (.dK kvs) from I.hok a _ ea)
  obtain ⟨o, es, ep, h1, h2, _⟩ := p
  exact PySem.W.kia_one PySem.W.kitx_dict I.kIn ⟨o, h1, h2.1⟩ e (fun z => nomatch z) h
 | @dT a kvs ea =>
  cases (show u = Value.ref a from rx)
  obtain ⟨_, _, xs, _, o, es, ep, h1, h2, _⟩ := (show ObjOk X.prog X.w H s.heap a (.dT kvs) from I.hok a _ ea)
  exact PySem.W.kia_one PySem.W.kitx_dict I.kIn ⟨o, h1, h2.1⟩ e (fun z => nomatch z) h
 | @ins a C dx fs ea cl ha hn htk hm =>
  cases (show u = Value.ref a from rx)
  obtain ⟨mA, O, _⟩ := ins_get I.hok ea
  obtain ⟨od, J, _⟩ := O.look
  exact PySem.W.kia_one (PySem.W.kitx_own (cl.get _) cl.hd ha hn htk hm) I.kIn J e (fun z => nomatch z) h
end
structure Room (k : Nat) (A : Around) : Prop where
 hd : A.handled = none
 dp : A.depth + 3 * k + 5 < recursionLimit
 un : A.units + 16 * k + 200 < cLine
theorem Room.mono {j k : Nat} {A : Around} (r : Room k A) (h : j <= k) : Room j A := ⟨r.hd, by have := r.dp; omega, by have := r.un; omega⟩
theorem Room.deeper {k : Nat} {A : Around} (r : Room (k + 1) A) (env : Env) : Room k (A.deeper env) :=
 ⟨r.hd, by have := r.dp; show A.depth + 1 + 3 * k + 5 < _; omega, by have := r.un; show A.units + 3 + 16 * k + 200 < _; omega⟩
theorem Room.depth {k : Nat} {A : Around} (r : Room k A) : A.depth < recursionLimit := by have := r.dp; omega
def tNil : TA := fun _ H Q => Q [] H
def tCons (ta : TE) (tr : TA) : TA := fun σ H Q => ta σ H fun x H1 => tr σ H1 fun xs H2 => Q (x :: xs) H2
section
variable {X : Cx} {e : Expr} {es : List Expr} {te : TE} {t : TA} {pos : Pos}
theorem pa_nil : PA X [] tNil := fun _ _ _ _ H Q I h => Calls.spliced_nil ⟨[], H, I, .nil, h⟩
theorem pa_cons (ha : PE X e te) (hr : PA X es t) (hs : starEach (e :: es) X.env = (false, eval e X.env) :: starEach es X.env := by rfl) : PA X (e :: es) (tCons te t) := by
 intro pos pins s σ H Q I h
 rw [hs]
 show wpAny _ _ (spliced ((false, eval e X.env) :: backTo pos (starEach es X.env))) _ _ s
 refine Calls.spliced_cons (thn (ha pins s σ H _ I h) fun u s1 ⟨x, H1, I1, r1, q1⟩ => ?_)
 exact thn (hr pos pins s1 σ H1 _ I1 q1) fun us s2 ⟨xs, H2, I2, r2, q2⟩ => ⟨x :: xs, H2, I2, .cons r1 r2, q2⟩
def tTup (t : TA) : TE := fun σ H Q => t σ H fun xs H1 => xs.length <= sizeLine /\ ∀ p, H1 p = none -> Q (.ref p) (upd H1 p (.tup xs))
def tLst (t : TA) : TE := fun σ H Q => t σ H fun xs H1 => xs.length <= sizeLine /\ ∀ p, H1 p = none -> Q (.ref p) (upd H1 p (.lst xs))
theorem pe_tup {x1} (h : PA X es t) : PE X (.Tuple es x1 pos) (tTup t) := by
 intro pins s σ H Q I hq
 refine wpAny_Tuple_spliced (thn (h pos pins s σ H _ I hq) fun us s1 ⟨xs, H1, I1, r, z, q⟩ => ⟨by rw [<- r.length]; exact z, ?_⟩)
 have hf : H1 s1.heap.objs.size = none := I1.hok.fresh (Nat.le_refl _)
 refine ⟨.ref s1.heap.objs.size, upd H1 s1.heap.objs.size (.tup xs), I1.laid (t' := s1.toks) (fun b u e => Heap.get?_push_of_some _ e) (Nat.le_refl _) ?_, rfl, q _ hf⟩
 exact ⟨z, us, r, ⟨_, Heap.get?_push_size _ rfl, rfl, _, rfl⟩⟩
theorem pe_lst (h : PA X es t) : PE X (.List es pos) (tLst t) := by
 intro pins s σ H Q I hq
 refine wpAny_List_spliced (thn (h pos pins s σ H _ I hq) fun us s1 ⟨xs, H1, I1, r, z, q⟩ => ⟨by rw [<- r.length]; exact z, ?_⟩)
 have hf : H1 s1.heap.objs.size = none := I1.hok.fresh (Nat.le_refl _)
 refine ⟨.ref s1.heap.objs.size, upd H1 s1.heap.objs.size (.lst xs), I1.laid (t' := s1.toks) (fun b u e => Heap.get?_push_of_some _ e) (Nat.le_refl _) ?_, rfl, q _ hf⟩
 exact ⟨z, us, 0, r, Heap.get?_push_size _ rfl⟩
end
abbrev Sp := List V -> Hp -> VK -> XK -> Prop
abbrev CXT := List Env -> Hp -> Shared -> XK -> Value -> Shared -> Prop
structure Env0 (P : Program) (w : World) (K : PySem.W.Frag) (mg : Str -> Option Value) (base : Heap) (A : Around) (outer : List Env) (s : Shared) (H : Hp) : Prop where
 frames : A.frames = some outer
 mod : Mod K mg base
 bs : ∀ b o, base.get? b = some o -> s.heap.get? b = some o /\ H b = none
 bsz : base.objs.size <= s.heap.objs.size
 funs : s.heap.FunFrames base outer
 frf : ∀ b ∈ frs outer, H b = none
 hok : HOk P w H s.heap
 bare : AllBare s.gens
def CE (outer : List Env) (P : Program) (w : World) (H : Hp) (s : Shared) (Q : VK) (u : Value) (s' : Shared) : Prop :=
 ∃ v H', s'.os = s.os /\ AllBare s'.gens /\ Un (frs outer) [] H H' s.heap s'.heap /\ HOk P w H' s'.heap /\ RelV v u /\ Q v H'
def CR (CX : CXT) (outer : List Env) (P : Program) (w : World) (H : Hp) (s : Shared) (Q : VK) (E : XK) (r : Result) (s' : Shared) : Prop :=
 match r with
 | .ok (.ret u) => CE outer P w H s Q u s'
 | .ok _ => False
 | .error e => CX outer H s E e s'
structure FnOk (P : Program) (w : World) (K : PySem.W.Frag) (mg : Str -> Option Value) (base : Heap) (CX : CXT) (k : Nat) (f : Addr) (fd : FuncData) (ps : List Str) (sp : Sp) : Prop where
 len : ∀ vs H Q E, sp vs H Q E -> vs.length = ps.length
 run : ∀ (A : Around) (outer : List Env) (s : Shared) (H : Hp) (args : Args) (us : List Value) (vs : List V) (Q : VK) (E : XK), Room k A -> Env0 P w K mg base A outer s H -> BindsTo s fd args (ps.zip us) -> Vals vs us -> sp vs H Q E ->
  codeAny (model P w) A (.call (.ref f) args) (CR CX outer P w H s Q E) s
section
variable {X : Cx} {pins : List (Addr × Obj)} {σ : St} {H : Hp} {s s' : Shared}
theorem Inv.env0 (I : Inv X pins σ H s) : Env0 X.prog X.w X.K X.mg X.base X.A X.stack s H :=
 ⟨I.ok.frames, I.ok.mod, I.bs, Nat.le_trans I.ok.bsz I.sz, I.stack, I.stkFree, I.hok, I.bare⟩
theorem Inv.after {Q : VK} {u : Value} (I : Inv X pins σ H s) (h : CE X.stack X.prog X.w H s Q u s') : EP X pins σ Q u s' := by
 obtain ⟨v, H', os, bare, un, hok, r, q⟩ := h
 obtain ⟨hh, g, d, t, os'⟩ := s'
 obtain rfl : os' = s.os := os
 exact ⟨v, H', I.call (h' := hh) (g' := g) (d' := d) (t' := t) (ch := []) un hok bare (fun b z => absurd z (by simp)), r, q⟩
end
def tCall (sp : Sp) (dvs : List V) (E : XK) (t : TA) : TE := fun σ H Q => t σ H fun vs H1 => sp (vs ++ dvs) H1 Q E
def Binds (K : PySem.W.Frag) (fd : FuncData) (ps : List Str) (ds : List Value) : Prop :=
 ∀ (s : Shared) (us : List Value), K.In s.heap -> (us ++ ds).length = ps.length -> BindsTo s fd ⟨us, []⟩ (ps.zip (us ++ ds))
theorem Binds.all {K : PySem.W.Frag} {fd : FuncData} {ps : List Str} (h : ∀ us : List Value, us.length = ps.length -> bindArgs fd ⟨us, []⟩ = pure (ps.zip us)) : Binds K fd ps [] := fun s us _ hl => by
 rw [List.append_nil] at hl ⊢
 exact .of_eq (h us hl)
def Passes (CX : CXT) (X : Cx) (E : XK) : Prop := ∀ (pins : List (Addr × Obj)) (σ : St) (H : Hp) (s : Shared) (e : Value) (s' : Shared), Inv X pins σ H s -> CX X.stack H s E e s' -> X.xe e s'
section
variable {X : Cx} {CX : CXT} {k : Nat} {f C : Addr} {fd : FuncData} {ps : List Str} {sp : Sp} {dvs : List V} {ds : List Value} {E : XK} {x m : Str} {p pos apos : Pos} {e o : Expr} {es : List Expr} {ta : TE} {t : TA}
theorem run_fn {pins : List (Addr × Obj)} {σ : St} {H : Hp} {s : Shared} {Q : VK} {us : List Value} {vs : List V} (F : FnOk X.prog X.w X.K X.mg X.base CX k f fd ps sp) (hr : Room k X.A) (hb : Binds X.K fd ps ds) (hd : Vals dvs ds) (hx : Passes CX X E)
  (I : Inv X pins σ H s) (r : Vals vs us) (h : sp (vs ++ dvs) H Q E) : wpAny (model X.prog X.w) X.A (call (.ref f) us) (EP X pins σ Q) X.xe s := by
 have r2 : Vals (vs ++ dvs) (us ++ ds) := r.append hd
 have hl : (us ++ ds).length = ps.length := by rw [<- r2.length]; exact F.len _ _ _ _ h
 refine wpAny_call (codeAny_mono (F.run X.A X.stack s H ⟨us, []⟩ (us ++ ds) (vs ++ dvs) Q E hr I.env0 (hb s us I.kIn hl) r2 h) fun r s' hq => ?_)
 cases r with
 | error e => exact hx pins σ H s e s' I hq
 | ok fl =>
  cases fl with
  | ret u => exact I.after hq
  | next => exact False.elim hq
  | brk => exact False.elim hq
  | cont => exact False.elim hq
theorem pe_call (F : FnOk X.prog X.w X.K X.mg X.base CX k f fd ps sp) (hr : Room k X.A) (hg : Gl X x) (hm : X.mg x = some (.ref f)) (hk : PySem.W.keepIn X.K (.ref f) = true) (hb : Binds X.K fd ps ds) (hd : Vals dvs ds) (hx : Passes CX X E)
  (ha : PA X (e :: es) t) (hdb : (x == ("__debug__" : Str)) = false := by decide) (he : starEach (e :: es) X.env = (false, eval e X.env) :: starEach es X.env := by rfl) (hpl : (backTo pos (starEach es X.env)).any (·.1) = false := by rfl) :
  PE X (.Call (.Name x p) (e :: es) [] pos) (tCall sp dvs E t) := by
 intro pins s σ H Q I h
 refine wpAny_Call_Name_kw (ld_glob I hg hm ?_ hdb)
 refine PySem.W.callWith_K (h₀ := X.base) I.ok.mod.kin hk (thn (ha pos pins s σ H _ I h) fun us s1 ⟨vs, H1, I1, r, q⟩ => ⟨I1.kIn, ?_⟩) he hpl
 exact run_fn F hr hb hd hx I1 r q
end
section
variable {X : Cx} {CX : CXT} {k : Nat} {f C : Addr} {fd : FuncData} {ps ks : List Str} {sp : Sp} {E : XK} {x m : Str} {p pos apos kpos : Pos} {e o : Expr} {es : List Expr} {kws : List Keyword} {te ta : TE} {t tk : TA} {nm : Option Str}
variable {g : List Value -> List Value -> List Value} {gV : List V -> List V -> List V}
end
structure FnScope (N P : List Str) (sc : Scope) : Prop where
 kind : sc.kind = .function
 co : sc.isCoroutine = false
 gen : sc.isGenerator = false
 nd : N.Nodup
 pre : N.take P.length = P
 par : ∀ x ∈ P, sc.names.lookup x = some .local \/ sc.names.lookup x = some .cell
 nofree : ∀ y ∈ sc.names, y.2 ≠ .free
theorem bindL_out {kindOf : Str -> Option NameKind} {x : Str} : ∀ {binds : List (Str × Value)} {m : Str -> Option Value}, (∀ v, (x, v) ∉ binds) -> bindL kindOf binds m x = m x
 | [], _, _ => rfl
 | (n, v) :: r, m, h => by
  unfold bindL
  rw [bindL_out fun w hw => h w (List.mem_cons_of_mem _ hw)]
  split
  ·have : x ≠ n := by rintro rfl; exact h v List.mem_cons_self
   simp [this]
  ·rfl
theorem bindC_out {kindOf : Str -> Option NameKind} {x : Str} : ∀ {binds : List (Str × Value)} {m : Str -> Option Value}, (∀ v, (x, v) ∉ binds) -> bindC kindOf binds m x = m x
 | [], _, _ => rfl
 | (n, v) :: r, m, h => by
  unfold bindC
  rw [bindC_out fun w hw => h w (List.mem_cons_of_mem _ hw)]
  split
  ·rfl
  ·have : x ≠ n := by rintro rfl; exact h v List.mem_cons_self
   simp [this]
theorem bindL_get {kindOf : Str -> Option NameKind} {x : Str} {v : Value} : ∀ {P : List Str} {vs : List Value} {i : Nat} {m : Str -> Option Value}, P.Nodup -> P[i]? = some x -> vs[i]? = some v -> kindOf x = some .local ->
  bindL kindOf (P.zip vs) m x = some v
 | [], _, _, _, _, h, _, _ => by simp at h
 | _ :: _, [], _, _, _, _, h, _ => by simp at h
 | p :: P, w :: vs, 0, m, nd, h1, h2, hk => by
  simp at h1 h2; subst h1; subst h2
  show bindL kindOf ((p, w) :: P.zip vs) m p = _
  unfold bindL
  rw [bindL_out fun v hv => (List.nodup_cons.mp nd).1 (List.of_mem_zip hv).1, if_pos hk]
  simp
 | p :: P, w :: vs, i + 1, m, nd, h1, h2, hk => by
  show bindL kindOf ((p, w) :: P.zip vs) m x = _
  unfold bindL
  exact bindL_get (i := i) (List.nodup_cons.mp nd).2 (by simpa using h1) (by simpa using h2) hk
theorem bindC_get {kindOf : Str -> Option NameKind} {x : Str} {v : Value} : ∀ {P : List Str} {vs : List Value} {i : Nat} {m : Str -> Option Value}, P.Nodup -> P[i]? = some x -> vs[i]? = some v -> kindOf x ≠ some .local ->
  bindC kindOf (P.zip vs) m x = some v
 | [], _, _, _, _, h, _, _ => by simp at h
 | _ :: _, [], _, _, _, _, h, _ => by simp at h
 | p :: P, w :: vs, 0, m, nd, h1, h2, hk => by
  simp at h1 h2; subst h1; subst h2
  show bindC kindOf ((p, w) :: P.zip vs) m p = _
  unfold bindC
  rw [bindC_out fun v hv => (List.nodup_cons.mp nd).1 (List.of_mem_zip hv).1, if_neg hk]
  simp
 | p :: P, w :: vs, i + 1, m, nd, h1, h2, hk => by
  show bindC kindOf ((p, w) :: P.zip vs) m x = _
  unfold bindC
  exact bindC_get (i := i) (List.nodup_cons.mp nd).2 (by simpa using h1) (by simpa using h2) hk
noncomputable def start (N : List Str) (vs : List V) : St := vs.map some ++ List.replicate (N.length - vs.length) none
noncomputable def cxOf (CX : CXT) (P : Program) (w : World) (K : PySem.W.Frag) (mg : Str -> Option Value) (base : Heap) (N : List Str) (qual : Str) (scope : Scope) (f : Addr) (cd : Value) (A : Around) (outer : List Env) (s : Shared) (H : Hp) (E : XK) : Cx where
 prog := P
 w := w
 K := K
 mg := mg
 base := base
 A := A.deeper (envOfC qual scope s.heap.objs.size f cd)
 N := N
 s₀ := s
 H₀ := H
 env := envOfC qual scope s.heap.objs.size f cd
 outer := outer
 stack := envOfC qual scope s.heap.objs.size f cd :: outer
 ex := []
 calm := true
 fn := fun _ => true
 pn := []
 xe := fun e s' => wpAny (model P w) (A.deeper (envOfC qual scope s.heap.objs.size f cd)) (leaving (envOfC qual scope s.heap.objs.size f cd) e) (fun _ s'' => CX outer H s E e s'') (fun e' s'' => CX outer H s E e' s'') s'
theorem cell_has {sc : Scope} {n : Nat} {x : Str} (h : sc.names.lookup x = some .cell) : ∃ c, (cellsFrom n sc.names []).lookup x = some c := by
 have q := PySem.W.cellsFrom_some sc.names n [] (.inl h)
 exact Option.isSome_iff_exists.mp q
theorem inv_start {CX : CXT} {P : Program} {w : World} {K : PySem.W.Frag} {mg : Str -> Option Value} {base : Heap} {N ps : List Str} {qual : Str} {scope : Scope} {f : Addr} {cd : Value} {A : Around} {outer : List Env} {s s1 : Shared} {H : Hp} {E : XK} {us : List Value} {vs : List V}
  (S : FnScope N ps scope) (hd : A.handled = none) (e0 : Env0 P w K mg base A outer s H) (hl : vs.length = ps.length) (r : Vals vs us)
  (x : InCallC s s.heap.objs.size (bindL (envOfC qual scope s.heap.objs.size f cd).kindOf (ps.zip us) fun _ => none) (cellsFrom (s.heap.objs.size + 1) scope.names []) (bindC (envOfC qual scope s.heap.objs.size f cd).kindOf (ps.zip us) fun _ => none) s1) :
  Inv (cxOf CX P w K mg base N qual scope f cd A outer s H E) [] (start N vs) H s1 := by
 have hpl : ps.length <= N.length := by have := congrArg List.length S.pre; rw [List.length_take] at this; omega
 obtain ⟨h1, tk, rfl, hk⟩ := x.done
 have noA : ∀ b : Addr, b ∉ (cxOf CX P w K mg base N qual scope f cd A outer s H E).ex := fun b z => absurd (show b ∈ ([] : List Addr) from z) (by simp)
 refine ⟨⟨e0.mod, S.kind, rfl, rfl, Nat.le_refl _, fun y z c h1 h2 => ?_, fun y hy => ?_, fun y c _ h => ?_, fun _ => hd, Around.frames_deeper e0.frames, .inr ⟨rfl, rfl⟩, fun b z => absurd z (noA b), e0.bs, e0.bsz, fun b _ _ => noA b, fun b z => absurd z (noA b), e0.funs, e0.frf⟩,
  rfl, e0.bare, Un.kept hk, ⟨_, x.toInCall.ns, fun i y v h1 h2 h3 => ?_⟩, fun y c h => ⟨_, x.cell y c h⟩, e0.hok.fresh (Nat.le_refl _), fun y c h => ?_, fun p hp => absurd (show p ∈ ([] : List (Addr × Obj)) from hp) (by simp), e0.hok.kept hk, ?_⟩
 ·exact name_of_addr x.apart (PySem.mem_of_lookup h1) (PySem.mem_of_lookup h2)
 ·have hy : scope.names.lookup y = some .cell \/ scope.names.lookup y = some .free := hy
  rcases hy with hy | hy
  ·exact cell_has hy
  ·exact absurd rfl (S.nofree _ (PySem.mem_of_lookup hy))
 ·exact Nat.le_of_lt (x.above y c (PySem.mem_of_lookup h))
 ·have hi : i < vs.length := by
   unfold start at h2
   by_cases hi : i < vs.length
   ·exact hi
   ·rw [List.getElem?_append_right (by simpa using hi)] at h2
    rw [List.getElem?_replicate] at h2
    split at h2 <;> cases h2
  have ha : vs[i]? = some v := by
   unfold start at h2
   rw [List.getElem?_append_left (by simpa using hi), List.getElem?_map] at h2
   cases e : vs[i]? with
   | none => rw [e] at h2; cases h2
   | some a => rw [e] at h2; cases h2; rfl
  obtain ⟨u, hu, rv⟩ := r.get ha
  have hp : ps[i]? = some y := by
   rw [<- S.pre, List.getElem?_take_of_lt (by omega)]; exact h1
  have ndP : ps.Nodup := by rw [<- S.pre]; exact S.nd.sublist (List.take_sublist _ _)
  refine ⟨u, rv, ?_⟩
  rcases S.par y (List.mem_of_getElem? hp) with k | k
  ·exact .inl ⟨k, bindL_get ndP hp hu k⟩
  ·obtain ⟨c, e⟩ := cell_has (n := s.heap.objs.size + 1) k
   refine .inr ⟨.inl k, c, e, ?_⟩
   have q := x.cell y c e
   rw [bindC_get ndP hp hu (by show scope.names.lookup y ≠ _; rw [k]; decide)] at q
   exact q
 ·exact e0.hok.fresh (Nat.le_of_lt (x.above y c (PySem.mem_of_lookup h)))
 ·unfold start
  show _ = N.length
  rw [List.length_append, List.length_map, List.length_replicate]
  omega
theorem fn_of {CX : CXT} {P : Program} {w : World} {K : PySem.W.Frag} {mg : Str -> Option Value} {base : Heap} {k : Nat} {f : Addr} {name qual : Str} {params : Arguments} {body : List Stmt} {scope : Scope} {dV kV doc pm cdv ct oc : Value} {an od : Option Addr}
  {osl : Array (Option Value)} {N ps : List Str} {sp : Sp} (lk : K.lookup f = some ⟨oc, od, .func (PySem.W.fnOf name qual params body scope dV kV doc pm an cdv ct), osl⟩) (hcd : PySem.W.codeIn K cdv qual = true) (S : FnScope N ps scope)
  (len : ∀ vs H Q E, sp vs H Q E -> vs.length = ps.length)
  (hbody : ∀ (A : Around) (outer : List Env) (s : Shared) (H : Hp) (vs : List V) (Q : VK) (E : XK), Room k (A.deeper (envOfC qual scope s.heap.objs.size f cdv)) -> sp vs H Q E ->
   ∃ t, PSs (cxOf CX P w K mg base N qual scope f cdv A outer s H E) body t /\ t { nx := fun _ H' => Q .non H', rt := Q } (start N vs) H) :
  FnOk P w K mg base CX (k + 1) f (PySem.W.fnOf name qual params body scope dV kV doc pm an cdv ct) ps sp := by
 refine ⟨len, fun A outer s H args us vs Q E hr e0 hb r hsp => ?_⟩
 have hl := len _ _ _ _ hsp
 have KX : K.In s.heap := e0.mod.kin.keeps fun b o e => (e0.bs b o e).1
 have lim : s.heap.NoLimit := e0.mod.nolimit.keeps fun b o e => (e0.bs b o e).1
 have hkind : ∀ y ∈ ps.zip us, scope.names.lookup y.1 = some .local \/ (scope.names.lookup y.1 = some .cell /\ ((cellsFrom (s.heap.objs.size + 1) scope.names []).lookup y.1).isSome = true) := fun ⟨n, v⟩ hy => by
  rcases S.par n (List.of_mem_zip hy).1 with q | q
  ·exact .inl q
  ·exact .inr ⟨q, PySem.W.cellsFrom_some _ _ _ (.inl q)⟩
 refine codeAny_call_function hr.depth (KX _ _ lk) rfl S.co S.gen rfl (PySem.W.codeRec_of KX hcd) (hb _ _ _ _ ?_)
 refine wpAny_newFunctionEnv_cells S.kind hkind fun env he s1 x => ?_
 subst he
 refine ⟨lim.keeps x.toInCall.keep, codeAny_func ?_⟩
 obtain ⟨t, ht, hq⟩ := hbody A outer s H vs Q E (hr.deeper _) hsp
 have I : Inv (cxOf CX P w K mg base N qual scope f cdv A outer s H E) [] (start N vs) H s1 := inv_start S hr.hd e0 hl r x
 refine wpAny_mono (ht [] s1 (start N vs) H _ I hq) (fun fl s' hs => ?_) fun e s' hs => hs
 have fin : ∀ {σ' : St} {H' : Hp} {v : V} {u : Value}, Inv (cxOf CX P w K mg base N qual scope f cdv A outer s H E) [] σ' H' s' -> RelV v u -> Q v H' -> CE outer P w H s Q u s' :=
  fun {σ' H' v u} J rv q => ⟨v, H', J.os, J.bare, J.base, J.hok, rv, q⟩
 cases fl with
 | ret u =>
  obtain ⟨v, σ', H', J, rv, q⟩ := hs
  exact fin J rv q
 | next =>
  obtain ⟨σ', H', J, q⟩ := hs
  exact fin (v := V.non) (u := Value.none) J rfl q
 | brk =>
  obtain ⟨_, _, _, q⟩ := hs
  exact False.elim q
 | cont =>
  obtain ⟨_, _, _, q⟩ := hs
  exact False.elim q
section
variable {X : Cx} {x : Str} {p pos : Pos} {e : Expr} {es : List Expr} {t : TA} {id T : String} {r : List V -> Hp -> VK -> Prop}
def tCB (r : List V -> Hp -> VK -> Prop) (t : TA) : TE := fun σ H Q => t σ H fun vs H1 => r vs H1 Q
theorem pe_callB (hc : CallR X (.builtin id) r) (hg : Gl X x) (hm : X.mg x = none) (hv : bootBuiltins x = some (.builtin id)) (ha : PA X (e :: es) t) (hn : x ≠ "__name__" := by decide) (hdb : (x == ("__debug__" : Str)) = false := by decide)
  (he : starEach (e :: es) X.env = (false, eval e X.env) :: starEach es X.env := by rfl) (hpl : (backTo pos (starEach es X.env)).any (·.1) = false := by rfl) : PE X (.Call (.Name x p) (e :: es) [] pos) (tCB r t) := by
 intro pins s σ H Q I h
 refine wpAny_Call_Name_kw (ld_blt I hg hm hv ?_ hn hdb)
 exact PyProof.Rows.callWith_builtin1 (thn (ha pos pins s σ H _ I h) fun us s1 ⟨vs, H1, I1, r1, q1⟩ => hc pins s1 σ H1 vs us Q I1 r1 q1) he hpl
theorem pe_callTy (hc : CallR X (.type T) r) (hg : Gl X x) (hm : X.mg x = none) (hv : bootBuiltins x = some (.type T)) (ha : PA X (e :: es) t) (hn : x ≠ "__name__" := by decide) (hdb : (x == ("__debug__" : Str)) = false := by decide)
  (he : starEach (e :: es) X.env = (false, eval e X.env) :: starEach es X.env := by rfl) (hpl : (backTo pos (starEach es X.env)).any (·.1) = false := by rfl) : PE X (.Call (.Name x p) (e :: es) [] pos) (tCB r t) := by
 intro pins s σ H Q I h
 refine wpAny_Call_Name_kw (ld_blt I hg hm hv ?_ hn hdb)
 exact PyProof.Rows.callWith_type1 (thn (ha pos pins s σ H _ I h) fun us s1 ⟨vs, H1, I1, r1, q1⟩ => hc pins s1 σ H1 vs us Q I1 r1 q1) he hpl
end
end L2
namespace HT
open PySem PyProof.Rows
section
open PySem.SeqAt
open PySem.AutoSeq1 (wpAny_loadPart')
open PySem.MeetsSeq PySem.MeetsSeq2 PySem.MeetsSeq3
end
section
variable {prog : Program} {w : World} {A : Around} {E : Value -> Shared -> Prop} {s : Shared}
theorem cat_tup {t b : Addr} {vs ws : List Value} {Q : Value -> Shared -> Prop} (ht : IsTup s.heap t vs.toArray) (hb : IsTup s.heap b ws.toArray) (hv : vs ≠ [])
  (h1 : ws = [] -> Q (.ref t) s) (h2 : ws ≠ [] -> Q (.ref s.heap.objs.size) { s with heap := s.heap.push { cls := .type "tuple", data := .seq (vs ++ ws).toArray } })
  (hsz : vs.length + ws.length <= sizeLine) : wpAny (model prog w) A (binaryOp .Add (.ref t) (.ref b)) Q E s := by
 obtain ⟨⟨cls, dd, data, sl⟩, ho, hc, n, hd⟩ := id ht
 obtain ⟨⟨cls2, dd2, data2, sl2⟩, ho2, hc2, n2, hd2⟩ := id hb
 simp only at hc hd hc2 hd2
 subst hc hd hc2 hd2
 have e : vs.toArray ++ ws.toArray = (vs ++ ws).toArray := by simp
 by_cases hw : ws = []
 ·exact concat_meets ⟨_, ho, rfl⟩ ⟨_, ho2, rfl⟩ noFill_tuple_add seq_tuple_add PySem.F.slot_tuple_add PySem.F.entry_tuple_add (PySem.F.args_tuple_add_2 _ _)
   (tuple_addW1 t b vs.toArray ws.toArray n n2 dd dd2 sl sl2 (by simpa using hv) (by simp [hw])) ⟨ho, ho2, h1 hw⟩
 ·refine concat_meets ⟨_, ho, rfl⟩ ⟨_, ho2, rfl⟩ noFill_tuple_add seq_tuple_add PySem.F.slot_tuple_add PySem.F.entry_tuple_add (PySem.F.args_tuple_add_2 _ _)
   (tuple_addW2 t b vs.toArray ws.toArray n n2 dd dd2 sl sl2 (by simpa using hv) (by simpa using hw) (by rw [List.size_toArray, List.size_toArray]; exact hsz)) ⟨ho, ho2, ?_⟩
  rw [e]
  exact h2 hw
def sIx (n d : Nat) : Option Int -> Nat
 | none => d
 | some v => if v < 0 then (v + (n : Int)).toNat else min v.toNat n
theorem sIx_le (n d : Nat) (hd : d <= n) (o : Option Int) : sIx n d o <= n := by
 cases o with
 | none => exact hd
 | some v =>
  show (if v < 0 then (v + (n : Int)).toNat else min v.toNat n) <= n
  by_cases hv : v < 0
  ·rw [if_pos hv]; omega
  ·rw [if_neg hv]; exact Nat.min_le_right _ _
theorem clip_eq (v : Int) (n d : Nat) : (if v < 0 then max (v + (n : Int)) 0 else min v (n : Int)) = ((sIx n d (some v) : Nat) : Int) := by
 show (if v < 0 then max (v + (n : Int)) 0 else min v (n : Int)) = (((if v < 0 then (v + (n : Int)).toNat else min v.toNat n) : Nat) : Int)
 by_cases hv : v < 0
 ·simp only [if_pos hv]; omega
 ·simp only [if_neg hv]; omega
theorem adjust_gen (lo hi : Option Int) (n : Nat) : Builtin.Slice.sliceAdjust lo hi 1 (n : Int) = (((sIx n 0 lo : Nat) : Int), ((sIx n n hi : Nat) : Int)) := by
 have h1 : ¬ ((1 : Int) < 0) := by omega
 unfold Builtin.Slice.sliceAdjust
 simp only [h1, if_false]
 refine Prod.ext ?_ ?_
 ·cases lo with
  | none => rfl
  | some v => exact clip_eq v n 0
 ·cases hi with
  | none => rfl
  | some v => exact clip_eq v n n
theorem places_gen (i j : Nat) : Builtin.Slice.slicePlaces (i : Int) (j : Int) 1 = j - i := by
 unfold Builtin.Slice.slicePlaces
 have h1 : (1 : Int) > 0 := by omega
 simp only [h1, if_true, Int.ediv_one]
 split <;> omega
theorem slicePart_ {v : Value} {o : Option Int} {Q : Option Int -> Shared -> Prop} (p : IsPart v o) (h : Q o s) : wpAny (model prog w) A (Builtin.Slice.slicePartIndex v) Q E s := by
 cases p with
 | none => exact slicePart_none h
 | int i t => exact slicePart_int h
theorem sliceApplied_gen {sl : Addr} {vl vu : Value} {lo hi : Option Int} {n : Nat} {Q : Int × Int × Nat -> Shared -> Prop} (hs : s.heap.IsSliceOf sl vl vu .none) (pl : IsPart vl lo) (pu : IsPart vu hi)
  (h : Q (((sIx n 0 lo : Nat) : Int), 1, sIx n n hi - sIx n 0 lo) s) : wpAny (model prog w) A (Builtin.Slice.sliceApplied (.ref sl) (pure (n : Int))) Q E s := by
 obtain ⟨os, hos, hcs, hds⟩ := id hs
 unfold Builtin.Slice.sliceApplied Builtin.Slice.sliceFields
 refine wpAny_bind (wpAny_bind (wpAny_field hos hds (x := vl) rfl (wpAny_bind (wpAny_field hos hds (x := vu) rfl (wpAny_bind (wpAny_field hos hds (x := .none) rfl (wpAny_pure ?_)))))))
 refine wpAny_bind (slicePart_none ?_)
 show wpAny _ _ (if ((1 : Int) == 0) = true then _ else _) _ _ s
 rw [if_neg (by decide)]
 refine wpAny_bind (slicePart_ pl (wpAny_bind (slicePart_ pu (wpAny_bind (wpAny_pure ?_)))))
 show wpAny _ _ (match Builtin.Slice.sliceAdjust lo hi 1 (n : Int) with | (lo, hi) => pure (lo, (1 : Int), Builtin.Slice.slicePlaces lo hi 1)) _ _ s
 rw [adjust_gen lo hi n]
 show wpAny _ _ (pure (((sIx n 0 lo : Nat) : Int), (1 : Int), Builtin.Slice.slicePlaces ((sIx n 0 lo : Nat) : Int) ((sIx n n hi : Nat) : Int) 1)) _ _ s
 rw [places_gen]
 exact wpAny_pure h
theorem pick_gen (xs : Array Value) (i k : Nat) : ((List.range k).filterMap fun (m : Nat) => xs[((i : Int) + (m : Int) * 1).toNat]?).toArray = ((xs.toList.drop i).take k).toArray := by
 have e : (fun (m : Nat) => xs[((i : Int) + (m : Int) * 1).toNat]?) = fun m => xs[i + m]? := by
  funext m
  have : ((i : Int) + (m : Int) * 1).toNat = i + m := by omega
  rw [this]
 rw [e]
 have := pick_run xs i k
 rw [List.filterMap_map] at this
 have e2 : ((fun x => xs[x]?) ∘ fun x => i + x) = fun m => xs[i + m]? := rfl
 rw [e2] at this
 rw [this]
theorem getItem_tuple_cut {t sl : Addr} {items : Array Value} {vl vu : Value} {lo hi : Option Int} {Q : Value -> Shared -> Prop} (ht : IsTup s.heap t items) (hs : s.heap.IsSliceOf sl vl vu .none) (pl : IsPart vl lo) (pu : IsPart vu hi)
  (hw : ¬ (sIx items.size 0 lo = 0 /\ sIx items.size items.size hi = items.size))
  (h : Q (.ref s.heap.objs.size) { s with heap := s.heap.push { cls := .type "tuple", data := .seq ((items.toList.drop (sIx items.size 0 lo)).take (sIx items.size items.size hi - sIx items.size 0 lo)).toArray } })
  (hsz : items.size <= sizeLine) : wpAny (model prog w) A (getItem (.ref t) (.ref sl)) Q E s := by
 have htake : sizeOk (.seq ((items.toList.drop (sIx items.size 0 lo)).take (sIx items.size items.size hi - sIx items.size 0 lo)).toArray) := by
  show ((items.toList.drop (sIx items.size 0 lo)).take (sIx items.size items.size hi - sIx items.size 0 lo)).toArray.size <= sizeLine
  rw [List.size_toArray, List.length_take, List.length_drop, Array.length_toList]
  omega
 have hj : sIx items.size items.size hi <= items.size := sIx_le _ _ (Nat.le_refl _) hi
 obtain ⟨os, hos, hcs, hds⟩ := id hs
 have hTs : s.TypeIs (.ref sl) "slice" := ⟨os, hos, hcs⟩
 unfold getItem
 try with_reducible refine wpAny_holding ?_
 first | refine wpAny_bind (wpAny_pure ?_) | skip
 refine wpAny_bind (wpAny_sequenceKey ht.typeIs (by decide) ?_)
 refine wpAny_bind (wpAny_callSpecial?_slot (name := Str.ofString "__getitem__") ht.typeIs PyProof.Rows.slot_tuple_getitem
  (wpAny_call_entry PyProof.Rows.slot_tuple_getitem ht.typeIs entry_tuple_getitem ?_ (args_tuple_getitem _ _)))
 show wpAny _ _ (Builtin.Tuple.tupleItemsOf (.ref t) >>= _) _ _ s
 refine wpAny_bind (tupleItemsOf_ ht ?_)
 refine wpAny_bind (wpAny_typeOf hTs ?_)
 rw [if_pos (by decide)]
 refine wpAny_bind (sliceApplied_gen hs pl pu ?_)
 have hno : ¬ ((((sIx items.size 0 lo : Nat) : Int) == 0 && (1 : Int) == 1 && (sIx items.size items.size hi - sIx items.size 0 lo) == items.size) = true) := by
  intro q
  rw [Bool.and_eq_true, Bool.and_eq_true] at q
  have q1 : ((sIx items.size 0 lo : Nat) : Int) = 0 := eq_of_beq q.1.1
  have q2 : sIx items.size items.size hi - sIx items.size 0 lo = items.size := eq_of_beq q.2
  exact hw ⟨by omega, by omega⟩
 show wpAny _ _ (if (((sIx items.size 0 lo : Nat) : Int) == 0 && (1 : Int) == 1 && (sIx items.size items.size hi - sIx items.size 0 lo) == items.size) = true then _ else _) _ _ s
 rw [if_neg hno, pick_gen]
 first
  | exact wpAny_bind (m := Builtin.Tuple.tupleExact _) (wpAny_newObj_type (wpAny_pure ⟨_, rfl, wpAny_pure h⟩) htake)
  | exact wpAny_bind (m := Builtin.Tuple.tupleExact _) (wpAny_newObj_type (wpAny_bind (wpAny_pure (wpAny_pure ⟨_, rfl, wpAny_pure h⟩))) htake)
  | exact wpAny_bind (wpAny_bind (m := Builtin.Tuple.tupleExact _) (wpAny_newObj_type (wpAny_pure (wpAny_pure ⟨_, rfl, wpAny_pure h⟩)) htake))
  | exact wpAny_bind (wpAny_bind (m := Builtin.Tuple.tupleExact _) (wpAny_newObj_type (wpAny_pure ⟨_, rfl, wpAny_pure h⟩) htake))
end
end HT
namespace L2
open PySem PySem.Spec PyProof.Rows
abbrev TO := St -> Hp -> (Option Int -> Hp -> Prop) -> Prop
def PO (X : Cx) (e : Option Expr) (t : TO) : Prop :=
 ∀ (pins : List (Addr × Obj)) (s : Shared) (σ : St) (H : Hp) (Q : Option Int -> Hp -> Prop), Inv X pins σ H s -> t σ H Q ->
  wpAny (model X.prog X.w) X.A (evalPart e X.env) (fun u s' => ∃ o H', Inv X pins σ H' s' /\ IsPart u o /\ Q o H') X.xe s
def tNoPart : TO := fun _ H Q => Q none H
def tPart (t : TE) : TO := fun σ H Q => t σ H fun x H1 => ∃ i, x = .int i /\ Q (some i) H1
section
variable {X : Cx} {e : Expr} {te : TE} {lo hi : Option Expr} {tl th : TO} {pos p2 : Pos}
theorem po_none : PO X none tNoPart := by
 intro pins s σ H Q I h
 rw [evalPart_none]
 exact wpAny_pure ⟨none, H, I, .none, h⟩
theorem po_some (h : PE X e te) : PO X (some e) (tPart te) := by
 intro pins s σ H Q I hw
 rw [evalPart_some]
 refine thn (h pins s σ H _ I hw) fun u s1 ⟨x, H1, I1, r1, q1⟩ => ?_
 obtain ⟨i, rfl, q⟩ := q1
 obtain ⟨t, rfl⟩ := r1
 exact ⟨some i, H1, I1, .int i t, q⟩
def SlR (X : Cx) (r : V -> Option Int -> Option Int -> Hp -> VK -> Prop) : Prop :=
 ∀ (pins : List (Addr × Obj)) (s : Shared) (σ : St) (H : Hp) (x : V) (v vl vu : Value) (lo hi : Option Int) (sl : Addr) (Q : VK), Inv X pins σ H s -> RelV x v -> s.heap.IsSliceOf sl vl vu .none -> IsPart vl lo -> IsPart vu hi -> r x lo hi H Q ->
  ∃ T id, typeLookup (.type T) "__getitem__" = pure (some (.builtin id)) /\ s.TypeIs v T /\ wpAny (model X.prog X.w) X.A (getItem v (.ref sl)) (EP X pins σ Q) X.xe s
theorem SlR.or {r r' : V -> Option Int -> Option Int -> Hp -> VK -> Prop} (h : SlR X r) (h' : SlR X r') : SlR X (fun x lo hi H Q => r x lo hi H Q \/ r' x lo hi H Q) := by
 intro pins s σ H x v vl vu lo hi sl Q I rx hs pl pu q
 rcases q with q | q
 ·exact h pins s σ H x v vl vu lo hi sl Q I rx hs pl pu q
 ·exact h' pins s σ H x v vl vu lo hi sl Q I rx hs pl pu q
def tSl (r : V -> Option Int -> Option Int -> Hp -> VK -> Prop) (te : TE) (tl th : TO) : TE := fun σ H Q => te σ H fun x H1 => tl σ H1 fun l H2 => th σ H2 fun u H3 => r x l u H3 Q
theorem pe_slice {r : V -> Option Int -> Option Int -> Hp -> VK -> Prop} (hr : SlR X r) (he : PE X e te) (hl : PO X lo tl) (hu : PO X hi th) : PE X (.Subscript e (.Slice lo hi none p2) pos) (tSl r te tl th) := by
 intro pins s σ H Q I h
 refine Subscript_ (thn (he pins s σ H _ I h) fun v s1 ⟨x, H1, I1, r1, q1⟩ => ?_)
 refine wpAny_Slice (thn (hl pins s1 σ H1 _ I1 q1) fun vl s2 ⟨l, H2, I2, pl, q2⟩ => thn (hu pins s2 σ H2 _ I2 q2) fun vu s3 ⟨u, H3, I3, pu, q3⟩ => ?_)
 rw [evalPart_none]
 refine wpAny_pure ?_
 have I4 : Inv X pins σ H3 { s3 with heap := s3.heap.push { cls := .type "slice", data := .fields #[vl, vu, .none] } } := I3.kept (t' := s3.toks) fun b ob q => Heap.get?_push_of_some _ q
 obtain ⟨T, id, hT, ht, hg⟩ := hr pins { s3 with heap := s3.heap.push { cls := .type "slice", data := .fields #[vl, vu, .none] } } σ H3 x v vl vu l u s3.heap.objs.size Q I4 r1 (Heap.IsSliceOf.new ..) pl pu q3
 show wpAny (model X.prog X.w) X.A (subscriptTail e (.Slice lo hi none p2) v (.ref s3.heap.objs.size)) (EP X pins σ Q) X.xe { s3 with heap := s3.heap.push { cls := .type "slice", data := .fields #[vl, vu, .none] } }
 exact tail_any (ops := [.ref s3.heap.objs.size, v]) ht hT hg (by with_unfolding_all rfl)
noncomputable def cutV (xs : List V) (lo hi : Option Int) : List V := (xs.drop (HT.sIx xs.length 0 lo)).take (HT.sIx xs.length xs.length hi - HT.sIx xs.length 0 lo)
theorem cutV_length (xs : List V) (lo hi : Option Int) : (cutV xs lo hi).length <= xs.length := by
 unfold cutV
 rw [List.length_take, List.length_drop]
 omega
def rSlT (K : PySem.W.Frag) : V -> Option Int -> Option Int -> Hp -> VK -> Prop := fun x lo hi H Q => ∃ a xs, x = .ref a /\ SqT K H a xs /\
 ¬ (HT.sIx xs.length 0 lo = 0 /\ HT.sIx xs.length xs.length hi = xs.length) /\ ∀ p, H p = none -> Q (.ref p) (upd H p (.tup (cutV xs lo hi)))
theorem sl_tup : SlR X (rSlT X.K) := by
 intro pins s σ H x v vl vu lo hi sl Q I rx hs pl pu h
 obtain ⟨a, xs, rfl, hx, hw, q⟩ := h
 cases rx
 obtain ⟨its, r, ht, hz⟩ := I.tuple hx
 have hlen : its.toArray.size = xs.length := by rw [List.size_toArray]; exact r.length.symm
 refine ⟨"tuple", _, PyProof.Rows.slot_tuple_getitem.lookup, ht.typeIs, ?_⟩
 refine HT.getItem_tuple_cut ht hs pl pu (by rw [hlen]; exact hw) ?_ (by rw [hlen]; exact hz)
 rw [hlen]
 refine ⟨.ref s.heap.objs.size, _, I.laid (t' := s.toks) (o := .tup (cutV xs lo hi)) (fun b ob q => Heap.get?_push_of_some _ q) (Nat.le_refl _) ?_, rfl, q _ (I.hok.fresh (Nat.le_refl _))⟩
 exact ⟨Nat.le_trans (cutV_length xs lo hi) hz, _, (r.drop (HT.sIx xs.length 0 lo)).take (HT.sIx xs.length xs.length hi - HT.sIx xs.length 0 lo), IsTup.new _ _⟩
def rCatT (K : PySem.W.Frag) : R2 := fun x y H Q => ∃ a b xs ys, x = .ref a /\ y = .ref b /\ SqT K H a xs /\ SqT K H b ys /\ xs ≠ [] /\ xs.length + ys.length <= sizeLine /\
 (ys = [] -> Q (.ref a) H) /\ (ys ≠ [] -> ∀ p, H p = none -> Q (.ref p) (upd H p (.tup (xs ++ ys))))
theorem Vals.nil_iff {xs : List V} {us : List Value} (r : Vals xs us) : us = [] ↔ xs = [] := by
 cases r with
 | nil => simp
 | cons _ _ => simp
theorem op_catT : OpR X (binaryOp .Add) (rCatT X.K) := by
 intro pins s σ H x y v u Q I rx ry h
 obtain ⟨a, b, xs, ys, rfl, rfl, ha, hb, hx, hz, q1, q2⟩ := h
 cases rx
 cases ry
 obtain ⟨its, r1, p1, _⟩ := I.tuple ha
 obtain ⟨its2, r2, p2, _⟩ := I.tuple hb
 refine HT.cat_tup p1 p2 (fun z => hx (r1.nil_iff.mp z)) (fun z => ⟨.ref a, H, I, rfl, q1 (r2.nil_iff.mp z)⟩) (fun z => ?_) (by rw [<- r1.length, <- r2.length]; exact hz)
 refine ⟨.ref s.heap.objs.size, _, I.laid (t' := s.toks) (o := .tup (xs ++ ys)) (fun b ob q => Heap.get?_push_of_some _ q) (Nat.le_refl _) ?_, rfl, q2 (fun w => z (r2.nil_iff.mpr w)) _ (I.hok.fresh (Nat.le_refl _))⟩
 exact ⟨by rw [List.length_append]; exact hz, _, r1.append r2, IsTup.new _ _⟩
end
noncomputable def ixN (n : Nat) (i : Int) : Option Nat := if 0 <= i then (if i < n then some i.toNat else none) else if -(n : Int) <= i then some (i + n).toNat else none
noncomputable def atI {α : Type} (xs : List α) (i : Int) : Option α := (ixN xs.length i).bind fun j => xs[j]?
theorem ixN_seq {n : Nat} {i : Int} {j : Nat} (h : ixN n i = some j) : seqIndex? i n = some j /\ j < n /\ -(n : Int) <= i /\ i < n := by
 unfold ixN at h
 by_cases h0 : 0 <= i
 ·rw [if_pos h0] at h
  by_cases h1 : i < n
  ·rw [if_pos h1] at h
   have e : i.toNat = j := Option.some.inj h
   exact ⟨by rw [seqIndex_of h0 h1, e], by omega, by omega, h1⟩
  ·rw [if_neg h1] at h; cases h
 ·rw [if_neg h0] at h
  by_cases h1 : -(n : Int) <= i
  ·rw [if_pos h1] at h
   have e : (i + n).toNat = j := Option.some.inj h
   exact ⟨by rw [seqIndex_neg (by omega) h1, e], by omega, h1, by omega⟩
  ·rw [if_neg h1] at h; cases h
theorem atI_get {α : Type} {xs : List α} {i : Int} {v : α} (h : atI xs i = some v) : ∃ j, seqIndex? i xs.length = some j /\ xs[j]? = some v /\ j < xs.length /\ -(xs.length : Int) <= i /\ i < xs.length := by
 unfold atI at h
 cases e : ixN xs.length i with
 | none => rw [e] at h; cases h
 | some j =>
  rw [e] at h
  obtain ⟨h1, h2, h3, h4⟩ := ixN_seq e
  exact ⟨j, h1, h, h2, h3, h4⟩
theorem atI_nat {α : Type} {xs : List α} {j : Nat} {v : α} (h : xs[j]? = some v) : atI xs (j : Int) = some v := by
 have hj : j < xs.length := (List.getElem?_eq_some_iff.mp h).1
 have e : ixN xs.length (j : Int) = some j := by
  unfold ixN
  rw [if_pos (by omega), if_pos (by omega)]; simp
 unfold atI; rw [e]; exact h
def PlainIx (b : Expr) : Prop := ∀ o i, subscripted b false o i = operate [o, i] (getItem o i)
def IxR (X : Cx) (r : R2) : Prop :=
 ∀ (value slice : Expr) (pins : List (Addr × Obj)) (s : Shared) (σ : St) (H : Hp) (x y : V) (v u : Value) (Q : VK), Inv X pins σ H s -> RelV x v -> RelV y u -> r x y H Q ->
  subscripted slice false v u = operate [v, u] (getItem v u) -> wpAny (model X.prog X.w) X.A (subscriptTail value slice v u) (EP X pins σ Q) X.xe s
def MtR (X : Cx) (id : String) (r : V -> List V -> Hp -> VK -> Prop) : Prop :=
 ∀ (pins : List (Addr × Obj)) (s : Shared) (σ : St) (H : Hp) (x : V) (xs : List V) (v : Value) (us : List Value) (Q : VK), Inv X pins σ H s -> RelV x v -> Vals xs us -> r x xs H Q ->
  wpAny (model X.prog X.w) X.A (call (.builtin id) (v :: us)) (EP X pins σ Q) X.xe s
section
variable {X : Cx} {a b : Expr} {ta tb : TE} {pos : Pos}
theorem IxR.or {r r' : R2} (h : IxR X r) (h' : IxR X r') : IxR X (fun x y H Q => r x y H Q \/ r' x y H Q) := by
 intro value slice pins s σ H x y v u Q I rx ry q hs
 rcases q with q | q
 ·exact h value slice pins s σ H x y v u Q I rx ry q hs
 ·exact h' value slice pins s σ H x y v u Q I rx ry q hs
theorem pe_ix {r : R2} (hr : IxR X r) (ha : PE X a ta) (hb : PE X b tb) (hs : PlainIx b) : PE X (.Subscript a b pos) (tOp r ta tb) := by
 intro pins s σ H Q I h
 exact Subscript_ (binT ha hb I h fun v u s2 x y H2 I2 rx ry q => hr a b pins s2 σ H2 x y v u Q I2 rx ry q (hs _ _))
def rIxL (K : PySem.W.Frag) : R2 := fun x y H Q => ∃ p xs i v, x = .ref p /\ y = .int i /\ SqL K H p xs /\ atI xs i = some v /\ Q v H
def rIxT (K : PySem.W.Frag) : R2 := fun x y H Q => ∃ p xs i v, x = .ref p /\ y = .int i /\ SqT K H p xs /\ atI xs i = some v /\ Q v H
def rIxS : R2 := fun x y H Q => ∃ z i c, x = .str z /\ y = .int i /\ z.length <= sizeLine /\ atI z.cps.toList i = some c /\ Q (.str ⟨#[c]⟩) H
theorem ix_list : IxR X (rIxL X.K) := by
 intro value slice pins s σ H x y v u Q I rx ry h hs
 obtain ⟨p, xs, i, z, rfl, rfl, hq, he, q⟩ := h
 cases rx
 obtain ⟨t, rfl⟩ := ry
 obtain ⟨its, r, pl, hz⟩ := I.list hq
 obtain ⟨j, h1, h2, h3, h4, h5⟩ := atI_get he
 obtain ⟨w, ew, rw'⟩ := r.get h2
 have hl := r.length
 have hn := line63
 have fin : EP X pins σ Q w s := ⟨z, H, I, rw', q⟩
 by_cases h0 : 0 <= i
 ·have hj : i.toNat = j := by
   rw [seqIndex_of h0 h5] at h1
   exact Option.some.inj h1
  exact item_listR pl.isList h0 (by omega) (by rw [hj]; simpa using ew) fin hs
 ·have hj : (i + (its.toArray.size : Int)).toNat = j := by
   rw [seqIndex_neg (by omega) h4] at h1
   rw [List.size_toArray, <- hl]
   exact Option.some.inj h1
  exact subscriptTail_builtinR (x := w) pl.isList.typeIs slot_list_getitem.lookup
   (wpAny_getItem_list_neg (Q := fun r s' => r = w /\ EP X pins σ Q r s') pl.isList (by omega) (by rw [List.size_toArray] <;> omega) (by omega) (by rw [hj]; simpa using ew) ⟨rfl, fin⟩) hs
theorem ix_tup : IxR X (rIxT X.K) := by
 intro value slice pins s σ H x y v u Q I rx ry h hs
 obtain ⟨p, xs, i, z, rfl, rfl, hq, he, q⟩ := h
 cases rx
 obtain ⟨t, rfl⟩ := ry
 obtain ⟨its, r, pl, hz⟩ := I.tuple hq
 obtain ⟨j, h1, h2, h3, h4, h5⟩ := atI_get he
 obtain ⟨w, ew, rw'⟩ := r.get h2
 have hl := r.length
 have hn := line63
 have fin : EP X pins σ Q w s := ⟨z, H, I, rw', q⟩
 exact subscriptTail_builtinR (x := w) pl.typeIs slot_tuple_getitem.lookup
  (getItem_tuple (j := j) (Q := fun r s' => r = w /\ EP X pins σ Q r s') pl (by omega) (by omega) (by rw [List.size_toArray, <- hl]; exact h1) (by simpa using ew) ⟨rfl, fin⟩) hs
theorem ix_str : IxR X rIxS := by
 intro value slice pins s σ H x y v u Q I rx ry h hs
 obtain ⟨z, i, c, rfl, rfl, hz, he, q⟩ := h
 obtain ⟨t, rfl⟩ := rx
 obtain ⟨t', rfl⟩ := ry
 obtain ⟨j, h1, h2, h3, h4, h5⟩ := atI_get he
 have hl : z.cps.toList.length = z.length := by simp [Str.length]
 rw [hl] at h1 h4 h5
 have hn := line63
 exact tail_any (typeIs_str s z t) slot_str_getitem.lookup (getItem_str (c := c) (by
  have e1 : decide (i < -(2 ^ 63 : Int)) = false := decide_eq_false (by omega)
  have e2 : decide (i ≥ 2 ^ 63) = false := decide_eq_false (by omega)
  rw [e1, e2, Bool.or_false]) (by rw [h1]; simpa using h2) ⟨.str ⟨#[c]⟩, H, I.tok _, ⟨_, rfl⟩, q⟩) hs
def rIx (K : PySem.W.Frag) : R2 := fun x y H Q => rIxL K x y H Q \/ rIxT K x y H Q \/ rIxS x y H Q
theorem ix_seq : IxR X (rIx X.K) := ix_list.or (ix_tup.or ix_str)
theorem slice_bounds (lo hi : Option Int) (n : Nat) : (sliceBounds lo hi none n).1 = ((HT.sIx n 0 lo : Nat) : Int) /\ (sliceBounds lo hi none n).2.1 = ((HT.sIx n n hi : Nat) : Int) /\ (sliceBounds lo hi none n).2.2 = 1 := by
 refine ⟨?_, ?_, rfl⟩
 ·cases lo with
  | none => simp [sliceBounds, HT.sIx]
  | some i =>
   simp only [sliceBounds, HT.sIx, Option.getD_none, show (1 : Int) > 0 by decide, if_true]
   by_cases h : i < 0
   ·simp only [h, if_true] <;> omega
   ·simp only [h, if_false] <;> omega
 ·cases hi with
  | none => simp [sliceBounds, HT.sIx]
  | some i =>
   simp only [sliceBounds, HT.sIx, Option.getD_none, show (1 : Int) > 0 by decide, if_true]
   by_cases h : i < 0
   ·simp only [h, if_true] <;> omega
   ·simp only [h, if_false] <;> omega
theorem slicePick_cut (its : List Value) (lo hi : Option Int) : slicePick its.toArray lo hi none = ((its.drop (HT.sIx its.length 0 lo)).take (HT.sIx its.length its.length hi - HT.sIx its.length 0 lo)).toArray := by
 obtain ⟨h1, h2, h3⟩ := slice_bounds lo hi its.toArray.size
 unfold slicePick
 rw [h1, h2, h3]
 simp only [sliceRange_one, pick_run, List.size_toArray] <;> rfl
def rSlL (K : PySem.W.Frag) : V -> Option Int -> Option Int -> Hp -> VK -> Prop := fun x lo hi H Q => ∃ a xs, x = .ref a /\ SqL K H a xs /\ ∀ p, H p = none -> Q (.ref p) (upd H p (.lst (cutV xs lo hi)))
theorem sl_list : SlR X (rSlL X.K) := by
 intro pins s σ H x v vl vu lo hi sl Q I rx hs pl pu h
 obtain ⟨a, xs, rfl, hx, q⟩ := h
 cases rx
 obtain ⟨its, r, ht, hz⟩ := I.list hx
 have hlen := r.length
 refine ⟨"list", _, slot_list_getitem.lookup, ht.isList.typeIs, ?_⟩
 refine wpAny_getItem_list_slice ht.isList hs pl pu .none (by simp) ?_ (by rw [List.size_toArray] <;> omega)
 rw [slicePick_cut, <- hlen]
 refine ⟨.ref s.heap.objs.size, _, I.laid (t' := s.toks) (o := .lst (cutV xs lo hi)) (fun b ob q => Heap.get?_push_of_some _ q) (Nat.le_refl _) ?_, rfl, q _ (I.hok.fresh (Nat.le_refl _))⟩
 exact ⟨Nat.le_trans (cutV_length xs lo hi) hz, _, 0, (r.drop (HT.sIx xs.length 0 lo)).take (HT.sIx xs.length xs.length hi - HT.sIx xs.length 0 lo), Heap.get?_push_size _ rfl⟩
noncomputable def flatV : V -> Bool
 | .non => true
 | .bl _ => true
 | .int _ => true
 | .str _ => true
 | _ => false
noncomputable def eqV : V -> V -> Bool
 | .non, .non => true
 | .bl a, .bl b => a == b
 | .bl a, .int b => (if a then 1 else 0) == b
 | .int a, .bl b => a == (if b then 1 else 0)
 | .int a, .int b => a == b
 | .str a, .str b => a == b
 | _, _ => false
theorem eqAt_V {A : Around} {s : Shared} {y x : V} {u v : Value} (ry : RelV y u) (rx : RelV x v) (fy : flatV y = true) (fx : flatV x = true) : SeqAt.EqAt A s u v (eqV y x) := by
 cases y with
 | non =>
  cases ry
  cases x with
  | non => cases rx; exact SeqAt.EqAt.same _
  | bl b => cases rx; exact SeqAt.EqAt.none_bool b
  | int b => obtain ⟨t, rfl⟩ := rx; exact SeqAt.EqAt.none_int b t
  | str b => obtain ⟨t, rfl⟩ := rx; exact SeqAt.EqAt.none_str b t
  | _ => exact absurd (show false = true from fx) Bool.false_ne_true
 | bl a =>
  cases ry
  cases x with
  | non => cases rx; exact SeqAt.EqAt.bool_none a
  | bl b => cases rx; exact SeqAt.EqAt.bool_bool a b
  | int b => obtain ⟨t, rfl⟩ := rx; exact SeqAt.EqAt.bool_int a b t
  | str b => obtain ⟨t, rfl⟩ := rx; exact SeqAt.EqAt.bool_str a b t
  | _ => exact absurd (show false = true from fx) Bool.false_ne_true
 | int a =>
  obtain ⟨t', rfl⟩ := ry
  cases x with
  | non => cases rx; exact SeqAt.EqAt.int_none a t'
  | bl b => cases rx; exact SeqAt.EqAt.int_bool a t' b
  | int b => obtain ⟨t, rfl⟩ := rx; exact SeqAt.EqAt.int_int a t' b t
  | str b => obtain ⟨t, rfl⟩ := rx; exact SeqAt.EqAt.int_str a t' b t
  | _ => exact absurd (show false = true from fx) Bool.false_ne_true
 | str a =>
  obtain ⟨t', rfl⟩ := ry
  cases x with
  | non => cases rx; exact SeqAt.EqAt.str_none a t'
  | bl b => cases rx; exact SeqAt.EqAt.str_bool a t' b
  | int b => obtain ⟨t, rfl⟩ := rx; exact SeqAt.EqAt.str_int a t' b t
  | str b => obtain ⟨t, rfl⟩ := rx; exact SeqAt.EqAt.str_str a t' b t
  | _ => exact absurd (show false = true from fx) Bool.false_ne_true
 | _ => exact absurd (show false = true from fy) Bool.false_ne_true
noncomputable def eqU (x : V) (u : Value) : Bool := match u with
 | .none => eqV .non x
 | .bool b => eqV (.bl b) x
 | .int i _ => eqV (.int i) x
 | .str z _ => eqV (.str z) x
 | _ => false
theorem eqU_of {x y : V} {u : Value} (r : RelV y u) (f : flatV y = true) : eqU x u = eqV y x := by
 cases y with
 | non => cases r; rfl
 | bl b => cases r; rfl
 | int i => obtain ⟨t, rfl⟩ := r; rfl
 | str z => obtain ⟨t, rfl⟩ := r; rfl
 | _ => exact absurd (show false = true from f) Bool.false_ne_true
theorem any_eqU {x : V} : ∀ {xs : List V} {us : List Value}, Vals xs us -> xs.all flatV = true -> us.any (eqU x) = xs.any fun y => eqV y x
 | _, _, .nil, _ => rfl
 | y :: xs, u :: us, .cons r t, f => by
  rw [List.all_cons, Bool.and_eq_true] at f
  rw [List.any_cons, List.any_cons, eqU_of r f.1, any_eqU t f.2]
theorem mem_eqAt {A : Around} {s : Shared} {x : V} {v : Value} (rx : RelV x v) (fx : flatV x = true) : ∀ {xs : List V} {us : List Value}, Vals xs us -> xs.all flatV = true -> ∀ u ∈ us, SeqAt.EqAt A s u v (eqU x u)
 | _, _, .nil, _ => fun u hu => by cases hu
 | y :: xs, u :: us, .cons r t, f => fun u' hu => by
  rw [List.all_cons, Bool.and_eq_true] at f
  rcases List.mem_cons.mp hu with rfl | hu
  ·rw [eqU_of r f.1]; exact eqAt_V r rx f.1 fx
  ·exact mem_eqAt rx fx t f.2 u' hu
noncomputable def inV (x : V) (xs : List V) : Bool := xs.any fun y => eqV y x
def rIn (K : PySem.W.Frag) (neg : Bool) : R2 := fun x y H Q => ∃ p xs, y = .ref p /\ (SqL K H p xs \/ SqT K H p xs) /\ flatV x = true /\ xs.all flatV = true /\ Q (.bl (if neg then !inV x xs else inV x xs)) H
theorem op_in_seq : OpR X (compareOp .In) (rIn X.K false) := by
 intro pins s σ H x y v u Q I rx ry h
 obtain ⟨p, xs, rfl, hq, fx, fs, q⟩ := h
 cases ry
 rcases hq with hq | hq
 ·obtain ⟨its, r, pl, hz⟩ := I.list hq
  refine SeqAt.in_listAt (eqU x) pl.isList (fun w hw => mem_eqAt rx fx r fs w (by simpa using hw)) ⟨.bl _, H, I, rfl, ?_⟩
  rw [show its.toArray.any (eqU x) = its.any (eqU x) by simp, any_eqU r fs]
  exact q
 ·obtain ⟨its, r, pl, hz⟩ := I.tuple hq
  refine SeqAt.in_tupleAt (eqU x) pl (fun w hw => mem_eqAt rx fx r fs w (by simpa using hw)) ⟨.bl _, H, I, rfl, ?_⟩
  rw [show its.toArray.any (eqU x) = its.any (eqU x) by simp, any_eqU r fs]
  exact q
theorem op_notIn_seq : OpR X (compareOp .NotIn) (rIn X.K true) := by
 intro pins s σ H x y v u Q I rx ry h
 obtain ⟨p, xs, rfl, hq, fx, fs, q⟩ := h
 cases ry
 rcases hq with hq | hq
 ·obtain ⟨its, r, pl, hz⟩ := I.list hq
  refine SeqAt.notIn_listAt (eqU x) pl.isList (fun w hw => mem_eqAt rx fx r fs w (by simpa using hw)) ⟨.bl _, H, I, rfl, ?_⟩
  rw [show its.toArray.any (eqU x) = its.any (eqU x) by simp, any_eqU r fs]
  exact q
 ·obtain ⟨its, r, pl, hz⟩ := I.tuple hq
  refine SeqAt.notIn_tupleAt (eqU x) pl (fun w hw => mem_eqAt rx fx r fs w (by simpa using hw)) ⟨.bl _, H, I, rfl, ?_⟩
  rw [show its.toArray.any (eqU x) = its.any (eqU x) by simp, any_eqU r fs]
  exact q
theorem op_notIn_str : OpR X (compareOp .NotIn) (fun x y H Q => ∃ i j, x = .str i /\ y = .str j /\ Q (.bl (!(!(Builtin.Str.occurrences j i 0 j.length 1).isEmpty))) H) := by
 intro pins s σ H x y v u Q I rx ry h
 obtain ⟨i, j, rfl, rfl, q⟩ := h
 obtain ⟨t, rfl⟩ := rx
 obtain ⟨t', rfl⟩ := ry
 exact notIn_str ⟨.bl _, H, I, rfl, q⟩
theorem call_len_seq : CallR X (.builtin "len") (fun xs H Q => ∃ p ys, xs = [.ref p] /\ (SqL X.K H p ys \/ SqT X.K H p ys) /\ Q (.int ys.length) H) := by
 intro pins s σ H xs us Q I r h
 obtain ⟨p, ys, rfl, hq, q⟩ := h
 obtain ⟨u, rfl, rx⟩ := vals1 r
 cases rx
 have hn := line63
 rcases hq with hq | hq
 ·obtain ⟨its, r', pl, hz⟩ := I.list hq
  have hlen := r'.length
  exact Calls.call_len_list pl.isList (by simp only [List.size_toArray] <;> omega) ⟨.int ys.length, H, I.tok _, ⟨s.toks + 1, by rw [List.size_toArray, hlen]⟩, q⟩
 ·obtain ⟨its, r', pl, hz⟩ := I.tuple hq
  have hlen := r'.length
  exact len_tuple pl (by simp only [List.size_toArray] <;> omega) ⟨.int ys.length, H, I.tok _, ⟨s.toks + 1, by rw [List.size_toArray, hlen]⟩, q⟩
theorem call_len_str : CallR X (.builtin "len") (fun xs H Q => ∃ z, xs = [.str z] /\ z.length <= sizeLine /\ Q (.int z.length) H) := by
 intro pins s σ H xs us Q I r h
 obtain ⟨z, rfl, hz, q⟩ := h
 obtain ⟨u, rfl, t, rfl⟩ := vals1 r
 have hn := line63
 exact len_str (by omega) ⟨.int z.length, H, I.tok _, ⟨_, rfl⟩, q⟩
theorem CallR.or {f : Value} {r r' : List V -> Hp -> VK -> Prop} (h : CallR X f r) (h' : CallR X f r') : CallR X f (fun xs H Q => r xs H Q \/ r' xs H Q) := by
 intro pins s σ H xs us Q I rs q
 rcases q with q | q
 ·exact h pins s σ H xs us Q I rs q
 ·exact h' pins s σ H xs us Q I rs q
theorem call_list_of : CallR X (.type "list") (fun xs H Q => ∃ p ys, xs = [.ref p] /\ (SqL X.K H p ys \/ SqT X.K H p ys) /\ ∀ l, H l = none -> Q (.ref l) (upd H l (.lst ys))) := by
 intro pins s σ H xs us Q I r h
 obtain ⟨p, ys, rfl, hq, q⟩ := h
 obtain ⟨u, rfl, rx⟩ := vals1 r
 cases rx
 have fin : ∀ (its : List Value), Vals ys its -> ys.length <= sizeLine -> ∀ (h' : Heap) (c' : Nat), (∀ b o', s.heap.get? b = some o' -> h'.get? b = some o') ->
   h'.get? s.heap.objs.size = some { cls := .type "list", dict := none, data := .seq its.toArray c', slots := #[] } -> EP X pins σ Q (.ref s.heap.objs.size) { s with heap := h' } := fun its r' hz h' c' kp e =>
  ⟨.ref s.heap.objs.size, _, I.laid (t' := s.toks) kp (Nat.le_refl _) (show ObjOk X.prog X.w _ h' _ (.lst ys) from ⟨hz, its, c', r', e⟩), rfl, q _ (I.hok.fresh (Nat.le_refl _))⟩
 rcases hq with hq | hq
 ·obtain ⟨its, r', pl, hz⟩ := I.list hq
  have hlen := r'.length
  obtain ⟨o, ho, hc, n, hd⟩ := pl.isList
  exact call_list_seq p (.inl rfl) ho hc hd (fun h' c' kp e => fin its r' hz h' c' kp e) (by simp only [List.size_toArray] <;> omega)
 ·obtain ⟨its, r', pl, hz⟩ := I.tuple hq
  have hlen := r'.length
  obtain ⟨o, ho, hc, n, hd⟩ := pl
  exact call_list_seq p (.inr rfl) ho hc hd (fun h' c' kp e => fin its r' hz h' c' kp e) (by simp only [List.size_toArray] <;> omega)
def tyV (K : PySem.W.Frag) (T : String) (x : V) (H : Hp) : Prop := match x with
 | .str _ => T = "str"
 | .int _ => T = "int"
 | .ref p => (T = "list" /\ ∃ xs, SqL K H p xs) \/ (T = "tuple" /\ ∃ o, K.lookup p = some o /\ o.cls = .type "tuple" /\ o.dict = none) \/
   (T = "dict" /\ ((∃ kvs, H p = some (.dK kvs)) \/ ∃ kvs, H p = some (.dT kvs))) \/ (T = "set" /\ ∃ S n, H p = some (.set S n))
 | _ => False
theorem tyV_is {pins : List (Addr × Obj)} {σ : St} {H : Hp} {s : Shared} {T : String} {x : V} {v : Value} (I : Inv X pins σ H s) (r : RelV x v) (ty : tyV X.K T x H) :
  s.TypeIs v T /\ ∀ a, v = .ref a -> ∃ ob, s.heap.get? a = some ob /\ ob.dict = none := by
 cases x with
 | str z =>
  obtain ⟨t, rfl⟩ := r
  cases (show T = "str" from ty)
  exact ⟨typeIs_str s z t, fun _ e => nomatch e⟩
 | int i =>
  obtain ⟨t, rfl⟩ := r
  cases (show T = "int" from ty)
  exact ⟨typeIs_int s i t, fun _ e => nomatch e⟩
 | ref p =>
  cases r
  rcases ty with ⟨rfl, xs, hq⟩ | ⟨rfl, o, hk, hc, hd⟩ | ⟨rfl, hk⟩ | ⟨rfl, S, n, hk⟩
  ·obtain ⟨its, _, pl, _⟩ := I.list hq
   refine ⟨pl.isList.typeIs, fun a e => ?_⟩
   cases e
   obtain ⟨o, n, e, c, hd, _⟩ := pl
   exact ⟨o, e, hd⟩
  ·refine ⟨⟨o, I.kIn p o hk, hc⟩, fun a e => ?_⟩
   cases e
   exact ⟨o, I.kIn _ o hk, hd⟩
  ·have z : ∃ o, s.heap.get? p = some o /\ o.ExactDict := by
    rcases hk with ⟨kvs, hk⟩ | ⟨kvs, hk⟩
    ·obtain ⟨_, _, _, _, o, _, _, e, ex, _⟩ := I.hok p _ hk
     exact ⟨o, e, ex⟩
    ·obtain ⟨_, _, _, _, o, _, _, e, ex, _⟩ := I.hok p _ hk
     exact ⟨o, e, ex⟩
   obtain ⟨o, e, ex⟩ := z
   refine ⟨⟨o, e, ex.1⟩, fun a e2 => ?_⟩
   cases e2
   exact ⟨o, e, ex.2.1⟩
  ·obtain ⟨o, _, _, _, e, ex, _⟩ := I.hok p _ hk
   refine ⟨⟨o, e, ex.1⟩, fun a e2 => ?_⟩
   cases e2
   exact ⟨o, e, ex.2.1⟩
 | _ => exact False.elim ty
def tBM (K : PySem.W.Frag) (T : String) (r : V -> List V -> Hp -> VK -> Prop) (to : TE) (t : TA) : TE := fun σ H Q => to σ H fun x H1 => tyV K T x H1 /\ t σ H1 fun xs H2 => r x xs H2 Q
variable {o e : Expr} {es : List Expr} {to : TE} {t : TA} {name : Str} {apos cpos : Pos} {T id : String} {r : V -> List V -> Hp -> VK -> Prop}
theorem pe_bm (pa : PlainAttrs T) (slot : Slot T name id) (hty : typeOf (.builtin id) = pure (.type "method_descriptor")) (hm : MtR X id r) (ho : PE X o to) (ha : PA X (e :: es) t)
  (hbase : attributeBase o name X.env (eval o X.env) = eval o X.env := by rfl)
  (hfew : ((backTo cpos (starEach (e :: es) X.env)).all (fun x => !x.1) && (backToKw cpos (keywordEach [] X.env)).all (fun x => x.1.isSome)
   && decide ((e :: es).length + ([] : List Keyword).length + (if ([] : List Keyword).isEmpty then 0 else 1) < 30)) = true := by rfl)
  (hline : (apos.endLine == cpos.line) = true := by rfl) (hs : starEach (e :: es) X.env = (false, eval e X.env) :: starEach es X.env := by rfl) (hplain : (backTo cpos (starEach es X.env)).any (·.1) = false := by rfl) :
  PE X (.Call (.Attribute o name apos) (e :: es) [] cpos) (tBM X.K T r to t) := by
 intro pins s σ H Q I h
 refine wpAny_Call_method_late hbase hfew hline rfl (thn (ho pins s σ H _ I h) fun v s1 ⟨x, H1, I1, r1, ty, q1⟩ => ?_)
 obtain ⟨h1, h2⟩ := tyV_is I1 r1 ty
 refine ⟨T, id, pa, slot, hty, h1, h2, ?_⟩
 have hA := ha cpos pins s1 σ H1 _ I1 q1
 rw [hs] at hA ⊢
 refine Calls.callWith_builtin (by show (false || (backTo cpos (starEach es X.env)).any (·.1)) = false; rw [hplain] <;> rfl) (Calls.evalArgs_plain ?_)
 exact thn hA fun us s2 ⟨vs, H2, I2, r2, q2⟩ => hm pins s2 σ H2 x vs v us Q I2 r1 r2 q2
/- xs.append(e), list.index on a module's tuple .. are MtR facts of 06m -/
end
def MtM (X : Cx) (id : String) (r : V -> List V -> Hp -> VK -> Prop) : Prop :=
 ∀ (pins : List (Addr × Obj)) (s : Shared) (σ : St) (H : Hp) (x : V) (xs : List V) (v : Value) (us : List Value) (Q : VK), Inv X pins σ H s -> RelV x v -> Vals xs us -> r x xs H Q ->
  wpAny (model X.prog X.w) X.A (call (.builtin id) (v :: us)) (EP X pins σ Q) X.xe s
theorem Vals.one : ∀ {x : V} {us : List Value}, Vals [x] us -> ∃ u, us = [u] /\ RelV x u
 | _, _, .cons r .nil => ⟨_, rfl, r⟩
section
variable {X : Cx} {pins : List (Addr × Obj)} {σ : St} {H : Hp} {s : Shared} {l b : Addr} {xs ys zs : List V}
theorem Inv.lset {its its' : List Value} {n : Nat} {f : Array Value -> Array Value} {t' : Nat} (I : Inv X pins σ H s) (hH : H l = some (.lst xs))
  (e : s.heap.get? l = some { cls := .type "list", data := .seq its.toArray n }) (hf : f its.toArray = its'.toArray) (hv : Vals ys its') (hz : ys.length <= sizeLine) :
  Inv X pins σ (upd H l (.lst ys)) { s with heap := s.heap.update l (Obj.mapSeq f), toks := t' } := by
 have q := PySem.IsL.update e f
 rw [hf] at q
 refine I.write (x := l) (e := l) (by rw [hH]; exact trivial) (.inl rfl) (fun b' u hb hu => (Heap.get?_update_other s.heap (Obj.mapSeq f) (Ne.symm hb)).trans hu) ⟨_, q⟩ ?_
 exact ⟨hz, its', _, hv, q⟩
theorem Inv.lnew {its : List Value} {t' : Nat} (I : Inv X pins σ H s) (hv : Vals ys its) (hz : ys.length <= sizeLine) :
  Inv X pins σ (upd H s.heap.objs.size (.lst ys)) { s with heap := s.heap.push { cls := .type "list", data := .seq its.toArray }, toks := t' } :=
 I.laid (fun _ _ q => Heap.get?_push_of_some _ q) (Nat.le_refl _) ⟨hz, its, 0, hv, Heap.get?_push_size _ rfl⟩
theorem Inv.fresh (I : Inv X pins σ H s) : H s.heap.objs.size = none := I.hok.fresh (Nat.le_refl _)
theorem Inv.lstM (I : Inv X pins σ H s) (hH : H l = some (.lst xs)) : xs.length <= sizeLine /\ ∃ (its : List Value) (n : Nat), Vals xs its /\ xs.length = its.length /\ s.heap.get? l = some { cls := .type "list", data := .seq its.toArray n } := by
 obtain ⟨z, its, n, r, e⟩ := I.hok l _ hH
 exact ⟨z, its, n, r, r.length, e⟩
theorem notLongL {n : Nat} (h : n <= sizeLine) : Builtin.List.listTooLong n = false := by
 unfold Builtin.List.listTooLong
 exact decide_eq_false (by omega)
end
section
variable {X : Cx}
def rAppend : V -> List V -> Hp -> VK -> Prop := fun x vs H Q => ∃ l xs y, x = .ref l /\ vs = [y] /\ H l = some (.lst xs) /\ xs.length < sizeLine /\ Q .non (upd H l (.lst (xs ++ [y])))
theorem mt_append : MtM X "list.append" rAppend := by
 intro pins s σ H x vs v us Q I rx rv h
 obtain ⟨l, xs, y, rfl, rfl, hH, hz, q⟩ := h
 cases rx
 obtain ⟨u, rfl, ru⟩ := rv.one
 obtain ⟨z, its, n, r, hl, e⟩ := I.lstM hH
 refine call_meets F.slot_list_append ⟨_, e, rfl⟩ F.entry_list_append (F.args_list_append_2 _ _) (PySem.list_append l its.toArray n u (by rw [List.size_toArray]; omega)) ⟨e, ?_⟩
 refine ⟨.non, _, I.lset (its' := its ++ [u]) hH e (by simp) (r.append (.cons ru .nil)) ?_, rfl, q⟩
 rw [List.length_append, List.length_singleton]
 omega
def rExtend : V -> List V -> Hp -> VK -> Prop := fun x vs H Q => ∃ l b xs zs, x = .ref l /\ vs = [.ref b] /\ H l = some (.lst xs) /\ H b = some (.lst zs) /\ xs.length + zs.length <= sizeLine /\ Q .non (upd H l (.lst (xs ++ zs)))
theorem mt_extend : MtM X "list.extend" rExtend := by
 intro pins s σ H x vs v us Q I rx rv h
 obtain ⟨l, b, xs, zs, rfl, rfl, hH, hB, hz, q⟩ := h
 cases rx
 obtain ⟨u, rfl, ru⟩ := rv.one
 cases ru
 obtain ⟨z, its, n, r, hl, e⟩ := I.lstM hH
 obtain ⟨z2, its2, n2, r2, hl2, e2⟩ := I.lstM hB
 have hsz : its.toArray.size + its2.toArray.size <= sizeLine := by rw [List.size_toArray, List.size_toArray]; omega
 have hlong : ¬ (!its.toArray.isEmpty && Builtin.List.listTooLong (its.toArray.size + its2.toArray.size)) = true := by
  rw [notLongL hsz, Bool.and_false]
  exact Bool.false_ne_true
 refine call_meets F.slot_list_extend ⟨_, e, rfl⟩ F.entry_list_extend (F.args_list_extend_2 _ _)
  (AutoSeq1.list_extend_list_list_0 l its.toArray n b its2.toArray n2 hlong (by rw [List.size_toArray]; omega) (by omega)) ⟨e, e2, ?_⟩
 refine ⟨.non, _, I.lset (its' := its ++ its2) hH e (by simp) (r.append r2) ?_, rfl, q⟩
 rw [List.length_append]
 omega
end
section
variable {prog : Program} {w : World} {A : Around} {E : Value -> Shared -> Prop} {s : Shared}
end
section
variable {X : Cx}
end
end L2
namespace Att
open PySem PySem.W PySem.Calls PyProof.Rows
theorem ints_of_wellAll {P : Params} {h : Heap} : ∀ (ns : List Int) (vs : List Value), WellAll P h vs (ns.map WData.int) -> IntsAre vs ns := by
 intro ns
 induction ns with
 | nil =>
  intro vs w
  rw [List.map_nil] at w
  cases w
  exact .nil
 | cons n ns ih =>
  intro vs w
  rw [List.map_cons] at w
  cases w with
  | cons a b =>
   cases a
   exact .cons _ _ (ih _ b)
theorem script_of {l : OpenLaw} {n : Nat} (hn : l.most = some n) {P : Params} {h : Heap} {args : List WData} {vals : List Value}
  (hpre : l.row.toRowW.claim.pre args = true) (hwl : WellAll P h vals args) :
  ∃ a vs ns, vals = [Value.ref a] /\ args = [WData.list (ns.map WData.int)] /\ h.get? a = some { cls := .type "list", data := .seq vs.toArray } /\ IntsAre vs ns /\ ns.length <= n := by
 have hsh : WShape.hasAll [] args [.list .int] = true := (pre_splitW hpre).1
 have hc : l.pre.holds [] { args := args } = true := (pre_splitW hpre).2
 obtain ⟨d, r, rfl, h1, h2⟩ := hasAllW_cons hsh
 obtain rfl := hasAllW_nil h2
 obtain ⟨xs, rfl, h3⟩ := hasW_list h1
 obtain ⟨ns, rfl⟩ := items_int h3
 have hlen : ns.length <= n := by
  unfold OpenLaw.pre at hc
  have h4 : (WTm.not (.lt (.lit (.int (n : Int))) (.len (.arg 0)))).holds [] { args := [.list (ns.map .int)] } = true := by
   have h4 := (holds_andW hc).1
   rw [hn] at h4
   exact h4
  have h5 := condW_of h4 (w_not (w_lt w_lit (w_len_list (w_arg rfl))))
  rw [List.length_map] at h5
  refine Nat.le_of_not_lt fun q => ?_
  have q' : (n : Int) < ((ns.length : Nat) : Int) := by omega
  first
   | (rw [decide_eq_true q'] at h5; exact absurd h5 (by decide))
   | (simp at h5; omega)
 cases hwl with
 | cons w1 w2 =>
  cases w2
  cases w1 with
  | list ho hall => exact ⟨_, _, ns, rfl, rfl, ho, ints_of_wellAll ns _ hall, hlen⟩
theorem post_true (l : OpenLaw) (args : List WData) : l.row.toRowW.claim.post args (.bool true) args = true :=
 postW_of (r := l.row.toRowW) (X := (true == true))
  (show WShape.has [] (.bool true) .bool = true by first | rfl | decide | simp [WShape.has, WShape.arms, WShape.armsAll])
  (show (WTm.eq .res (.lit (.bool true))).value [] { args := args, res := some (.bool true), after := args } = some (.bool (true == true)) from w_eq_bool (w_res rfl) w_lit) rfl
theorem attach_call {l : OpenLaw} {n : Nat} {q : Program} {loose : List Str} {XP : (Str -> Option Value) -> Heap -> Prop} {YP : World -> Heap -> Prop} {d : DefRec}
  (hn : l.most = some n) (hdf : d.params.defaults = [])
  (call : ∀ (w : World) (s₀ s₁ : Shared) (mg mb : Str -> Option Value) (fa : Addr) (o : Obj) (pm cd doc : Value) (a : Addr) (vs : List Value) (ns : List Int),
   Ground q loose [] XP w s₀ mg mb s₁.heap -> YP w s₁.heap ->
   s₁.heap.get? fa = some o -> o.data = .func (docDef d.name d.params d.body d.scope pm cd doc) -> s₁.heap.CodeRec cd d.name -> mg d.name = some (.ref fa) ->
   s₁.heap.get? a = some { cls := .type "list", data := .seq vs.toArray } -> IntsAre vs ns -> ns.length <= n -> s₁.gens = #[] ->
   codeAny (model l.prog w) callerA (.call (.ref fa) ⟨[.ref a], []⟩) (fun r s' => r = .ok (.ret (.bool true)) /\ OldK s₁.heap s'.heap /\ s'.os = s₁.os /\ AllBare s'.gens) s₁) :
  WalkO q loose XP YP l.row.toRowW d [] (fun f vs => PySem.call f vs) := by
 intro w s₀ s₁ mg mb G Y fa o pm cd doc dV kV ho hd hcd hD hmg hg args vals as hpre hlay hrd hwl hlo
 obtain rfl : dV = .none := Dflts.none hD hdf
 obtain rfl : kV = .none := Dflts.noKw hD
 obtain ⟨a, vs, ns, rfl, rfl, hobj, hints, hlen⟩ := script_of hn hpre hwl
 refine enter_call (codeAny_mono (call w s₀ s₁ mg mb fa o pm cd doc a vs ns G Y ho (fd_plain hd) hcd hmg hobj hints hlen hg) fun r s' hq => ?_)
 obtain ⟨rfl, h2, h3, h4⟩ := hq
 exact ⟨.inl ⟨.bool true, .bool true, [], rfl, fun _ => rfl, .bool true, post_true l _, fun _ => ⟨List.Pairwise.nil, fun _ hm => (nomatch hm)⟩⟩, h2, h3, h4⟩
section
variable {prog : Program} {w : World} {A : Around} {E : Value -> Shared -> Prop} {s : Shared} {K : Frag}
end
end Att
namespace L2
open PySem PySem.Spec PyProof.Rows
theorem vals_ints : ∀ {vs : List Value} {ns : List Int}, IntsAre vs ns -> Vals (ns.map V.int) vs
 | _, _, .nil => .nil
 | _, _, .cons n t h => .cons ⟨t, rfl⟩ (vals_ints h)
def Only (H : Hp) : Prop := ∀ b, H b = none \/ ∃ o xs, H b = some (.frz o (.lst xs))
theorem law_call {P : Program} {w : World} {K : PySem.W.Frag} {mg mb : Str -> Option Value} {CX : CXT} {k : Nat} {fa a : Addr} {fd : FuncData} {x : Str} {sp : Sp} {s₁ : Shared} {vs : List Value} {ns : List Int}
  (KX : K.In s₁.heap) (hns : s₁.heap.Ns mainGlobals mg) (hb : s₁.heap.Ns builtinsNs mb) (hbb : ∀ x : Str, x ≠ "__name__" -> mb x = bootBuiltins x) (hlim : s₁.heap.NoLimit) (hg : s₁.gens = #[])
  (ha : s₁.heap.get? a = some { cls := .type "list", data := .seq vs.toArray }) (hi : IntsAre vs ns) (hl : ns.length <= sizeLine) (hr : Room k callerA)
  (F : ∀ base : Heap, K.In base -> base.Ns mainGlobals mg -> FnOk P w K mg base CX k fa fd [x] sp) (hbind : ∀ (s : Shared) (u : Value), BindsTo s fd ⟨[u], []⟩ [(x, u)])
  (hsp : ∀ H : Hp, Only H -> SqL K H a (ns.map V.int) -> sp [.ref a] H (fun v _ => v = .bl true) fun _ _ _ => False)
  (hCX : ∀ H e s', CX [] H s₁ (fun _ _ _ => False) e s' -> False) :
  codeAny (model P w) callerA (.call (.ref fa) ⟨[.ref a], []⟩) (fun r s' => r = .ok (.ret (.bool true)) /\ OldK s₁.heap s'.heap /\ s'.os = s₁.os /\ AllBare s'.gens) s₁ := by
 have rv := vals_ints hi
 have lenV := hi.length
 -- from an abstract heap in which nothing but the script may be tracked
 have core : ∀ H : Hp, Only H -> SqL K H a (ns.map V.int) -> HOk P w H s₁.heap -> (∀ b, H b ≠ none -> b = a) -> (H a ≠ none -> K.lookup a = none) ->
   codeAny (model P w) callerA (.call (.ref fa) ⟨[.ref a], []⟩) (fun r s' => r = .ok (.ret (.bool true)) /\ OldK s₁.heap s'.heap /\ s'.os = s₁.os /\ AllBare s'.gens) s₁ := by
  intro H hO hS hok hA hK
  have base_of : ∀ {b : Addr} {o : Obj}, s₁.heap.get? b = some o -> H b = none -> (hidT s₁.heap H).get? b = some o := fun e n => hidT_get e n
  have noA : ∀ {b : Addr} {o : Obj} {es : Array DictEntry} {ep : Nat}, s₁.heap.get? b = some o -> o.data = .dict es ep -> H b = none := fun {b o es ep} e d => by
   cases q : H b with
   | none => rfl
   | some u =>
    have e' : b = a := hA b (by rw [q]; simp)
    subst e'
    rw [ha] at e; cases e
    have d' : Data.seq vs.toArray _ = Data.dict es ep := d
    cases d'
  have nsK : ∀ {b : Addr} {m : Str -> Option Value}, s₁.heap.Ns b m -> (hidT s₁.heap H).Ns b m := fun {b m} ⟨o, es, ep, e, d, r⟩ => ⟨o, es, ep, base_of e (noA e d), d, r⟩
  have hKb : K.In (hidT s₁.heap H) := fun b o e => base_of (KX b o e) (by
   cases q : H b with
   | none => rfl
   | some u =>
    have e' : b = a := hA b (by rw [q]; simp)
    subst e'
    rw [hK (by rw [q]; simp)] at e; cases e)
  have hM : Mod K mg (hidT s₁.heap H) := ⟨hKb, nsK hns, ⟨mb, nsK hb, hbb⟩, let ⟨mc, h1, h2⟩ := hlim; ⟨mc, nsK h1, h2⟩⟩
  have e0 : Env0 P w K mg (hidT s₁.heap H) callerA [] s₁ H := ⟨rfl, hM, fun b o e => of_hidT e, Nat.le_of_eq (hidT_size _ _), trivial, fun b hb => absurd (show b ∈ ([] : List Addr) from hb) (by simp), hok, .of_eq hg⟩
  refine codeAny_mono ((F _ hKb (nsK hns)).run callerA [] s₁ H ⟨[.ref a], []⟩ [.ref a] [.ref a] _ _ hr e0 (hbind s₁ (.ref a)) (.cons rfl .nil) (hsp H hO hS)) fun r s' h => ?_
  cases r with
  | error e => exact (hCX H e s' h).elim
  | ok fl =>
   cases fl with
   | next => exact False.elim h
   | brk => exact False.elim h
   | cont => exact False.elim h
   | ret u =>
    obtain ⟨v, H', os, bare, un, hok', r', q⟩ := h
    have q' : v = .bl true := q
    subst q'
    obtain rfl : u = Value.bool true := r'
    refine ⟨rfl, OldK.of_keep fun b o e => ?_, os, bare⟩
    cases q : H b with
    | none => exact un.keep b o e q (by intro z; exact absurd (show b ∈ ([] : List Addr) from z) (by simp)) (by simp)
    | some u =>
     rcases hO b with z | ⟨ob, xs, z⟩
     ·rw [q] at z; cases z
     ·have z2 := un.frzs b ob _ z
      obtain ⟨e1, _⟩ := hok b _ z
      obtain ⟨e2, _⟩ := hok' b _ z2
      rw [e] at e1; cases e1
      exact e2
 cases hk : K.lookup a with
 | some o =>
  -- the script is one of the module's own objects
  have e := KX a o hk
  rw [ha] at e
  cases e
  refine core (fun _ => none) (fun _ => .inl rfl) (.inr ⟨_, vs.toArray, _, hk, rfl, rfl, rfl, by rw [List.size_toArray, lenV]; exact hl, by simpa using rv⟩) (fun b u z => by have z' : (none : Option HO) = some u := z; cases z') (fun b z => absurd rfl z) fun z => absurd rfl z
 | none =>
  refine core (fun b => if b = a then some (.frz { cls := .type "list", data := .seq vs.toArray } (.lst (ns.map V.int))) else none) (fun b => ?_) (.inl (.inr ⟨{ cls := .type "list", data := .seq vs.toArray }, if_pos rfl⟩)) (fun b u z => ?_) (fun b z => ?_) fun _ => hk
  ·by_cases hb : b = a
   ·exact .inr ⟨_, _, if_pos hb⟩
   ·exact .inl (if_neg hb)
  ·by_cases hb : b = a
   ·have z' := (if_pos hb).symm.trans z
    cases z'
    subst hb
    exact ⟨ha, by rw [List.length_map]; exact hl, vs, _, rv, ha⟩
   ·have z' := (if_neg hb).symm.trans z
    cases z'
  ·by_cases hb : b = a
   ·exact hb
   ·exact absurd (if_neg hb) z
theorem walk_of {l : PySem.W.OpenLaw} {n k : Nat} {q : Program} {loose : List Str} {XP : (Str -> Option Value) -> Heap -> Prop} {YP : World -> Heap -> Prop} {d : DefRec} {K : Params -> PySem.W.Frag} {CX : World -> CXT} {sp : World -> Sp} {x : Str}
  (hn : l.most = some n) (hn2 : n <= sizeLine) (hdf : d.params.defaults = []) (hr : Room k callerA)
  (hY : ∀ (w : World) (h : Heap), YP w h -> (K w.params).In h)
  (F : ∀ (w : World) (mg : Str -> Option Value) (fa : Addr) (h : Heap), (K w.params).In h -> h.Ns mainGlobals mg -> mg d.name = some (.ref fa) ->
   ∃ fd : FuncData, (∀ (s : Shared) (u : Value), BindsTo s fd ⟨[u], []⟩ [(x, u)]) /\
    ∀ base : Heap, (K w.params).In base -> base.Ns mainGlobals mg -> FnOk l.prog w (K w.params) mg base (CX w) k fa fd [x] (sp w))
  (hsp : ∀ (w : World) (H : Hp) (a : Addr) (ns : List Int), ns.length <= n -> Only H -> SqL (K w.params) H a (ns.map V.int) -> sp w [.ref a] H (fun v _ => v = .bl true) fun _ _ _ => False)
  (hCX : ∀ (w : World) (H : Hp) (s : Shared) (e : Value) (s' : Shared), CX w [] H s (fun _ _ _ => False) e s' -> False) :
  PySem.W.WalkO q loose XP YP l.row.toRowW d [] (fun f vs => PySem.call f vs) := by
 refine Att.attach_call hn hdf fun w s₀ s₁ mg mb fa o pm cd doc a vs ns G Y ho hd hcd hmg hobj hints hlen hg => ?_
 have KX := hY w _ Y
 obtain ⟨fd, hb, hF⟩ := F w mg fa _ KX G.T.g hmg
 exact law_call KX G.T.g G.T.b G.T.builtins G.T.nolimit hg hobj hints (Nat.le_trans hlen hn2) hr hF hb (fun H hO hS => hsp w H a ns hlen hO hS) fun H e s' => hCX w H s₁ e s'
theorem walk_ofK {l : PySem.W.OpenLaw} {n k : Nat} {q : Program} {loose : List Str} {XP : (Str -> Option Value) -> Heap -> Prop} {YP : World -> Heap -> Prop} {d : DefRec} {K : Params -> PySem.W.Frag} {CX : CXT} {sp : PySem.W.Frag -> Sp} {x : Str}
  (hn : l.most = some n) (hn2 : n <= sizeLine) (hdf : d.params.defaults = []) (hr : Room k callerA)
  (hY : ∀ (w : World) (h : Heap), YP w h -> (K w.params).In h)
  (F : ∀ (w : World) (mg : Str -> Option Value) (fa : Addr) (h : Heap), (K w.params).In h -> h.Ns mainGlobals mg -> mg d.name = some (.ref fa) ->
   ∃ fd : FuncData, (∀ (s : Shared) (u : Value), BindsTo s fd ⟨[u], []⟩ [(x, u)]) /\
    ∀ base : Heap, (K w.params).In base -> base.Ns mainGlobals mg -> FnOk l.prog w (K w.params) mg base CX k fa fd [x] (sp (K w.params)))
  (hsp : ∀ (K : PySem.W.Frag) (H : Hp) (a : Addr) (ns : List Int), ns.length <= n -> Only H -> SqL K H a (ns.map V.int) -> sp K [.ref a] H (fun v _ => v = .bl true) fun _ _ _ => False)
  (hCX : ∀ (H : Hp) (s : Shared) (e : Value) (s' : Shared), CX [] H s (fun _ _ _ => False) e s' -> False) :
  PySem.W.WalkO q loose XP YP l.row.toRowW d [] (fun f vs => PySem.call f vs) :=
 walk_of (K := K) (CX := fun _ => CX) (sp := fun w => sp (K w.params)) hn hn2 hdf hr hY F (fun w H a ns h1 h2 h3 => hsp (K w.params) H a ns h1 h2 h3) fun _ H s e s' => hCX H s e s'
noncomputable def defArgs (s : Stmt) : Arguments := match s with
 | .FunctionDef _ a _ _ _ _ _ _ _ _ => a
 | _ => { posonlyargs := [], args := [], vararg := none, kwonlyargs := [], kw_defaults := [], kwarg := none, defaults := [] }
noncomputable def defBody (s : Stmt) : List Stmt := match s with
 | .FunctionDef _ _ b _ _ _ _ _ _ _ => b
 | _ => []
noncomputable def defScope (s : Stmt) : Scope := match s with
 | .FunctionDef _ _ _ _ _ _ sc _ _ _ => sc
 | _ => { kind := .function, names := [], isGenerator := false, isCoroutine := false }
abbrev CX0 : CXT := fun _ _ _ _ _ _ => False
abbrev E0 : XK := fun _ _ _ => False
theorem pass0 {X : Cx} : Passes CX0 X E0 := fun _ _ _ _ _ _ _ h => h.elim
structure Fun (K : PySem.W.Frag) (x qual : Str) (st : Stmt) (f : Addr) (fd : FuncData) : Prop where
 ex : ∃ (oc : Value) (od : Option Addr) (kV doc pm : Value) (an : Option Addr) (cdv ct : Value) (osl : Array (Option Value)),
  fd = PySem.W.fnOf x qual (defArgs st) (defBody st) (defScope st) .none kV doc pm an cdv ct /\ K.lookup f = some ⟨oc, od, .func fd, osl⟩ /\ PySem.W.codeIn K cdv qual = true
 kp : PySem.W.keepIn K (.ref f) = true
section
variable {P : Program} {w : World} {K : PySem.W.Frag} {mg : Str -> Option Value} {base : Heap}
theorem Fun.ok {x qual : Str} {st : Stmt} {f : Addr} {fd : FuncData} {N ps : List Str} {k : Nat} {sp : Sp} (F : Fun K x qual st f fd) (S : FnScope N ps (defScope st)) (len : ∀ vs H Q E, sp vs H Q E -> vs.length = ps.length)
  (hbody : ∀ (cdv : Value) (A : Around) (outer : List Env) (s : Shared) (H : Hp) (vs : List V) (Q : VK) (E : XK), Room k (A.deeper (envOfC qual (defScope st) s.heap.objs.size f cdv)) -> sp vs H Q E ->
   ∃ t, PSs (cxOf CX0 P w K mg base N qual (defScope st) f cdv A outer s H E).nox (defBody st) t /\ t { nx := fun _ H' => Q .non H', rt := Q } (start N vs) H) : FnOk P w K mg base CX0 (k + 1) f fd ps sp := by
 obtain ⟨oc, od, kV, doc, pm, an, cdv, ct, osl, rfl, lk, hcd⟩ := F.ex
 refine fn_of lk hcd S len fun A outer s H vs Q E hr hsp => ?_
 obtain ⟨t, h, q⟩ := hbody cdv A outer s H vs Q E hr hsp
 exact ⟨t, h.nox, q⟩
theorem Fun.binds {x qual : Str} {st : Stmt} {f : Addr} {fd : FuncData} {ps : List Str} (F : Fun K x qual st f fd)
  (h : ∀ (kV doc pm : Value) (an : Option Addr) (cdv ct : Value) (us : List Value), us.length = ps.length -> bindArgs (PySem.W.fnOf x qual (defArgs st) (defBody st) (defScope st) .none kV doc pm an cdv ct) ⟨us, []⟩ = pure (ps.zip us)) : Binds K fd ps [] := by
 obtain ⟨oc, od, kV, doc, pm, an, cdv, ct, osl, rfl, lk, hcd⟩ := F.ex
 exact .all (h kV doc pm an cdv ct)
theorem fun_mk {x qual : Str} {st : Stmt} {f : Addr} {oc : Value} {od an : Option Addr} {osl : Array (Option Value)} {kV doc pm cdv ct : Value} (l : K.lookup f = some ⟨oc, od, .func (PySem.W.fnOf x qual (defArgs st) (defBody st) (defScope st) .none kV doc pm an cdv ct), osl⟩)
  (c : PySem.W.codeIn K cdv qual = true) (k : PySem.W.keepIn K (.ref f) = true) : Fun K x qual st f (PySem.W.fnOf x qual (defArgs st) (defBody st) (defScope st) .none kV doc pm an cdv ct) := ⟨⟨oc, od, kV, doc, pm, an, cdv, ct, osl, rfl, l, c⟩, k⟩
end
section
variable {X : Cx}
theorem pv (i : Nat) {x : Str} {pos : Pos} (hN : X.N[i]? = some x := by rfl) (hv : Vis X.env.scope x := by walk_at "vi") (hd : (x == ("__debug__" : Str)) = false := by decide)
  (hcd : (x == ("__classdict__" : Str)) = false := by decide) : PE X (.Name x pos) (tVar i) := pe_var hN hv hd hcd
end
def Same (H H' : Hp) : Prop := ∀ b o, H b = some o -> H' b = some o
theorem Same.refl (H : Hp) : Same H H := fun _ _ h => h
theorem Same.trans {H H1 H2 : Hp} (a : Same H H1) (b : Same H1 H2) : Same H H2 := fun c o h => b c o (a c o h)
theorem Same.free {H H' : Hp} (e : Same H H') {l : Addr} (h : H' l = Option.none) : H l = Option.none := by
 cases q : H l with
 | none => rfl
 | some o =>
  rw [e l o q] at h
  cases h
end L2
set_option maxHeartbeats 4000000
namespace L2
open PySem PySem.Spec PyProof.Rows
section
variable {κ : Type} [DecidableEq κ]
noncomputable def valV (kvs : List (κ × V)) (k : κ) : Option V := (kvs.find? fun kv => decide (kv.1 = k)).map (·.2)
noncomputable def putK (kvs : List (κ × V)) (k : κ) (v : V) : List (κ × V) :=
 if (kvs.any fun kv => decide (kv.1 = k)) = true then kvs.map (fun kv => if kv.1 = k then (kv.1, v) else kv) else kvs ++ [(k, v)]
theorem valV_pos {p : κ × V} {r : List (κ × V)} {k : κ} (e : p.1 = k) : valV (p :: r) k = some p.2 := by simp [valV, List.find?_cons, e]
theorem valV_neg {p : κ × V} {r : List (κ × V)} {k : κ} (e : ¬ p.1 = k) : valV (p :: r) k = valV r k := by simp [valV, List.find?_cons, e]
theorem valV_any (k : κ) : ∀ kvs : List (κ × V), (kvs.any fun kv => decide (kv.1 = k)) = (valV kvs k).isSome
 | [] => rfl
 | p :: r => by
  rw [List.any_cons]
  by_cases e : p.1 = k
  ·simp only [valV_pos e, decide_eq_true e, Bool.true_or, Option.isSome_some]
  ·rw [valV_neg e, decide_eq_false e, Bool.false_or]; exact valV_any k r
theorem length_putK (kvs : List (κ × V)) (k : κ) (v : V) : (putK kvs k v).length <= kvs.length + 1 := by
 unfold putK
 split
 ·rw [List.length_map]; omega
 ·rw [List.length_append, List.length_cons, List.length_nil]; omega
theorem RelO.isSome_eq {o : Option V} {u : Option Value} (r : RelO o u) : o.isSome = u.isSome := by
 cases o with
 | none => cases u with
  | none => rfl
  | some _ => exact (show False from r).elim
 | some _ => cases u with
  | none => exact (show False from r).elim
  | some _ => rfl
theorem KV.val {kvs : List (κ × V)} {vs : List (κ × Value)} (r : KV kvs vs) (k : κ) : RelO (valV kvs k) (valueAt vs k) := by
 unfold KV at r
 induction r with
 | nil => exact True.intro
 | @cons p q ps qs h t ih =>
  obtain ⟨h1, h2⟩ := h
  by_cases e : p.1 = k
  ·have e' : q.1 = k := h1.symm.trans e
   have b : valueAt (q :: qs) k = some q.2 := by simp [valueAt, List.find?_cons, e']
   rw [valV_pos e, b]; exact h2
  ·have e' : ¬ q.1 = k := fun z => e (h1.trans z)
   have b : valueAt (q :: qs) k = valueAt qs k := by simp [valueAt, List.find?_cons, e']
   rw [valV_neg e, b]; exact ih
theorem KV.any {kvs : List (κ × V)} {vs : List (κ × Value)} (r : KV kvs vs) (k : κ) : (kvs.any fun kv => decide (kv.1 = k)) = vs.any fun kv => decide (kv.1 = k) := by
 unfold KV at r
 induction r with
 | nil => rfl
 | cons h t ih => rw [List.any_cons, List.any_cons, ih, h.1]
theorem KV.repl {kvs : List (κ × V)} {vs : List (κ × Value)} (r : KV kvs vs) (k : κ) {y : V} {u : Value} (ry : RelV y u) :
  KV (kvs.map fun kv => if kv.1 = k then (kv.1, y) else kv) (vs.map fun kv => if kv.1 = k then (kv.1, u) else kv) := by
 unfold KV at r ⊢
 induction r with
 | nil => exact .nil
 | @cons p q ps qs h t ih =>
  rw [List.map_cons, List.map_cons]
  refine .cons ?_ ih
  obtain ⟨h1, h2⟩ := h
  by_cases e : p.1 = k
  ·rw [if_pos e, if_pos (h1.symm.trans e)]; exact ⟨h1, ry⟩
  ·rw [if_neg e, if_neg (fun z => e (h1.trans z))]; exact ⟨h1, h2⟩
theorem KV.put {kvs : List (κ × V)} {vs : List (κ × Value)} (r : KV kvs vs) (k : κ) {y : V} {u : Value} (ry : RelV y u) : KV (putK kvs k y) (stored vs k u) := by
 unfold putK stored
 rw [r.any k]
 by_cases e : (vs.any fun kv => decide (kv.1 = k)) = true
 ·rw [if_pos e, if_pos e]; exact r.repl k ry
 ·rw [if_neg e, if_neg e]; exact Paired.snoc r ⟨rfl, ry⟩
theorem KV.length {kvs : List (κ × V)} {vs : List (κ × Value)} (r : KV kvs vs) : kvs.length = vs.length := Paired.length r
end
theorem kV_is {P : Program} {w : World} {k : Key} {u : Value} (r : RelV (kV k) u) : (mixKind P w).is k u = true := by
 cases k with
 | inl i => obtain ⟨t, e⟩ := (show ∃ t, u = Value.int i t from r); subst e; exact mixKind_int P w i t
 | inr x => obtain ⟨t, e⟩ := (show ∃ t, u = Value.str x t from r); subst e; exact mixKind_str P w x t
theorem items_are {P : Program} {w : World} : ∀ {ks : List Key} {us : List Value}, Vals (ks.map kV) us -> ItemsAre (mixKind P w) ks us
 | [], _, r => by rw [List.map_nil] at r; cases r; exact .nil
 | k :: ks, _, r => by
  rw [List.map_cons] at r
  cases r with
  | cons h t => exact .cons (kV_is h) (items_are t)
abbrev KT (H : Hp) : List (List Key × V) -> List (List Key × Addr × Value) -> Prop := Paired fun p q => p.1 = q.1 /\ H q.2.1 = some (.tup (p.1.map kV)) /\ RelV p.2 q.2.2
theorem KT.val {H : Hp} {kvs : List (List Key × V)} {xs : List (List Key × Addr × Value)} (r : KT H kvs xs) (k : List Key) : RelO (valV kvs k) ((atKey xs k).map (·.2)) := by
 induction r with
 | nil => exact True.intro
 | @cons p q ps qs h t ih =>
  obtain ⟨h1, _, h2⟩ := h
  by_cases e : p.1 = k
  ·have e' : q.1 = k := h1.symm.trans e
   have b : atKey (q :: qs) k = some q.2 := by simp [atKey, List.find?_cons, e']
   rw [valV_pos e, b]; exact h2
  ·have e' : ¬ q.1 = k := fun z => e (h1.trans z)
   have b : atKey (q :: qs) k = atKey qs k := by simp [atKey, List.find?_cons, e']
   rw [valV_neg e, b]; exact ih
theorem KT.repl {H : Hp} {kvs : List (List Key × V)} {xs : List (List Key × Addr × Value)} (r : KT H kvs xs) (k : List Key) {y : V} {u : Value} (ry : RelV y u) :
  KT H (kvs.map fun kv => if kv.1 = k then (kv.1, y) else kv) (xs.map (putAt k u)) := by
 induction r with
 | nil => exact .nil
 | @cons p q ps qs h t ih =>
  rw [List.map_cons, List.map_cons]
  refine .cons ?_ ih
  obtain ⟨h1, h2, h3⟩ := h
  unfold putAt
  by_cases e : p.1 = k
  ·rw [if_pos e, if_pos (h1.symm.trans e)]; exact ⟨h1, h2, ry⟩
  ·rw [if_neg e, if_neg (fun z => e (h1.trans z))]; exact ⟨h1, h2, h3⟩
theorem KT.put {H : Hp} {kvs : List (List Key × V)} {xs : List (List Key × Addr × Value)} (r : KT H kvs xs) (k : List Key) {b : Addr} {y : V} {u : Value} (hb : H b = some (.tup (k.map kV))) (ry : RelV y u) :
  KT H (putK kvs k y) (storedH xs k b u) := by
 have e : (kvs.any fun kv => decide (kv.1 = k)) = (atKey xs k).isSome := by
  rw [valV_any, (r.val k).isSome_eq, Option.isSome_map]
 unfold putK storedH
 rw [e]
 by_cases q : (atKey xs k).isSome = true
 ·rw [if_pos q, if_pos q]; exact r.repl k ry
 ·rw [if_neg q, if_neg q]; exact Paired.snoc r ⟨rfl, hb, ry⟩
theorem KT.keeps {H H' : Hp} {kvs : List (List Key × V)} {xs : List (List Key × Addr × Value)} (r : KT H kvs xs) (ht : ∀ b ys, H b = some (.tup ys) -> H' b = some (.tup ys)) : KT H' kvs xs :=
 Paired.mapP r fun _ _ z => ⟨z.1, ht _ _ z.2.1, z.2.2⟩
section
variable {P : Program} {w : World} {H : Hp} {h : Heap} {a : Addr}
theorem rd_of {u : HO} (ok : HOk P w H h) (e : Rd H a u) : ObjOk P w H h a u := e.ok ok
theorem dk_rd {kvs : List (Key × V)} (ok : HOk P w H h) (e : Rd H a (.dK kvs)) : kvs.length <= sizeLine /\ (a == sysModules) = false /\ ∃ vs, KV kvs vs /\ h.DictOf (mixKind P w) a vs :=
 show ObjOk P w H h a (.dK kvs) from rd_of ok e
theorem dk_of {kvs : List (Key × V)} (ok : HOk P w H h) (e : H a = some (.dK kvs)) : kvs.length <= sizeLine /\ (a == sysModules) = false /\ ∃ vs, KV kvs vs /\ h.DictOf (mixKind P w) a vs := dk_rd ok (.inl e)
theorem key_of {ks : List Key} (ok : HOk P w H h) (e : H a = some (.tup (ks.map kV))) : (tupleKind (mixKind P w)).is h ks a := by
 obtain ⟨_, its, r, o, h1, h2, n, h3⟩ := (show ObjOk P w H h a (.tup (ks.map kV)) from ok a _ e)
 exact ⟨o, its.toArray, n, h1, h2, h3, by simpa using items_are r⟩
theorem dt_rd {kvs : List (List Key × V)} (ok : HOk P w H h) (e : Rd H a (.dT kvs)) : kvs.length <= sizeLine /\ (a == sysModules) = false /\
  ∃ xs, KT H kvs xs /\ h.DictOfH (tupleKind (mixKind P w)) a xs := by
 obtain ⟨z, y, xs, r, o, es, ep, h1, h2, h3, h4, h5⟩ := (show ObjOk P w H h a (.dT kvs) from rd_of ok e)
 refine ⟨z, y, xs, r, o, es, ep, h1, h2, h3, h4, fun x hx => ?_, h5⟩
 have all : ∀ {l : List (List Key × V)} {m : List (List Key × Addr × Value)}, KT H l m -> ∀ x ∈ m, (tupleKind (mixKind P w)).is h x.1 x.2.1 := by
  intro l m q
  induction q with
  | nil => intro x hx; exact nomatch hx
  | @cons p q ps qs hq t ih =>
   intro x hx
   rcases List.mem_cons.mp hx with e | hx
   ·subst e
    exact key_of ok (by rw [<- hq.1]; exact hq.2.1)
   ·exact ih x hx
 exact all r x hx
theorem dt_of {kvs : List (List Key × V)} (ok : HOk P w H h) (e : H a = some (.dT kvs)) : kvs.length <= sizeLine /\ (a == sysModules) = false /\
  ∃ xs, KT H kvs xs /\ h.DictOfH (tupleKind (mixKind P w)) a xs := dt_rd ok (.inl e)
end
def DGet (H : Hp) (a : Addr) (y : V) (r : Option V) : Prop :=
 (∃ kvs k, Rd H a (.dK kvs) /\ y = kV k /\ r = valV kvs k) \/ ∃ kvs k b, Rd H a (.dT kvs) /\ y = .ref b /\ H b = some (.tup (k.map kV)) /\ r = valV kvs k
def DPut (H : Hp) (a : Addr) (y v : V) (H' : Hp) : Prop :=
 (∃ kvs k, H a = some (.dK kvs) /\ y = kV k /\ kvs.length < sizeLine /\ H' = upd H a (.dK (putK kvs k v))) \/
 ∃ kvs k b, H a = some (.dT kvs) /\ y = .ref b /\ H b = some (.tup (k.map kV)) /\ kvs.length < sizeLine /\ H' = upd H a (.dT (putK kvs k v))
theorem DPut.k {H : Hp} {a : Addr} {kvs : List (Key × V)} {k : Key} {v : V} (e : H a = some (.dK kvs)) (hl : kvs.length < sizeLine) : DPut H a (kV k) v (upd H a (.dK (putK kvs k v))) := .inl ⟨kvs, k, e, rfl, hl, rfl⟩
section
variable {X : Cx} {pins : List (Addr × Obj)} {σ : St} {H : Hp} {s : Shared} {a : Addr} {y v : V} {u r : Value} {o : Option V} {A : Around} {E : Value -> Shared -> Prop}
theorem Inv.big (I : Inv X pins σ H s) : sysModules < s.heap.objs.size := by
 have h : mainGlobals < s.heap.objs.size := (I.mod.glob.keeps I.bk).lt
 exact Nat.lt_trans (by decide) h
theorem d_getItem {Q : Value -> Shared -> Prop} (hu : A.units + 1 < cLine) (I : Inv X pins σ H s) (g : DGet H a y (some v)) (ry : RelV y u) (h : ∀ w' s', Inv X pins σ H s' -> RelV v w' -> Q w' s') :
  wpAny (model X.prog X.w) A (getItem (.ref a) u) Q E s := by
 rcases g with ⟨kvs, k, e, ey, l⟩ | ⟨kvs, k, b, e, ey, eb, l⟩
 ·subst ey
  obtain ⟨z, hd, vs, rel, dd⟩ := dk_rd I.hok e
  obtain ⟨w', hw, rw'⟩ := RelO.some_of (v := v) (o := valueAt vs k) (by rw [l]; exact rel.val k)
  exact wpAny_getItem_of (kV_is ry) dd.mapOf hw (h w' _ (I.tok _) rw')
 ·subst ey
  cases (show u = Value.ref b from ry)
  obtain ⟨z, hd, xs, rel, dd⟩ := dt_rd I.hok e
  obtain ⟨w', hw, rw'⟩ := RelO.some_of (v := v) (o := (atKey xs k).map (·.2)) (by rw [l]; exact rel.val k)
  obtain ⟨p, hp, hp2⟩ := omE hw
  refine wpAny_getItem_heap (tupleKind_room_in1 hu) (key_of I.hok eb) dd hp ?_
  rw [hp2]
  exact h w' _ (I.tok _) rw'
theorem d_in {Q : Value -> Shared -> Prop} (hu : A.units + 1 < cLine) (I : Inv X pins σ H s) (g : DGet H a y o) (ry : RelV y u) (h : ∀ s', Inv X pins σ H s' -> Q (.bool o.isSome) s') :
  wpAny (model X.prog X.w) A (compareOp .In u (.ref a)) Q E s := by
 rcases g with ⟨kvs, k, e, ey, l⟩ | ⟨kvs, k, b, e, ey, eb, l⟩
 ·subst ey
  obtain ⟨z, hd, vs, rel, dd⟩ := dk_rd I.hok e
  refine wpAny_in_of (kV_is ry) hd dd.mapOf ?_
  rw [<- (rel.val k).isSome_eq, <- l]
  exact h _ (I.tok _)
 ·subst ey
  cases (show u = Value.ref b from ry)
  obtain ⟨z, hd, xs, rel, dd⟩ := dt_rd I.hok e
  refine wpAny_in_heap (tupleKind_room_in1 hu) (key_of I.hok eb) hd dd ?_
  have q := (rel.val k).isSome_eq
  rw [Option.isSome_map] at q
  rw [<- q, <- l]
  exact h _ (I.tok _)
theorem d_notIn {Q : Value -> Shared -> Prop} (hu : A.units + 1 < cLine) (I : Inv X pins σ H s) (g : DGet H a y o) (ry : RelV y u) (h : ∀ s', Inv X pins σ H s' -> Q (.bool (!o.isSome)) s') :
  wpAny (model X.prog X.w) A (compareOp .NotIn u (.ref a)) Q E s := by
 rcases g with ⟨kvs, k, e, ey, l⟩ | ⟨kvs, k, b, e, ey, eb, l⟩
 ·subst ey
  obtain ⟨z, hd, vs, rel, dd⟩ := dk_rd I.hok e
  refine wpAny_notIn_of (kV_is ry) hd dd.mapOf ?_
  rw [<- (rel.val k).isSome_eq, <- l]
  exact h _ (I.tok _)
 ·subst ey
  cases (show u = Value.ref b from ry)
  obtain ⟨z, hd, xs, rel, dd⟩ := dt_rd I.hok e
  refine wpAny_notIn_heap (tupleKind_room_in1 hu) (key_of I.hok eb) hd dd ?_
  have q := (rel.val k).isSome_eq
  rw [Option.isSome_map] at q
  rw [<- q, <- l]
  exact h _ (I.tok _)
theorem d_write {h' : Heap} {t' : Nat} {ob : HO} (I : Inv X pins σ H s) (mu : Mut (H a)) (hs : Heap.SameBut a s.heap h') (he : ∃ q, h'.get? a = some q) (new : ObjOk X.prog X.w (upd H a ob) h' a ob) :
  Inv X pins σ (upd H a ob) { s with heap := h', toks := t' } :=
 I.write (x := a) (e := a) mu (.inl rfl) (fun b q hb z => (hs.2 b hb).trans z) he new
theorem dk_new {P : Program} {w : World} {H' : Hp} {h' : Heap} {kvs : List (Key × V)} {vs : List (Key × Value)} (z : kvs.length <= sizeLine) (hd : (a == sysModules) = false) (rel : KV kvs vs) (dd : h'.DictOf (mixKind P w) a vs) :
  ObjOk P w H' h' a (.dK kvs) := ⟨z, hd, vs, rel, dd⟩
theorem d_setItem {H' : Hp} {Q : Unit -> Shared -> Prop} (hu : A.units + 1 < cLine) (I : Inv X pins σ H s) (g : DPut H a y v H') (ry : RelV y u) (rv : RelV v r) (h : ∀ s', Inv X pins σ H' s' -> Q () s') :
  wpAny (model X.prog X.w) A (setItem (.ref a) u r) Q E s := by
 rcases g with ⟨kvs, k, e, ey, l, eH⟩ | ⟨kvs, k, b, e, ey, eb, l, eH⟩
 ·subst ey eH
  obtain ⟨z, hd, vs, rel, dd⟩ := dk_of I.hok e
  have hz : vs.length <= sizeLine := by rw [<- rel.length]; exact z
  have hl : (putK kvs k v).length <= sizeLine := by have := length_putK kvs k v; omega
  refine wpAny_setItem_pairs (hsz := hz) (kV_is ry) dd fun h' dd' hs => h _ ?_
  have he : ∃ q, h'.get? a = some q := let ⟨q, _, _, hq, _⟩ := dd'; ⟨q, hq⟩
  exact d_write I (by rw [e]; exact True.intro) hs he (dk_new hl hd (rel.put k rv) dd')
 ·subst ey eH
  cases (show u = Value.ref b from ry)
  obtain ⟨z, hd, xs, rel, dd⟩ := dt_of I.hok e
  have hz : xs.length <= sizeLine := by rw [<- Paired.length rel]; exact z
  have hl : (putK kvs k v).length <= sizeLine := by have := length_putK kvs k v; omega
  refine wpAny_setItem_heap (hsz := hz) (tupleKind_room_in1 hu) (key_of I.hok eb) dd fun h' dd' hs => h _ ?_
  obtain ⟨q, es, ep, hq, h2, h3, h4, _, h5⟩ := dd'
  refine d_write I (by rw [e]; exact True.intro) hs ⟨q, hq⟩ ⟨hl, hd, _, (rel.put k eb rv).keeps fun c ys ec => ?_, q, es, ep, hq, h2, h3, h4, h5⟩
  rw [upd_ne (ne_of ec e (fun z => nomatch z))]
  exact ec
end
section
variable {X : Cx} {pins : List (Addr × Obj)} {σ : St} {H : Hp} {s : Shared} {a : Addr} {kvs : List (Key × V)} {k : Key} {u : Value} {A : Around} {E : Value -> Shared -> Prop}
theorem d_len {Q : Value -> Shared -> Prop} (I : Inv X pins σ H s) (e : Rd H a (.dK kvs)) (h : ∀ t s', Inv X pins σ H s' -> Q (.int kvs.length t) s') : wpAny (model X.prog X.w) A (call (.builtin "len") [.ref a]) Q E s := by
 obtain ⟨z, hd, vs, rel, dd⟩ := dk_rd I.hok e
 refine call_len_dict hd dd (by rw [<- rel.length]; rw [sizeLine_eq] at z; omega) ?_
 rw [<- rel.length]
 exact h _ _ (I.tok _)
end
def NoSl (i : Expr) : Prop := ∀ ov iv, subscripted i false ov iv = operate [ov, iv] (getItem ov iv)
theorem dict_typeIs {X : Cx} {pins : List (Addr × Obj)} {σ : St} {H : Hp} {s : Shared} {a : Addr} {y : V} {o : Option V} (I : Inv X pins σ H s) (g : DGet H a y o) : s.TypeIs (.ref a) "dict" := by
 rcases g with ⟨kvs, k, e, _, _⟩ | ⟨kvs, k, b, e, _, _, _⟩
 ·obtain ⟨_, _, vs, _, dd⟩ := dk_rd I.hok e
  exact dd.typeIs
 ·obtain ⟨_, _, xs, _, dd⟩ := dt_rd I.hok e
  exact dd.typeIs
def sDPut (td ty tv : TE) : TS := fun D σ H => tv σ H fun v H1 => td σ H1 fun x H2 => ty σ H2 fun y H3 => ∃ a H4, x = .ref a /\ DPut H3 a y v H4 /\ D.nx σ H4
section
variable {X : Cx} {o i e value : Expr} {pos pos' tpos : Pos} {td ty tv : TE}
theorem ps_dput (hu : X.A.units + 1 < cLine) (ho : PE X o td) (hi : PE X i ty) (hv : PE X value tv) (hs : swapsWith value (some (.Subscript o i pos')) pos.line X.env = pure false) :
  PS X (.Assign [.Subscript o i pos'] value pos) (sDPut td ty tv) := by
 intro pins s σ H D I h
 refine wpAny_Assign_Subscript (thn (hv pins s σ H _ I h) fun r s1 ⟨v, H1, I1, rv, q1⟩ => thn (ho pins s1 σ H1 _ I1 q1) fun u s2 ⟨x, H2, I2, rx, q2⟩ => thn (hi pins s2 σ H2 _ I2 q2) fun iv s3 ⟨y, H3, I3, ry, a, H4, ex, g, q3⟩ => ?_) hs
 subst ex
 obtain rfl : u = Value.ref a := rx
 exact d_setItem hu I3 g ry rv fun s4 I4 => ⟨σ, H4, I4, q3⟩
end
theorem dk_empty {P : Program} {w : World} {H : Hp} (h : Heap) (hb : sysModules < h.objs.size) : ObjOk P w H (h.push { cls := .type "dict", data := .dict #[] }) h.objs.size (.dK []) :=
 ⟨Nat.zero_le _, beq_eq_false_iff_ne.mpr (Ne.symm (Nat.ne_of_lt hb)), [], .nil, Heap.DictOf.new h⟩
def tDNewK : TE := fun _ H Q => ∀ p, H p = none -> Q (.ref p) (upd H p (.dK []))
section
variable {X : Cx} {pos : Pos}
theorem pe_dnewK : PE X (.Dict [] [] pos) tDNewK := fun pins s σ H Q I h =>
 wpAny_Dict_empty ⟨.ref s.heap.objs.size, _, I.laid (a := s.heap.objs.size) (o := .dK []) (t' := s.toks) (fun _ _ q => Heap.get?_push_of_some _ q) (Nat.le_refl _) (dk_empty s.heap I.big), rfl, h _ (I.hok.fresh (Nat.le_refl _))⟩
end
structure M2 (X : Cx) (o : Expr) (m : Str) (apos : Pos) (e f : Expr) (cpos : Pos) : Prop where
 base : attributeBase o m X.env (eval o X.env) = eval o X.env
 few : ((backTo cpos (starEach [e, f] X.env)).all (fun x => !x.1) && (backToKw cpos (keywordEach [] X.env)).all (fun x => x.1.isSome)
  && decide (([e, f] : List Expr).length + ([] : List Keyword).length + (if ([] : List Keyword).isEmpty then 0 else 1) < 30)) = true
 line : (apos.endLine == cpos.line) = true
 trees : backTo cpos (starEach [e, f] X.env) = [(false, eval e X.env), (false, eval f X.env)]
def IsD (H : Hp) (a : Addr) : Prop := (∃ kvs, Rd H a (.dK kvs)) \/ ∃ kvs, Rd H a (.dT kvs)
theorem isD_at {X : Cx} {pins : List (Addr × Obj)} {σ : St} {H : Hp} {s : Shared} {a : Addr} (I : Inv X pins σ H s) (d : IsD H a) :
  s.TypeIs (.ref a) "dict" /\ (∀ b, Value.ref a = .ref b -> ∃ ob, s.heap.get? b = some ob /\ ob.dict = none) /\ (a == sysModules) = false := by
 rcases d with ⟨kvs, e⟩ | ⟨kvs, e⟩
 ·obtain ⟨_, hd, vs, _, dd⟩ := dk_rd I.hok e
  refine ⟨dd.typeIs, fun b q => ?_, hd⟩
  cases q
  obtain ⟨ob, _, _, h1, h2, _⟩ := dd
  exact ⟨ob, h1, h2.2.1⟩
 ·obtain ⟨_, hd, xs, _, dd⟩ := dt_rd I.hok e
  refine ⟨dd.typeIs, fun b q => ?_, hd⟩
  cases q
  obtain ⟨ob, _, _, h1, h2, _⟩ := dd
  exact ⟨ob, h1, h2.2.1⟩
section
variable {X : Cx} {pins : List (Addr × Obj)} {σ : St} {H : Hp} {s : Shared} {a : Addr} {y d : V} {u r : Value} {o : Option V} {A : Around} {E : Value -> Shared -> Prop}
end
section
variable {X : Cx} {o e f : Expr} {apos cpos : Pos} {td ty tx : TE}
end
section
variable {X : Cx} {pins : List (Addr × Obj)} {σ : St} {H : Hp} {s : Shared} {a : Addr} {kvs : List (Key × V)} {A : Around} {E : Value -> Shared -> Prop}
theorem d_copyOf {Q : Value -> Shared -> Prop} (I : Inv X pins σ H s) (e : Rd H a (.dK kvs)) (h : ∀ p s', H p = none -> Inv X pins σ (upd H p (.dK kvs)) s' -> Q (.ref p) s') : wpAny (model X.prog X.w) A (call (.type "dict") [.ref a]) Q E s := by
 obtain ⟨z, hd, vs, rel, dd⟩ := dk_rd I.hok e
 refine kt_call_dict hd dd (by rw [<- rel.length]; exact z) fun h' dd' hs => ?_
 refine h _ _ (I.hok.fresh (Nat.le_refl _)) (I.laid (a := s.heap.objs.size) (o := .dK kvs) (t' := s.toks) (fun b q hq => ?_) (Nat.le_refl _) (dk_new z (beq_eq_false_iff_ne.mpr (Ne.symm (Nat.ne_of_lt I.big))) rel dd'))
 exact (hs.2 b (Nat.ne_of_lt (Heap.lt_size hq))).trans (Heap.get?_push_of_some _ hq)
end
section
variable {X : Cx} {pins : List (Addr × Obj)} {σ : St} {H : Hp} {s : Shared} {a : Addr} {y : V} {u : Value} {A : Around} {E : Value -> Shared -> Prop}
end
section
variable {X : Cx}
end
section
variable {κ : Type} [DecidableEq κ]
end
noncomputable def Its (x : Str) : It := ⟨fun i _ => i < x.cps.size, fun i H v H' => H' = H /\ ∃ c, x.cps[i]? = some c /\ v = .str ⟨#[c]⟩, fun i _ => i = x.cps.size⟩
theorem go_str {M : Model} {A : Around} {E : Value -> Shared -> Prop} {s : Shared} {tg : Expr} {it : Addr} {y : Str} {t : Tok} {Q : Unit -> Shared -> Prop} (hQ : Q () s) : wpAny M A (letOwnedTupleGo tg (.ref it) (.str y t)) Q E s := by
 unfold letOwnedTupleGo
 cases tg <;> exact wpAny_pure hQ
theorem turn_str {P : Program} {w : World} {K : PySem.W.Frag} {tg : Expr} (T : String) (it : Addr) (x : Str) (t : Tok)
  (W : ∀ A : Around, A.handled = none -> Walks P w A it [it] [it] x.cps.size (SignAt x) (fun i h => h.IsStrIter it T x t i))
  (hs : ∀ (A : Around) (i : Nat) (s : Shared) (Q : Value -> Shared -> Prop) (E : Value -> Shared -> Prop), s.heap.IsStrIter it T x t i -> Q (.ref it) s -> wpAny (model P w) A (pyIter (.ref it)) Q E s) :
  Turn P w K tg (Its x) [it] it (fun i h => h.IsStrIter it T x t i) where
 mem := by simp
 obj := fun i h st b hb => by
  have e : b = it := by simpa using hb
  subst e
  obtain ⟨o, e, c, d⟩ := st
  exact ⟨o, e, fun v z => by rw [d] at z; cases z⟩
 keep := fun i h h' st k => by
  obtain ⟨o, e, r⟩ := st
  exact ⟨o, k it (by simp) o e, r⟩
 item := by
  intro X hP hw hK hc i pins s σ H E I hf st hg
  subst hP hw hK
  obtain ⟨f0, f1, f2, f3, f4, f5⟩ := hf it (by simp)
  refine (W X.A (I.ok.hd hc)).item i s _ _ hg st fun v h' tk hv st' kk => ?_
  obtain ⟨c, u, hcu, rfl⟩ := hv
  have I1 : Inv X pins σ H { s with heap := h', toks := tk } := I.turned (fun b o hb e => kk b o (by simpa using hb) e) f0 f1 f3 f4 f5
  exact ⟨_, rfl, go_str ⟨.str ⟨#[c]⟩, H, I1, ⟨u, rfl⟩, ⟨rfl, c, hcu, rfl⟩, st', fun b hb => (hf b hb).1⟩⟩
 done := by
  intro X hP hw hK hc i pins s σ H E I hf st hg
  subst hP hw hK
  obtain ⟨f0, f1, f2, f3, f4, f5⟩ := hf it (by simp)
  have hg' : i = x.cps.size := hg
  subst hg'
  refine (W X.A (I.ok.hd hc)).done s _ _ st fun h' tk kk => ?_
  exact ⟨rfl, I.turned (fun b o hb e => kk b o (by simpa using hb) e) f0 f1 f3 f4 f5⟩
 self := hs
section
variable {X : Cx} {tg : Expr}
end
section
variable {prog : Program} {w : World} {A : Around} {R : Result -> Shared -> Prop} {s : Shared}
theorem compLoop_gen {elt target iter : Expr} {ifs : List Expr} {scope : Scope} {pos : Pos} {it acc : Value} {env : Env} (I : Nat -> Shared -> Prop)
  (turn : ∀ n s, I n s -> wpAny (model prog w) A (pyNext it) (fun r s₁ => match r with
   | none => R (.ok .next) s₁
   | some v => wpAny (model prog w) A (letOwnedTupleGo target it v) (fun _ s₁' => wpAny (model prog w) A (assign target env v) (fun _ s₂ =>
     wpAny (model prog w) A (forIn ifs true fun c r => if r = true then do let ok <- isTrue c env (eval c env); pure (ForInStep.yield ok) else pure (ForInStep.yield r)) (fun ok s₃ =>
      if ok = true then wpAny (model prog w) A (eval elt env) (fun x s₄ =>
       wpAny (model prog w) A (call (.builtin "list.append") [acc, x]) (fun _ s₅ => ∃ m, m < n /\ I m s₅) (fun _ _ => False) s₄) (fun _ _ => False) s₃
      else ∃ m, m < n /\ I m s₃) (fun _ _ => False) s₂) (fun _ _ => False) s₁') (fun _ _ => False) s₁) (fun _ _ => False) s)
  (n : Nat) (h : I n s) :
  codeAny (model prog w) A (.compLoop (.ListComp elt [⟨target, iter, ifs, 0⟩] scope pos) 0 it acc env) R s := by
 refine codeAny_loop rfl I (fun n s hI => ?_) n h
 show wpAny _ A ((compTurn (.ListComp elt [⟨target, iter, ifs, 0⟩] scope pos) 0 it acc env).onRaise (fun x => do noteFrame x env; theTreesLotGoes x)) _ _ s
 refine wpAny_noted ?_
 rw [compTurn_list]
 refine wpAny_bind (wpAny_standAt (wpAny_bind (wpAny_mono (turn n s hI) (fun r s₁ h₁ => ?_) fun _ _ h' => h'.elim)))
 cases r with
 | none => exact wpAny_pure h₁
 | some v =>
  refine wpAny_bind (wpAny_mono h₁ (fun _ s₁' h₁' => ?_) fun _ _ h' => h'.elim)
  refine wpAny_bind (wpAny_mono h₁' (fun _ s₂ h₂ => wpAny_bind (wpAny_mono h₂ (fun ok s₃ h₃ => ?_) fun _ _ h' => h'.elim)) fun _ _ h' => h'.elim)
  cases ok with
  | false => exact wpAny_pure ⟨rfl, h₃⟩
  | true =>
   exact wpAny_bind (wpAny_bind (wpAny_mono h₃ (fun x s₄ h₄ => wpAny_bind (wpAny_mono h₄ (fun _ s₅ h₅ => wpAny_pure (wpAny_pure ⟨rfl, h₅⟩)) fun _ _ h' => h'.elim)) fun _ _ h' => h'.elim))
end
noncomputable def compCx (X : Cx) (N : List Str) (scope : Scope) (cl : List (Str × Addr)) (C : Addr) (s₀ : Shared) (H₀ : Hp) (ex : List Addr) : Cx :=
 { X with N := N, s₀ := s₀, H₀ := H₀, env := compEnvC scope cl C X.env, outer := X.stack, stack := X.stack, ex := ex, fn := fun _ => false, pn := [], xe := fun _ _ => False }
def PIfs (X : Cx) (ifs : List Expr) (t : TT) : Prop :=
 ∀ (pins : List (Addr × Obj)) (s : Shared) (σ : St) (H : Hp) (Q : Bool -> Hp -> Prop), Inv X pins σ H s -> t σ H Q ->
  wpAny (model X.prog X.w) X.A (forIn ifs true fun c r => if r = true then do let ok <- isTrue c X.env (eval c X.env); pure (ForInStep.yield ok) else pure (ForInStep.yield r)) (TP X pins σ Q) X.xe s
def tYes : TT := fun _ H Q => Q true H
theorem pifs_nil {X : Cx} : PIfs X [] tYes := fun pins s σ H Q I h => wpAny_tests_nil ⟨H, I, h⟩
theorem pifs_one {X : Cx} {c : Expr} {t : TT} (h : PT X c t) : PIfs X [c] t := fun pins s σ H Q I hq => wpAny_tests_one (h pins s σ H Q I hq)
def tComp (wi : TI) (cs : St -> St) (g : TG) (ti : TT) (te : TE) : TE := fun σ H Q => wi σ H fun J H1 => ∃ W : Nat -> Nat -> List V -> Hp -> Prop, (∃ m, W 0 m [] H1) /\ ∀ i m ys H, W i m ys H ->
 ys.length <= sizeLine /\ ((J.stop i H /\ ∀ p, H p = none -> Q (.ref p) (upd H p (.lst ys))) \/
 (J.go i H /\ ∀ x H', J.yld i H x H' -> g x (cs σ) H' fun σ2 H2 => ti σ2 H2 fun ok H3 => if ok = true then te σ2 H3 fun y H4 => ∃ m', m' < m /\ W (i + 1) m' (ys ++ [y]) H4 else ∃ m', m' < m /\ W (i + 1) m' ys H3))
noncomputable def csOf (nl : Nat) (js : List Nat) (σ : St) : St := List.replicate nl none ++ js.map fun j => (σ[j]?).join
structure CompOk (X : Cx) (N : List Str) (nl : Nat) (js : List Nat) (scope : Scope) (cl : List (Str × Addr)) : Prop where
 clos : closureFor scope X.env = pure cl
 nocell : ∀ y ∈ scope.names, y.2 ≠ .cell
 kind : scope.kind = .function
 names : ∀ y ∈ scope.names, y.2 = .local -> scope.names.lookup y.1 = some .local
 cells : ∀ x c, cl.lookup x = some c -> X.env.cells.lookup x = some c
 has : ∀ x, ((relabel scope X.env).names.lookup x = some .cell \/ (relabel scope X.env).names.lookup x = some .free) -> ∃ c, cl.lookup x = some c
 len : N.length = nl + js.length
 free : ∀ k j x, js[k]? = some j -> N[nl + k]? = some x -> X.N[j]? = some x /\ (X.env.kindOf x = some .cell \/ X.env.kindOf x = some .free) /\ Vis X.env.scope x /\
  ((relabel scope X.env).names.lookup x = some .cell \/ (relabel scope X.env).names.lookup x = some .free)
 /-- the target stores own names alone -/
def KeepsT (g : TG) (cs : St -> St) : Prop := ∀ (σ : St) (x : V) (H : Hp) (K : St -> Hp -> Prop), g x (cs σ) H K -> g x (cs σ) H fun σ2 H2 => (σ2.length = (cs σ).length /\ ∀ (j : Nat) (v : V), (cs σ)[j]? = some (some v) -> σ2[j]? = some (some v)) /\ K σ2 H2
theorem keeps_name {i nl : Nat} {js : List Nat} (hi : i < nl) : KeepsT (gName i) (csOf nl js) := fun σ x H K h => by
 refine ⟨⟨by simp, fun j v e => ?_⟩, h⟩
 by_cases hj : j = i
 ·subst hj
  unfold csOf at e
  rw [List.getElem?_append_left (by simpa using hi), List.getElem?_replicate, if_pos hi] at e
  cases e
 ·rw [List.getElem?_set_ne (Ne.symm hj)]; exact e
section
variable {X : Cx}
theorem Inv.comp {pins : List (Addr × Obj)} {σ : St} {H : Hp} {s s4 : Shared} {N : List Str} {nl : Nat} {js : List Nat} {scope : Scope} {cl : List (Str × Addr)} {C D : Addr} {fp : List Addr} {oD : Obj} {m : Str -> Option Value}
  (I : Inv X pins σ H s) (ok : CompOk X N nl js scope cl) (hf : ∀ b ∈ fp, FpOk X pins H b) (hfp : ∀ b ∈ fp, b < s.heap.objs.size) (hC : s.heap.objs.size <= C) (hD : s.heap.objs.size <= D) (hDC : D ≠ C)
  (ho : s4.os = s.os) (hg : AllBare s4.gens) (k : ∀ b o, s.heap.get? b = some o -> s4.heap.get? b = some o) (hn : s4.heap.Ns C m) (hDo : s4.heap.get? D = some oD) (hDd : ∀ v, oD.data ≠ .cell v) :
  Inv (compCx X N scope cl C s H fp) [(D, oD)] (csOf nl js σ) H s4 := by
 have stk : ∀ b, s.heap.objs.size <= b -> b ∉ frs X.stack := fun b hb z => by
  rcases List.mem_cons.mp (I.stkSub b z) with e | e
  ·rw [e] at hb; exact absurd (Nat.lt_of_lt_of_le I.lt hb) (Nat.lt_irrefl _)
  ·exact I.nofs hb e
 refine ⟨⟨I.ok.mod, ok.kind, I.ok.glob, I.ok.blt, hC, fun x y c h1 h2 => I.ok.inj x y c (ok.cells x c h1) (ok.cells y c h2), fun x h => ok.has x h, (fun x c h => nomatch h), I.ok.hd, I.ok.frames, .inl rfl, fun b hb => ⟨?_, fun x c e z => ?_⟩, I.bs, Nat.le_trans I.ok.bsz I.sz, fun b o e hb => ?_, fun b hb => ?_, I.stack, I.stkFree⟩,
  ho, hg, Un.kept k, ⟨m, hn, fun i x v h1 h2 h3 => ?_⟩, fun x c e => ?_, I.hok.fresh hC, fun x c e => I.freeC x c (ok.cells x c e), fun p hp => ?_, I.hok.kept k, ?_⟩
 ·exact Nat.ne_of_lt (Nat.lt_of_lt_of_le (hfp b hb) hC)
 ·exact (hf b hb).2.2.2.2.1 x c (ok.cells x c e) z
 ·have hb : b ∈ fp := hb
  rcases (hf b hb).2.2.2.1 with z | z
  ·exact I.ok.noex b o e z
  ·exact absurd (Nat.lt_of_lt_of_le (Heap.lt_size e) (Nat.le_trans I.ok.bsz z)) (Nat.lt_irrefl _)
 ·have hb : b ∈ fp := hb
  intro z
  rcases List.mem_cons.mp (I.stkSub b z) with e | e
  ·exact (hf b hb).2.1 e
  ·exact (hf b hb).2.2.1 e
 ·have h1 : N[i]? = some x := h1
  unfold csOf at h2
  have hi : nl <= i := by
   rcases Nat.lt_or_ge i nl with z | z
   ·rw [List.getElem?_append_left (by simpa using z), List.getElem?_replicate, if_pos z] at h2; cases h2
   ·exact z
  rw [List.getElem?_append_right (by simpa using hi), List.length_replicate, List.getElem?_map] at h2
  cases ej : js[i - nl]? with
  | none => rw [ej] at h2; cases h2
  | some j =>
   rw [ej] at h2
   have h2' : (σ[j]?).join = some v := by simpa using h2
   have e2 : σ[j]? = some (some v) := by
    cases q : σ[j]? with
    | none => rw [q] at h2'; cases h2'
    | some y => rw [q] at h2'; rw [show y = some v from h2']
   obtain ⟨g1, g2, g3, g4⟩ := ok.free (i - nl) j x ej (by rw [Nat.add_sub_cancel' hi]; exact h1)
   obtain ⟨m0, hn0, hl⟩ := I.loc
   obtain ⟨u, r, l⟩ := hl j x v g1 e2 g3
   refine ⟨u, r, .inr ⟨g4, ?_⟩⟩
   rcases l with ⟨lk, _⟩ | ⟨_, c, ec, ic⟩
   ·rcases g2 with z | z <;> (rw [z] at lk; cases lk)
   ·obtain ⟨c', ec'⟩ := ok.has x g4
    have : c' = c := Option.some.inj ((ok.cells x c' ec').symm.trans ec)
    subst this
    obtain ⟨oc, hoc, hd⟩ := ic
    exact ⟨c', ec', oc, k _ _ hoc, hd⟩
 ·obtain ⟨v, oc, hoc, hd⟩ := I.cell x c (ok.cells x c e)
  exact ⟨v, oc, k _ _ hoc, hd⟩
 ·have hp : p ∈ [(D, oD)] := hp
  have e : p = (D, oD) := by simpa using hp
  subst e
  exact ⟨hDo, I.hok.fresh hD, hDC, stk D hD, hDd⟩
 ·show (csOf nl js σ).length = N.length
  unfold csOf
  rw [List.length_append, List.length_replicate, List.length_map]
  exact ok.len.symm
def CompEnd (X : Cx) (pins : List (Addr × Obj)) (σ : St) (Q : VK) (acc : Value) (C : Addr) (s' : Shared) : Prop :=
 ∃ D H' m, acc = .ref D /\ Inv X pins σ H' s' /\ FpOk X pins H' C /\ s'.heap.Ns C m /\ Q (.ref D) H'
theorem comp_run {N : List Str} {nl : Nat} {js : List Nat} {scope : Scope} {cl : List (Str × Addr)} {elt target iter : Expr} {ifs : List Expr} {pos : Pos} {wi : TI} {g : TG} {ti : TT} {te : TE} {pins : List (Addr × Obj)} {s : Shared} {σ : St} {H : Hp} {Q : VK}
  {E : Value -> Shared -> Prop} (RR : Value -> Addr -> Result -> Shared -> Prop) (hRR : ∀ acc C s', CompEnd X pins σ Q acc C s' -> RR acc C (.ok .next) s')
  (hc : X.calm = true) (ok : CompOk X N nl js scope cl) (hi : PI X target iter wi) (hk : KeepsT g (csOf nl js))
  (hg : ∀ C s₀ H₀ ex, PG (compCx X N scope cl C s₀ H₀ ex) target g) (ht : ∀ C s₀ H₀ ex, PIfs (compCx X N scope cl C s₀ H₀ ex) ifs ti) (he : ∀ C s₀ H₀ ex, PE (compCx X N scope cl C s₀ H₀ ex) elt te)
  (I : Inv X pins σ H s) (h : tComp wi (csOf nl js) g ti te σ H Q) :
  wpAny (model X.prog X.w) X.A (eval iter X.env) (fun x s₁ => wpAny (model X.prog X.w) X.A (pyIter x) (fun it s₂ => wpAny (model X.prog X.w) X.A (newList []) (fun acc s₃ =>
   wpAny (model X.prog X.w) X.A (newFunctionEnv scope X.env.globals cl [] X.env.qual none .none (some X.env)) (fun cenv s₄ =>
    codeAny (model X.prog X.w) X.A (.compStart (.ListComp elt [⟨target, iter, ifs, 0⟩] scope pos) 0 it acc { cenv with scope := relabel scope X.env }) (RR acc cenv.locals) s₄) E s₃) E s₂) X.xe s₁) X.xe s := by
 refine thn (hi pins s σ H _ I h) fun v s1 h1 => thn h1 fun itv s2 h2 => ?_
 obtain ⟨it, fp, tn, J, H2, e, I2, T, st2, f2, W, ⟨m0, w0⟩, turn⟩ := h2
 subst e
 have hfp : ∀ b ∈ fp, b < s2.heap.objs.size := fun b hb => by
  obtain ⟨o, e, _⟩ := T.obj _ _ st2 b hb
  exact Heap.lt_size e
 refine wpAny_newObj_type (wpAny_newFunctionEnv ok.nocell (by intro y hy; simp at hy) (fun h₁ hns₁ hsb₁ => ?_) ok.kind)
 dsimp only at hns₁ hsb₁ ⊢
 generalize hP2 : s2.heap.push { cls := .type "list", dict := none, data := .seq ([] : List Value).toArray } = P2 at hns₁ hsb₁ ⊢
 have hC : P2.objs.size = s2.heap.objs.size + 1 := by rw [<- hP2, Heap.size_push]
 have hDC : s2.heap.objs.size ≠ P2.objs.size := by rw [hC]; exact Nat.ne_of_lt (Nat.lt_succ_self _)
 have hCle : s2.heap.objs.size <= P2.objs.size := by rw [hC]; exact Nat.le_succ _
 have below : ∀ b, b < s2.heap.objs.size -> b ≠ P2.objs.size /\ b ≠ s2.heap.objs.size := fun b hb => ⟨by rw [hC]; exact Nat.ne_of_lt (Nat.lt_succ_of_lt hb), Nat.ne_of_lt hb⟩
 have old : ∀ b o, s2.heap.get? b = some o -> h₁.get? b = some o := fun b o e => hsb₁.extBut b o (below b (Heap.lt_size e)).1 (Heap.get?_push_of_some _ (hP2 ▸ Heap.get?_push_of_some _ e))
 have hacc : h₁.PlainList s2.heap.objs.size #[] := ⟨_, hsb₁.extBut _ _ hDC (Heap.get?_push_of_some _ (hP2 ▸ Heap.get?_push_size _ rfl))⟩
 obtain ⟨n0, ha0⟩ := hacc
 generalize hCC : P2.objs.size = C at *
 generalize hDD : s2.heap.objs.size = D at *
 -- the block's context
 have I4 : Inv (compCx X N scope cl C s2 H2 fp) [(D, { cls := .type "list", data := .seq ([] : List Value).toArray n0 })] (csOf nl js σ) H2 { s2 with heap := h₁, toks := s2.toks + ([] : List (Str × Value)).length } :=
  I2.comp ok f2 (fun b hb => by rw [hDD]; exact hfp b hb) (by rw [hDD]; exact hCle) (by rw [hDD]; exact Nat.le_refl _) hDC rfl I2.bare old hns₁ ha0 (fun v z => nomatch z)
 have st4 : tn 0 h₁ := T.keep _ _ _ st2 fun b hb o e => old b o e
 -- what stays true of the records
 have nD : ∀ b ∈ fp, b ≠ D := fun b hb => Nat.ne_of_lt (hfp b hb)
 have nC : ∀ b ∈ fp, b ≠ C := fun b hb => (below b (hfp b hb)).1
 have stkD : ∀ b, D <= b -> b ∉ frs X.stack := fun b hb z => by
  rcases List.mem_cons.mp (I2.stkSub b z) with e | e
  ·rw [e] at hb; exact absurd (Nat.lt_of_lt_of_le I2.lt (by rw [hDD]; exact hb)) (Nat.lt_irrefl _)
  ·exact I2.nofs (by rw [hDD]; exact hb) e
 have cellD : ∀ x c b, D <= b -> cl.lookup x = some c -> c ≠ b := fun x c b hb e z => by
  obtain ⟨v, q⟩ := I2.cell x c (ok.cells x c e)
  exact absurd (Nat.lt_of_lt_of_le q.lt (by rw [z, hDD]; exact hb)) (Nat.lt_irrefl _)
 have stat : ∀ {H' : Hp} {oD : Obj}, (∀ b ∈ fp, H' b = none) -> ∀ b ∈ fp, FpOk (compCx X N scope cl C s2 H2 fp) [(D, oD)] H' b := fun {H' oD} hn b hb => by
  refine ⟨hn b hb, nC b hb, fun z => ?_, .inl hb, fun x c e z => (f2 b hb).2.2.2.2.1 x c (ok.cells x c e) z, fun p hp z => ?_⟩
  ·have z : b ∈ frs X.stack := z
   rcases List.mem_cons.mp (I2.stkSub b z) with e | e
   ·exact (f2 b hb).2.1 e
   ·exact (f2 b hb).2.2.1 e
  ·have hp : p = (D, oD) := by simpa [compCx] using hp
   subst hp
   exact nD b hb z.symm
 have loop : ∀ s₃ : Shared, s₃ = { s2 with heap := h₁, toks := s2.toks + ([] : List (Str × Value)).length } ->
   codeAny (model X.prog X.w) X.A (.compLoop (.ListComp elt [⟨target, iter, ifs, 0⟩] scope pos) 0 (.ref it) (.ref D) (compEnvC scope cl C X.env)) (RR (.ref D) C) s₃ := by
  rintro s₃ rfl
  refine compLoop_gen (env := compEnvC scope cl C X.env) (fun n s' => ∃ i ys us nn H', Inv (compCx X N scope cl C s2 H2 fp) [(D, { cls := .type "list", data := .seq (us : List Value).toArray nn })] (csOf nl js σ) H' s' /\ Vals ys us /\ tn i s'.heap /\ (∀ b ∈ fp, H' b = none) /\ W i n ys H')
   ?_ m0 ⟨0, [], [], n0, H2, I4, .nil, st4, fun b hb => (f2 b hb).1, w0⟩
  rintro n s3 ⟨i, ys, us, nn, H3, I3, rv3, st3, fr3, w3⟩
  obtain ⟨hsz, tr⟩ := turn i n ys H3 w3
  rcases tr with ⟨stop, qn⟩ | ⟨go, step⟩
  ·refine wpAny_mono (T.done (compCx X N scope cl C s2 H2 fp) rfl rfl rfl hc i _ s3 (csOf nl js σ) H3 (fun _ _ => False) I3 (stat fr3) st3 stop) (fun r s4 hr => ?_) fun _ _ z => z
   obtain ⟨rfl, J4⟩ := hr
   show RR (.ref D) C (.ok .next) s4
   obtain ⟨pD, pfree, _, _, _⟩ := J4.pin (D, { cls := .type "list", data := .seq (us : List Value).toArray nn }) (by simp [compCx])
   obtain ⟨mC, hnC, _⟩ := J4.loc
   have hnC : s4.heap.Ns C mC := hnC
   have ltH : ∀ b o, H2 b = some o -> b ≠ D := fun b o e => by have := I2.hok.lt e; rw [hDD] at this; exact Nat.ne_of_lt this
   have ltg : ∀ b o, s2.heap.get? b = some o -> b ≠ D := fun b o e => by have := Heap.lt_size e; rw [hDD] at this; exact Nat.ne_of_lt this
   have B : Un (frs X.stack) fp H2 H3 s2.heap s4.heap := J4.base
   have un : Un (frs X.stack) fp H2 (upd H3 D (.lst ys)) s2.heap s4.heap :=
    ⟨B.keep, B.slot, fun b o e n x => by rw [upd_ne (ltg b o e)]; exact B.free b o e n x, B.there, fun b xs e => by rw [upd_ne (ltH b _ e)]; exact B.tups b xs e,
     fun b o u e => by rw [upd_ne (ltH b _ e)]; exact B.frzs b o u e, fun b ps e => by rw [upd_ne (ltH b _ e)]; exact B.tbls b ps e⟩
   have hokD : HOk X.prog X.w (upd H3 D (.lst ys)) s4.heap := fun b u e => by
    by_cases hb : b = D
    ·subst hb
     rw [upd_same] at e
     cases e
     exact ⟨hsz, us, nn, rv3, pD⟩
    ·rw [upd_ne hb] at e
     refine (J4.hok b u e).stay (fun c v _ q => q) (fun c q => ?_) fun c xs q => ?_
     ·rw [upd_ne (ne_of_none q pfree)]; exact q
     ·rw [upd_ne (ne_of_none q pfree)]; exact q
   refine hRR _ _ _ ⟨D, upd H3 D (.lst ys), mC, rfl, I2.call' (ch := fp) J4.os un hokD J4.bare (fun b hb => ⟨(f2 b hb).2.2.2.1, (f2 b hb).2.1, (f2 b hb).2.2.2.2.1, (f2 b hb).2.2.2.2.2⟩), ?_, hnC, qn D pfree⟩
   have hCn : H3 C = none := J4.free
   refine ⟨by rw [upd_ne hDC.symm]; exact hCn, ?_, ?_, .inr ?_, fun x c e z => ?_, fun p hp z => ?_⟩
   ·exact Nat.ne_of_gt (Nat.lt_of_lt_of_le I2.lt (by rw [hDD]; exact hCle))
   ·exact I2.nofs (by rw [hDD]; exact hCle)
   ·exact Nat.le_trans I2.sz (by rw [hDD]; exact hCle)
   ·obtain ⟨v, q⟩ := I2.cell x c e
    exact absurd (Nat.lt_of_lt_of_le q.lt (by rw [z, hDD]; exact hCle)) (Nat.lt_irrefl _)
   ·exact absurd (Nat.lt_of_lt_of_le (Heap.lt_size (I2.pin p hp).1) (by rw [z, hDD]; exact hCle)) (Nat.lt_irrefl _)
  ·refine wpAny_mono (T.item (compCx X N scope cl C s2 H2 fp) rfl rfl rfl hc i _ s3 (csOf nl js σ) H3 (fun _ _ => False) I3 (stat fr3) st3 go) (fun r s4 hr => ?_) fun _ _ z => z
   obtain ⟨u, rfl, h4⟩ := hr
   show wpAny (model X.prog X.w) X.A (letOwnedTupleGo target (.ref it) u) _ _ s4
   refine thn h4 fun _ s5 ⟨x, H5, I5, r5, y5, st5, fr5⟩ => ?_
   have I5' := I5.pinned (stat fr5) (T.obj _ _ st5)
   refine thn (hg C s2 H2 fp _ s5 (csOf nl js σ) H5 x u _ I5' r5 (hk σ x H5 _ (step x H5 y5))) fun _ s6 ⟨σ6, H6, I6, ⟨hl6, hs6⟩, q6⟩ => ?_
   refine thn (ht C s2 H2 fp _ s6 σ6 H6 _ I6 q6) fun okb s7 ⟨H7, I7, q7⟩ => ?_
   -- the iterator and the list are pinned through
   have back : ∀ {H8 : Hp} {s8 : Shared}, Inv (compCx X N scope cl C s2 H2 fp) ([(D, { cls := .type "list", data := .seq (us : List Value).toArray nn })] ++ pinsAt fp s5.heap) σ6 H8 s8 ->
     Inv (compCx X N scope cl C s2 H2 fp) [(D, { cls := .type "list", data := .seq (us : List Value).toArray nn })] (csOf nl js σ) H8 s8 /\ tn (i + 1) s8.heap /\ ∀ b ∈ fp, H8 b = none := fun {H8 s8} I8 => by
    refine ⟨I8.unpinned.weak hl6.symm hs6, T.keep _ _ _ st5 fun b hb o e => (I8.pin (b, o) (List.mem_append_right _ (List.mem_append_right _ (mem_pinsAt hb e)))).1, fun b hb => ?_⟩
    obtain ⟨o, e, d⟩ := T.obj _ _ st5 b hb
    exact (I8.pin (b, o) (List.mem_append_right _ (List.mem_append_right _ (mem_pinsAt hb e)))).2.1
   cases okb with
   | false =>
    have q7 : ∃ m', m' < n /\ W (i + 1) m' ys H7 := by simpa using q7
    obtain ⟨m', hm, w7⟩ := q7
    obtain ⟨I8, st8, fr8⟩ := back I7
    show ∃ m, m < n /\ _
    exact ⟨m', hm, i + 1, ys, us, nn, H7, I8, rv3, st8, fr8, w7⟩
   | true =>
    have q7 : te σ6 H7 fun y H4 => ∃ m', m' < n /\ W (i + 1) m' (ys ++ [y]) H4 := by simpa using q7
    show wpAny (model X.prog X.w) X.A (eval elt (compEnvC scope cl C X.env)) _ _ s7
    refine thn (he C s2 H2 fp _ s7 σ6 H7 _ I7 q7) fun yv s8 ⟨y, H8, I8, ry, m', hm, w8⟩ => ?_
    obtain ⟨I9, st9, fr9⟩ := back I8
    obtain ⟨pD, pfree, pne, pnf, _⟩ := I9.pin (D, { cls := .type "list", data := .seq (us : List Value).toArray nn }) (by simp [compCx])
    refine wpAny_list_append_plain (items := us.toArray) ⟨nn, pD⟩ (fun h' hp' sb => ?_) (by have := rv3.length; simp; omega)
    obtain ⟨n', hp'⟩ := hp'
    have I10 : Inv (compCx X N scope cl C s2 H2 fp) [] (csOf nl js σ) H8 { s8 with heap := h' } := by
     refine (I9.pins_of (pins' := []) (fun p hp => absurd hp (by simp))).turned (t' := s8.toks) (it := D) (fun b o hb e => (sb.2 b hb).trans e) pfree pne (.inr (by show s2.heap.objs.size <= D; rw [hDD]; exact Nat.le_refl _)) (fun x c e => cellD x c D (Nat.le_refl _) e) (fun p hp => ?_)
     exact absurd hp (by simp [compCx])
    refine ⟨m', hm, i + 1, ys ++ [y], us ++ [yv], n', H8, I10.pins_of (fun p hp => ?_), rv3.append (.cons ry .nil), T.keep _ _ _ st9 fun b hb o e => (sb.2 b (nD b hb)).trans e, fr9, w8⟩
    have e : p = (D, { cls := .type "list", data := .seq (us ++ [yv]).toArray n' }) := by simpa using hp
    subst e
    exact ⟨by simpa using hp', pfree, pne, pnf, fun v z => nomatch z⟩
 exact codeAny_compStart_list (loop _ rfl) (T.self _ 0 _ _ _ st4 (loop _ rfl))
theorem pe_comp {N : List Str} {nl : Nat} {js : List Nat} {scope : Scope} {cl : List (Str × Addr)} {elt target iter : Expr} {ifs : List Expr} {pos : Pos} {wi : TI} {g : TG} {ti : TT} {te : TE}
  (hc : X.calm = true) (ok : CompOk X N nl js scope cl) (hi : PI X target iter wi) (hk : KeepsT g (csOf nl js))
  (hg : ∀ C s₀ H₀ ex, PG (compCx X N scope cl C s₀ H₀ ex) target g) (ht : ∀ C s₀ H₀ ex, PIfs (compCx X N scope cl C s₀ H₀ ex) ifs ti) (he : ∀ C s₀ H₀ ex, PE (compCx X N scope cl C s₀ H₀ ex) elt te)
  (hs : ∀ x, foldedSetIterable iter X.env x = pure x := by intro _; rfl) :
  PE X (.ListComp elt [⟨target, iter, ifs, 0⟩] scope pos) (tComp wi (csOf nl js) g ti te) := by
 intro pins s σ H Q I h
 rw [eval_ListComp]
 refine wpAny_comprehension_free (use := none) rfl hs ok.clos ok.kind ok.names (wpAny_mono (comp_run (E := X.xe) (pos := pos) (fun acc C => compPost (model X.prog X.w) X.A X.xe none (EP X pins σ Q) acc C) (fun acc C s' z => ?_) hc ok hi hk hg ht he I h) (fun _ _ z => z) fun _ _ z => z)
 obtain ⟨D, H', m, rfl, J, fC, hn, q⟩ := z
 refine ⟨m, hn, fun h' sb => ⟨.ref D, H', J.turned (t' := s'.toks) (fun b o hb e => (sb.2 b hb).trans e) fC.1 fC.2.1 fC.2.2.2.1 fC.2.2.2.2.1 fC.2.2.2.2.2, rfl, q⟩⟩
end
theorem exg_bind (e : Addr) : bindSpecial (.builtin "BaseException.__getattribute__") (.ref e) = pure (.builtin "BaseException.__getattribute__", [.ref e]) := by rfl
theorem exg_entry : entryFor table "BaseException.__getattribute__" = some Builtin.«object.__getattribute__» := by kernel_rfl
theorem exg_plain : plainId "BaseException.__getattribute__" = true := by kernel_rfl
theorem exg_kind : builtinKind "BaseException.__getattribute__" = some .slot := by kernel_rfl
theorem exg_split : splitId "BaseException.__getattribute__" = some ("BaseException", "__getattribute__") := by kernel_rfl
theorem exg_sig : (match Manifest.signature? "BaseException.__getattribute__" with | some sig => Bind.checkArgs "BaseException.__getattribute__" sig ⟨[.ref e, .str "__class__" t], []⟩ | _ => pure ()) = (pure () : Sem Unit) := by rfl
theorem exc_class {prog : Program} {w : World} {A : Around} {E : Value -> Shared -> Prop} {s : Shared} {K : PySem.W.Frag} {e C : Addr} {ox : Obj} {Q : Option Value -> Shared -> Prop}
  (KX : K.In s.heap) (I : PySem.W.InstAt s.heap e ox C none)
  (h1 : PySem.W.findIn K (.ref C) "__getattribute__" = some (some (.builtin "BaseException.__getattribute__")))
  (h0 : PySem.W.findIn K (.ref C) "__getattr__" = some none)
  (h2 : PySem.W.findObj K C none "__class__" = some (.bind (.builtin "getset_descriptor.__get__") (.builtin "object.__class__")))
  (h3 : PySem.W.mroIn K C (.type "object") = some true) (h4 : PySem.W.mroIn K C (.type "BaseException") = some true)
  (q : Q (some (.ref C)) { s with toks := s.toks + 1 }) : wpAny (model prog w) A (getAttr? (.ref e) "__class__") Q E s := by
 unfold getAttr?
 refine wpAny_bind (wpAny_mkText ?_)
 unfold getAttrBy?
 refine wpAny_bind (wpAny_attempt ?_)
 unfold getAttrBy
 refine wpAny_holding (wpAny_bind (I.type _ _ _ _ (fun _ _ h => h) ?_))
 refine wpAny_bind (PySem.W.looks_findIn KX h1 _ _ _ _ (fun _ _ h => h) ?_)
 show wpAny _ _ (getAttrByItsOwn _ _ _ _ _ _) _ _ _
 unfold getAttrByItsOwn
 refine wpAny_bind ?_
 unfold hookBefore
 rw [if_pos (by rfl)]
 refine PySem.W.looks_findIn KX h0 _ _ _ _ (fun _ _ h => h) ?_
 refine wpAny_bind (wpAny_attempt (wpAny_holding ?_))
 show wpAny _ _ (boundAndCalled _ _ _) _ _ _
 unfold boundAndCalled
 rw [exg_bind]
 refine wpAny_bind (wpAny_pure ?_)
 show wpAny _ _ (call (.builtin "BaseException.__getattribute__") [.ref e, .str "__class__" s.toks]) _ _ _
 refine wpAny_call (codeAny_call_builtin exg_plain exg_entry ?_)
 have chk : ∀ (A' : Around) (Q' : Unit -> Shared -> Prop) (E' : Value -> Shared -> Prop), Q' () { s with toks := s.toks + 1 } -> wpAny (model prog w) A' (checkBuiltinCall "BaseException.__getattribute__" ⟨[.ref e, .str "__class__" s.toks], []⟩) Q' E' { s with toks := s.toks + 1 } := by
  intro A' Q' E' k
  unfold checkBuiltinCall
  rw [exg_kind, exg_split]
  show wpAny _ _ (isInstance (.ref e) (.type "BaseException") >>= _) _ _ _
  refine wpAny_bind ?_
  unfold isInstance
  refine wpAny_bind (I.type _ _ _ _ (fun _ _ h => h) (PySem.W.looks_mroIn KX h4 _ _ _ _ (fun _ _ h => h) ?_))
  show wpAny _ _ (match Manifest.signature? "BaseException.__getattribute__" with | some sig => Bind.checkArgs "BaseException.__getattribute__" sig ⟨[.ref e, .str "__class__" s.toks], []⟩ | _ => pure ()) _ _ _
  rw [exg_sig]
  exact wpAny_pure k
 refine chk _ _ _ ?_
 unfold Builtin.«object.__getattribute__»
 refine wpAny_bind (wpAny_pure ?_)
 refine wpAny_bind (wpAny_pure ?_)
 refine wpAny_bind (I.type _ _ _ _ (fun _ _ h => h) ?_)
 refine wpAny_bind (PySem.W.looks_find KX I h2 _ _ _ _ (fun _ _ h => h) ?_)
 show wpAny _ _ (Builtin.ObjectAttr.bindTo _ _ _ _) _ _ _
 show wpAny _ _ (holding [Value.builtin "object.__class__"] (call (Value.builtin "getset_descriptor.__get__") [Value.builtin "object.__class__", .ref e, .ref C]) >>= fun x => ret x) _ _ _
 refine wpAny_bind (wpAny_holding (wpAny_call (PySem.W.class_get KX I h3 ?_)))
 refine wpAny_pure ?_
 show wpAny _ _ (handedOut (.ref C)) _ _ _
 exact wpAny_pure (wpAny_pure q)
structure ExcC (K : PySem.W.Frag) (C : Addr) : Prop where
 ga : PySem.W.findIn K (.ref C) "__getattribute__" = some (some (.builtin "BaseException.__getattribute__"))
 gx : PySem.W.findIn K (.ref C) "__getattr__" = some none
 fo : PySem.W.findObj K C none "__class__" = some (.bind (.builtin "getset_descriptor.__get__") (.builtin "object.__class__"))
 ob : PySem.W.mroIn K C (.type "object") = some true
 be : PySem.W.mroIn K C (.type "BaseException") = some true
 self : PySem.W.kitCls K (.ref C) (.ref C) = some true
def ExO (e C : Addr) (h : Heap) : Prop := ∃ ox, PySem.W.InstAt h e ox C none
theorem clsIn_get {K : PySem.W.Frag} {C : Addr} {h : Heap} (KX : K.In h) (hs : (PySem.W.clsIn K C).isSome = true) : ∃ o cd, h.get? C = some o /\ o.data = .cls cd := by
 unfold PySem.W.clsIn at hs
 split at hs
 ·rename_i hh
  exact ⟨_, _, KX _ _ hh, rfl⟩
 ·simp at hs
theorem kitx_exc {K : PySem.W.Frag} {e C : Addr} (c : ExcC K C) : PySem.W.KitX K (.ref e) (.ref C) (ExO e C) where
 ty := fun M h KX ⟨ox, I⟩ => I.type
 it := fun M h KX _ => (PySem.W.kit_cls KX c.self).2.1
 ne := fun h tp dd its n sl KX ht => by
  have hs : (PySem.W.clsIn K C).isSome = true := by
   have := c.self
   simp [PySem.W.kitCls] at this
   exact this.1.1
  obtain ⟨o, cd, h1, h2⟩ := clsIn_get KX hs
  rw [beq_eq_false_iff_ne]
  intro z
  cases z
  rw [ht] at h1
  cases h1
  cases h2
 ca := fun KX ⟨ox, I⟩ q => exc_class KX I c.ga c.gx c.fo c.ob c.be q
def Out1 (X : Cx) (b : Addr) : Prop := X.ex = [] /\ X.s₀.heap.get? b = none /\ b ≠ X.env.locals /\ (∀ x c, X.env.cells.lookup x = some c -> c ≠ b) /\ ∀ p ∈ X.pn, p.1 ≠ b
theorem get_big {h : Heap} {b : Addr} (hb : h.objs.size <= b) : h.get? b = none := by
 cases e : h.get? b with
 | none => rfl
 | some o => exact absurd (Heap.lt_size e) (Nat.not_lt.mpr hb)
section
variable {X : Cx} {pins : List (Addr × Obj)} {σ : St} {H : Hp} {s : Shared}
theorem Out1.of (I : Inv X pins σ H s) (hex : X.ex = []) {b : Addr} (hb : s.heap.get? b = none) : Out1 X b := by
 refine ⟨hex, ?_, fun z => ?_, fun x c e z => ?_, fun p hp z => ?_⟩
 ·cases e : X.s₀.heap.get? b with
  | none => rfl
  | some o =>
   obtain ⟨o', e'⟩ := I.base.there b o e (by rw [hex]; simp)
   rw [hb] at e'
   cases e'
 ·obtain ⟨m, ⟨o, _, _, ho, _⟩, _⟩ := I.loc
  rw [<- z, hb] at ho
  cases ho
 ·obtain ⟨v, o, ho, _⟩ := I.cell x c e
  rw [z, hb] at ho
  cases ho
 ·have := (I.pin p (List.mem_append_left _ hp)).1
  rw [z, hb] at this
  cases this
noncomputable def Cx.turn (X : Cx) (ch : List Addr) : Cx := { X with ex := ch }
theorem Inv.turn {ch : List Addr} (I : Inv X pins σ H s) (hex : X.ex = []) (hc : ∀ b ∈ ch, Out1 X b) : Inv (X.turn ch) pins σ H s := by
 have ok := I.ok
 have nb : ∀ b ∈ ch, X.base.get? b = none := fun b hb => by
  cases e : X.base.get? b with
  | none => rfl
  | some o => have := (ok.bs b o e).1; rw [(hc b hb).2.1] at this; cases this
 refine ⟨⟨ok.mod, ok.kind, ok.glob, ok.blt, ok.above, ok.inj, ok.has, ok.cab, ok.hd, ok.frames, ok.stk, fun b hb => ⟨(hc b hb).2.2.1, (hc b hb).2.2.2.1⟩, ok.bs, ok.bsz, fun b o e hb => ?_, fun b hb hf => ?_, ok.funs, ok.frf⟩, I.os, I.bare, ?_, I.loc, I.cell, I.free, I.freeC, I.pin, I.hok, I.len⟩
 ·have := nb b hb
  rw [show X.base.get? b = some o from e] at this
  cases this
 ·obtain ⟨_, o, e, _⟩ := ok.funs.mem hf
  rw [(hc b hb).2.1] at e
  cases e
 ·exact ⟨fun b o e n m _ => I.base.keep b o e n m (by rw [hex]; simp), fun b o e n m _ => I.base.slot b o e n m (by rw [hex]; simp), fun b o e n _ => I.base.free b o e n (by rw [hex]; simp), fun b o e _ => I.base.there b o e (by rw [hex]; simp), I.base.tups, I.base.frzs, I.base.tbls⟩
theorem Inv.unturn {ch : List Addr} (I : Inv (X.turn ch) pins σ H s) (ok : X.Ok) (hex : X.ex = []) (hc : ∀ b ∈ ch, Out1 X b) : Inv X pins σ H s := by
 have nc : ∀ b o, X.s₀.heap.get? b = some o -> b ∉ ch := fun b o e hb => by rw [(hc b hb).2.1] at e; cases e
 exact ⟨ok, I.os, I.bare, ⟨fun b o e n m _ => I.base.keep b o e n m (nc b o e), fun b o e n m _ => I.base.slot b o e n m (nc b o e), fun b o e n _ => I.base.free b o e n (nc b o e), fun b o e _ => I.base.there b o e (nc b o e), I.base.tups, I.base.frzs, I.base.tbls⟩, I.loc, I.cell, I.free, I.freeC, I.pin, I.hok, I.len⟩
end
structure Fly (X : Cx) (H : Hp) (h : Heap) (e C : Addr) : Prop where
 out : Out1 X e
 free : H e = none
 obj : ∃ oe vs, h.get? e = some oe /\ oe.cls = .ref C /\ oe.dict = none /\ oe.data = .fields vs /\ (vs[1]? = some .none \/
  ∃ T oT ts, vs[1]? = some (.ref T) /\ T ≠ e /\ Out1 X T /\ H T = none /\ h.get? T = some oT /\ oT.data = .fields ts /\ ts[3]? = some .none)
structure Chg (S ch : List Addr) (h h' : Heap) : Prop where
 keep : ∀ b o, h.get? b = some o -> b ∉ ch -> b ∉ S -> h'.get? b = some o
 slot : ∀ b o, h.get? b = some o -> b ∉ ch -> ∃ sl, h'.get? b = some { o with slots := sl }
theorem Chg.trans {S ch : List Addr} {h h1 h2 : Heap} (a : Chg S ch h h1) (b : Chg S ch h1 h2) : Chg S ch h h2 :=
 ⟨fun c o e n m => b.keep c o (a.keep c o e n m) n m, fun c o e n => by
  obtain ⟨sl, e1⟩ := a.slot c o e n
  obtain ⟨sl2, e2⟩ := b.slot c _ e1 n
  exact ⟨sl2, e2⟩⟩
theorem Chg.upd {S ch : List Addr} {h : Heap} {a : Addr} (f : Obj -> Obj) (ha : a ∈ ch) : Chg S ch h (h.update a f) :=
 ⟨fun b o e n _ => Heap.get?_update_of_ne f (fun z => n (z ▸ ha)) e, fun b o e n => ⟨o.slots, Heap.get?_update_of_ne f (fun z => n (z ▸ ha)) e⟩⟩
theorem Chg.push {S ch : List Addr} {h : Heap} (o : Obj) : Chg S ch h (h.push o) := ⟨fun b u e _ _ => Heap.get?_push_of_some o e, fun b u e _ => ⟨u.slots, Heap.get?_push_of_some o e⟩⟩
theorem Chg.slots {S ch : List Addr} {h h' : Heap} (x : Heap.SlotsOnly S h h') : Chg S ch h h' := ⟨fun b o e _ m => by rw [x.2.1 b m]; exact e, fun b o e _ => x.2.2 b o e⟩
section
variable {X : Cx} {pins : List (Addr × Obj)} {σ : St} {H : Hp} {s : Shared}
theorem Inv.chg {ch : List Addr} {h' : Heap} (I : Inv X pins σ H s) (hex : X.ex = []) (c : Chg (frs X.stack) ch s.heap h') (hc : ∀ b ∈ ch, Out1 X b /\ H b = none) : Inv X [] σ H { s with heap := h' } := by
 have I0 : Inv X [] σ H s := I.pins_of fun p hp => absurd hp (by simp)
 have I1 := I0.turn hex fun b hb => (hc b hb).1
 refine Inv.unturn (ch := ch) (I1.call (g' := s.gens) (t' := s.toks) (d' := s.drawn) (ch := ch) (H' := H) (h' := h') ⟨fun b o e n m x => c.keep b o e x m, fun b o e n m x => c.slot b o e x, fun b o e n _ => n, fun b o e x => let ⟨sl, z⟩ := c.slot b o e x; ⟨_, z⟩, fun _ _ e => e, fun _ _ _ e => e, fun b ps e => ⟨#[], by rw [e]; simp⟩⟩ (fun b u e => ?_) I.bare (fun b hb => ?_)) I.ok hex fun b hb => (hc b hb).1
 ·refine (I.hok b u e).stay (fun d v hd q => c.keep d v q (fun z => ?_) fun z => ?_) (fun _ q => q) fun _ _ q => q
  ·have := (hc d z).2
   rcases hd with rfl | hd
   ·rw [e] at this; cases this
   ·rw [hd] at this; cases this
  ·have := I.stkFree d z
   rcases hd with rfl | hd
   ·rw [e] at this; cases this
   ·rw [hd] at this; cases this
 ·obtain ⟨⟨_, h1, h2, h3, h4⟩, _⟩ := hc b hb
  exact ⟨.inl hb, h2, h3, fun p hp => h4 p (by have hp : p ∈ X.pn ++ [] := hp; simpa using hp)⟩
theorem mf_cls {f : Array Value -> Array Value} {o : Obj} : (Obj.mapFields f o).cls = o.cls /\ (Obj.mapFields f o).dict = o.dict := by
 rcases o with ⟨c, d, dt, sl⟩
 cases dt <;> exact ⟨rfl, rfl⟩
theorem mf_data {f : Array Value -> Array Value} {o : Obj} {vs : Array Value} (h : o.data = .fields vs) : (Obj.mapFields f o).data = .fields (f vs) := by
 rcases o with ⟨c, d, dt, sl⟩
 cases h
 rfl
theorem fr_not {o : Obj} {vs : Array Value} (h : o.data = .fields vs) : o.isFreed = false := by
 rcases o with ⟨c, d, dt, sl⟩
 cases h
 rfl
theorem leave_tail {M : Model} {E : Value -> Shared -> Prop} {Q : Unit -> Shared -> Prop} {e C : Addr} {oe : Obj} {vs : Array Value} {head : Value} {hadNext : Bool} (I : Inv X pins σ H s) (hst : X.stack = X.env :: X.outer) (hfr : X.env.frame = some X.env.locals)
  (out : Out1 X e) (free : H e = none) (he : s.heap.get? e = some oe) (hc : oe.cls = .ref C) (hd : oe.dict = none) (hf : oe.data = .fields vs) (hv : 1 < vs.size)
  (k : ∀ h', Inv X [] σ H { s with heap := h' } -> Fly X H h' e C -> Q () { s with heap := h' }) :
  wpAny M X.A (do
   let a <- frameOf X.env
   let pl <- entryPlaceOf X.env.locals hadNext
   let b <- EntryCells.newEntry head a Value.none (rawInt ↑X.env.locals) Value.none pl
   setField (Value.ref e) 1 b) (fun _ s' => wpAny M X.A (setFlight (.ref e) none) Q E s') E s := by
 refine wpAny_bind (wpAny_frameOf_fun (by rw [I.ok.frames, hst]) (by rw [<- hst]; exact I.stack) hfr fun h1 so => ?_)
 refine wpAny_bind (wpAny_entryPlaceOf fun pl ip => ?_)
 have c1 : Chg (frs X.stack) [e, s.heap.objs.size] s.heap h1 := by rw [hst]; exact Chg.slots so
 have ne : s.heap.objs.size ≠ e := fun z => absurd (Heap.lt_size he) (by rw [<- z]; exact Nat.lt_irrefl _)
 obtain ⟨sl, he1⟩ := so.2.2 e oe he
 obtain ⟨tb, htb, hts⟩ : ∃ tb : List Value, ([head, Value.ref X.env.locals, Value.none, rawInt ↑X.env.locals, Value.none] ++ if pl.isEmpty = true then List.replicate 6 Value.none else pl) = tb /\ tb.length = 11 := by
  refine ⟨_, rfl, ?_⟩
  rcases ip with rfl | ⟨_, _, _, _, _, _, _, rfl⟩ <;> rfl
 unfold EntryCells.newEntry newFields newObj
 refine wpAny_bind ?_
 show wpAny _ _ (if (([head, Value.ref X.env.locals, Value.none, rawInt ↑X.env.locals, Value.none] ++ if pl.isEmpty = true then List.replicate 6 Value.none else pl).toArray).size > sizeLine + 2 then _ else newObjAsIs _ _ _) _ _ _
 rw [htb, if_neg (by rw [List.size_toArray, hts]; decide)]
 unfold newObjAsIs
 refine wpAny_bind (wpAny_alloc (wpAny_pure ?_))
 rw [so.1]
 refine wpAny_setField (Heap.get?_push_of_some _ he1) hf hv ?_
 have g1 : ((h1.push { cls := .type "traceback", data := .fields tb.toArray }).update e (Obj.mapFields fun x => x.setIfInBounds 1 (.ref s.heap.objs.size))).get? e = some (Obj.mapFields (fun x => x.setIfInBounds 1 (.ref s.heap.objs.size)) { oe with slots := sl }) :=
  Heap.get?_update_self _ (Heap.get?_push_of_some _ he1) (fr_not (mf_data (o := { oe with slots := sl }) hf))
 have g2 : ((h1.push { cls := .type "traceback", data := .fields tb.toArray }).update e (Obj.mapFields fun x => x.setIfInBounds 1 (.ref s.heap.objs.size))).get? s.heap.objs.size = some { cls := .type "traceback", data := .fields tb.toArray } :=
  Heap.get?_update_of_ne _ (Ne.symm ne) (by rw [<- so.1]; exact Heap.get?_push_size h1 rfl)
 have v1 : (vs.setIfInBounds 1 (.ref s.heap.objs.size))[1]? = some (.ref s.heap.objs.size) := by simp [hv]
 unfold setFlight
 refine wpAny_bind (wpAny_field g1 (mf_data (o := { oe with slots := sl }) hf) v1 ?_)
 show wpAny _ _ (setField (.ref s.heap.objs.size) 3 .none) _ _ _
 refine wpAny_setField g2 rfl (by rw [List.size_toArray, hts]; decide) ?_
 refine k _ (I.chg out.1 (ch := [e, s.heap.objs.size]) (((c1.trans (Chg.push _)).trans (Chg.upd _ (by simp))).trans (Chg.upd _ (by simp))) fun b hb => ?_) ⟨out, free, _, _, Heap.get?_update_of_ne _ ne g1, ?_, ?_, mf_data (o := { oe with slots := sl }) hf, .inr ⟨s.heap.objs.size, _, _, v1, ne, Out1.of I out.1 (get_big (Nat.le_refl _)), I.hok.fresh (Nat.le_refl _), Heap.get?_update_self _ g2 rfl, rfl, ?_⟩⟩
 ·rcases List.mem_cons.mp hb with rfl | hb
  ·exact ⟨out, free⟩
  ·obtain rfl : b = s.heap.objs.size := by simpa using hb
   exact ⟨Out1.of I out.1 (get_big (Nat.le_refl _)), I.hok.fresh (Nat.le_refl _)⟩
 ·rw [mf_cls.1]; exact hc
 ·rw [mf_cls.2]; exact hd
 ·simp [hts]
theorem leave_fly2 {M : Model} {E : Value -> Shared -> Prop} {Q : Unit -> Shared -> Prop} {e C : Addr} (I : Inv X pins σ H s) (hst : X.stack = X.env :: X.outer) (hfr : X.env.frame = some X.env.locals) (F : Fly X H s.heap e C)
  (k : ∀ h', Inv X [] σ H { s with heap := h' } -> Fly X H h' e C -> Q () { s with heap := h' }) : wpAny M X.A (noteFrame (.ref e) X.env) (fun _ s' => wpAny M X.A (setFlight (.ref e) none) Q E s') E s := by
 obtain ⟨out, free, oe, vs, he, hc, hd, hf, hh⟩ := F
 unfold noteFrame
 rw [hfr]
 rcases hh with hh | ⟨T, oT, ts, hT, nT, outT, freeT, heT, hfT, h3⟩
 ·refine wpAny_bind (wpAny_field he hf hh ?_)
  exact leave_tail I hst hfr out free he hc hd hf (by have := (Array.getElem?_eq_some_iff.mp hh).1; exact this) k
 ·refine wpAny_bind (wpAny_field he hf hT ?_)
  show wpAny _ _ (field (.ref T) 3 >>= _) _ _ _
  refine wpAny_bind (wpAny_field heT hfT h3 ?_)
  show wpAny _ _ (setField (.ref T) 3 .none >>= _) _ _ _
  refine wpAny_bind (wpAny_setField heT hfT (by have := (Array.getElem?_eq_some_iff.mp h3).1; exact this) ?_)
  have I1 := I.chg out.1 (ch := [T]) (Chg.upd (S := frs X.stack) (h := s.heap) (Obj.mapFields fun x => x.setIfInBounds 3 .none) (List.mem_singleton.mpr rfl)) fun b hb => by
   obtain rfl : b = T := by simpa using hb
   exact ⟨outT, freeT⟩
  exact leave_tail I1 hst hfr out free (Heap.get?_update_of_ne _ nT he) hc hd hf (by have := (Array.getElem?_eq_some_iff.mp hT).1; exact this) k
theorem leave_fly {M : Model} {E : Value -> Shared -> Prop} {Q : Unit -> Shared -> Prop} {e C : Addr} (I : Inv X pins σ H s) (hst : X.stack = X.env :: X.outer) (hfr : X.env.frame = some X.env.locals) (F : Fly X H s.heap e C)
  (k : ∀ h', Inv X [] σ H { s with heap := h' } -> Fly X H h' e C -> Q () { s with heap := h' }) : wpAny M X.A (leaving X.env (.ref e)) Q E s := wpAny_bind (leave_fly2 I hst hfr F k)
theorem flight_fly {M : Model} {A : Around} {E : Value -> Shared -> Prop} {Q : Unit -> Shared -> Prop} {e C : Addr} (I : Inv X pins σ H s) (F : Fly X H s.heap e C)
  (k : ∀ h', Inv X [] σ H { s with heap := h' } -> Fly X H h' e C -> Q () { s with heap := h' }) : wpAny M A (setFlight (.ref e) none) Q E s := by
 obtain ⟨out, free, oe, vs, he, hc, hd, hf, hh⟩ := F
 have I0 : Inv X [] σ H s := I.pins_of fun p hp => absurd hp (by simp)
 unfold setFlight
 rcases hh with hh | ⟨T, oT, ts, hT, nT, outT, freeT, heT, hfT, h3⟩
 ·refine wpAny_bind (wpAny_field he hf hh ?_)
  exact wpAny_pure (k s.heap I0 ⟨out, free, oe, vs, he, hc, hd, hf, .inl hh⟩)
 ·refine wpAny_bind (wpAny_field he hf hT ?_)
  show wpAny _ _ (setField (.ref T) 3 .none) _ _ _
  have hs3 : 3 < ts.size := (Array.getElem?_eq_some_iff.mp h3).1
  refine wpAny_setField heT hfT hs3 (k _ (I.chg out.1 (ch := [T]) (Chg.upd _ (List.mem_singleton.mpr rfl)) fun b hb => ?_) ⟨out, free, oe, vs, Heap.get?_update_of_ne _ nT he, hc, hd, hf, .inr ⟨T, _, _, hT, nT, outT, freeT, Heap.get?_update_self _ heT (fr_not (mf_data hfT)), mf_data hfT, ?_⟩⟩)
  ·obtain rfl : b = T := by simpa using hb
   exact ⟨outT, freeT⟩
  ·simp [hs3]
theorem Inv.trackX {e C : Addr} (I : Inv X pins σ H s) (F : Fly X H s.heap e C) : Inv X [] σ (upd H e (.ext (ExO e C))) s := by
 obtain ⟨out, free, oe, vs, he, hc, hd, hf, hh⟩ := F
 have I0 : Inv X [] σ H s := I.pins_of fun p hp => absurd hp (by simp)
 have ho1 : ∀ b ∈ [e], Out1 X b := fun b hb => by
  obtain rfl : b = e := by simpa using hb
  exact out
 have ne : ∀ b u, H b = some u -> b ≠ e := fun b u q z => by rw [z, free] at q; cases q
 refine Inv.unturn (ch := [e]) ((I0.turn out.1 ho1).call' (ch := [e]) rfl ⟨fun b o q n m x => q, fun b o q n m x => ⟨o.slots, q⟩, fun b o q n x => by rw [upd_ne (fun z => x (by simp [z]))]; exact n, fun b o q x => ⟨o, q⟩, fun b xs q => by rw [upd_ne (ne _ _ q)]; exact q, fun b o u q => by rw [upd_ne (ne _ _ q)]; exact q, fun b ps q => ⟨#[], by rw [upd_ne (ne _ _ q), q]; simp⟩⟩ (fun b u q => ?_) I.bare (fun b hb => ?_)) I.ok out.1 ho1
 ·by_cases hb : b = e
  ·subst hb
   rw [upd_same] at q
   cases q
   refine ⟨⟨oe, he, hc, ?_, ?_⟩, ⟨oe, he⟩, fun h1 h2 ⟨ox, i1⟩ kk => ⟨ox, kk _ i1.at_, i1.cls, i1.no, ?_⟩⟩
   ·rcases oe with ⟨_, _, dt, _⟩; cases hf; rfl
   ·rw [hd]; trivial
   ·have := i1.dict
    cases z : ox.dict with
    | none => trivial
    | some dx => rw [z] at this; exact this.elim
  ·rw [upd_ne hb] at q
   exact (I.hok b u q).stay (fun _ _ _ z => z) (fun c z => by rw [upd_ne (ne _ _ z)]; exact z) fun c xs z => by rw [upd_ne (ne _ _ z)]; exact z
 ·obtain rfl : b = e := by simpa using hb
  obtain ⟨_, h1, h2, h3, h4⟩ := out
  exact ⟨.inl hb, h2, h3, fun p hp => h4 p (by have hp : p ∈ X.pn ++ [] := hp; simpa using hp)⟩
theorem Fly.inst {e C : Addr} {h : Heap} (F : Fly X H h e C) : ∃ ox, PySem.W.InstAt h e ox C none := by
 obtain ⟨out, free, oe, vs, he, hc, hd, hf, hh⟩ := F
 refine ⟨oe, he, hc, ?_, ?_⟩
 ·rcases oe with ⟨_, _, dt, _⟩; cases hf; rfl
 ·rw [hd]; trivial
end
theorem ns_okIn {K : PySem.W.Frag} {h : Heap} {N : Addr} (KX : K.In h) (hn : PySem.W.nsOkIn K N = true) : ∃ m, h.Ns N m := by
 unfold PySem.W.nsOkIn at hn
 split at hn
 ·rename_i es ep sl hl
  refine ⟨nsFind es, _, es, ep, KX _ _ hl, rfl, ?_, fun _ => rfl⟩
  intro e he
  have := (Array.all_eq_true_iff_forall_mem.mp hn) e he
  split at this
  ·exact ⟨_, _, by assumption⟩
  ·cases this
 ·cases hn
theorem ownK {K : PySem.W.Frag} {h : Heap} {C : Addr} {bmB : List Value} {newId : String} (KX : K.In h) (hx : PySem.W.excIn K C bmB newId = true) :
  ∃ bm N nm q bs hdct sn sub ab col dd k0 k1 k2 k3 k5 mN, h.get? C = some (excClassObj nm q C N bs bm hdct sn sub ab col dd k0 k1 k2 k3 k5 newId) /\ h.Ns N mN /\ mN "__init__" = none /\ OwnTail h bmB bm := by
 unfold PySem.W.excIn at hx
 split at hx
 ·rename_i dd cd sl hl
  split at hx
  ·rename_i C' bm k0 k1 k2 k3 n k5 hm hs
   simp only [Bool.and_eq_true, Bool.not_eq_true', beq_iff_eq] at hx
   obtain ⟨⟨⟨⟨⟨rfl, rfl⟩, hd⟩, ht⟩, hn⟩, hi⟩ := hx
   obtain ⟨mN, hN⟩ := ns_okIn KX hn
   rcases cd with ⟨nm, bs, mro, ns, q, hdct, sn, sub, ab, col, hdel⟩
   cases hm
   cases hd
   refine ⟨bm, ns, nm, q, bs, hdct, sn, sub, ab, col, dd, k0, k1, k2, k3, k5, mN, ?_, hN, PySem.W.ns_none_of KX hN hi, PySem.W.tail_of_in KX ht⟩
   rw [KX _ _ hl]
   have : sl = #[k0, k1, k2, k3, some (Value.builtin n), k5] := by rw [<- Array.toArray_toList (xs := sl), hs]
   rw [this]
  ·cases hx
 ·cases hx
theorem tail_has {h : Heap} {bmB bm : List Value} {v : Value} (t : OwnTail h bmB bm) (e : bmB.contains v = true) : bm.contains v = true := by
 induction t with
 | base => exact e
 | own _ _ _ _ ih => rw [List.contains_cons, ih, Bool.or_true]
inductive D where
 | non | bl (b : Bool) | int (i : Int) | str (x : Str) | tup (xs : List D) | lst (xs : List D) | dic (ks : List Key) (xs : List D)
mutual
def Rep (K : PySem.W.Frag) (H : Hp) : D -> V -> Prop
 | .non, v => v = .non
 | .bl b, v => v = .bl b
 | .int i, v => v = .int i
 | .str x, v => v = .str x
 | .tup ds, v => ∃ a vs, v = .ref a /\ SqT K H a vs /\ RepL K H ds vs
 | .lst ds, v => ∃ a vs, v = .ref a /\ SqL K H a vs /\ RepL K H ds vs
 | .dic ks ds, v => ∃ a vs, v = .ref a /\ Rd H a (.dK (ks.zip vs)) /\ ks.length = ds.length /\ ks.Nodup /\ RepL K H ds vs
def RepL (K : PySem.W.Frag) (H : Hp) : List D -> List V -> Prop
 | [], vs => vs = []
 | d :: ds, vs => ∃ v r, vs = v :: r /\ Rep K H d v /\ RepL K H ds r
end
theorem Same.rd {H H' : Hp} (e : Same H H') {a : Addr} {u : HO} (h : Rd H a u) : Rd H' a u := h.elim (fun z => .inl (e _ _ z)) fun ⟨o, z⟩ => .inr ⟨o, e _ _ z⟩
theorem Same.sqT {K : PySem.W.Frag} {H H' : Hp} (e : Same H H') {a : Addr} {xs : List V} (h : SqT K H a xs) : SqT K H' a xs := h.elim (fun z => .inl (e.rd z)) .inr
theorem Same.sqL {K : PySem.W.Frag} {H H' : Hp} (e : Same H H') {a : Addr} {xs : List V} (h : SqL K H a xs) : SqL K H' a xs := h.elim (fun z => .inl (e.rd z)) .inr
mutual
theorem Rep.mono {K : PySem.W.Frag} {H H' : Hp} (e : Same H H') : ∀ {d : D} {v : V}, Rep K H d v -> Rep K H' d v
 | .non, _, h => by simp only [Rep] at h ⊢; exact h
 | .bl b, _, h => by simp only [Rep] at h ⊢; exact h
 | .int i, _, h => by simp only [Rep] at h ⊢; exact h
 | .str x, _, h => by simp only [Rep] at h ⊢; exact h
 | .tup ds, _, h => by
  simp only [Rep] at h ⊢
  obtain ⟨a, vs, h1, h2, h3⟩ := h
  exact ⟨a, vs, h1, e.sqT h2, RepL.mono e h3⟩
 | .lst ds, _, h => by
  simp only [Rep] at h ⊢
  obtain ⟨a, vs, h1, h2, h3⟩ := h
  exact ⟨a, vs, h1, e.sqL h2, RepL.mono e h3⟩
 | .dic ks ds, _, h => by
  simp only [Rep] at h ⊢
  obtain ⟨a, vs, h1, h2, h3, h4, h5⟩ := h
  exact ⟨a, vs, h1, e.rd h2, h3, h4, RepL.mono e h5⟩
theorem RepL.mono {K : PySem.W.Frag} {H H' : Hp} (e : Same H H') : ∀ {ds : List D} {vs : List V}, RepL K H ds vs -> RepL K H' ds vs
 | [], _, h => by simp only [RepL] at h ⊢; exact h
 | d :: ds, _, h => by
  simp only [RepL] at h ⊢
  obtain ⟨v, r, h1, h2, h3⟩ := h
  exact ⟨v, r, h1, Rep.mono e h2, RepL.mono e h3⟩
end
theorem RepL.length {K : PySem.W.Frag} {H : Hp} : ∀ {ds : List D} {vs : List V}, RepL K H ds vs -> ds.length = vs.length
 | [], _, h => by simp only [RepL] at h; subst h; rfl
 | d :: ds, _, h => by
  simp only [RepL] at h
  obtain ⟨v, r, h1, h2, h3⟩ := h
  subst h1
  simp [RepL.length h3]
theorem RepL.get {K : PySem.W.Frag} {H : Hp} : ∀ {ds : List D} {vs : List V} {i : Nat} {d : D}, RepL K H ds vs -> ds[i]? = some d -> ∃ v, vs[i]? = some v /\ Rep K H d v
 | [], _, _, _, _, e => by simp at e
 | x :: ds, _, 0, d, h, e => by
  simp only [RepL] at h
  obtain ⟨v, r, h1, h2, h3⟩ := h
  subst h1
  simp at e
  subst e
  exact ⟨v, rfl, h2⟩
 | x :: ds, _, i + 1, d, h, e => by
  simp only [RepL] at h
  obtain ⟨v, r, h1, h2, h3⟩ := h
  subst h1
  obtain ⟨u, h4, h5⟩ := RepL.get (i := i) h3 (by simpa using e)
  exact ⟨u, by simpa using h4, h5⟩
theorem RepL.append {K : PySem.W.Frag} {H : Hp} : ∀ {ds es : List D} {vs us : List V}, RepL K H ds vs -> RepL K H es us -> RepL K H (ds ++ es) (vs ++ us)
 | [], _, _, _, h, h' => by simp only [RepL] at h; subst h; exact h'
 | d :: ds, _, _, _, h, h' => by
  simp only [RepL] at h
  obtain ⟨v, r, h1, h2, h3⟩ := h
  subst h1
  simp only [List.cons_append, RepL]
  exact ⟨v, _, rfl, h2, RepL.append h3 h'⟩
theorem RepL.drop {K : PySem.W.Frag} {H : Hp} : ∀ (n : Nat) {ds : List D} {vs : List V}, RepL K H ds vs -> RepL K H (ds.drop n) (vs.drop n)
 | 0, _, _, h => h
 | _ + 1, [], _, h => by simp only [RepL] at h; subst h; simp [RepL]
 | n + 1, d :: ds, _, h => by
  simp only [RepL] at h
  obtain ⟨v, r, h1, h2, h3⟩ := h
  subst h1
  exact RepL.drop n h3
theorem RepL.take {K : PySem.W.Frag} {H : Hp} : ∀ (n : Nat) {ds : List D} {vs : List V}, RepL K H ds vs -> RepL K H (ds.take n) (vs.take n)
 | 0, _, _, h => by simp [RepL]
 | _ + 1, [], _, h => by simp only [RepL] at h; subst h; simp [RepL]
 | n + 1, d :: ds, _, h => by
  simp only [RepL] at h
  obtain ⟨v, r, h1, h2, h3⟩ := h
  subst h1
  simp only [List.take_succ_cons, RepL]
  exact ⟨v, _, rfl, h2, RepL.take n h3⟩
theorem RepL.snoc {K : PySem.W.Frag} {H : Hp} {ds : List D} {vs : List V} {d : D} {v : V} (h : RepL K H ds vs) (r : Rep K H d v) : RepL K H (ds ++ [d]) (vs ++ [v]) :=
 h.append (by simp only [RepL]; exact ⟨v, [], rfl, r, rfl⟩)
structure Grow (G H G' H' : Hp) : Prop where
 g : Same G G'
 h : Same H H'
 s : Same G' H'
 n : ∀ a o, H a = some o -> G a = none -> G' a = none
theorem Grow.refl {G H : Hp} (s : Same G H) : Grow G H G H := ⟨Same.refl _, Same.refl _, s, fun _ _ _ n => n⟩
theorem Grow.trans {G H G1 H1 G2 H2 : Hp} (a : Grow G H G1 H1) (b : Grow G1 H1 G2 H2) : Grow G H G2 H2 :=
 ⟨a.g.trans b.g, a.h.trans b.h, b.s, fun x o e n => b.n x o (a.h x o e) (a.n x o e n)⟩
theorem Same.upd {G H : Hp} (s : Same G H) {p : Addr} (o : HO) : Same (upd G p o) (upd H p o) := fun b u e => by
 by_cases hb : b = p
 ·subst hb; rw [upd_same] at e ⊢; exact e
 ·rw [upd_ne hb] at e ⊢; exact s b u e
theorem same_new {H : Hp} {p : Addr} (o : HO) (n : H p = none) : Same H (L2.upd H p o) := fun b u e => by
 rw [upd_ne (ne_of_none e n)]; exact e
theorem Grow.laid {G H : Hp} (s : Same G H) {p : Addr} (o : HO) (n : H p = none) : Grow G H (L2.upd G p o) (L2.upd H p o) :=
 ⟨same_new o (s.free n), same_new o n, s.upd o, fun a u e z => by rw [upd_ne (ne_of_none e n)]; exact z⟩
inductive Mo where
 | lst (xs : List D) | dic (ks : List Key) (xs : List D)
@[simp] noncomputable def Mo.d : Mo -> D | .lst xs => .lst xs | .dic ks xs => .dic ks xs
@[simp] noncomputable def Mo.vals : Mo -> List D | .lst xs => xs | .dic _ xs => xs
noncomputable def Mo.ho : Mo -> List V -> HO | .lst _, vs => .lst vs | .dic ks _, vs => .dK (ks.zip vs)
def Mo.ok : Mo -> Prop | .lst _ => True | .dic ks xs => ks.length = xs.length /\ ks.Nodup
inductive Sl where
 | sh (d : D) | pv (m : Mo) (o : Option Addr) | ob (c : Str)
@[simp] noncomputable def Sl.d : Sl -> D | .sh d => d | .pv m _ => m.d | .ob _ => .non
@[simp] noncomputable def Sl.ok : Sl -> Bool | .ob _ => false | _ => true
def IsEx (K : PySem.W.Frag) (H : Hp) (c : Str) (v : V) : Prop := ∃ a C, v = .ref a /\ PySem.W.nsIn K mainGlobals c = some (some (.ref C)) /\ ExcC K C /\ H a = some (.ext (ExO a C))
theorem IsEx.mono {K : PySem.W.Frag} {H H' : Hp} (s : Same H H') {c : Str} {v : V} (h : IsEx K H c v) : IsEx K H' c v := by
 obtain ⟨a, C, h1, h2, h3, h4⟩ := h
 exact ⟨a, C, h1, h2, h3, s _ _ h4⟩
abbrev En := List (Option Sl)
def RepX (K : PySem.W.Frag) (B G H : Hp) : Sl -> V -> Prop
 | .sh d, v => Rep K G d v
 | .pv m o, v => ∃ a vs, v = .ref a /\ B a = none /\ G a = none /\ H a = some (m.ho vs) /\ m.ok /\ RepL K G m.vals vs /\ ∀ b, o = some b -> b = a
 | .ob c, v => IsEx K G c v
theorem RepX.grow {K : PySem.W.Frag} {B G H G' H' : Hp} (g : Grow G H G' H') : ∀ {x : Sl} {v : V}, RepX K B G H x v -> RepX K B G' H' x v
 | .sh d, _, h => Rep.mono g.g h
 | .pv m o, _, ⟨a, vs, h1, h0, h2, h3, h5, h4, h6⟩ => ⟨a, vs, h1, h0, g.n a _ h3 h2, g.h _ _ h3, h5, h4.mono g.g, h6⟩
 | .ob c, _, h => IsEx.mono g.g h
structure RepS (K : PySem.W.Frag) (B G H : Hp) (δ : En) (σ : St) : Prop where
 len : δ.length = σ.length
 at_ : ∀ (i : Nat) (x : Sl), δ[i]? = some (some x) -> ∃ v, σ[i]? = some (some v) /\ RepX K B G H x v
 ap : ∀ (i j : Nat) (x y : Mo) (o o' : Option Addr), i ≠ j -> δ[i]? = some (some (.pv x o)) -> δ[j]? = some (some (.pv y o')) -> σ[i]? ≠ σ[j]?
theorem RepS.grow {K : PySem.W.Frag} {B G H G' H' : Hp} {δ : En} {σ : St} (r : RepS K B G H δ σ) (g : Grow G H G' H') : RepS K B G' H' δ σ :=
 ⟨r.len, fun i x e => let ⟨v, h1, h2⟩ := r.at_ i x e; ⟨v, h1, h2.grow g⟩, r.ap⟩
theorem get_set {α : Type} {l : List α} {i j : Nat} {x y : α} (e : (l.set i x)[j]? = some y) : (i = j /\ x = y) \/ (i ≠ j /\ l[j]? = some y) := by
 by_cases h : i = j
 ·subst h
  by_cases hl : i < l.length
  ·rw [List.getElem?_set_self hl] at e
   exact .inl ⟨rfl, Option.some.inj e⟩
  ·rw [List.getElem?_eq_none (by simpa using hl)] at e; cases e
 ·rw [List.getElem?_set_ne h] at e
  exact .inr ⟨h, e⟩
theorem RepS.put {K : PySem.W.Frag} {B G H : Hp} {δ : En} {σ : St} (r : RepS K B G H δ σ) (i : Nat) {x : Sl} {v : V} (h : RepX K B G H x v)
  (ha : ∀ m o, x = .pv m o -> ∀ (j : Nat) (y : Mo) (o' : Option Addr), j ≠ i -> δ[j]? = some (some (.pv y o')) -> σ[j]? ≠ some (some v)) : RepS K B G H (δ.set i (some x)) (σ.set i (some v)) := by
 refine ⟨by simp [r.len], fun j y e => ?_, fun j l y z o o' hjl e1 e2 => ?_⟩
 ·have hl0 := (List.getElem?_eq_some_iff.mp e).1
  rw [List.length_set, r.len] at hl0
  rcases get_set e with ⟨rfl, e'⟩ | ⟨hj, e'⟩
  ·cases e'
   exact ⟨v, List.getElem?_set_self hl0, h⟩
  ·rw [List.getElem?_set_ne hj]
   exact r.at_ j y e'
 ·have inb : ∀ (m : Nat) (w : Mo) (o : Option Addr), (δ.set i (some x))[m]? = some (some (.pv w o)) -> m < σ.length := fun m w o e => by
   have := (List.getElem?_eq_some_iff.mp e).1
   rw [List.length_set, r.len] at this
   exact this
  rcases get_set e1 with ⟨rfl, f1⟩ | ⟨h1, f1⟩
  ·rcases get_set e2 with ⟨rfl, f2⟩ | ⟨h2, f2⟩
   ·exact absurd rfl hjl
   ·cases f1
    rw [List.getElem?_set_self (inb _ _ _ e1), List.getElem?_set_ne h2]
    exact fun z => ha _ _ rfl l _ _ (Ne.symm h2) f2 z.symm
  ·rcases get_set e2 with ⟨rfl, f2⟩ | ⟨h2, f2⟩
   ·cases f2
    rw [List.getElem?_set_self (inb _ _ _ e2), List.getElem?_set_ne h1]
    exact ha _ _ rfl j _ _ (Ne.symm h1) f1
   ·rw [List.getElem?_set_ne h1, List.getElem?_set_ne h2]
    exact r.ap j l y z o o' hjl f1 f2
theorem RepS.set {K : PySem.W.Frag} {B G H : Hp} {δ : En} {σ : St} (r : RepS K B G H δ σ) (i : Nat) {d : D} {v : V} (h : Rep K G d v) : RepS K B G H (δ.set i (some (.sh d))) (σ.set i (some v)) :=
 r.put i (x := .sh d) h fun m o e => nomatch e
def RepB (K : PySem.W.Frag) (G H : Hp) (d : D) (v : V) : Prop := Rep K G d v \/ ∃ (m : Mo) (a : Addr) (vs : List V), d = m.d /\ v = .ref a /\ H a = some (m.ho vs) /\ m.ok /\ RepL K G m.vals vs
theorem RepB.grow {K : PySem.W.Frag} {G H G' H' : Hp} {d : D} {v : V} (r : RepB K G H d v) (g : Grow G H G' H') : RepB K G' H' d v := by
 rcases r with r | ⟨m, a, vs, h1, h2, h3, h4, h5⟩
 ·exact .inl (r.mono g.g)
 ·exact .inr ⟨m, a, vs, h1, h2, g.h _ _ h3, h4, h5.mono g.g⟩
theorem RepB.lst {K : PySem.W.Frag} {G H : Hp} {ds : List D} {v : V} (r : RepB K G H (.lst ds) v) (s : Same G H) : ∃ a vs, v = .ref a /\ SqL K H a vs /\ RepL K G ds vs := by
 rcases r with r | ⟨m, a, vs, h1, h2, h3, h4, h5⟩
 ·simp only [Rep] at r
  obtain ⟨a, vs, h1, h2, h3⟩ := r
  exact ⟨a, vs, h1, s.sqL h2, h3⟩
 ·cases m with
  | lst xs => cases h1; exact ⟨a, vs, h2, SqL.of h3, h5⟩
  | dic ks xs => cases h1
theorem RepB.tup {K : PySem.W.Frag} {G H : Hp} {ds : List D} {v : V} (r : RepB K G H (.tup ds) v) : Rep K G (.tup ds) v := by
 rcases r with r | ⟨m, a, vs, h1, _⟩
 ·exact r
 ·cases m <;> cases h1
theorem RepB.dic {K : PySem.W.Frag} {G H : Hp} {ks : List Key} {ds : List D} {v : V} (r : RepB K G H (.dic ks ds) v) (s : Same G H) : ∃ a vs, v = .ref a /\ Rd H a (.dK (ks.zip vs)) /\ ks.length = ds.length /\ ks.Nodup /\ RepL K G ds vs := by
 rcases r with r | ⟨m, a, vs, h1, h2, h3, h4, h5⟩
 ·simp only [Rep] at r
  obtain ⟨a, vs, h1, h2, h3, h4, h5⟩ := r
  exact ⟨a, vs, h1, s.rd h2, h3, h4, h5⟩
 ·cases m with
  | lst xs => cases h1
  | dic ks' xs => cases h1; exact ⟨a, vs, h2, .inl h3, h4.1, h4.2, h5⟩
theorem RepB.of {K : PySem.W.Frag} {G H : Hp} {d : D} {v : V} (r : Rep K G d v) : RepB K G H d v := .inl r
theorem RepB.all {K : PySem.W.Frag} {G H : Hp} {d : D} {v : V} (r : RepB K G H d v) (s : Same G H) : Rep K H d v := by
 rcases r with r | ⟨m, a, vs, h1, h2, h3, h4, h5⟩
 ·exact r.mono s
 ·subst h1
  cases m with
  | lst xs => simp only [Mo.d, Rep]; exact ⟨a, vs, h2, SqL.of h3, h5.mono s⟩
  | dic ks xs => simp only [Mo.d, Rep]; exact ⟨a, vs, h2, .inl h3, h4.1, h4.2, h5.mono s⟩
def RepLB (K : PySem.W.Frag) (G H : Hp) : List D -> List V -> Prop
 | [], vs => vs = []
 | d :: ds, vs => ∃ v r, vs = v :: r /\ RepB K G H d v /\ RepLB K G H ds r
abbrev FE := En -> Option D
def Gives (K : PySem.W.Frag) (t : TE) (f : FE) : Prop := ∀ (B G H : Hp) (δ : En) (σ : St) (d : D) (Q : VK), Same G H -> RepS K B G H δ σ -> f δ = some d ->
 (∀ v G' H', Grow G H G' H' -> Rep K G' d v -> Q v H') -> t σ H Q
def GivesB (K : PySem.W.Frag) (t : TE) (f : FE) : Prop := ∀ (B G H : Hp) (δ : En) (σ : St) (d : D) (Q : VK), Same G H -> RepS K B G H δ σ -> f δ = some d ->
 (∀ v G' H', Grow G H G' H' -> RepB K G' H' d v -> Q v H') -> t σ H Q
def PD (X : Cx) (e : Expr) (f : FE) : Prop := ∃ t, PE X e t /\ Gives X.K t f
def PB (X : Cx) (e : Expr) (f : FE) : Prop := ∃ t, PE X e t /\ GivesB X.K t f
theorem PD.pb {X : Cx} {e : Expr} {f : FE} (h : PD X e f) : PB X e f := by
 obtain ⟨t, pt, k⟩ := h
 exact ⟨t, pt, fun B G H δ σ d Q sG rs ef q => k B G H δ σ d Q sG rs ef fun v G' H' g r => q v G' H' g (.inl r)⟩
inductive Rs where
 | sh (d : D) | fr (m : Mo)
@[simp] noncomputable def Rs.d : Rs -> D | .sh d => d | .fr m => m.d
@[simp] noncomputable def Rs.sl : Rs -> Sl | .sh d => .sh d | .fr m => .pv m none
abbrev FR := En -> Option Rs
def WantR (K : PySem.W.Frag) (G H : Hp) (Q : VK) : Rs -> Prop
 | .sh d => ∀ v G' H', Grow G H G' H' -> Rep K G' d v -> Q v H'
 | .fr m => ∀ p vs G' H', Grow G H G' H' -> H' p = none -> m.ok -> RepL K G' m.vals vs -> Q (.ref p) (upd H' p (m.ho vs))
def GivesR (K : PySem.W.Frag) (t : TE) (f : FR) : Prop := ∀ (B G H : Hp) (δ : En) (σ : St) (r : Rs) (Q : VK), Same G H -> RepS K B G H δ σ -> f δ = some r -> WantR K G H Q r -> t σ H Q
def PR (X : Cx) (e : Expr) (f : FR) : Prop := ∃ t, PE X e t /\ GivesR X.K t f
@[simp] noncomputable def fSh (f : FE) : FR := fun δ => (f δ).map .sh
@[simp] noncomputable def fPub (f : FR) : FE := fun δ => (f δ).map Rs.d
theorem PD.pr {X : Cx} {e : Expr} {f : FE} (h : PD X e f) : PR X e (fSh f) := by
 obtain ⟨t, pt, k⟩ := h
 refine ⟨t, pt, fun B G H δ σ r Q sG rs ef q => ?_⟩
 unfold fSh at ef
 obtain ⟨d, e1, rfl⟩ := omE ef
 exact k B G H δ σ d Q sG rs e1 q
theorem rep_pub {K : PySem.W.Frag} {G : Hp} {p : Addr} {m : Mo} {vs : List V} (hn : G p = none) (ok : m.ok) (r : RepL K G m.vals vs) : Rep K (upd G p (m.ho vs)) m.d (.ref p) := by
 cases m with
 | lst xs => simp only [Mo.d, Rep]; exact ⟨p, vs, rfl, SqL.of upd_same, r.mono (same_new _ hn)⟩
 | dic ks xs => simp only [Mo.d, Rep]; exact ⟨p, vs, rfl, .inl upd_same, ok.1, ok.2, r.mono (same_new _ hn)⟩
theorem WantR.of {K : PySem.W.Frag} {G H : Hp} {Q : VK} {r : Rs} (q : ∀ v G' H', Grow G H G' H' -> Rep K G' r.d v -> Q v H') : WantR K G H Q r := by
 cases r with
 | sh d => exact q
 | fr m => exact fun p vs G' H' g hp ok rl => q _ _ _ (g.trans (Grow.laid g.s _ hp)) (rep_pub (g.s.free hp) ok rl)
theorem PR.pd {X : Cx} {e : Expr} {f : FR} (h : PR X e f) : PD X e (fPub f) := by
 obtain ⟨t, pt, k⟩ := h
 refine ⟨t, pt, fun B G H δ σ d Q sG rs ef q => ?_⟩
 unfold fPub at ef
 obtain ⟨r, e1, rfl⟩ := omE ef
 exact k B G H δ σ r Q sG rs e1 (WantR.of q)
def PDT (X : Cx) (e : Expr) (f : En -> Option Bool) : Prop := ∃ t, PT X e t /\ ∀ (B G H : Hp) (δ : En) (σ : St) (b : Bool) (Q : Bool -> Hp -> Prop), Same G H -> RepS X.K B G H δ σ -> f δ = some b ->
 (∀ G' H', Grow G H G' H' -> Q b H') -> t σ H Q
def PDW (X : Cx) (e : Expr) (f : En -> Option Bool) : Prop := ∃ t, PW X e t /\ ∀ (B G H : Hp) (δ : En) (σ : St) (b : Bool) (Q : Bool -> Hp -> Prop), Same G H -> RepS X.K B G H δ σ -> f δ = some b ->
 (∀ G' H', Grow G H G' H' -> Q b H') -> t σ H Q
def PAD (X : Cx) (es : List Expr) (f : En -> Option (List D)) : Prop := ∃ t, PA X es t /\ ∀ (B G H : Hp) (δ : En) (σ : St) (ds : List D) (Q : List V -> Hp -> Prop), Same G H -> RepS X.K B G H δ σ -> f δ = some ds ->
 (∀ vs G' H', Grow G H G' H' -> RepL X.K G' ds vs -> Q vs H') -> t σ H Q
def PAB (X : Cx) (es : List Expr) (f : En -> Option (List D)) : Prop := ∃ t, PA X es t /\ ∀ (B G H : Hp) (δ : En) (σ : St) (ds : List D) (Q : List V -> Hp -> Prop), Same G H -> RepS X.K B G H δ σ -> f δ = some ds ->
 (∀ vs G' H', Grow G H G' H' -> RepLB X.K G' H' ds vs -> Q vs H') -> t σ H Q
section
variable {X : Cx} {e a b c : Expr} {es : List Expr} {f g h : FE} {pos p : Pos}
@[simp] noncomputable def fVar (i : Nat) : FE := fun δ => match δ[i]? with | some (some (.sh d)) => some d | _ => none
theorem pd_var (i : Nat) {x : Str} (hN : X.N[i]? = some x := by rfl) (hv : Vis X.env.scope x := by walk_at "vi") (hd : (x == ("__debug__" : Str)) = false := by decide)
  (hcd : (x == ("__classdict__" : Str)) = false := by decide) : PD X (.Name x pos) (fVar i) := by
 refine ⟨tVar i, pe_var hN hv hd hcd, fun B G H δ σ d Q sG rs ef k => ?_⟩
 unfold fVar at ef
 split at ef
 ·rename_i d' ed
  cases ef
  obtain ⟨v, h1, h2⟩ := rs.at_ i _ ed
  exact ⟨v, h1, k v G H (Grow.refl sG) h2⟩
 ·cases ef
@[simp] noncomputable def fVarB (i : Nat) : FE := fun δ => match δ[i]? with | some (some x) => if x.ok = true then some x.d else none | _ => none
theorem pb_var (i : Nat) {x : Str} (hN : X.N[i]? = some x := by rfl) (hv : Vis X.env.scope x := by walk_at "vi") (hd : (x == ("__debug__" : Str)) = false := by decide)
  (hcd : (x == ("__classdict__" : Str)) = false := by decide) : PB X (.Name x pos) (fVarB i) := by
 refine ⟨tVar i, pe_var hN hv hd hcd, fun B G H δ σ d Q sG rs ef k => ?_⟩
 unfold fVarB at ef
 split at ef
 ·rename_i y ed
  split at ef
  case isFalse => cases ef
  rename_i yok
  cases ef
  obtain ⟨v, h1, h2⟩ := rs.at_ i _ ed
  refine ⟨v, h1, k v G H (Grow.refl sG) ?_⟩
  cases y with
  | ob c => cases yok
  | sh d => exact .inl h2
  | pv m o =>
   obtain ⟨a, vs, e1, _, _, e2, e3, e4, _⟩ := h2
   exact .inr ⟨m, a, vs, rfl, e1, e2, e3, e4⟩
 ·cases ef
@[simp] noncomputable def fC (d : D) : FE := fun _ => some d
theorem pd_int {i j} : PD X (.Constant (.int i) j pos) (fC (.int i)) := ⟨_, pe_int, fun B G H δ σ d Q sG rs ef k => by cases ef; exact k _ G H (Grow.refl sG) (by simp [Rep])⟩
theorem pd_bl {i j} : PD X (.Constant (.bool i) j pos) (fC (.bl i)) := ⟨_, pe_bl, fun B G H δ σ d Q sG rs ef k => by cases ef; exact k _ G H (Grow.refl sG) (by simp [Rep])⟩
theorem pd_non {j} : PD X (.Constant .none j pos) (fC .non) := ⟨_, pe_non, fun B G H δ σ d Q sG rs ef k => by cases ef; exact k _ G H (Grow.refl sG) (by simp [Rep])⟩
theorem pd_str {i j} : PD X (.Constant (.str i) j pos) (fC (.str i)) := ⟨_, pe_str, fun B G H δ σ d Q sG rs ef k => by cases ef; exact k _ G H (Grow.refl sG) (by simp [Rep])⟩
theorem pd_glob {x : Str} {v : V} {u : Value} {d : D} (hg : Gl X x) (hm : X.mg x = some u) (r : RelV v u) (rep : ∀ G, Rep X.K G d v) (hd : (x == ("__debug__" : Str)) = false := by decide) : PD X (.Name x pos) (fC d) :=
 ⟨_, pe_glob hg hm r hd, fun B G H δ σ d Q sG rs ef k => by cases ef; exact k _ G H (Grow.refl sG) (rep G)⟩
@[simp] noncomputable def fNil : En -> Option (List D) := fun _ => some []
@[simp] noncomputable def fCons (f : FE) (g : En -> Option (List D)) : En -> Option (List D) := fun δ => (f δ).bind fun d => (g δ).bind fun ds => some (d :: ds)
theorem pad_nil : PAD X [] fNil := ⟨_, pa_nil, fun B G H δ σ d Q sG rs ef k => by cases ef; exact k _ G H (Grow.refl sG) (by simp [RepL])⟩
theorem pad_cons {g : En -> Option (List D)} (ha : PD X e f) (hr : PAD X es g) (hs : starEach (e :: es) X.env = (false, eval e X.env) :: starEach es X.env := by rfl) : PAD X (e :: es) (fCons f g) := by
 obtain ⟨ta, pa, ka⟩ := ha
 obtain ⟨tr, pr, kr⟩ := hr
 refine ⟨_, pa_cons pa pr hs, fun B G H δ σ ds Q sG rs ef k => ?_⟩
 unfold fCons at ef
 obtain ⟨d, e1, ef⟩ := obE ef
 obtain ⟨ds', e2, ef⟩ := obE ef
 cases ef
 refine ka B G H δ σ d _ sG rs e1 fun v G1 H1 g1 r1 => kr B G1 H1 δ σ ds' _ g1.s (rs.grow g1) e2 fun vs G2 H2 g2 r2 => ?_
 exact k _ G2 H2 (g1.trans g2) (by simp only [RepL]; exact ⟨v, vs, rfl, r1.mono g2.g, r2⟩)
theorem pab_nil : PAB X [] fNil := ⟨_, pa_nil, fun B G H δ σ d Q sG rs ef k => by cases ef; exact k _ G H (Grow.refl sG) rfl⟩
theorem pab_cons {g : En -> Option (List D)} (ha : PB X e f) (hr : PAB X es g) (hs : starEach (e :: es) X.env = (false, eval e X.env) :: starEach es X.env := by rfl) : PAB X (e :: es) (fCons f g) := by
 obtain ⟨ta, pa, ka⟩ := ha
 obtain ⟨tr, pr, kr⟩ := hr
 refine ⟨_, pa_cons pa pr hs, fun B G H δ σ ds Q sG rs ef k => ?_⟩
 unfold fCons at ef
 obtain ⟨d, e1, ef⟩ := obE ef
 obtain ⟨ds', e2, ef⟩ := obE ef
 cases ef
 refine ka B G H δ σ d _ sG rs e1 fun v G1 H1 g1 r1 => kr B G1 H1 δ σ ds' _ g1.s (rs.grow g1) e2 fun vs G2 H2 g2 r2 => ?_
 exact k _ G2 H2 (g1.trans g2) ⟨v, vs, rfl, r1.grow g2, r2⟩
def spD (K : PySem.W.Frag) (M : List D -> Option Rs) : Sp := fun vs H Q _ => ∃ G ds r, Same G H /\ RepL K G ds vs /\ M ds = some r /\ WantR K G H Q r
def DefOk (P : Program) (w : World) (K : PySem.W.Frag) (mg : Str -> Option Value) (base : Heap) (k : Nat) (x : Str) (ps : List Str) (M : List D -> Option Rs) : Prop :=
 ∃ f fd, FnOk P w K mg base CX0 k f fd ps (spD K M) /\ Binds K fd ps [] /\ PySem.W.keepIn K (.ref f) = true /\ mg x = some (.ref f)
@[simp] noncomputable def fCallR (M : List D -> Option Rs) (g : En -> Option (List D)) : FR := fun δ => (g δ).bind M
theorem WantR.mono {K : PySem.W.Frag} {G H G1 H1 : Hp} {Q : VK} {r : Rs} (q : WantR K G H Q r) (g : Grow G H G1 H1) : WantR K G1 H1 Q r := by
 cases r with
 | sh d => exact fun v G' H' g' => q v G' H' (g.trans g')
 | fr m => exact fun p vs G' H' g' => q p vs G' H' (g.trans g')
theorem pr_call {k : Nat} {x : Str} {ps : List Str} {M : List D -> Option Rs} {g : En -> Option (List D)} (F : DefOk X.prog X.w X.K X.mg X.base k x ps M) (hr : Room k X.A) (ha : PAD X (e :: es) g) (hg : Gl X x := by rfl)
  (hdb : (x == ("__debug__" : Str)) = false := by decide) (he : starEach (e :: es) X.env = (false, eval e X.env) :: starEach es X.env := by rfl) (hpl : (backTo pos (starEach es X.env)).any (·.1) = false := by rfl) :
  PR X (.Call (.Name x p) (e :: es) [] pos) (fCallR M g) := by
 obtain ⟨f, fd, F, hb, hk, hm⟩ := F
 obtain ⟨ta, pa, ka⟩ := ha
 refine ⟨_, pe_call F hr hg hm hk hb .nil pass0 pa hdb he hpl, fun B G H δ σ r Q sG rs ef k => ?_⟩
 unfold fCallR at ef
 obtain ⟨ds, e1, ef⟩ := obE ef
 refine ka B G H δ σ ds _ sG rs e1 fun vs G1 H1 g1 r1 => ?_
 rw [List.append_nil]
 exact ⟨G1, ds, r, g1.s, r1, ef, k.mono g1⟩
noncomputable def flatD : D -> Bool | .non => true | .bl _ => true | .int _ => true | .str _ => true | _ => false
def CallD (X : Cx) (f : Value) (c : List D -> Option D) : Prop := ∃ r, CallR X f r /\ ∀ (G H : Hp) (ds : List D) (vs : List V) (d : D) (Q : VK), Same G H -> RepLB X.K G H ds vs -> c ds = some d ->
 (∀ v G' H', Grow G H G' H' -> Rep X.K G' d v -> Q v H') -> r vs H Q
@[simp] noncomputable def fCallB (M : List D -> Option D) (g : En -> Option (List D)) : FE := fun δ => (g δ).bind M
theorem pd_callB {x : Str} {id : String} {cD : List D -> Option D} {g : En -> Option (List D)} (hc : CallD X (.builtin id) cD) (hm : X.mg x = none) (hv : bootBuiltins x = some (.builtin id)) (ha : PAB X (e :: es) g) (hg : Gl X x := by rfl)
  (hn : x ≠ "__name__" := by decide) (hdb : (x == ("__debug__" : Str)) = false := by decide)
  (he : starEach (e :: es) X.env = (false, eval e X.env) :: starEach es X.env := by rfl) (hpl : (backTo pos (starEach es X.env)).any (·.1) = false := by rfl) : PD X (.Call (.Name x p) (e :: es) [] pos) (fCallB cD g) := by
 obtain ⟨r, hc, kc⟩ := hc
 obtain ⟨ta, pa, ka⟩ := ha
 refine ⟨_, pe_callB hc hg hm hv pa hn hdb he hpl, fun B G H δ σ d Q sG rs ef k => ?_⟩
 unfold fCallB at ef
 obtain ⟨ds, e1, ef⟩ := obE ef
 exact ka B G H δ σ ds _ sG rs e1 fun vs G1 H1 g1 r1 => kc G1 H1 ds vs d Q g1.s r1 ef fun v G' H' g2 r2 => k v G' H' (g1.trans g2) r2
def OpD (X : Cx) (f : Value -> Value -> Sem Value) (o : D -> D -> Option D) : Prop := ∃ r, OpR X f r /\ ∀ (G H : Hp) (x y : D) (v u : V) (d : D) (Q : VK), Same G H -> RepB X.K G H x v -> RepB X.K G H y u -> o x y = some d ->
 (∀ v G' H', Grow G H G' H' -> Rep X.K G' d v -> Q v H') -> r v u H Q
theorem OpD.or {F : Value -> Value -> Sem Value} {o o' : D -> D -> Option D} (h : OpD X F o) (h' : OpD X F o') : OpD X F (fun x y => (o x y).or (o' x y)) := by
 obtain ⟨r, h1, h2⟩ := h
 obtain ⟨r', h1', h2'⟩ := h'
 refine ⟨_, h1.or h1', fun G H x y v u d Q sG rx ry e k => ?_⟩
 cases eo : o x y with
 | some z =>
  have : z = d := by simpa [eo] using e
  subst this
  exact .inl (h2 G H x y v u z Q sG rx ry eo k)
 | none => exact .inr (h2' G H x y v u d Q sG rx ry (by simpa [eo] using e) k)
@[simp] noncomputable def f2 (o : D -> D -> Option D) (f g : FE) : FE := fun δ => (f δ).bind fun x => (g δ).bind fun y => o x y
theorem gives_op {r : R2} {o : D -> D -> Option D} {ta tb : TE} (ka : GivesB X.K ta f) (kb : GivesB X.K tb g) (ko : ∀ (G H : Hp) (x y : D) (v u : V) (d : D) (Q : VK), Same G H -> RepB X.K G H x v -> RepB X.K G H y u -> o x y = some d ->
  (∀ v G' H', Grow G H G' H' -> Rep X.K G' d v -> Q v H') -> r v u H Q) : Gives X.K (tOp r ta tb) (f2 o f g) := fun B G H δ σ d Q sG rs ef k => by
 unfold f2 at ef
 obtain ⟨x, e1, ef⟩ := obE ef
 obtain ⟨y, e2, ef⟩ := obE ef
 exact ka B G H δ σ x _ sG rs e1 fun v G1 H1 g1 r1 => kb B G1 H1 δ σ y _ g1.s (rs.grow g1) e2 fun u G2 H2 g2 r2 =>
  ko G2 H2 x y v u d Q g2.s (r1.grow g2) r2 ef fun v G' H' g3 r3 => k v G' H' ((g1.trans g2).trans g3) r3
theorem pd_op {op : Operator} {o : D -> D -> Option D} (ho : OpD X (binaryOp op) o) (ha : PB X a f) (hb : PB X b g) : PD X (.BinOp a op b pos) (f2 o f g) := by
 obtain ⟨r, ho, ko⟩ := ho
 obtain ⟨ta, pa, ka⟩ := ha
 obtain ⟨tb, pb, kb⟩ := hb
 exact ⟨_, pe_op ho pa pb, gives_op ka kb ko⟩
theorem pd_cmp {op : CmpOp} {o : D -> D -> Option D} (ho : OpD X (compareOp op) o) (ha : PB X a f) (hb : PB X b g) (hm : behindInMarks op b = false := by first | exact nomark _ | with_unfolding_all rfl) : PD X (.Compare a [op] [b] pos) (f2 o f g) := by
 obtain ⟨r, ho, ko⟩ := ho
 obtain ⟨ta, pa, ka⟩ := ha
 obtain ⟨tb, pb, kb⟩ := hb
 exact ⟨_, pe_cmpR ho pa pb hm, gives_op ka kb ko⟩
@[simp] noncomputable def fB (f : FE) : En -> Option Bool := fun δ => match f δ with | some (.bl b) => some b | _ => none
theorem fB_some {δ : En} {b : Bool} (e : fB f δ = some b) : f δ = some (.bl b) := by
 unfold fB at e
 split at e
 ·rename_i h; cases e; exact h
 ·cases e
theorem pdt_cmp {op : CmpOp} {o : D -> D -> Option D} (ho : OpD X (compareOp op) o) (ha : PB X a f) (hb : PB X b g) (hm : behindInMarks op b = false := by first | exact nomark _ | with_unfolding_all rfl) : PDT X (.Compare a [op] [b] pos) (fB (f2 o f g)) := by
 obtain ⟨r, ho, ko⟩ := ho
 obtain ⟨ta, pa, ka⟩ := ha
 obtain ⟨tb, pb, kb⟩ := hb
 refine ⟨_, pt_cmpR ho pa pb hm, fun B G H δ σ q Q sG rs ef k => ?_⟩
 refine gives_op ka kb ko B G H δ σ _ _ sG rs (fB_some ef) fun v G' H' g1 r1 => ?_
 simp only [Rep] at r1
 exact ⟨q, r1, k G' H' g1⟩
theorem pdt_val (h : PD X e f) (he : ∀ whole, isTrue e X.env whole = (do let v <- whole; standAt e.pos; holding [v] (truthy v)) := by intro _; rfl) : PDT X e (fB f) := by
 obtain ⟨t, pe, ke⟩ := h
 refine ⟨_, pt_val pe he, fun B G H δ σ q Q sG rs ef k => ?_⟩
 refine ke B G H δ σ _ _ sG rs (fB_some ef) fun v G' H' g1 r1 => ?_
 simp only [Rep] at r1
 exact ⟨q, r1, k G' H' g1⟩
@[simp] noncomputable def f3 (o o' : D -> D -> Option D) (f g h : FE) : FE := fun δ => (f δ).bind fun x => (g δ).bind fun y => (o x y).bind fun z => match z with | .bl true => (h δ).bind fun w => o' y w | .bl false => some (.bl false) | _ => none
theorem gives_chain {r r' : R2} {o o' : D -> D -> Option D} {ta tb tc : TE} (ka : GivesB X.K ta f) (kb : GivesB X.K tb g) (kc : GivesB X.K tc h) (ko : ∀ (G H : Hp) (x y : D) (v u : V) (d : D) (Q : VK), Same G H -> RepB X.K G H x v -> RepB X.K G H y u -> o x y = some d ->
  (∀ v G' H', Grow G H G' H' -> Rep X.K G' d v -> Q v H') -> r v u H Q) (ko' : ∀ (G H : Hp) (x y : D) (v u : V) (d : D) (Q : VK), Same G H -> RepB X.K G H x v -> RepB X.K G H y u -> o' x y = some d ->
  (∀ v G' H', Grow G H G' H' -> Rep X.K G' d v -> Q v H') -> r' v u H Q) : Gives X.K (tChain r r' ta tb tc) (f3 o o' f g h) := fun B G H δ σ d Q sG rs ef k => by
 unfold f3 at ef
 obtain ⟨x, e1, ef⟩ := obE ef
 obtain ⟨y, e2, ef⟩ := obE ef
 obtain ⟨z, e3, ef⟩ := obE ef
 refine ka B G H δ σ x _ sG rs e1 fun v G1 H1 g1 r1 => kb B G1 H1 δ σ y _ g1.s (rs.grow g1) e2 fun u G2 H2 g2 r2 => ko G2 H2 x y v u z _ g2.s (r1.grow g2) r2 e3 fun zz G3 H3 g3 r3 => ?_
 have g13 := (g1.trans g2).trans g3
 split at ef
 ·simp only [Rep] at r3
  obtain ⟨w, e4, ef⟩ := obE ef
  refine ⟨true, r3, ?_⟩
  rw [if_pos rfl]
  exact kc B G3 H3 δ σ w _ g3.s (rs.grow g13) e4 fun q G4 H4 g4 r4 => ko' G4 H4 y w u q d Q g4.s (r2.grow (g3.trans g4)) r4 ef fun v G' H' g5 r5 => k v G' H' ((g13.trans g4).trans g5) r5
 ·simp only [Rep] at r3
  cases ef
  refine ⟨false, r3, ?_⟩
  rw [if_neg Bool.false_ne_true]
  exact k _ G3 H3 g13 (by simp [Rep])
 ·cases ef
theorem pd_chain {op op' : CmpOp} {o o' : D -> D -> Option D} (ho : OpD X (compareOp op) o) (ho' : OpD X (compareOp op') o') (ha : PB X a f) (hb : PB X b g) (hc : PB X c h) (hm : lastMarks [op, op'] [b, c] = false := by with_unfolding_all rfl) :
  PD X (.Compare a [op, op'] [b, c] pos) (f3 o o' f g h) := by
 obtain ⟨r, ho, ko⟩ := ho
 obtain ⟨r', ho', ko'⟩ := ho'
 obtain ⟨ta, pa, ka⟩ := ha
 obtain ⟨tb, pb, kb⟩ := hb
 obtain ⟨tc, pc, kc⟩ := hc
 exact ⟨_, pe_chain ho ho' pa pb pc hm, gives_chain ka kb kc ko ko'⟩
@[simp] noncomputable def bAnd (f g : En -> Option Bool) : En -> Option Bool := fun δ => (f δ).bind fun x => if x = true then g δ else some false
@[simp] noncomputable def bOr (f g : En -> Option Bool) : En -> Option Bool := fun δ => (f δ).bind fun x => if x = true then some true else g δ
@[simp] noncomputable def bNot (f : En -> Option Bool) : En -> Option Bool := fun δ => (f δ).map (!·)
variable {fb gb : En -> Option Bool} {rest : List Expr}
theorem PDW.pdt (h : PDW X e fb) : PDT X e fb := by
 obtain ⟨t, pw, k⟩ := h
 exact ⟨t, pw.pt, k⟩
theorem pdw_and1 (ha : PDT X a fb) : PDW X (.BoolOp .And [a] pos) fb := by
 obtain ⟨t, pt, k⟩ := ha
 exact ⟨t, pw_and1 pt, k⟩
theorem pdw_or1 (ha : PDT X a fb) : PDW X (.BoolOp .Or [a] pos) fb := by
 obtain ⟨t, pt, k⟩ := ha
 exact ⟨t, pw_or1 pt, k⟩
theorem pdw_and (ha : PDT X a fb) (hb : PDW X (.BoolOp .And (b :: rest) pos) gb) : PDW X (.BoolOp .And (a :: b :: rest) pos) (bAnd fb gb) := by
 obtain ⟨t, pt, k1⟩ := ha
 obtain ⟨u, pu, k2⟩ := hb
 refine ⟨_, pw_and pt pu, fun B G H δ σ q Q sG rs ef k => ?_⟩
 unfold bAnd at ef
 obtain ⟨x, e1, ef⟩ := obE ef
 refine k1 B G H δ σ x _ sG rs e1 fun G1 H1 g1 => ?_
 cases x with
 | true => rw [if_pos rfl] at ef ⊢; exact k2 B G1 H1 δ σ q Q g1.s (rs.grow g1) ef fun G' H' g2 => k G' H' (g1.trans g2)
 | false => rw [if_neg Bool.false_ne_true] at ef ⊢; cases ef; exact k G1 H1 g1
theorem pdw_or (ha : PDT X a fb) (hb : PDW X (.BoolOp .Or (b :: rest) pos) gb) : PDW X (.BoolOp .Or (a :: b :: rest) pos) (bOr fb gb) := by
 obtain ⟨t, pt, k1⟩ := ha
 obtain ⟨u, pu, k2⟩ := hb
 refine ⟨_, pw_or pt pu, fun B G H δ σ q Q sG rs ef k => ?_⟩
 unfold bOr at ef
 obtain ⟨x, e1, ef⟩ := obE ef
 refine k1 B G H δ σ x _ sG rs e1 fun G1 H1 g1 => ?_
 cases x with
 | false => rw [if_neg Bool.false_ne_true] at ef ⊢; exact k2 B G1 H1 δ σ q Q g1.s (rs.grow g1) ef fun G' H' g2 => k G' H' (g1.trans g2)
 | true => rw [if_pos rfl] at ef ⊢; cases ef; exact k G1 H1 g1
theorem pdt_not (ha : PDT X a fb) : PDT X (.UnaryOp .Not a pos) (bNot fb) := by
 obtain ⟨t, pt, k1⟩ := ha
 refine ⟨_, L2.pt_not pt, fun B G H δ σ q Q sG rs ef k => ?_⟩
 unfold bNot at ef
 obtain ⟨x, e1, ef⟩ := omE ef
 subst ef
 exact k1 B G H δ σ x _ sG rs e1 fun G1 H1 g1 => k G1 H1 g1
@[simp] noncomputable def fAnd (f g : FE) : FE := fun δ => match f δ with | some (.bl true) => g δ | some (.bl false) => some (.bl false) | _ => none
@[simp] noncomputable def fOr (f g : FE) : FE := fun δ => match f δ with | some (.bl true) => some (.bl true) | some (.bl false) => g δ | _ => none
theorem pd_one {op} (h : PD X a f) : PD X (.BoolOp op [a] pos) f := by
 obtain ⟨t, pt, k⟩ := h
 exact ⟨t, pe_one pt, k⟩
theorem pd_and (ha : PD X a f) (hb : PD X (.BoolOp .And (b :: rest) pos) g) : PD X (.BoolOp .And (a :: b :: rest) pos) (fAnd f g) := by
 obtain ⟨t, pt, k1⟩ := ha
 obtain ⟨u, pu, k2⟩ := hb
 refine ⟨_, pe_and pt pu, fun B G H δ σ q Q sG rs ef k => ?_⟩
 unfold fAnd at ef
 split at ef
 ·rename_i e1
  refine k1 B G H δ σ _ _ sG rs e1 fun v G1 H1 g1 r1 => ⟨true, by simpa only [Rep] using r1, ?_⟩
  rw [if_pos rfl]
  exact k2 B G1 H1 δ σ q Q g1.s (rs.grow g1) ef fun v G' H' g2 r2 => k v G' H' (g1.trans g2) r2
 ·rename_i e1
  cases ef
  refine k1 B G H δ σ _ _ sG rs e1 fun v G1 H1 g1 r1 => ⟨false, by simpa only [Rep] using r1, ?_⟩
  rw [if_neg Bool.false_ne_true]
  exact k _ G1 H1 g1 (by simp [Rep])
 ·cases ef
theorem pd_or (ha : PD X a f) (hb : PD X (.BoolOp .Or (b :: rest) pos) g) : PD X (.BoolOp .Or (a :: b :: rest) pos) (fOr f g) := by
 obtain ⟨t, pt, k1⟩ := ha
 obtain ⟨u, pu, k2⟩ := hb
 refine ⟨_, pe_or pt pu, fun B G H δ σ q Q sG rs ef k => ?_⟩
 unfold fOr at ef
 split at ef
 ·rename_i e1
  cases ef
  refine k1 B G H δ σ _ _ sG rs e1 fun v G1 H1 g1 r1 => ⟨true, by simpa only [Rep] using r1, ?_⟩
  rw [if_pos rfl]
  exact k _ G1 H1 g1 (by simp [Rep])
 ·rename_i e1
  refine k1 B G H δ σ _ _ sG rs e1 fun v G1 H1 g1 r1 => ⟨false, by simpa only [Rep] using r1, ?_⟩
  rw [if_neg Bool.false_ne_true]
  exact k2 B G1 H1 δ σ q Q g1.s (rs.grow g1) ef fun v G' H' g2 r2 => k v G' H' (g1.trans g2) r2
 ·cases ef
@[simp] noncomputable def fIf (c : En -> Option Bool) (f g : FE) : FE := fun δ => (c δ).bind fun x => if x = true then f δ else g δ
theorem pd_if {c : Expr} (hc : PDT X c fb) (ha : PD X a f) (hb : PD X b g) : PD X (.IfExp c a b pos) (fIf fb f g) := by
 obtain ⟨tc, pc, kc⟩ := hc
 obtain ⟨ta, pa, ka⟩ := ha
 obtain ⟨tb, pb, kb⟩ := hb
 refine ⟨_, pe_ifExp pc pa pb, fun B G H δ σ q Q sG rs ef k => ?_⟩
 unfold fIf at ef
 obtain ⟨x, e1, ef⟩ := obE ef
 refine kc B G H δ σ x _ sG rs e1 fun G1 H1 g1 => ?_
 cases x with
 | true => rw [if_pos rfl] at ef ⊢; exact ka B G1 H1 δ σ q Q g1.s (rs.grow g1) ef fun v G' H' g2 => k v G' H' (g1.trans g2)
 | false => rw [if_neg Bool.false_ne_true] at ef ⊢; exact kb B G1 H1 δ σ q Q g1.s (rs.grow g1) ef fun v G' H' g2 => k v G' H' (g1.trans g2)
@[simp] noncomputable def fTup (g : En -> Option (List D)) : FE := fun δ => (g δ).bind fun ds => if ds.length <= sizeLine then some (.tup ds) else none
theorem rep_tup {K : PySem.W.Frag} {G : Hp} {p : Addr} {ds : List D} {vs : List V} (hn : G p = none) (r : RepL K G ds vs) : Rep K (upd G p (.tup vs)) (.tup ds) (.ref p) := by
 simp only [Rep]
 exact ⟨p, vs, rfl, SqT.of upd_same, r.mono (same_new _ hn)⟩
theorem rep_lst {K : PySem.W.Frag} {G : Hp} {p : Addr} {ds : List D} {vs : List V} (hn : G p = none) (r : RepL K G ds vs) : Rep K (upd G p (.lst vs)) (.lst ds) (.ref p) := by
 simp only [Rep]
 exact ⟨p, vs, rfl, SqL.of upd_same, r.mono (same_new _ hn)⟩
theorem pd_tup {x1} {g : En -> Option (List D)} (ha : PAD X es g) : PD X (.Tuple es x1 pos) (fTup g) := by
 obtain ⟨t, pt, k1⟩ := ha
 refine ⟨_, pe_tup pt, fun B G H δ σ q Q sG rs ef k => ?_⟩
 unfold fTup at ef
 obtain ⟨ds, e1, ef⟩ := obE ef
 split at ef
 ·rename_i hl
  cases ef
  exact k1 B G H δ σ ds _ sG rs e1 fun vs G1 H1 g1 r1 => ⟨by rw [<- r1.length]; exact hl, fun p hp => k _ _ _ (g1.trans (Grow.laid g1.s _ hp)) (rep_tup (g1.s.free hp) r1)⟩
 ·cases ef
@[simp] noncomputable def fLstR (g : En -> Option (List D)) : FR := fun δ => (g δ).bind fun ds => if ds.length <= sizeLine then some (.fr (.lst ds)) else none
theorem pr_lst {g : En -> Option (List D)} (ha : PAD X es g) : PR X (.List es pos) (fLstR g) := by
 obtain ⟨t, pt, k1⟩ := ha
 refine ⟨_, pe_lst pt, fun B G H δ σ q Q sG rs ef k => ?_⟩
 unfold fLstR at ef
 obtain ⟨ds, e1, ef⟩ := obE ef
 split at ef
 ·rename_i hl
  cases ef
  exact k1 B G H δ σ ds _ sG rs e1 fun vs G1 H1 g1 r1 => ⟨by rw [<- r1.length]; exact hl, fun p hp => k p vs G1 H1 g1 hp True.intro r1⟩
 ·cases ef
@[simp] noncomputable def fDicR : FR := fun _ => some (.fr (.dic [] []))
theorem pr_dnew : PR X (.Dict [] [] pos) fDicR := by
 refine ⟨_, pe_dnewK, fun B G H δ σ q Q sG rs ef k => ?_⟩
 cases ef
 exact fun p hp => k p [] G H (Grow.refl sG) hp ⟨rfl, List.nodup_nil⟩ rfl
noncomputable def ixD : D -> D -> Option D
 | .lst ds, .int i => atI ds i
 | .tup ds, .int i => atI ds i
 | .str z, .int i => if z.length <= sizeLine then (atI z.cps.toList i).map fun c => .str ⟨#[c]⟩ else none
 | _, _ => none
theorem RepL.atI {K : PySem.W.Frag} {H : Hp} {ds : List D} {vs : List V} {i : Int} {d : D} (r : RepL K H ds vs) (e : L2.atI ds i = some d) : ∃ v, L2.atI vs i = some v /\ Rep K H d v := by
 unfold L2.atI at e ⊢
 rw [<- r.length]
 obtain ⟨j, e1, e2⟩ := obE e
 obtain ⟨v, h1, h2⟩ := r.get e2
 exact ⟨v, by rw [e1]; exact h1, h2⟩
noncomputable def keyD : D -> Option Key | .int i => some (.inl i) | .str x => some (.inr x) | _ => none
noncomputable def valD (ks : List Key) (ds : List D) (k : Key) : Option D := ((ks.zip ds).find? fun kv => decide (kv.1 = k)).map (·.2)
theorem valD_rep {K : PySem.W.Frag} {G : Hp} (k : Key) : ∀ {ks : List Key} {ds : List D} {vs : List V}, ks.length = ds.length -> RepL K G ds vs -> (∀ d, valD ks ds k = some d -> ∃ v, valV (ks.zip vs) k = some v /\ Rep K G d v) /\ (valD ks ds k = none -> valV (ks.zip vs) k = none)
 | [], _, _, _, _ => ⟨fun d e => (by cases e), fun _ => rfl⟩
 | k0 :: ks, [], _, hl, _ => by cases hl
 | k0 :: ks, d0 :: ds, _, hl, r => by
  simp only [RepL] at r
  obtain ⟨v, us, rfl, r1, r2⟩ := r
  have ih := valD_rep k (ks := ks) (ds := ds) (by simpa using hl) r2
  by_cases h : k0 = k
  ·subst h
   refine ⟨fun d e => ?_, fun e => ?_⟩
   ·have : d0 = d := by simpa [valD] using e
    subst this
    exact ⟨v, by simp [valV], r1⟩
   ·simp [valD] at e
  ·have e1 : valD (k0 :: ks) (d0 :: ds) k = valD ks ds k := by simp [valD, h]
   have e2 : valV ((k0 :: ks).zip (v :: us)) k = valV (ks.zip us) k := by simp [valV, h]
   rw [e1, e2]
   exact ih
theorem keyD_rep {K : PySem.W.Frag} {G H : Hp} {d : D} {k : Key} {v : V} (e : keyD d = some k) (r : RepB K G H d v) : v = kV k := by
 rcases r with r | ⟨m, a, vs, h1, _⟩
 ·cases d <;> simp only [keyD, Rep] at e r <;> first | cases e | skip
  all_goals (subst r; rfl)
 ·subst h1
  cases m <;> cases e
theorem RepB.flat {K : PySem.W.Frag} {G H : Hp} {d : D} {v : V} (e : flatD d = true) (r : RepB K G H d v) : Rep K G d v := by
 rcases r with r | ⟨m, a, vs, h1, _⟩
 ·exact r
 ·subst h1; cases m <;> cases e
def rIxD : R2 := fun x y H Q => ∃ a v, x = .ref a /\ DGet H a y (some v) /\ Q v H
theorem ix_dict (hu : X.A.units + 1 < cLine) : IxR X rIxD := by
 intro value slice pins s σ H x y v u Q I rx ry h hs
 obtain ⟨a, w', rfl, g, q⟩ := h
 cases rx
 exact tail_any (dict_typeIs I g) PySem.slot_dict_getitem.lookup (d_getItem hu I g ry fun w2 s' I' r' => ⟨_, H, I', r', q⟩) hs
noncomputable def ixA : D -> D -> Option D
 | .dic ks ds, y => (keyD y).bind fun k => valD ks ds k
 | x, y => ixD x y
theorem pd_ix (hu : X.A.units + 1 < cLine) (ha : PB X a f) (hb : PB X b g) (hs : PlainIx b := by intro _ _; rfl) : PD X (.Subscript a b pos) (f2 ixA f g) := by
 obtain ⟨ta, pa, ka⟩ := ha
 obtain ⟨tb, pb, kb⟩ := hb
 refine ⟨_, pe_ix (ix_seq.or (ix_dict hu)) pa pb hs, gives_op ka kb fun G H x y v u d Q sG rx ry e k => ?_⟩
 unfold ixA at e
 split at e
 ·obtain ⟨kk, e1, e2⟩ := obE e
  obtain ⟨a, vs, rfl, hd, hl, nd, rl⟩ := rx.dic sG
  obtain ⟨w', e3, r3⟩ := (valD_rep kk hl rl).1 d e2
  have := keyD_rep e1 ry
  subst this
  exact .inr ⟨a, w', rfl, .inl ⟨_, kk, hd, rfl, e3.symm⟩, k w' G H (Grow.refl sG) r3⟩
 ·rename_i x' y' hx
  unfold ixD at e
  split at e
  ·obtain ⟨p, vs, rfl, hq, rl⟩ := rx.lst sG
   have ry := ry.flat rfl
   simp only [Rep] at ry
   obtain ⟨w, e1, r1⟩ := rl.atI e
   exact .inl (.inl ⟨p, vs, _, w, rfl, ry, hq, e1, k w G H (Grow.refl sG) r1⟩)
  ·have rx := rx.tup
   have ry := ry.flat rfl
   simp only [Rep] at rx ry
   obtain ⟨p, vs, rfl, hq, rl⟩ := rx
   obtain ⟨w, e1, r1⟩ := rl.atI e
   exact .inl (.inr (.inl ⟨p, vs, _, w, rfl, ry, sG.sqT hq, e1, k w G H (Grow.refl sG) r1⟩))
  ·have rx := rx.flat rfl
   have ry := ry.flat rfl
   simp only [Rep] at rx ry
   split at e
   ·rename_i hl
    obtain ⟨c, e1, rfl⟩ := omE e
    exact .inl (.inr (.inr ⟨_, _, c, rx, ry, hl, e1, k _ G H (Grow.refl sG) (by simp [Rep])⟩))
   ·cases e
  ·cases e
end
section
variable {X : Cx}
theorem opd_i0 {f : Value -> Value -> Sem Value} {g : Int -> Int -> V} {g' : Int -> Int -> D} (h : OpR X f (rI0 g)) (hg : ∀ G i j, Rep X.K G (g' i j) (g i j)) :
  OpD X f (fun x y => match x, y with | .int i, .int j => some (g' i j) | _, _ => none) := by
 refine ⟨_, h, fun G H x y v u d Q sG rx ry e k => ?_⟩
 dsimp only at e
 split at e
 ·cases e
  have rx := rx.flat rfl
  have ry := ry.flat rfl
  simp only [Rep] at rx ry
  exact ⟨_, _, rx, ry, k _ G H (Grow.refl sG) (hg _ _ _)⟩
 ·cases e
theorem opd_i {f : Value -> Value -> Sem Value} {C : Int -> Int -> Prop} [∀ i j, Decidable (C i j)] {g : Int -> Int -> V} {g' : Int -> Int -> D} (h : OpR X f (rI C g)) (hg : ∀ G i j, Rep X.K G (g' i j) (g i j)) :
  OpD X f (fun x y => match x, y with | .int i, .int j => if C i j then some (g' i j) else none | _, _ => none) := by
 refine ⟨_, h, fun G H x y v u d Q sG rx ry e k => ?_⟩
 dsimp only at e
 split at e
 ·split at e
  ·rename_i hc
   cases e
   have rx := rx.flat rfl
   have ry := ry.flat rfl
   simp only [Rep] at rx ry
   exact ⟨_, _, rx, ry, hc, k _ G H (Grow.refl sG) (hg _ _ _)⟩
  ·cases e
 ·cases e
instance (i j : Int) : Decidable (CDiv i j) := inferInstanceAs (Decidable (_ /\ _))
instance (i j : Int) : Decidable (CMul i j) := inferInstanceAs (Decidable (_ \/ _))
instance (i j : Int) : Decidable (CPow i j) := inferInstanceAs (Decidable (_ /\ _ /\ _))
noncomputable def iAdd : D -> D -> Option D | .int i, .int j => some (.int (i + j)) | _, _ => none
noncomputable def subD : D -> D -> Option D | .int i, .int j => some (.int (i - j)) | _, _ => none
noncomputable def iMul : D -> D -> Option D | .int i, .int j => if CMul i j then some (.int (i * j)) else none | _, _ => none
noncomputable def fdivD : D -> D -> Option D | .int i, .int j => if CDiv i j then some (.int (i / j)) else none | _, _ => none
noncomputable def modD : D -> D -> Option D | .int i, .int j => if 0 < j then some (.int (i % j)) else none | _, _ => none
theorem od_iadd : OpD X (binaryOp .Add) iAdd := opd_i0 op_add fun _ _ _ => by simp [Rep]
theorem od_sub : OpD X (binaryOp .Sub) subD := opd_i0 op_sub fun _ _ _ => by simp [Rep]
theorem od_imul : OpD X (binaryOp .Mult) iMul := opd_i op_mul fun _ _ _ => by simp [Rep]
theorem od_fdiv : OpD X (binaryOp .FloorDiv) fdivD := opd_i op_fdiv fun _ _ _ => by simp [Rep]
theorem od_mod : OpD X (binaryOp .Mod) modD := opd_i op_mod fun _ _ _ => by simp [Rep]
noncomputable def sAdd : D -> D -> Option D | .str i, .str j => if i.length + j.length <= sizeLine then some (.str (i ++ j)) else none | _, _ => none
theorem od_sadd : OpD X (binaryOp .Add) sAdd := by
 refine ⟨_, op_add_str, fun G H x y v u d Q sG rx ry e k => ?_⟩
 unfold sAdd at e
 split at e
 ·split at e
  ·rename_i hc
   cases e
   have rx := rx.flat rfl
   have ry := ry.flat rfl
   simp only [Rep] at rx ry
   exact ⟨_, _, rx, ry, hc, k _ G H (Grow.refl sG) (by simp [Rep])⟩
  ·cases e
 ·cases e
def rCatL (K : PySem.W.Frag) : R2 := fun x y H Q => ∃ l b xs zs, x = .ref l /\ y = .ref b /\ SqL K H l xs /\ SqL K H b zs /\ xs.length + zs.length <= sizeLine /\ ∀ p, H p = none -> Q (.ref p) (upd H p (.lst (xs ++ zs)))
noncomputable def lAdd : D -> D -> Option D | .lst i, .lst j => if i.length + j.length <= sizeLine then some (.lst (i ++ j)) else none | _, _ => none
theorem od_ladd (h : OpR X (binaryOp .Add) (rCatL X.K)) : OpD X (binaryOp .Add) lAdd := by
 refine ⟨_, h, fun G H x y v u d Q sG rx ry e k => ?_⟩
 unfold lAdd at e
 split at e
 ·split at e
  ·rename_i hc
   cases e
   obtain ⟨p1, xs, rfl, q1, r1⟩ := rx.lst sG
   obtain ⟨p2, ys, rfl, q2, r2⟩ := ry.lst sG
   exact ⟨p1, p2, xs, ys, rfl, rfl, q1, q2, by rw [<- r1.length, <- r2.length]; exact hc, fun p hp => k _ _ _ (Grow.laid sG _ hp) (rep_lst (sG.free hp) (r1.append r2))⟩
  ·cases e
 ·cases e
noncomputable def iCmp (f : Int -> Int -> Bool) : D -> D -> Option D | .int i, .int j => some (.bl (f i j)) | _, _ => none
theorem od_le : OpD X (compareOp .LtE) (iCmp fun i j => decide (i <= j)) := opd_i0 op_le fun _ _ _ => by simp [Rep]
theorem od_gt : OpD X (compareOp .Gt) (iCmp fun i j => decide (j < i)) := opd_i0 op_gt fun _ _ _ => by simp [Rep]
theorem op_le_str : OpR X (compareOp .LtE) (fun x y H Q => ∃ i j, x = .str i /\ y = .str j /\ Q (.bl (!decide (j.cps.toList < i.cps.toList))) H) := by
 intro pins s σ H x y v u Q I rx ry h
 obtain ⟨i, j, rfl, rfl, q⟩ := h
 obtain ⟨t, rfl⟩ := rx
 obtain ⟨t', rfl⟩ := ry
 exact PySem.P.le_str ⟨.bl _, H, I, rfl, q⟩
noncomputable def sLe : D -> D -> Option D | .str i, .str j => some (.bl (!decide (j.cps.toList < i.cps.toList))) | _, _ => none
theorem od_sle : OpD X (compareOp .LtE) sLe := by
 refine ⟨_, op_le_str, fun G H x y v u d Q sG rx ry e k => ?_⟩
 unfold sLe at e
 split at e
 ·cases e
  have rx := rx.flat rfl
  have ry := ry.flat rfl
  simp only [Rep] at rx ry
  exact ⟨_, _, rx, ry, k _ G H (Grow.refl sG) (by simp [Rep])⟩
 ·cases e
noncomputable def scalV : D -> Option V
 | .non => some .non | .bl b => some (.bl b) | .int i => some (.int i) | .str x => some (.str x) | _ => none
theorem scalV_flat {d : D} {w : V} (e : scalV d = some w) : flatD d = true := by
 cases d <;> first | rfl | cases e
theorem scalV_rep {K : PySem.W.Frag} {G H : Hp} {d : D} {v w : V} (e : scalV d = some w) (r : RepB K G H d v) : v = w := by
 have r := r.flat (scalV_flat e)
 cases d <;> simp only [scalV, Rep] at e r <;> first | cases e | skip
 all_goals exact r
noncomputable def sEq (n : Bool) : D -> D -> Option D := fun x y => (scalV x).bind fun v => (scalV y).bind fun u => if scal v u = true then some (.bl (if n then !decide (v = u) else decide (v = u))) else none
theorem od_seq : OpD X (compareOp .Eq) (sEq false) := by
 refine ⟨_, op_eq, fun G H x y v u d Q sG rx ry e k => ?_⟩
 unfold sEq at e
 obtain ⟨v', e1, e⟩ := obE e
 obtain ⟨u', e2, e⟩ := obE e
 obtain rfl := scalV_rep e1 rx
 obtain rfl := scalV_rep e2 ry
 split at e
 ·rename_i hs
  cases e
  exact ⟨hs, k _ G H (Grow.refl sG) (by simp [Rep])⟩
 ·cases e
theorem od_sne : OpD X (compareOp .NotEq) (sEq true) := by
 refine ⟨_, op_ne, fun G H x y v u d Q sG rx ry e k => ?_⟩
 unfold sEq at e
 obtain ⟨v', e1, e⟩ := obE e
 obtain ⟨u', e2, e⟩ := obE e
 obtain rfl := scalV_rep e1 rx
 obtain rfl := scalV_rep e2 ry
 split at e
 ·rename_i hs
  cases e
  exact ⟨hs, k _ G H (Grow.refl sG) (by simp [Rep])⟩
 ·cases e
noncomputable def toV : D -> V | .non => .non | .bl b => .bl b | .int i => .int i | .str x => .str x | _ => .non
theorem rep_flat {K : PySem.W.Frag} {G : Hp} {d : D} {v : V} (e : flatD d = true) (r : Rep K G d v) : v = toV d /\ flatV v = true := by
 cases d with
 | non => simp only [Rep] at r; subst r; exact ⟨rfl, rfl⟩
 | bl b => simp only [Rep] at r; subst r; exact ⟨rfl, rfl⟩
 | int b => simp only [Rep] at r; subst r; exact ⟨rfl, rfl⟩
 | str b => simp only [Rep] at r; subst r; exact ⟨rfl, rfl⟩
 | tup b => cases e
 | lst b => cases e
 | dic ks b => cases e
theorem repL_flat {K : PySem.W.Frag} {G : Hp} : ∀ {ds : List D} {vs : List V}, ds.all flatD = true -> RepL K G ds vs -> vs = ds.map toV /\ vs.all flatV = true
 | [], _, _, r => by simp only [RepL] at r; subst r; exact ⟨rfl, rfl⟩
 | d :: ds, _, e, r => by
  simp only [RepL] at r
  obtain ⟨v, us, rfl, r1, r2⟩ := r
  rw [List.all_cons, Bool.and_eq_true] at e
  obtain ⟨h1, h2⟩ := rep_flat e.1 r1
  obtain ⟨h3, h4⟩ := repL_flat e.2 r2
  exact ⟨by rw [h1, h3]; rfl, by rw [List.all_cons, h2, h4]; rfl⟩
noncomputable def inSeq (x : D) (ds : List D) : Option Bool := if flatD x = true /\ ds.all flatD = true then some (inV (toV x) (ds.map toV)) else none
noncomputable def inD (n : Bool) : D -> D -> Option D
 | x, .tup ds => (inSeq x ds).map fun b => .bl (if n then !b else b)
 | x, .lst ds => (inSeq x ds).map fun b => .bl (if n then !b else b)
 | .str i, .str j => some (.bl (if n then !(!(Builtin.Str.occurrences j i 0 j.length 1).isEmpty) else !(Builtin.Str.occurrences j i 0 j.length 1).isEmpty))
 | _, _ => none
theorem od_in : OpD X (compareOp .In) (inD false) := by
 refine ⟨_, (op_in_seq.or op_in_str), fun G H x y v u d Q sG rx ry e k => ?_⟩
 unfold inD at e
 split at e
 ·obtain ⟨b, e1, rfl⟩ := omE e
  unfold inSeq at e1
  split at e1
  ·rename_i hc
   cases e1
   have ry := ry.tup
   simp only [Rep] at ry
   obtain ⟨p, vs, rfl, q, r⟩ := ry
   obtain ⟨h1, h2⟩ := rep_flat hc.1 (rx.flat hc.1)
   obtain ⟨h3, h4⟩ := repL_flat hc.2 r
   subst h1 h3
   exact .inl ⟨p, _, rfl, .inr (sG.sqT q), h2, h4, k _ G H (Grow.refl sG) (by simp [Rep])⟩
  ·cases e1
 ·obtain ⟨b, e1, rfl⟩ := omE e
  unfold inSeq at e1
  split at e1
  ·rename_i hc
   cases e1
   obtain ⟨p, vs, rfl, q, r⟩ := ry.lst sG
   obtain ⟨h1, h2⟩ := rep_flat hc.1 (rx.flat hc.1)
   obtain ⟨h3, h4⟩ := repL_flat hc.2 r
   subst h1 h3
   exact .inl ⟨p, _, rfl, .inl q, h2, h4, k _ G H (Grow.refl sG) (by simp [Rep])⟩
  ·cases e1
 ·cases e
  have rx := rx.flat rfl
  have ry := ry.flat rfl
  simp only [Rep] at rx ry
  exact .inr ⟨_, _, rx, ry, k _ G H (Grow.refl sG) (by simp [Rep])⟩
 ·cases e
theorem od_notin : OpD X (compareOp .NotIn) (inD true) := by
 refine ⟨_, (op_notIn_seq.or op_notIn_str), fun G H x y v u d Q sG rx ry e k => ?_⟩
 unfold inD at e
 split at e
 ·obtain ⟨b, e1, rfl⟩ := omE e
  unfold inSeq at e1
  split at e1
  ·rename_i hc
   cases e1
   have ry := ry.tup
   simp only [Rep] at ry
   obtain ⟨p, vs, rfl, q, r⟩ := ry
   obtain ⟨h1, h2⟩ := rep_flat hc.1 (rx.flat hc.1)
   obtain ⟨h3, h4⟩ := repL_flat hc.2 r
   subst h1 h3
   exact .inl ⟨p, _, rfl, .inr (sG.sqT q), h2, h4, k _ G H (Grow.refl sG) (by simp [Rep])⟩
  ·cases e1
 ·obtain ⟨b, e1, rfl⟩ := omE e
  unfold inSeq at e1
  split at e1
  ·rename_i hc
   cases e1
   obtain ⟨p, vs, rfl, q, r⟩ := ry.lst sG
   obtain ⟨h1, h2⟩ := rep_flat hc.1 (rx.flat hc.1)
   obtain ⟨h3, h4⟩ := repL_flat hc.2 r
   subst h1 h3
   exact .inl ⟨p, _, rfl, .inl q, h2, h4, k _ G H (Grow.refl sG) (by simp [Rep])⟩
  ·cases e1
 ·cases e
  have rx := rx.flat rfl
  have ry := ry.flat rfl
  simp only [Rep] at rx ry
  exact .inr ⟨_, _, rx, ry, k _ G H (Grow.refl sG) (by simp [Rep])⟩
 ·cases e
noncomputable def cutD (xs : List D) (lo hi : Option Int) : List D := (xs.drop (HT.sIx xs.length 0 lo)).take (HT.sIx xs.length xs.length hi - HT.sIx xs.length 0 lo)
theorem RepL.cut {K : PySem.W.Frag} {G : Hp} {ds : List D} {vs : List V} (r : RepL K G ds vs) (lo hi : Option Int) : RepL K G (cutD ds lo hi) (cutV vs lo hi) := by
 unfold cutD cutV
 rw [r.length]
 exact (r.drop _).take _
def POD (X : Cx) (e : Option Expr) (f : En -> Option (Option Int)) : Prop := ∃ t, PO X e t /\ ∀ (B G H : Hp) (δ : En) (σ : St) (o : Option Int) (Q : Option Int -> Hp -> Prop), Same G H -> RepS X.K B G H δ σ -> f δ = some o ->
 (∀ G' H', Grow G H G' H' -> Q o H') -> t σ H Q
theorem pod_none : POD X none (fun _ => some none) := ⟨_, po_none, fun B G H δ σ o Q sG rs e k => by cases e; exact k G H (Grow.refl sG)⟩
@[simp] noncomputable def oInt (f : FE) : En -> Option (Option Int) := fun δ => match f δ with | some (.int i) => some (some i) | _ => none
theorem pod_some {e : Expr} {f : FE} (h : PD X e f) : POD X (some e) (oInt f) := by
 obtain ⟨t, pt, k1⟩ := h
 refine ⟨_, po_some pt, fun B G H δ σ o Q sG rs e k => ?_⟩
 unfold oInt at e
 split at e
 ·rename_i i e1
  cases e
  exact k1 B G H δ σ _ _ sG rs e1 fun v G' H' g1 r1 => ⟨i, by simpa only [Rep] using r1, k G' H' g1⟩
 ·cases e
noncomputable def slD (x : D) (lo hi : Option Int) : Option Rs := match x with
 | .lst ds => some (.fr (.lst (cutD ds lo hi)))
 | .tup ds => if HT.sIx ds.length 0 lo = 0 /\ HT.sIx ds.length ds.length hi = ds.length then none else some (.sh (.tup (cutD ds lo hi)))
 | _ => none
noncomputable def lenD : List D -> Option D
 | [.lst ds] => some (.int ds.length)
 | [.tup ds] => some (.int ds.length)
 | [.str z] => if z.length <= sizeLine then some (.int z.length) else none
 | [.dic ks ds] => some (.int ds.length)
 | _ => none
theorem repLB_one {K : PySem.W.Frag} {G H : Hp} {d : D} {vs : List V} (r : RepLB K G H [d] vs) : ∃ v, vs = [v] /\ RepB K G H d v := by
 obtain ⟨v, us, rfl, r1, r2⟩ := r
 simp only [RepLB] at r2
 subst r2
 exact ⟨v, rfl, r1⟩
theorem cd_len : CallD X (.builtin "len") lenD := by
 refine ⟨_, (call_len_seq.or call_len_str).or (show CallR X (.builtin "len") (fun xs H Q => ∃ a kvs, xs = [V.ref a] /\ Rd H a (.dK kvs) /\ Q (.int kvs.length) H) from ?_), fun G H ds vs d Q sG r e k => ?_⟩
 ·intro pins s σ H xs us Q I r h
  obtain ⟨a, kvs, rfl, ha, q⟩ := h
  obtain ⟨u, rfl, ru⟩ := vals1 r
  cases ru
  exact d_len I ha fun t s' I' => ⟨.int kvs.length, H, I', ⟨t, rfl⟩, q⟩
 unfold lenD at e
 split at e
 ·cases e
  obtain ⟨v, rfl, r1⟩ := repLB_one r
  obtain ⟨a, us, rfl, q, rl⟩ := r1.lst sG
  exact .inl (.inl ⟨a, us, rfl, .inl q, k _ G H (Grow.refl sG) (by simp [Rep, rl.length])⟩)
 ·cases e
  obtain ⟨v, rfl, r1⟩ := repLB_one r
  have r1 := r1.tup
  simp only [Rep] at r1
  obtain ⟨a, us, rfl, q, rl⟩ := r1
  exact .inl (.inl ⟨a, us, rfl, .inr (sG.sqT q), k _ G H (Grow.refl sG) (by simp [Rep, rl.length])⟩)
 ·split at e
  ·rename_i hl
   cases e
   obtain ⟨v, rfl, r1⟩ := repLB_one r
   have r1 := r1.flat rfl
   simp only [Rep] at r1
   subst r1
   exact .inl (.inr ⟨_, rfl, hl, k _ G H (Grow.refl sG) (by simp [Rep])⟩)
  ·cases e
 ·cases e
  obtain ⟨v, rfl, r1⟩ := repLB_one r
  obtain ⟨a, us, rfl, q, hl, nd, rl⟩ := r1.dic sG
  refine .inr ⟨a, _, rfl, q, k _ G H (Grow.refl sG) ?_⟩
  have e2 : us.length = _ := rl.length.symm
  simp only [Rep, List.length_zip]
  congr 1
  omega
 ·cases e
noncomputable def tupD : List D -> Option D
 | [.lst ds] => some (.tup ds)
 | [.tup ds] => some (.tup ds)
 | _ => none
def CallN (X : Cx) (f : Value) (c : List D -> Option Mo) : Prop := ∃ r, CallR X f r /\ ∀ (G H : Hp) (ds : List D) (vs : List V) (m : Mo) (Q : VK), Same G H -> RepLB X.K G H ds vs -> c ds = some m ->
 (∀ p us, H p = none -> m.ok -> RepL X.K G m.vals us -> Q (.ref p) (upd H p (m.ho us))) -> r vs H Q
@[simp] noncomputable def fCallN (c : List D -> Option Mo) (g : En -> Option (List D)) : FR := fun δ => (g δ).bind fun ds => (c ds).map .fr
theorem pr_callTy {e : Expr} {es : List Expr} {p pos : Pos} {x : Str} {T : String} {cD : List D -> Option Mo} {g : En -> Option (List D)} (hc : CallN X (.type T) cD) (hm : X.mg x = none) (hv : bootBuiltins x = some (.type T)) (ha : PAB X (e :: es) g) (hg : Gl X x := by rfl)
  (hn : x ≠ "__name__" := by decide) (hdb : (x == ("__debug__" : Str)) = false := by decide)
  (he : starEach (e :: es) X.env = (false, eval e X.env) :: starEach es X.env := by rfl) (hpl : (backTo pos (starEach es X.env)).any (·.1) = false := by rfl) : PR X (.Call (.Name x p) (e :: es) [] pos) (fCallN cD g) := by
 obtain ⟨r, hc, kc⟩ := hc
 obtain ⟨ta, pa, ka⟩ := ha
 refine ⟨_, pe_callTy hc hg hm hv pa hn hdb he hpl, fun B G H δ σ d Q sG rs ef k => ?_⟩
 unfold fCallN at ef
 obtain ⟨ds, e1, ef⟩ := obE ef
 obtain ⟨m, e2, rfl⟩ := omE ef
 exact ka B G H δ σ ds _ sG rs e1 fun vs G1 H1 g1 r1 => kc G1 H1 ds vs m Q g1.s r1 e2 fun p us hp ok rl => k p us G1 H1 g1 hp ok rl
noncomputable def lstN : List D -> Option Mo
 | [.lst ds] => some (.lst ds)
 | [.tup ds] => some (.lst ds)
 | _ => none
theorem cn_list : CallN X (.type "list") lstN := by
 refine ⟨_, call_list_of, fun G H ds vs m Q sG r e k => ?_⟩
 unfold lstN at e
 split at e
 ·cases e
  obtain ⟨v, rfl, r1⟩ := repLB_one r
  obtain ⟨a, us, rfl, q, rl⟩ := r1.lst sG
  exact ⟨a, us, rfl, .inl q, fun l hl => k l us hl True.intro rl⟩
 ·cases e
  obtain ⟨v, rfl, r1⟩ := repLB_one r
  have r1 := r1.tup
  simp only [Rep] at r1
  obtain ⟨a, us, rfl, q, rl⟩ := r1
  exact ⟨a, us, rfl, .inr (sG.sqT q), fun l hl => k l us hl True.intro rl⟩
 ·cases e
noncomputable def dicN : List D -> Option Mo
 | [.dic ks ds] => some (.dic ks ds)
 | _ => none
theorem call_dictC : CallR X (.type "dict") (fun xs H Q => ∃ a kvs, xs = [V.ref a] /\ Rd H a (.dK kvs) /\ ∀ p, H p = none -> Q (.ref p) (upd H p (.dK kvs))) := by
 intro pins s σ H xs us Q I r h
 obtain ⟨a, kvs, rfl, ha, q⟩ := h
 obtain ⟨u, rfl, ru⟩ := vals1 r
 cases ru
 exact d_copyOf I ha fun p s' hp I' => ⟨.ref p, _, I', rfl, q p hp⟩
theorem cn_dict : CallN X (.type "dict") dicN := by
 refine ⟨_, call_dictC, fun G H ds vs m Q sG r e k => ?_⟩
 unfold dicN at e
 split at e
 ·cases e
  obtain ⟨v, rfl, r1⟩ := repLB_one r
  obtain ⟨a, us, rfl, q, hl, nd, rl⟩ := r1.dic sG
  exact ⟨a, _, rfl, q, fun p hp => k p us hp ⟨hl, nd⟩ rl⟩
 ·cases e
end
inductive Out where
 | nx (δ : En) | rt (r : Rs) (δ : En) | bk (δ : En) | ct (δ : En) | ex (c : Str) (δ : En)
abbrev FS := En -> Option Out
structure Stp (B G G' H' : Hp) : Prop where
 g : Same G G'
 s : Same G' H'
 b : Same B H'
 n : ∀ a o, B a = some o -> G a = none -> G' a = none
theorem Stp.refl {B G H : Hp} (s : Same G H) (b : Same B H) : Stp B G G H := ⟨Same.refl _, s, b, fun _ _ _ n => n⟩
theorem Stp.trans {B G G1 H1 G2 H2 : Hp} (a : Stp B G G1 H1) (c : Stp B G1 G2 H2) : Stp B G G2 H2 := ⟨a.g.trans c.g, c.s, c.b, fun x o e n => c.n x o e (a.n x o e n)⟩
theorem Grow.stp {B G H G' H' : Hp} (g : Grow G H G' H') (b : Same B H) : Stp B G G' H' := ⟨g.g, g.s, b.trans g.h, fun a o e n => g.n a o (b a o e) n⟩
def Want (X : Cx) (B G : Hp) (D : Ends) : Out -> Prop
 | .nx δ' => ∀ σ' G' H', Stp B G G' H' -> RepS X.K B G' H' δ' σ' -> D.nx σ' H'
 | .bk δ' => ∀ σ' G' H', Stp B G G' H' -> RepS X.K B G' H' δ' σ' -> D.bk σ' H'
 | .ct δ' => ∀ σ' G' H', Stp B G G' H' -> RepS X.K B G' H' δ' σ' -> D.ct σ' H'
 | .ex c δ' => ∀ pins σ' G' H' s' e C, Inv X pins σ' H' s' -> Stp B G G' H' -> RepS X.K B G' H' δ' σ' -> PySem.W.nsIn X.K mainGlobals c = some (some (.ref C)) -> Fly X H' s'.heap e C -> X.xe (.ref e) s'
 | .rt (.sh d) δ' => ∀ v σ' G' H', Stp B G G' H' -> RepS X.K B G' H' δ' σ' -> Rep X.K G' d v -> D.rt v H'
 | .rt (.fr m) δ' => ∀ p vs σ' G' H', Stp B G G' H' -> RepS X.K B G' H' δ' σ' -> H' p = none -> m.ok -> RepL X.K G' m.vals vs -> D.rt (.ref p) (upd H' p (m.ho vs))
def GivesS (X : Cx) (t : TS) (F : FS) : Prop := ∀ (B G H : Hp) (δ : En) (σ : St) (o : Out) (D : Ends), Same G H -> Same B H -> RepS X.K B G H δ σ -> F δ = some o -> Want X B G D o -> t D σ H
def PSD (X : Cx) (st : Stmt) (F : FS) : Prop := ∃ t, PS X st t /\ GivesS X t F
def PSsD (X : Cx) (sts : List Stmt) (F : FS) : Prop := ∃ t, PSs X sts t /\ GivesS X t F
theorem Want.mono {X : Cx} {B G G1 H1 : Hp} {D : Ends} {o : Out} (w : Want X B G D o) (g : Stp B G G1 H1) : Want X B G1 D o := by
 cases o with
 | nx δ => exact fun σ' G' H' a => w σ' G' H' (g.trans a)
 | bk δ => exact fun σ' G' H' a => w σ' G' H' (g.trans a)
 | ct δ => exact fun σ' G' H' a => w σ' G' H' (g.trans a)
 | ex c δ => exact fun pins σ' G' H' s' e C I a => w pins σ' G' H' s' e C I (g.trans a)
 | rt r δ =>
  cases r with
  | sh d => exact fun v σ' G' H' a => w v σ' G' H' (g.trans a)
  | fr m => exact fun p vs σ' G' H' a => w p vs σ' G' H' (g.trans a)
section
variable {X : Cx} {st : Stmt} {rest sts : List Stmt} {F F' : FS} {pos : Pos} {f : FE} {e : Expr}
@[simp] noncomputable def sNil : FS := fun δ => some (.nx δ)
@[simp] noncomputable def sSeq (F F' : FS) : FS := fun δ => match F δ with | some (.nx δ') => F' δ' | o => o
theorem psd_nil : PSsD X [] sNil := ⟨_, pss_nil, fun B G H δ σ o D sG sB rs e w => by cases e; exact w σ G H (Stp.refl sG sB) rs⟩
theorem psd_cons (h1 : PSD X st F) (h2 : PSsD X rest F') : PSsD X (st :: rest) (sSeq F F') := by
 obtain ⟨t, p1, k1⟩ := h1
 obtain ⟨u, p2, k2⟩ := h2
 refine ⟨_, pss_cons p1 p2, fun B G H δ σ o D sG sB rs e w => ?_⟩
 unfold sSeq at e
 show t { D with nx := u D } σ H
 cases e1 : F δ with
 | none => rw [e1] at e; cases e
 | some o1 =>
  rw [e1] at e
  cases o1 with
  | nx δ' => exact k1 B G H δ σ (.nx δ') _ sG sB rs e1 fun σ' G' H' a r => k2 B G' H' δ' σ' o D a.s a.b r e (w.mono a)
  | rt d δ' =>
   cases e
   cases d with
   | sh d => exact k1 B G H δ σ (.rt (.sh d) δ') _ sG sB rs e1 w
   | fr m => exact k1 B G H δ σ (.rt (.fr m) δ') _ sG sB rs e1 w
  | bk δ' => cases e; exact k1 B G H δ σ (.bk δ') _ sG sB rs e1 w
  | ct δ' => cases e; exact k1 B G H δ σ (.ct δ') _ sG sB rs e1 w
  | ex c δ' => cases e; exact k1 B G H δ σ (.ex c δ') _ sG sB rs e1 w
@[simp] noncomputable def sSet (i : Nat) (f : FE) : FS := fun δ => (f δ).map fun d => .nx (δ.set i (some (.sh d)))
theorem psd_set (i : Nat) {x : Str} {pos' : Pos} (hN : X.N.Nodup) (he : PD X e f) (hi : X.N[i]? = some x := by rfl) (hx : Loc X.env.scope x := by walk_at "or")
  (hs : swapsWith e (some (.Name x pos')) pos.line X.env = pure false := by rfl) (hf : X.fn x = true \/ X.env.scope.names.lookup x = some .local := by walk_at "or") : PSD X (.Assign [.Name x pos'] e pos) (sSet i f) := by
 obtain ⟨t, pt, k⟩ := he
 refine ⟨_, ps_set hN hi hx pt hs hf, fun B G H δ σ o D sG sB rs e w => ?_⟩
 unfold sSet at e
 obtain ⟨d, e1, rfl⟩ := omE e
 exact k B G H δ σ d _ sG rs e1 fun v G' H' g r => w _ G' H' (g.stp sB) ((rs.grow g).set i r)
@[simp] noncomputable def sRet (f : FR) : FS := fun δ => (f δ).map fun r => .rt r δ
theorem psd_ret {f : FR} (he : PR X e f) : PSD X (.Return (some e) pos) (sRet f) := by
 obtain ⟨t, pt, k⟩ := he
 refine ⟨_, ps_ret pt, fun B G H δ σ o D sG sB rs e w => ?_⟩
 unfold sRet at e
 obtain ⟨d, e1, rfl⟩ := omE e
 refine k B G H δ σ d _ sG rs e1 ?_
 cases d with
 | sh d => exact fun v G' H' g r => w v σ G' H' (g.stp sB) (rs.grow g) r
 | fr m => exact fun p vs G' H' g => w p vs σ G' H' (g.stp sB) (rs.grow g)
theorem erase_upd {H : Hp} {a : Addr} {o : HO} (h : H a = some o) : upd (fun b => if b = a then none else H b) a o = H := by
 funext b
 by_cases hb : b = a
 ·subst hb; rw [upd_same, h]
 ·rw [upd_ne hb, if_neg hb]
theorem same_erase {G H : Hp} {a : Addr} (s : Same G H) (n : G a = none) : Same G (fun b => if b = a then none else H b) := fun b o e => by
 have hb : b ≠ a := fun z => by rw [z, n] at e; cases e
 show (if b = a then none else H b) = some o
 rw [if_neg hb]
 exact s b o e
@[simp] noncomputable def sRetV (i : Nat) : FS := fun δ => match δ[i]? with | some (some (.pv m _)) => some (.rt (.fr m) (δ.set i none)) | some (some (.sh d)) => some (.rt (.sh d) δ) | _ => none
theorem RepS.erase {K : PySem.W.Frag} {B G H : Hp} {δ : En} {σ : St} (r : RepS K B G H δ σ) {i : Nat} {m : Mo} {o : Option Addr} {a : Addr} (em : δ[i]? = some (some (.pv m o))) (ea : σ[i]? = some (some (.ref a))) :
  RepS K B G (fun b => if b = a then none else H b) (δ.set i none) σ := by
 refine ⟨by simp [r.len], fun j x e => ?_, fun j l x y o o' hjl e1 e2 => ?_⟩
 ·rcases get_set e with ⟨rfl, e'⟩ | ⟨hj, e'⟩
  ·cases e'
  ·obtain ⟨v, h1, h2⟩ := r.at_ j x e'
   refine ⟨v, h1, ?_⟩
   cases x with
   | sh d => exact h2
   | ob c => exact h2
   | pv m2 o2 =>
    obtain ⟨a2, us2, rfl, q1, q2, q3, q4, q5⟩ := h2
    have hne : a2 ≠ a := fun z => by
     subst z
     exact r.ap i j m m2 _ _ hj em e' (ea.trans h1.symm)
    exact ⟨a2, us2, rfl, q1, q2, by show (if a2 = a then none else H a2) = _; rw [if_neg hne]; exact q3, q4, q5⟩
 ·rcases get_set e1 with ⟨rfl, e'⟩ | ⟨_, f1⟩
  ·cases e'
  ·rcases get_set e2 with ⟨rfl, e'⟩ | ⟨_, f2⟩
   ·cases e'
   ·exact r.ap j l x y o o' hjl f1 f2
theorem psd_retV (i : Nat) {x : Str} {p : Pos} (hN : X.N[i]? = some x := by rfl) (hv : Vis X.env.scope x := by walk_at "vi") (hd : (x == ("__debug__" : Str)) = false := by decide)
  (hcd : (x == ("__classdict__" : Str)) = false := by decide) : PSD X (.Return (some (.Name x p)) pos) (sRetV i) := by
 refine ⟨_, ps_ret (pe_var hN hv hd hcd), fun B G H δ σ o D sG sB rs e w => ?_⟩
 unfold sRetV at e
 split at e
 ·rename_i m _ em
  cases e
  obtain ⟨v, h1, a, vs, rfl, h2, h3, h4, h5, h6, _⟩ := rs.at_ i _ em
  refine ⟨_, h1, ?_⟩
  have q := w a vs σ G (fun b => if b = a then none else H b) ⟨Same.refl _, same_erase sG h3, same_erase sB h2, fun _ _ _ n => n⟩ (rs.erase em h1) (by simp) h5 h6
  rw [erase_upd h4] at q
  exact q
 ·rename_i d ed
  cases e
  obtain ⟨v, h1, h2⟩ := rs.at_ i _ ed
  exact ⟨v, h1, w v σ G H (Stp.refl sG sB) rs h2⟩
 ·cases e
@[simp] noncomputable def sSetR (i : Nat) (f : FR) : FS := fun δ => (f δ).map fun r => .nx (δ.set i (some r.sl))
theorem psd_setR (i : Nat) {x : Str} {pos' : Pos} {f : FR} (hN : X.N.Nodup) (he : PR X e f) (hi : X.N[i]? = some x := by rfl) (hx : Loc X.env.scope x := by walk_at "or")
  (hs : swapsWith e (some (.Name x pos')) pos.line X.env = pure false := by rfl) (hf : X.fn x = true \/ X.env.scope.names.lookup x = some .local := by walk_at "or") : PSD X (.Assign [.Name x pos'] e pos) (sSetR i f) := by
 obtain ⟨t, pt, k⟩ := he
 refine ⟨_, ps_set hN hi hx pt hs hf, fun B G H δ σ o D sG sB rs e w => ?_⟩
 unfold sSetR at e
 obtain ⟨d, e1, rfl⟩ := omE e
 refine k B G H δ σ d _ sG rs e1 ?_
 cases d with
 | sh d => exact fun v G' H' g r => w _ G' H' (g.stp sB) ((rs.grow g).set i r)
 | fr m =>
  intro p vs G' H' g hp ok rl
  have g2 : Grow G' H' G' (upd H' p (m.ho vs)) := ⟨Same.refl _, same_new _ hp, g.s.trans (same_new _ hp), fun _ _ _ n => n⟩
  have g3 := g.trans g2
  refine w _ G' _ (g3.stp sB) ((rs.grow g3).put i (x := .pv m none) ⟨p, vs, rfl, (sB.trans g.h).free hp, g.s.free hp, upd_same, ok, rl, fun _ z => nomatch z⟩ fun m' _ _ j y _ hj ej q => ?_)
  obtain ⟨v, h1, a, us, rfl, _, _, h4, _, _, _⟩ := (rs.grow g).at_ j _ ej
  rw [h1] at q
  cases q
  rw [hp] at h4
  cases h4
theorem RepS.upd {K : PySem.W.Frag} {B G H : Hp} {δ : En} {σ : St} (r : RepS K B G H δ σ) {i : Nat} {m m' : Mo} {o : Option Addr} {a : Addr} {us : List V} (em : δ[i]? = some (some (.pv m o))) (ea : σ[i]? = some (some (.ref a))) (hB : B a = none) (hG : G a = none) (ok : m'.ok) (rl : RepL K G m'.vals us) :
  RepS K B G (L2.upd H a (m'.ho us)) (δ.set i (some (.pv m' o))) σ := by
 refine ⟨by simp [r.len], fun j x e => ?_, fun j l x y o1 o2 hjl e1 e2 => ?_⟩
 ·rcases get_set e with ⟨rfl, e'⟩ | ⟨hj, e'⟩
  ·cases e'
   obtain ⟨v, w1, b, _, rfl, _, _, _, _, _, tg⟩ := r.at_ _ _ em
   rw [ea] at w1
   cases w1
   exact ⟨_, ea, a, us, rfl, hB, hG, upd_same, ok, rl, tg⟩
  ·obtain ⟨v, h1, h2⟩ := r.at_ j x e'
   refine ⟨v, h1, ?_⟩
   cases x with
   | sh d => exact h2
   | ob c => exact h2
   | pv m2 o2 =>
    obtain ⟨a2, us2, rfl, q1, q2, q3, q4, q5⟩ := h2
    have hne : a2 ≠ a := fun z => by
     subst z
     exact r.ap i j m m2 _ _ hj em e' (ea.trans h1.symm)
    exact ⟨a2, us2, rfl, q1, q2, by rw [upd_ne hne]; exact q3, q4, q5⟩
 ·have old : ∀ (k : Nat) (z : Mo) (u : Option Addr), (δ.set i (some (.pv m' o)))[k]? = some (some (.pv z u)) -> ∃ z' u', δ[k]? = some (some (.pv z' u')) := fun k z u e => by
   rcases get_set e with ⟨rfl, e'⟩ | ⟨_, e'⟩
   ·exact ⟨m, o, em⟩
   ·exact ⟨z, u, e'⟩
  obtain ⟨x', u1, f1⟩ := old j x _ e1
  obtain ⟨y', u2, f2⟩ := old l y _ e2
  exact r.ap j l x' y' _ _ hjl f1 f2
theorem stp_own {B G H : Hp} {a : Addr} {o : HO} (sG : Same G H) (sB : Same B H) (hB : B a = none) (hG : G a = none) : Stp B G G (L2.upd H a o) :=
 ⟨Same.refl _, fun b u e => by rw [upd_ne (ne_of_none e hG)]; exact sG b u e, fun b u e => by rw [upd_ne (ne_of_none e hB)]; exact sB b u e, fun _ _ _ n => n⟩
@[simp] noncomputable def sApp (i : Nat) (f : FE) : FS := fun δ => match δ[i]? with
 | some (some (.pv (.lst ds) o)) => (f δ).bind fun d => if ds.length < sizeLine then some (.nx (δ.set i (some (.pv (.lst (ds ++ [d])) o)))) else none
 | _ => none
theorem psd_app (i : Nat) {x : Str} {p p1 p2 : Pos} (he : PD X e f) (hN : X.N[i]? = some x := by rfl) (hv : Vis X.env.scope x := by walk_at "vi")
  (hb : ∀ {t : TE} {tx : TE}, PE X (.Name x p) tx -> PE X e t -> PE X (.Call (.Attribute (.Name x p) "append" p1) [e] [] p2) (tBM X.K "list" rAppend tx (tCons t tNil)) := by
   intro t tx hx ht; exact pe_bm PySem.F.plainAttrs_list PySem.F.slot_list_append PySem.F.type_list_append mt_append hx (pa_cons ht pa_nil))
  (hd : (x == ("__debug__" : Str)) = false := by decide) (hcd : (x == ("__classdict__" : Str)) = false := by decide) (hs : swapsWith (.Call (.Attribute (.Name x p) "append" p1) [e] [] p2) none pos.line X.env = pure false := by rfl) :
  PSD X (.Expr (.Call (.Attribute (.Name x p) "append" p1) [e] [] p2) pos) (sApp i f) := by
 obtain ⟨t, pt, k⟩ := he
 refine ⟨_, ps_expr (hb (pe_var hN hv hd hcd) pt) hs, fun B G H δ σ o D sG sB rs e w => ?_⟩
 unfold sApp at e
 split at e
 ·rename_i ds o em
  obtain ⟨d, e1, e⟩ := obE e
  split at e
  ·rename_i hl
   cases e
   obtain ⟨v, h1, a, vs, rfl, h2, h3, h4, h5, h6, _⟩ := rs.at_ i _ em
   refine ⟨_, h1, .inl ⟨rfl, _, SqL.of h4⟩, k B G H δ σ d _ sG rs e1 fun u G1 H1 g1 r1 => ?_⟩
   have hH : H1 a = some (.lst vs) := g1.h _ _ h4
   have hG1 : G1 a = none := g1.n a _ h4 h3
   have rl : RepL X.K G1 (ds ++ [d]) (vs ++ [u]) := (h6.mono g1.g).snoc r1
   refine ⟨a, vs, u, rfl, rfl, hH, by rw [<- RepL.length h6]; exact hl, ?_⟩
   exact w σ G1 _ ((g1.stp sB).trans (stp_own g1.s (sB.trans g1.h) h2 hG1)) ((rs.grow g1).upd (m' := .lst (ds ++ [d])) (us := vs ++ [u]) em h1 h2 hG1 True.intro rl)
  ·cases e
 ·cases e
@[simp] noncomputable def pubS (i : Nat) (δ : En) : En := match δ[i]? with | some (some (.pv m _)) => δ.set i (some (.sh m.d)) | _ => δ
theorem RepS.pub {K : PySem.W.Frag} {B G H : Hp} {δ : En} {σ : St} (r : RepS K B G H δ σ) (sG : Same G H) (sB : Same B H) (i : Nat) : ∃ G', Stp B G G' H /\ RepS K B G' H (pubS i δ) σ := by
 unfold pubS
 split
 ·rename_i m _ em
  obtain ⟨v, h1, a, vs, rfl, h2, h3, h4, h5, h6, _⟩ := r.at_ i _ em
  have st : Stp B G (L2.upd G a (m.ho vs)) H := by
   refine ⟨same_new _ h3, fun b u e => ?_, sB, fun b o e n => ?_⟩
   ·by_cases hb : b = a
    ·subst hb; rw [upd_same] at e; cases e; exact h4
    ·rw [upd_ne hb] at e; exact sG b u e
   ·rw [upd_ne (ne_of_none e h2)]; exact n
  refine ⟨_, st, by simp [r.len], fun j x e => ?_, fun j l x y o1 o2 hjl e1 e2 => ?_⟩
  ·rcases get_set e with ⟨rfl, e'⟩ | ⟨hj, e'⟩
   ·cases e'
    exact ⟨_, h1, rep_pub h3 h5 h6⟩
   ·obtain ⟨v, q1, q2⟩ := r.at_ j x e'
    refine ⟨v, q1, ?_⟩
    cases x with
    | sh d => exact Rep.mono st.g q2
    | ob c => exact IsEx.mono st.g q2
    | pv m2 o2 =>
     obtain ⟨a2, us2, rfl, p1, p2, p3, p4, p5, p6⟩ := q2
     have hne : a2 ≠ a := fun z => by
      subst z
      exact r.ap i j m m2 _ _ hj em e' (h1.trans q1.symm)
     exact ⟨a2, us2, rfl, p1, by rw [upd_ne hne]; exact p2, p3, p4, p5.mono st.g, p6⟩
  ·have old : ∀ (k : Nat) (z : Mo) (u : Option Addr), (δ.set i (some (.sh m.d)))[k]? = some (some (.pv z u)) -> δ[k]? = some (some (.pv z u)) := fun k z u e => by
    rcases get_set e with ⟨rfl, e'⟩ | ⟨_, e'⟩
    ·cases e'
    ·exact e'
   exact r.ap j l x y _ _ hjl (old j x _ e1) (old l y _ e2)
 ·exact ⟨G, Stp.refl sG sB, r⟩
theorem psd_pub (i : Nat) (h : PSD X st F) : PSD X st (fun δ => F (pubS i δ)) := by
 obtain ⟨t, pt, k⟩ := h
 refine ⟨t, pt, fun B G H δ σ o D sG sB rs e w => ?_⟩
 obtain ⟨G', s1, r1⟩ := rs.pub sG sB i
 exact k B G' H _ σ o D s1.s sB r1 e (w.mono s1)
@[simp] noncomputable def sIf (c : En -> Option Bool) (F F' : FS) : FS := fun δ => (c δ).bind fun b => if b = true then F δ else F' δ
theorem psd_if {c : Expr} {a b : List Stmt} {fb : En -> Option Bool} (hc : PDT X c fb) (ha : PSsD X a F) (hb : PSsD X b F') : PSD X (.If c a b pos) (sIf fb F F') := by
 obtain ⟨tc, pc, kc⟩ := hc
 obtain ⟨ta, pa, ka⟩ := ha
 obtain ⟨tb, pb, kb⟩ := hb
 refine ⟨_, ps_if pc pa pb, fun B G H δ σ o D sG sB rs e w => ?_⟩
 unfold sIf at e
 obtain ⟨x, e1, e⟩ := obE e
 refine kc B G H δ σ x _ sG rs e1 fun G1 H1 g1 => ?_
 cases x with
 | true => rw [if_pos rfl] at e ⊢; exact ka B G1 H1 δ σ o D g1.s (sB.trans g1.h) (rs.grow g1) e (w.mono (g1.stp sB))
 | false => rw [if_neg Bool.false_ne_true] at e ⊢; exact kb B G1 H1 δ σ o D g1.s (sB.trans g1.h) (rs.grow g1) e (w.mono (g1.stp sB))
structure Wk (K : PySem.W.Frag) (J : It) (G : Hp) (xs : List D) : Prop where
 go : ∀ i d G' H', xs[i]? = some d -> Same G G' -> Same G' H' -> J.go i H' /\ ∀ x H2, J.yld i H' x H2 -> H2 = H' /\ Rep K G' d x
 stop : ∀ G' H', Same G G' -> Same G' H' -> J.stop xs.length H'
def PID (X : Cx) (tg iter : Expr) (f : En -> Option (List D)) : Prop := ∃ wi, PI X tg iter wi /\ ∀ (B G H : Hp) (δ : En) (σ : St) (xs : List D) (R : It -> Hp -> Prop), Same G H -> RepS X.K B G H δ σ -> f δ = some xs ->
 (∀ J G' H', Grow G H G' H' -> Wk X.K J G' xs -> R J H') -> wi σ H R
noncomputable def signs (z : Str) : List D := z.cps.toList.map fun c => .str ⟨#[c]⟩
noncomputable def rngD (lo : Int) (n : Nat) : List D := (List.range n).map fun (k : Nat) => .int (lo + (k : Int))
@[simp] noncomputable def oRng (f : FE) : En -> Option (List D) := fun δ => match f δ with | some (.int j) => if -(2 ^ 62) <= j /\ j < 2 ^ 62 then some (rngD 0 j.toNat) else none | _ => none
variable {tg : Expr}
theorem pid_range {p : Pos} (hm : X.mg "range" = none) (he : PD X e f) (hg : Gl X "range" := by rfl) (hs : starEach [e] X.env = [(false, eval e X.env)] := by rfl) : PID X tg (.Call (.Name "range" p) [e] [] pos) (oRng f) := by
 obtain ⟨t, pt, k⟩ := he
 refine ⟨_, pi_range1 hg hm (pa_cons pt pa_nil hs) hs, fun B G H δ σ xs R sG rs e q => ?_⟩
 unfold oRng at e
 split at e
 ·rename_i j e1
  split at e
  ·rename_i hj
   cases e
   refine k B G H δ σ _ _ sG rs e1 fun v G1 H1 g1 r1 => ?_
   simp only [Rep] at r1
   subst r1
   refine ⟨j, rfl, hj.1, hj.2, q _ G1 H1 g1 ⟨fun i d G' H' ed a1 b1 => ?_, fun G' H' a1 b1 => ?_⟩⟩
   ·unfold rngD at ed
    rw [List.getElem?_map] at ed
    obtain ⟨c, ec, rfl⟩ := omE ed
    obtain ⟨hi, hc⟩ := List.getElem?_eq_some_iff.mp ec
    rw [List.length_range] at hi
    rw [List.getElem_range] at hc
    subst hc
    refine ⟨hi, fun x' H2 y => ⟨y.1, ?_⟩⟩
    rw [y.2]
    simp [Rep]
   ·show j.toNat <= (rngD 0 j.toNat).length
    simp [rngD]
  ·cases e
 ·cases e
noncomputable def forL (i : Nat) (F : FS) : List D -> FS
 | [], δ => some (.nx δ)
 | x :: xs, δ => match F (δ.set i (some (.sh x))) with
  | some (.nx δ') => forL i F xs δ'
  | some (.ct δ') => forL i F xs δ'
  | some (.ex c δ') => some (.ex c δ')
  | some (.bk δ') => some (.nx δ')
  | some (.rt d δ') => some (.rt d δ')
  | none => none
@[simp] noncomputable def sFor (i : Nat) (f : En -> Option (List D)) (F : FS) : FS := fun δ => (f δ).bind fun xs => forL i F xs δ
theorem psd_for (i : Nat) {x : Str} {pos' : Pos} {iter : Expr} {body : List Stmt} {g : En -> Option (List D)} (hN : X.N.Nodup) (hc : X.calm = true) (hp : PassesOwn (model X.prog X.w) X.A X.env X.xe) (hi : PID X (.Name x pos') iter g) (hb : PSsD X body F)
  (hix : X.N[i]? = some x := by rfl) (hx : Loc X.env.scope x := by walk_at "or") (hf : X.fn x = true \/ X.env.scope.names.lookup x = some .local := by walk_at "or")
  (hs : ∀ x, foldedSetIterable iter X.env x = pure x := by intro _; rfl) : PSD X (.For (.Name x pos') iter body [] pos) (sFor i g F) := by
 obtain ⟨wi, pw, kw⟩ := hi
 obtain ⟨tb, pb, kb⟩ := hb
 refine ⟨_, ps_for hp hc pw (pg_name hN hix hx hf) pb hs, fun B G H δ σ o D sG sB rs e w => ?_⟩
 unfold sFor at e
 obtain ⟨xs, e1, e⟩ := obE e
 refine kw B G H δ σ xs _ sG rs e1 fun J G1 H1 g1 wk => ?_
 have st1 : Stp B G G1 H1 := g1.stp sB
 refine ⟨fun n m σ' H' => ∃ δ' G', m = xs.length - n /\ n <= xs.length /\ Stp B G1 G' H' /\ RepS X.K B G' H' δ' σ' /\ forL i F (xs.drop n) δ' = some o, ⟨_, δ, G1, rfl, Nat.zero_le _, Stp.refl st1.s st1.b, rs.grow g1, by simpa using e⟩, ?_⟩
 rintro n m σ' H' ⟨δ', G', rfl, hn, a1, rs', eo⟩
 by_cases hlt : n < xs.length
 ·right
  obtain ⟨go, yl⟩ := wk.go n xs[n] G' H' (by simp [hlt]) a1.g a1.s
  rw [List.drop_eq_getElem_cons hlt] at eo
  unfold forL at eo
  refine ⟨go, fun σ2 H2 => ∃ m', m' < xs.length - n /\ ∃ δ2 G2, m' = xs.length - (n + 1) /\ n + 1 <= xs.length /\ Stp B G1 G2 H2 /\ RepS X.K B G2 H2 δ2 σ2 /\ forL i F (xs.drop (n + 1)) δ2 = some o, fun σ2 H2 z => z, fun x H2 y => ?_⟩
  obtain ⟨rfl, rx⟩ := yl x H2 y
  show tb _ (σ'.set i (some x)) H2
  have again : ∀ {δ2 : En} {σ2 : St} {G2 H3 : Hp}, Stp B G' G2 H3 -> RepS X.K B G2 H3 δ2 σ2 -> forL i F (xs.drop (n + 1)) δ2 = some o ->
    ∃ m', m' < xs.length - n /\ ∃ δ2 G2, m' = xs.length - (n + 1) /\ n + 1 <= xs.length /\ Stp B G1 G2 H3 /\ RepS X.K B G2 H3 δ2 σ2 /\ forL i F (xs.drop (n + 1)) δ2 = some o :=
   fun {δ2 σ2 G2 H3} a r e => ⟨xs.length - (n + 1), by omega, δ2, G2, rfl, hlt, a1.trans a, r, e⟩
  cases eF : F (δ'.set i (some (.sh xs[n]))) with
  | none => rw [eF] at eo; cases eo
  | some o1 =>
   rw [eF] at eo
   refine kb B G' H2 _ _ o1 _ a1.s a1.b (rs'.set i rx) eF ?_
   cases o1 with
   | nx δ2 => exact fun σ2 G2 H3 a r => again a r eo
   | ct δ2 => exact fun σ2 G2 H3 a r => again a r eo
   | ex c δ2 =>
    cases eo
    exact fun pins σ2 G2 H3 s3 e C I a => w pins σ2 G2 H3 s3 e C I (st1.trans (a1.trans a))
   | bk δ2 =>
    cases eo
    exact fun σ2 G2 H3 a r => w σ2 G2 H3 (st1.trans (a1.trans a)) r
   | rt r δ2 =>
    cases eo
    cases r with
    | sh d => exact fun v σ2 G2 H3 a r => w v σ2 G2 H3 (st1.trans (a1.trans a)) r
    | fr m => exact fun p vs σ2 G2 H3 a => w p vs σ2 G2 H3 (st1.trans (a1.trans a))
 ·left
  have hnn : n = xs.length := by omega
  subst hnn
  rw [List.drop_of_length_le (Nat.le_refl _)] at eo
  cases eo
  exact ⟨wk.stop G' H' a1.g a1.s, w σ' G' H' (st1.trans a1) rs'⟩
noncomputable def compL (c : D -> Option Bool) (g : D -> Option D) : List D -> Option (List D)
 | [] => some []
 | x :: xs => (c x).bind fun b => if b = true then (g x).bind fun y => (compL c g xs).bind fun ys => some (y :: ys) else compL c g xs
@[simp] noncomputable def csD (nl : Nat) (js : List Nat) (δ : En) : En := List.replicate nl none ++ js.map fun j => (δ[j]?).join
@[simp] noncomputable def fComp (nl : Nat) (js : List Nat) (i : Nat) (it : En -> Option (List D)) (c : En -> Option Bool) (g : FE) : FR := fun δ => (it δ).bind fun xs =>
 if xs.length <= sizeLine then (compL (fun x => c ((csD nl js δ).set i (some (.sh x)))) (fun x => g ((csD nl js δ).set i (some (.sh x)))) xs).map fun ys => .fr (.lst ys) else none
def PIfsD (X : Cx) (ifs : List Expr) (f : En -> Option Bool) : Prop := ∃ t, PIfs X ifs t /\ ∀ (B G H : Hp) (δ : En) (σ : St) (b : Bool) (Q : Bool -> Hp -> Prop), Same G H -> RepS X.K B G H δ σ -> f δ = some b ->
 (∀ G' H', Grow G H G' H' -> Q b H') -> t σ H Q
@[simp] noncomputable def bYes : En -> Option Bool := fun _ => some true
theorem pifd_nil : PIfsD X [] bYes := ⟨_, pifs_nil, fun B G H δ σ b Q sG rs e k => by cases e; exact k G H (Grow.refl sG)⟩
theorem pifd_one {c : Expr} {fb : En -> Option Bool} (h : PDT X c fb) : PIfsD X [c] fb := by
 obtain ⟨t, pt, k⟩ := h
 exact ⟨t, pifs_one pt, k⟩
theorem cs_at {nl : Nat} {js : List Nat} {α : Type} {l : List (Option α)} {i : Nat} {x : α} (e : (List.replicate nl none ++ js.map fun j => (l[j]?).join)[i]? = some (some x)) : ∃ j, nl <= i /\ js[i - nl]? = some j /\ l[j]? = some (some x) := by
 rcases Nat.lt_or_ge i nl with z | z
 ·rw [List.getElem?_append_left (by simpa using z), List.getElem?_replicate, if_pos z] at e; cases e
 ·rw [List.getElem?_append_right (by simpa using z), List.length_replicate, List.getElem?_map] at e
  obtain ⟨j, ej, e⟩ := omE e
  refine ⟨j, z, ej, ?_⟩
  cases q : l[j]? with
  | none => rw [q] at e; cases e
  | some y => rw [q] at e; rw [show y = some x from e]
theorem cs_to {nl : Nat} {js : List Nat} {α : Type} {l : List (Option α)} {i j : Nat} {x : Option α} (z : nl <= i) (ej : js[i - nl]? = some j) (e : l[j]? = some x) : (List.replicate nl none ++ js.map fun j => (l[j]?).join)[i]? = some x := by
 rw [List.getElem?_append_right (by simpa using z), List.length_replicate, List.getElem?_map, ej, Option.map_some, e]
 rfl
theorem RepS.cs {K : PySem.W.Frag} {B G H : Hp} {δ : En} {σ : St} (r : RepS K B G H δ σ) (nl : Nat) (js : List Nat) (hj : js.Nodup) : RepS K B G H (csD nl js δ) (csOf nl js σ) := by
 refine ⟨by simp [csD, csOf], fun i x e => ?_, fun i j x y o1 o2 hij e1 e2 => ?_⟩
 ·obtain ⟨j, z, ej, ed⟩ := cs_at e
  obtain ⟨v, h1, h2⟩ := r.at_ j _ ed
  exact ⟨v, cs_to z ej h1, h2⟩
 ·obtain ⟨j1, z1, ej1, ed1⟩ := cs_at e1
  obtain ⟨j2, z2, ej2, ed2⟩ := cs_at e2
  have hne : j1 ≠ j2 := fun q => by
   subst q
   have h1 := (List.getElem?_eq_some_iff.mp ej1)
   have h2 := (List.getElem?_eq_some_iff.mp ej2)
   obtain ⟨l1, q1⟩ := h1
   obtain ⟨l2, q2⟩ := h2
   have := (List.getElem_inj hj).mp (q1.trans q2.symm)
   omega
  obtain ⟨v1, h1, _⟩ := r.at_ j1 _ ed1
  obtain ⟨v2, h2, _⟩ := r.at_ j2 _ ed2
  have := r.ap j1 j2 x y _ _ hne ed1 ed2
  rw [show (csOf nl js σ)[i]? = σ[j1]? from (cs_to z1 ej1 h1).trans h1.symm, show (csOf nl js σ)[j]? = σ[j2]? from (cs_to z2 ej2 h2).trans h2.symm]
  exact this
theorem compL_len {c : D -> Option Bool} {g : D -> Option D} : ∀ {xs ys : List D}, compL c g xs = some ys -> ys.length <= xs.length
 | [], ys, e => by cases e; exact Nat.le_refl _
 | x :: xs, ys, e => by
  unfold compL at e
  obtain ⟨b, e1, e⟩ := obE e
  split at e
  ·obtain ⟨y, e2, e⟩ := obE e
   obtain ⟨zs, e3, e⟩ := obE e
   cases e
   have := compL_len e3
   simp only [List.length_cons]; omega
  ·have := compL_len e
   simp only [List.length_cons]; omega
theorem gives_comp {wi : TI} {ti : TT} {te : TE} {it : En -> Option (List D)} {c : En -> Option Bool} {g : FE} {nl i : Nat} {js : List Nat}
  (kw : ∀ (B G H : Hp) (δ : En) (σ : St) (xs : List D) (R : It -> Hp -> Prop), Same G H -> RepS X.K B G H δ σ -> it δ = some xs -> (∀ J G' H', Grow G H G' H' -> Wk X.K J G' xs -> R J H') -> wi σ H R)
  (kt : ∀ (B G H : Hp) (δ : En) (σ : St) (b : Bool) (Q : Bool -> Hp -> Prop), Same G H -> RepS X.K B G H δ σ -> c δ = some b -> (∀ G' H', Grow G H G' H' -> Q b H') -> ti σ H Q) (ke : Gives X.K te g) (hjs : js.Nodup) :
  GivesR X.K (tComp wi (csOf nl js) (gName i) ti te) (fComp nl js i it c g) := fun B G H δ σ d Q sG rs e k => by
 unfold fComp at e
 obtain ⟨xs, e1, e⟩ := obE e
 split at e
 ·rename_i hl
  obtain ⟨zs, e2, rfl⟩ := omE e
  refine kw B G H δ σ xs _ sG rs e1 fun J G1 H1 g1 wk => ?_
  refine ⟨fun n m ys H' => ∃ G' ws us, m = xs.length - n /\ n <= xs.length /\ Grow G H G' H' /\ Same G1 G' /\ RepL X.K G' ws ys /\ zs = ws ++ us /\ compL (fun x => c ((csD nl js δ).set i (some (.sh x)))) (fun x => g ((csD nl js δ).set i (some (.sh x)))) (xs.drop n) = some us,
   ⟨_, G1, [], zs, rfl, Nat.zero_le _, g1, Same.refl _, by simp [RepL], rfl, by simpa using e2⟩, ?_⟩
  rintro n m ys H' ⟨G', ws, us, rfl, hn, gr, s1, rl, rfl, ec⟩
  have hwl : (ws ++ us).length <= xs.length := compL_len e2
  refine ⟨by rw [<- rl.length]; rw [List.length_append] at hwl; omega, ?_⟩
  by_cases hlt : n < xs.length
  ·right
   obtain ⟨go, yl⟩ := wk.go n xs[n] G' H' (by simp [hlt]) s1 gr.s
   rw [List.drop_eq_getElem_cons hlt] at ec
   unfold compL at ec
   obtain ⟨b, ec1, ec⟩ := obE ec
   refine ⟨go, fun x H2 y => ?_⟩
   obtain ⟨rfl, rx⟩ := yl x H2 y
   show ti ((csOf nl js σ).set i (some x)) H2 _
   have rs2 := ((rs.grow gr).cs nl js hjs).set i rx
   refine kt B G' H2 _ _ b _ gr.s rs2 ec1 fun G3 H3 g3 => ?_
   cases b with
   | true =>
    rw [if_pos rfl] at ec ⊢
    obtain ⟨y', ec2, ec⟩ := obE ec
    obtain ⟨us', ec3, ec⟩ := obE ec
    cases ec
    refine ke B G3 H3 _ _ y' _ g3.s (rs2.grow g3) ec2 fun v G4 H4 g4 r4 => ?_
    exact ⟨xs.length - (n + 1), by omega, G4, ws ++ [y'], us', rfl, hlt, (gr.trans g3).trans g4, s1.trans (g3.g.trans g4.g), (rl.mono (g3.g.trans g4.g)).snoc r4, by simp, ec3⟩
   | false =>
    rw [if_neg Bool.false_ne_true] at ec ⊢
    exact ⟨xs.length - (n + 1), by omega, G3, ws, us, rfl, hlt, gr.trans g3, s1.trans g3.g, rl.mono g3.g, rfl, ec⟩
  ·left
   have hnn : n = xs.length := by omega
   subst hnn
   rw [List.drop_of_length_le (Nat.le_refl _)] at ec
   cases ec
   refine ⟨wk.stop G' H' s1 gr.s, fun p hp => ?_⟩
   rw [List.append_nil] at k
   exact k p ys G' H' gr hp True.intro rl
 ·cases e
theorem pr_comp {N : List Str} {nl i : Nat} {js : List Nat} {scope : Scope} {cl : List (Str × Addr)} {elt iter : Expr} {ifs : List Expr} {x : Str} {px pos : Pos} {it : En -> Option (List D)} {c : En -> Option Bool} {g : FE}
  (hc : X.calm = true) (ok : CompOk X N nl js scope cl) (hi : PID X (.Name x px) iter it) (hin : i < nl) (hNd : N.Nodup) (hix : N[i]? = some x) (hx : scope.names.lookup x = some .local) (hjs : js.Nodup)
  (ht : ∃ ti, (∀ C s₀ H₀ ex, PIfs (compCx X N scope cl C s₀ H₀ ex) ifs ti) /\ ∀ (B G H : Hp) (δ : En) (σ : St) (b : Bool) (Q : Bool -> Hp -> Prop), Same G H -> RepS X.K B G H δ σ -> c δ = some b -> (∀ G' H', Grow G H G' H' -> Q b H') -> ti σ H Q)
  (he : ∃ te, (∀ C s₀ H₀ ex, PE (compCx X N scope cl C s₀ H₀ ex) elt te) /\ Gives X.K te g)
  (hs : ∀ x, foldedSetIterable iter X.env x = pure x := by intro _; rfl) :
  PR X (.ListComp elt [⟨.Name x px, iter, ifs, 0⟩] scope pos) (fComp nl js i it c g) := by
 obtain ⟨wi, pw, kw⟩ := hi
 obtain ⟨ti, pt, kt⟩ := ht
 obtain ⟨te, pe, ke⟩ := he
 refine ⟨_, pe_comp hc ok pw (keeps_name hin) (fun C s₀ H₀ ex => pg_name hNd hix (.inl (lookup_relabel_local hx)) (.inr (lookup_relabel_local hx))) pt pe hs, gives_comp kw kt ke hjs⟩
end
section
variable {X : Cx}
theorem op_catL : OpR X (binaryOp .Add) (rCatL X.K) := by
 intro pins s σ H x y v u Q I rx ry h
 obtain ⟨l, b, xs, zs, rfl, rfl, hH, hB, hz, q⟩ := h
 cases rx
 cases ry
 obtain ⟨its, r, hl, hz1⟩ := I.list hH
 obtain ⟨its2, r2, hl2, hz2⟩ := I.list hB
 obtain ⟨⟨cls, dd, data, sl⟩, ho, hc, n, hd⟩ := hl.isList
 obtain ⟨⟨cls2, dd2, data2, sl2⟩, ho2, hc2, n2, hd2⟩ := hl2.isList
 simp only at hc hd hc2 hd2
 subst hc hd hc2 hd2
 have ea : its.toArray ++ its2.toArray = (its ++ its2).toArray := by simp
 have h1 := r.length
 have h2 := r2.length
 refine concat_meets ⟨_, ho, rfl⟩ ⟨_, ho2, rfl⟩ noFill_list_add seq_list_add PySem.F.slot_list_add PySem.F.entry_list_add (PySem.F.args_list_add_2 _ _) (list_addW l b its.toArray its2.toArray n n2 dd dd2 sl sl2 (by simp; omega)) ⟨ho, ho2, ?_⟩
 rw [ea]
 exact ⟨.ref _, _, I.lnew (t' := s.toks) (r.append r2) (by rw [List.length_append]; omega), rfl, q _ I.fresh⟩
def rCatT0 (K : PySem.W.Frag) : R2 := fun x y H Q => ∃ a b ys, x = .ref a /\ y = .ref b /\ SqT K H a [] /\ SqT K H b ys /\ Q (.ref b) H
theorem op_catT0 : OpR X (binaryOp .Add) (rCatT0 X.K) := by
 intro pins s σ H x y v u Q I rx ry h
 obtain ⟨a, b, ys, rfl, rfl, ha, hb, q⟩ := h
 cases rx
 cases ry
 obtain ⟨its, r1, p1, _⟩ := I.tuple ha
 obtain ⟨its2, r2, p2, _⟩ := I.tuple hb
 cases r1
 obtain ⟨⟨cls, dd, data, sl⟩, ho, hc, n, hd⟩ := id p1
 obtain ⟨⟨cls2, dd2, data2, sl2⟩, ho2, hc2, n2, hd2⟩ := id p2
 simp only at hc hd hc2 hd2
 subst hc hd hc2 hd2
 exact concat_meets ⟨_, ho, rfl⟩ ⟨_, ho2, rfl⟩ noFill_tuple_add seq_tuple_add PySem.F.slot_tuple_add PySem.F.entry_tuple_add (PySem.F.args_tuple_add_2 _ _)
   (tuple_addW0 a b #[] its2.toArray n n2 dd dd2 sl sl2 rfl) ⟨ho, ho2, ⟨.ref b, H, I, rfl, q⟩⟩
noncomputable def tupAdd : D -> D -> Option D | .tup i, .tup j => if i.length + j.length <= sizeLine then some (.tup (i ++ j)) else none | _, _ => none
theorem od_tadd : OpD X (binaryOp .Add) tupAdd := by
 refine ⟨_, op_catT0.or op_catT, fun G H x y v u d Q sG rx ry e k => ?_⟩
 unfold tupAdd at e
 split at e
 ·rename_i i j
  split at e
  ·rename_i hc
   cases e
   have rx := rx.tup
   have ry := ry.tup
   have rx0 := rx
   have ry0 := ry
   simp only [Rep] at rx ry
   obtain ⟨p1, xs, rfl, q1, r1⟩ := rx
   obtain ⟨p2, ys, rfl, q2, r2⟩ := ry
   cases i with
   | nil =>
    have : xs = [] := by simpa only [RepL] using r1
    subst this
    exact .inl ⟨p1, p2, ys, rfl, rfl, sG.sqT q1, sG.sqT q2, k _ G H (Grow.refl sG) (by simpa using ry0)⟩
   | cons i0 is =>
    refine .inr ⟨p1, p2, xs, ys, rfl, rfl, sG.sqT q1, sG.sqT q2, ?_, by rw [<- r1.length, <- r2.length]; exact hc, fun hy => ?_, fun hy p hp => k _ _ _ (Grow.laid sG _ hp) (rep_tup (sG.free hp) (r1.append r2))⟩
    ·intro z
     have := r1.length
     rw [z] at this
     cases this
    ·have : j = [] := by
      have := r2.length
      rw [hy] at this
      exact List.length_eq_zero_iff.mp this
     subst this
     exact k _ G H (Grow.refl sG) (by simpa using rx0)
  ·cases e
 ·cases e
noncomputable def addD (x y : D) : Option D := (iAdd x y).or ((sAdd x y).or ((tupAdd x y).or (lAdd x y)))
theorem od_add : OpD X (binaryOp .Add) addD := od_iadd.or (od_sadd.or (od_tadd.or (od_ladd op_catL)))
theorem op_isB : OpR X (compareOp .Is) (fun x y H Q => ∃ i j, x = .bl i /\ y = .bl j /\ Q (.bl (i == j)) H) := by
 intro pins s σ H x y v u Q I rx ry h
 obtain ⟨i, j, rfl, rfl, q⟩ := h
 cases rx
 cases ry
 exact is_bool ⟨.bl _, H, I, rfl, q⟩
noncomputable def isB : D -> D -> Option D | .bl i, .bl j => some (.bl (i == j)) | _, _ => none
theorem od_isB : OpD X (compareOp .Is) isB := by
 refine ⟨_, op_isB, fun G H x y v u d Q sG rx ry e k => ?_⟩
 unfold isB at e
 split at e
 ·cases e
  have rx := rx.flat rfl
  have ry := ry.flat rfl
  simp only [Rep] at rx ry
  exact ⟨_, _, rx, ry, k _ G H (Grow.refl sG) (by simp [Rep])⟩
 ·cases e
noncomputable def eqVs : List V -> List V -> Bool
 | [], [] => true
 | x :: xs, y :: ys => eqV x y && eqVs xs ys
 | _, _ => false
theorem call_allL (hc : X.calm = true) : CallR X (.builtin "all") (fun xs H Q => ∃ (a : Addr) (bs : List Bool), xs = [.ref a] /\ SqL X.K H a (bs.map V.bl) /\ Q (.bl (bs.all id)) H) := by
 intro pins s σ H xs us Q I r h
 obtain ⟨a, bs, rfl, hq, q⟩ := h
 obtain ⟨u, rfl, rx⟩ := vals1 r
 cases rx
 obtain ⟨its, rv, pl, hz⟩ := I.list hq
 have hne : a ≠ s.heap.objs.size := by
  obtain ⟨o, n, e, _⟩ := pl
  exact Nat.ne_of_lt (Heap.lt_size e)
 have hlen : bs.length = its.length := by have := rv.length; simpa using this
 refine call_all_walk (wpAny_pyIter_list pl.isList ⟨s.heap.objs.size, [s.heap.objs.size, a], [s.heap.objs.size], its.toArray.size, fun i v => its.toArray[i]? = some v, _, fun i => bs.getD i false, rfl,
  Walks.list (A := X.A.in1) (I.ok.hd hc) s.heap.objs.size a hne its.toArray, ⟨⟨_, Heap.get?_push_size _ rfl, rfl, rfl⟩, ?_⟩, ?_, fun h' tk kk => ?_⟩)
 ·obtain ⟨o, ho, c, n, d⟩ := pl.isList
  exact ⟨o, Heap.get?_push_of_some _ ho, c, n, d⟩
 ·intro i v s' Q' E' hv hQ
  have hv' : its[i]? = some v := by simpa using hv
  have hi : i < bs.length := by rw [hlen]; exact (List.getElem?_eq_some_iff.mp hv').1
  have eb : (bs.map V.bl)[i]? = some (V.bl bs[i]) := by simp [hi]
  obtain ⟨w', k1, k2⟩ := rv.get eb
  rw [hv'] at k1
  cases k1
  cases (show v = Value.bool bs[i] from k2)
  have : bs.getD i false = bs[i] := by simp [hi]
  have hQ : Q' (bs.getD i false) s' := hQ
  rw [this] at hQ
  exact wpAny_truthy_bool hQ
 ·refine ⟨.bl _, H, I.kept (t' := tk) (fun b o e => kk b o (by simpa using Nat.ne_of_lt (Heap.lt_size e)) (Heap.get?_push_of_some _ e)), rfl, ?_⟩
  have e : (List.range its.toArray.size).all (fun i => bs.getD i false) = bs.all id := by
   rw [List.size_toArray, <- hlen]
   clear q hlen hz pl rv hq
   induction bs with
   | nil => rfl
   | cons b bs ih => rw [List.length_cons, List.range_succ_eq_map, List.all_cons, List.all_map, List.all_cons, <- ih]; rfl
  rw [e]
  exact q
noncomputable def bools : List D -> Option (List Bool)
 | [] => some []
 | .bl b :: ds => (bools ds).map (b :: ·)
 | _ => none
theorem bools_rep {K : PySem.W.Frag} {G : Hp} : ∀ {ds : List D} {bs : List Bool} {vs : List V}, bools ds = some bs -> RepL K G ds vs -> vs = bs.map V.bl
 | [], bs, vs, e, r => by
  cases e
  simp only [RepL] at r
  exact r
 | .bl b :: ds, bs, vs, e, r => by
  simp only [bools] at e
  obtain ⟨cs, e1, rfl⟩ := omE e
  simp only [RepL, Rep] at r
  obtain ⟨v, us, rfl, rfl, r2⟩ := r
  rw [bools_rep e1 r2]
  rfl
 | .non :: ds, bs, vs, e, r => nomatch e
 | .int _ :: ds, bs, vs, e, r => nomatch e
 | .str _ :: ds, bs, vs, e, r => nomatch e
 | .tup _ :: ds, bs, vs, e, r => nomatch e
 | .lst _ :: ds, bs, vs, e, r => nomatch e
 | .dic _ _ :: ds, bs, vs, e, r => nomatch e
noncomputable def allD : List D -> Option D
 | [.lst ds] => (bools ds).map fun bs => .bl (bs.all id)
 | _ => none
theorem cd_all (hc : X.calm = true) : CallD X (.builtin "all") allD := by
 refine ⟨_, call_allL hc, fun G H ds vs d Q sG r e k => ?_⟩
 unfold allD at e
 split at e
 ·obtain ⟨bs, e1, rfl⟩ := omE e
  obtain ⟨v, rfl, r1⟩ := repLB_one r
  obtain ⟨a, us, rfl, q, rl⟩ := r1.lst sG
  obtain rfl := bools_rep e1 rl
  exact ⟨a, bs, rfl, q, k _ G H (Grow.refl sG) (by simp [Rep])⟩
 ·cases e
noncomputable def tyD : D -> String | .non => "NoneType" | .bl _ => "bool" | .int _ => "int" | .str _ => "str" | .tup _ => "tuple" | .lst _ => "list" | .dic _ _ => "dict"
theorem isinst_D {pins : List (Addr × Obj)} {σ : St} {G H : Hp} {s : Shared} {A : Around} {E : Value -> Shared -> Prop} {Q : Value -> Shared -> Prop} {c : Value} {b : Bool} {d : D} {x : V} {u : Value} (I : Inv X pins σ H s) (sG : Same G H) (r : Rep X.K G d x) (rx : RelV x u)
  (e : PySem.W.kitOne X.K (.type (tyD d)) c = some b) (h : ∀ tk, Q (.bool b) { s with toks := tk }) : wpAny (model X.prog X.w) A (call (.builtin "isinstance") [u, c]) Q E s := by
 cases d with
 | non => simp only [Rep] at r; subst r; exact isinst_ok I rx .non e h
 | bl y => simp only [Rep] at r; subst r; exact isinst_ok I rx (.bl _) e h
 | int i => simp only [Rep] at r; subst r; exact isinst_ok I rx (.int _) e h
 | str y => simp only [Rep] at r; subst r; exact isinst_ok I rx (.str _) e h
 | tup ds =>
  simp only [Rep] at r
  obtain ⟨a, vs, rfl, q, rl⟩ := r
  cases (show u = Value.ref a from rx)
  obtain ⟨its, _, ⟨o, h1, h2, _⟩, _⟩ := I.tuple (sG.sqT q)
  exact PySem.W.kia_one PySem.W.kitx_tuple I.kIn ⟨o, h1, h2⟩ e (fun z => nomatch z) h
 | lst ds =>
  simp only [Rep] at r
  obtain ⟨a, vs, rfl, q, rl⟩ := r
  cases (show u = Value.ref a from rx)
  obtain ⟨its, _, p, _⟩ := I.list (sG.sqL q)
  obtain ⟨o, h1, h2, _⟩ := p.isList
  exact PySem.W.kia_one PySem.W.kitx_list I.kIn ⟨o, h1, h2⟩ e (fun z => nomatch z) h
 | dic ks ds =>
  simp only [Rep] at r
  obtain ⟨a, vs, rfl, q, hl, nd, rl⟩ := r
  cases (show u = Value.ref a from rx)
  obtain ⟨_, _, us, _, dd⟩ := dk_rd I.hok (sG.rd q)
  obtain ⟨o, _, _, h1, h2, _⟩ := dd
  exact PySem.W.kia_one PySem.W.kitx_dict I.kIn ⟨o, h1, h2.1⟩ e (fun z => nomatch z) h
noncomputable def isTy (T : String) (d : D) : Bool := tyD d == T || (T == "int" && tyD d == "bool")
def IsTyOk (K : PySem.W.Frag) (T : String) : Prop := ∀ d : D, PySem.W.kitOne K (.type (tyD d)) (.type T) = some (isTy T d)
@[simp] noncomputable def fIs (T : String) (f : FE) : FE := fun δ => (f δ).map fun d => .bl (isTy T d)
theorem pd_is {e : Expr} {f : FE} {T : Str} {p pT pos : Pos} (T' : String) (hT : IsTyOk X.K T') (hm : X.mg "isinstance" = none) (hmT : X.mg T = none) (hv : bootBuiltins T = some (.type T')) (he : PB X e f) (hg : Gl X "isinstance" := by rfl) (hgT : Gl X T := by rfl) (hn : T ≠ "__name__" := by decide) (hd : (T == ("__debug__" : Str)) = false := by decide)
  (hs : starEach [e, .Name T pT] X.env = (false, eval e X.env) :: starEach [.Name T pT] X.env := by rfl) (hs2 : starEach [.Name T pT] X.env = (false, eval (.Name T pT) X.env) :: starEach [] X.env := by rfl) (hpl : (backTo pos (starEach [.Name T pT] X.env)).any (·.1) = false := by rfl)
  (hb : bootBuiltins "isinstance" = some (.builtin "isinstance") := by decide +kernel) :
  PD X (.Call (.Name "isinstance" p) [e, .Name T pT] [] pos) (fIs T' f) := by
 obtain ⟨t, pt, k1⟩ := he
 have hc : CallR X (.builtin "isinstance") (fun xs H Q => ∃ G d v, Same G H /\ Rep X.K G d v /\ xs = [v, .ty T'] /\ Q (.bl (isTy T' d)) H) := by
  intro pins s σ H xs us Q I r h
  obtain ⟨G, d, v, sG, rd, rfl, q⟩ := h
  obtain ⟨u, w', rfl, r1, r2⟩ := vals2 r
  cases (show w' = Value.type T' from r2)
  exact isinst_D I sG rd r1 (hT d) fun tk => ⟨.bl _, H, I.tok tk, rfl, q⟩
 refine ⟨_, pe_callB hc hg hm hb (pa_cons pt (pa_cons (pe_bltn (v := .ty T') hgT hmT hv rfl hn hd) pa_nil hs2) hs) (by decide) (by decide) hs hpl, fun B G H δ σ d Q sG rs ef k => ?_⟩
 unfold fIs at ef
 obtain ⟨x, e1, rfl⟩ := omE ef
 exact k1 B G H δ σ x _ sG rs e1 fun v G1 H1 g1 r1 => ⟨H1, x, v, Same.refl _, r1.all g1.s, rfl, k _ G1 H1 g1 (by simp [Rep])⟩
def tOf (K : PySem.W.Frag) (f : FE) : TE := fun σ H Q => ∃ B G δ d, Same G H /\ RepS K B G H δ σ /\ f δ = some d /\ ∀ v G' H', Grow G H G' H' -> Rep K G' d v -> Q v H'
theorem PD.canon {e : Expr} {f : FE} (h : PD X e f) : PE X e (tOf X.K f) := by
 obtain ⟨t, pt, k⟩ := h
 intro pins s σ H Q I ⟨B, G, δ, d, sG, rs, ef, q⟩
 exact pt pins s σ H Q I (k B G H δ σ d Q sG rs ef q)
theorem gives_tOf {K : PySem.W.Frag} {f : FE} : Gives K (tOf K f) f := fun B G H δ σ d Q sG rs e k => ⟨B, G, δ, d, sG, rs, e, k⟩
def ttOf (K : PySem.W.Frag) (f : En -> Option Bool) : TT := fun σ H Q => ∃ B G δ b, Same G H /\ RepS K B G H δ σ /\ f δ = some b /\ ∀ G' H', Grow G H G' H' -> Q b H'
theorem PIfsD.canon {ifs : List Expr} {f : En -> Option Bool} (h : PIfsD X ifs f) : PIfs X ifs (ttOf X.K f) := by
 obtain ⟨t, pt, k⟩ := h
 intro pins s σ H Q I ⟨B, G, δ, b, sG, rs, ef, q⟩
 exact pt pins s σ H Q I (k B G H δ σ b Q sG rs ef q)
theorem compOk0 {N : List Str} {nl : Nat} {scope : Scope} (hk : scope.kind = .function) (hn : ∀ y ∈ scope.names, y.2 ≠ .free /\ y.2 ≠ .cell) (hl : ∀ y ∈ scope.names, y.2 = .local -> scope.names.lookup y.1 = some .local) (hN : N.length = nl) : CompOk X N nl [] scope [] where
 clos := closureFor_none fun x hx => (hn x hx).1
 nocell := fun y hy => (hn y hy).2
 kind := hk
 names := hl
 cells := fun x c e => nomatch e
 has := fun x h => by
  exfalso
  have key : ∀ k, (relabel scope X.env).names.lookup x = some k -> k = .cell \/ k = .free -> False := fun k e hk => by
   have hm := PySem.mem_of_lookup e
   unfold relabel at hm
   obtain ⟨⟨n, k0⟩, h1, h2⟩ := List.mem_map.mp hm
   have hf := hn _ h1
   have hc : (k0 == NameKind.free && X.env.scope.kind == .function && X.env.kindOf n == some .cell) = false := by
    have : (k0 == NameKind.free) = false := by simpa using hf.1
    rw [this]; rfl
   dsimp only at h2
   rw [hc] at h2
   have e2 : k0 = k := congrArg Prod.snd h2
   subst e2
   rcases hk with z | z
   ·exact hf.2 z
   ·exact hf.1 z
  rcases h with h | h
  ·exact key _ h (.inl rfl)
  ·exact key _ h (.inr rfl)
 len := by simpa using hN
 free := fun k j x e => by simp at e
theorem pr_comp' {N : List Str} {nl i : Nat} {js : List Nat} {scope : Scope} {cl : List (Str × Addr)} {elt iter : Expr} {ifs : List Expr} {x : Str} {px pos : Pos} {it : En -> Option (List D)} {c : En -> Option Bool} {g : FE}
  (hc : X.calm = true) (ok : CompOk X N nl js scope cl) (hi : PID X (.Name x px) iter it) (hin : i < nl) (hNd : N.Nodup) (hix : N[i]? = some x) (hx : scope.names.lookup x = some .local)
  (hjs : js.Nodup) (ht : ∀ C s₀ H₀ ex, PIfsD (compCx X N scope cl C s₀ H₀ ex) ifs c) (he : ∀ C s₀ H₀ ex, PD (compCx X N scope cl C s₀ H₀ ex) elt g)
  (hs : ∀ x, foldedSetIterable iter X.env x = pure x := by intro _; rfl) :
  PR X (.ListComp elt [⟨.Name x px, iter, ifs, 0⟩] scope pos) (fComp nl js i it c g) :=
 pr_comp hc ok hi hin hNd hix hx hjs ⟨ttOf X.K c, fun C s₀ H₀ ex => (ht C s₀ H₀ ex).canon, fun B G H δ σ b Q sG rs e k => ⟨B, G, δ, b, sG, rs, e, k⟩⟩ ⟨tOf X.K g, fun C s₀ H₀ ex => (he C s₀ H₀ ex).canon, gives_tOf⟩ hs
end
section
variable {P : Program} {w : World} {K : PySem.W.Frag} {mg : Str -> Option Value} {base : Heap}
noncomputable def startD (N : List Str) (ds : List D) : En := ds.map (fun d => some (.sh d)) ++ List.replicate (N.length - ds.length) none
theorem repS_start {N : List Str} {G H : Hp} {ds : List D} {vs : List V} (r : RepL K G ds vs) : RepS K H G H (startD N ds) (start N vs) := by
 have hl := r.length
 refine ⟨by simp [startD, start, hl], fun i x e => ?_, fun i j x y _ _ _ e => ?_⟩
 ·unfold startD at e
  unfold start
  by_cases hi : i < ds.length
  ·rw [List.getElem?_append_left (by simpa using hi), List.getElem?_map] at e
   obtain ⟨d, e1, e2⟩ := omE e
   cases e2
   obtain ⟨v, h1, h2⟩ := r.get e1
   exact ⟨v, by rw [List.getElem?_append_left (by simp; omega), List.getElem?_map, h1]; rfl, h2⟩
  ·rw [List.getElem?_append_right (by simpa using hi), List.getElem?_replicate] at e
   split at e <;> cases e
 ·exfalso
  unfold startD at e
  by_cases hi : i < ds.length
  ·rw [List.getElem?_append_left (by simpa using hi), List.getElem?_map] at e
   obtain ⟨d, e1, e2⟩ := omE e
   cases e2
  ·rw [List.getElem?_append_right (by simpa using hi), List.getElem?_replicate] at e
   split at e <;> cases e
noncomputable def runF (N : List Str) (n : Nat) (fb : FS) : List D -> Option Rs := fun ds => if ds.length = n then (match fb (startD N ds) with | some (.rt d _) => some d | some (.nx _) => some (.sh .non) | _ => none) else none
def DefAt (K : PySem.W.Frag) (mg : Str -> Option Value) (x : Str) (st : Stmt) : Prop := ∃ f fd, Fun K x x st f fd /\ mg x = some (.ref f)
theorem defAt_mk {h : Heap} {x : Str} {st : Stmt} {f : Addr} {oc : Value} {od an : Option Addr} {osl : Array (Option Value)} {kV doc pm cdv ct : Value} (X : K.In h) (G : h.Ns mainGlobals mg) (a : PySem.W.nsIn K mainGlobals x = some (some (.ref f)))
  (l : K.lookup f = some ⟨oc, od, .func (PySem.W.fnOf x x (defArgs st) (defBody st) (defScope st) .none kV doc pm an cdv ct), osl⟩) (c : PySem.W.codeIn K cdv x = true) (k : PySem.W.keepIn K (.ref f) = true) : DefAt K mg x st :=
 ⟨f, _, fun_mk l c k, PySem.W.mg_of X G a⟩
def GlobAt (K : PySem.W.Frag) (mg : Str -> Option Value) (x : Str) (d : D) : Prop := ∃ v u, mg x = some u /\ RelV v u /\ ∀ G, Rep K G d v
theorem GlobAt.pd {X : Cx} {x : Str} {d : D} {pos : Pos} (h : GlobAt X.K X.mg x d) (hg : Gl X x := by rfl) (hd : (x == ("__debug__" : Str)) = false := by decide) : PD X (.Name x pos) (fC d) := by
 obtain ⟨v, u, hm, r, rep⟩ := h
 exact pd_glob hg hm r rep hd
noncomputable abbrev cxD (P : Program) (w : World) (K : PySem.W.Frag) (mg : Str -> Option Value) (base : Heap) (N : List Str) (x : Str) (scope : Scope) (f : Addr) (cdv : Value) (A : Around) (outer : List Env) (s : Shared) (H : Hp) (E : XK) : Cx :=
 (cxOf CX0 P w K mg base N x scope f cdv A outer s H E).nox
theorem def_runF {x : Str} {st : Stmt} {N ps : List Str} {k : Nat} {fb : FS} {f : Addr} {fd : FuncData} (F : Fun K x x st f fd) (S : FnScope N ps (defScope st))
  (hbody : ∀ (f : Addr) (cdv : Value) (A : Around) (outer : List Env) (s : Shared) (H : Hp) (E : XK), Room k (A.deeper (envOfC x (defScope st) s.heap.objs.size f cdv)) -> PSsD (cxD P w K mg base N x (defScope st) f cdv A outer s H E) (defBody st) fb) :
  FnOk P w K mg base CX0 (k + 1) f fd ps (spD K (runF N ps.length fb)) := by
 refine F.ok S (fun vs H Q E h => ?_) (fun cdv A outer s H vs Q E hr h => ?_)
 ·obtain ⟨G, ds, d, sG, r, e, _⟩ := h
  rw [<- r.length]
  unfold runF at e
  split at e
  ·rename_i hl; exact hl
  ·cases e
 ·obtain ⟨G, ds, d, sG, r, e, q⟩ := h
  obtain ⟨t, pt, kt⟩ := hbody f cdv A outer s H E hr
  refine ⟨t, pt, ?_⟩
  have gr : ∀ {G' H' : Hp}, Stp H G G' H' -> Grow G H G' H' := fun a => ⟨a.g, a.b, a.s, a.n⟩
  unfold runF at e
  split at e
  ·split at e
   ·rename_i eb
    cases e
    refine kt H G H _ _ _ _ sG (Same.refl _) (repS_start r) eb ?_
    cases d with
    | sh d => exact fun v _ G' H' a _ rv => q v G' H' (gr a) rv
    | fr m => exact fun p vs _ G' H' a _ => q p vs G' H' (gr a)
   ·rename_i eb
    cases e
    exact kt H G H _ _ _ _ sG (Same.refl _) (repS_start r) eb fun σ' G' H' a rv => q _ G' H' (gr a) (by simp [Rep])
   ·cases e
  ·cases e
theorem def_run {x : Str} {st : Stmt} {N ps : List Str} {k : Nat} {fb : FS} (F : DefAt K mg x st) (S : FnScope N ps (defScope st))
  (hb : ∀ (kV doc pm : Value) (an : Option Addr) (cdv ct : Value) (us : List Value), us.length = ps.length -> bindArgs (PySem.W.fnOf x x (defArgs st) (defBody st) (defScope st) .none kV doc pm an cdv ct) ⟨us, []⟩ = pure (ps.zip us))
  (hbody : ∀ (f : Addr) (cdv : Value) (A : Around) (outer : List Env) (s : Shared) (H : Hp) (E : XK), Room k (A.deeper (envOfC x (defScope st) s.heap.objs.size f cdv)) -> PSsD (cxD P w K mg base N x (defScope st) f cdv A outer s H E) (defBody st) fb) :
  DefOk P w K mg base (k + 1) x ps (runF N ps.length fb) := by
 obtain ⟨f, fd, F, hm⟩ := F
 exact ⟨f, fd, def_runF F S hbody, F.binds hb, F.kp, hm⟩
theorem law_at {l : PySem.W.OpenLaw} {w : World} {K : PySem.W.Frag} {mg : Str -> Option Value} {fa : Addr} {st : Stmt} {k : Nat} {x : Str} {M : List D -> Option Rs} (hfa : mg "law" = some (.ref fa)) (F : DefAt K mg "law" st)
  (hb : ∀ (kV doc pm : Value) (an : Option Addr) (cdv ct : Value) (u : Value), bindArgs (PySem.W.fnOf "law" "law" (defArgs st) (defBody st) (defScope st) .none kV doc pm an cdv ct) ⟨[u], []⟩ = pure [(x, u)])
  (ok : ∀ (f : Addr) (fd : FuncData) (base : Heap), Fun K "law" "law" st f fd -> FnOk l.prog w K mg base CX0 k f fd [x] (spD K M)) :
  ∃ fd : FuncData, (∀ (s : Shared) (v : Value), BindsTo s fd ⟨[v], []⟩ [(x, v)]) /\ ∀ base : Heap, K.In base -> base.Ns mainGlobals mg -> FnOk l.prog w K mg base CX0 k fa fd [x] (spD K M) := by
 obtain ⟨f, fd, F, hm⟩ := F
 rw [hfa] at hm
 cases hm
 refine ⟨fd, fun s v => ?_, fun base _ _ => ok _ _ base F⟩
 obtain ⟨oc, od, kV, doc, pm, an, cdv, ct, osl, rfl, lk, hcd⟩ := F.ex
 exact .of_eq (hb kV doc pm an cdv ct v)
theorem repL_ints {K : PySem.W.Frag} {H : Hp} : ∀ (ns : List Int), RepL K H (ns.map D.int) (ns.map V.int)
 | [] => by simp [RepL]
 | n :: ns => by
  simp only [List.map_cons, RepL]
  exact ⟨_, _, rfl, by simp [Rep], repL_ints ns⟩
theorem law_sp {K : PySem.W.Frag} {H : Hp} {a : Addr} {ns : List Int} {M : List D -> Option Rs} (h : SqL K H a (ns.map V.int)) (e : M [.lst (ns.map D.int)] = some (.sh (.bl true))) : spD K M [.ref a] H (fun v _ => v = .bl true) fun _ _ _ => False := by
 refine ⟨H, [.lst (ns.map D.int)], .sh (.bl true), Same.refl _, ?_, e, fun v G' H' g r => by simpa only [Rep] using r⟩
 simp only [RepL, Rep]
 exact ⟨_, _, rfl, ⟨a, _, rfl, h, repL_ints ns⟩, rfl⟩
theorem globAt_int {h : Heap} {x : Str} {i : Int} {t : Tok} (X : K.In h) (G : h.Ns mainGlobals mg) (a : PySem.W.nsIn K mainGlobals x = some (some (.int i t))) : GlobAt K mg x (.int i) :=
 ⟨.int i, _, PySem.W.mg_of X G a, ⟨t, rfl⟩, fun _ => by simp [Rep]⟩
theorem repL_strs {K : PySem.W.Frag} {H : Hp} : ∀ (ns : List Str), RepL K H (ns.map D.str) (ns.map V.str)
 | [] => by simp [RepL]
 | n :: ns => by
  simp only [List.map_cons, RepL]
  exact ⟨_, _, rfl, by simp [Rep], repL_strs ns⟩
theorem tyOk_bool {K : PySem.W.Frag} : IsTyOk K "bool" := fun d => by cases d <;> rfl
theorem tyOk_str {K : PySem.W.Frag} : IsTyOk K "str" := fun d => by cases d <;> rfl
theorem tyOk_tuple {K : PySem.W.Frag} : IsTyOk K "tuple" := fun d => by cases d <;> rfl
theorem tyOk_dict {K : PySem.W.Frag} : IsTyOk K "dict" := fun d => by cases d <;> rfl
theorem tyOk_list {K : PySem.W.Frag} : IsTyOk K "list" := fun d => by cases d <;> rfl
end
section
variable {X : Cx}
noncomputable def leD (x y : D) : Option D := (iCmp (fun i j => decide (i <= j)) x y).or (sLe x y)
theorem od_leD : OpD X (compareOp .LtE) leD := od_le.or od_sle
noncomputable def gtD : D -> D -> Option D := iCmp fun i j => decide (j < i)
noncomputable def mulD : D -> D -> Option D := iMul
theorem od_mul : OpD X (binaryOp .Mult) mulD := od_imul
theorem pi_any {tg l : Expr} {tl : TE} (hl : PE X l tl) : PI X tg l (fun σ H R => tl σ H fun x H1 => (∃ a, x = .ref a /\ (∃ xs, SqL X.K H1 a xs) /\ R (Itl X.K a) H1) \/ (∃ a, x = .ref a /\ (∃ xs, SqT X.K H1 a xs) /\ R (Itt X.K a) H1) \/ (∃ z, x = .str z /\ R (Its z) H1)) := by
 intro pins s σ H R I h
 -- the value first, then the walk by its kind
 refine thn (hl pins s σ H _ I h) fun v s1 ⟨x, H1, I1, r1, q1⟩ => ?_
 have lift : ∀ {wi : (It -> Hp -> Prop) -> Prop}, True := fun {_} => trivial
 rcases q1 with ⟨a, e, ⟨xs, hq⟩, q⟩ | ⟨a, e, ⟨xs, hq⟩, q⟩ | ⟨z, e, q⟩
 ·subst e
  cases r1
  obtain ⟨its, rv, p, hz⟩ := I1.list hq
  refine wpAny_pyIter_list p.isList ?_
  refine ⟨s1.heap.objs.size, [s1.heap.objs.size], _, _, H1, rfl, I1.kept (t' := s1.toks) fun b o e => Heap.get?_push_of_some _ e, turn_list a _, ⟨_, Heap.get?_push_size _ rfl, rfl, rfl⟩, fun b hb => ?_, q⟩
  have e : b = s1.heap.objs.size := by simpa using hb
  subst e
  exact I1.fpOk (Nat.le_refl _) (I1.hok.fresh (Nat.le_refl _))
 ·subst e
  cases r1
  obtain ⟨its, rv, p, hz⟩ := I1.tuple hq
  refine wpAny_pyIter_tuple (show s1.heap.IsTuple a its.toArray from p) ?_
  refine ⟨s1.heap.objs.size, [s1.heap.objs.size], _, _, H1, rfl, I1.kept (t' := s1.toks) fun b o e => Heap.get?_push_of_some _ e, turn_tuple a _, ⟨_, Heap.get?_push_size _ rfl, rfl, rfl⟩, fun b hb => ?_, q⟩
  have e : b = s1.heap.objs.size := by simpa using hb
  subst e
  exact I1.fpOk (Nat.le_refl _) (I1.hok.fresh (Nat.le_refl _))
 ·subst e
  obtain ⟨t, rfl⟩ := r1
  have fin : ∀ (T : String) (o : Obj), Turn X.prog X.w X.K tg (Its z) [s1.heap.objs.size] s1.heap.objs.size (fun i h => h.IsStrIter s1.heap.objs.size T z t i) ->
    (s1.heap.push o).IsStrIter s1.heap.objs.size T z t 0 -> PIE X pins σ tg R (.ref s1.heap.objs.size) { s1 with heap := s1.heap.push o } := fun T o TT st => by
   refine ⟨s1.heap.objs.size, [s1.heap.objs.size], _, _, H1, rfl, I1.kept (t' := s1.toks) fun b o e => Heap.get?_push_of_some _ e, TT, st, fun b hb => ?_, q⟩
   have e : b = s1.heap.objs.size := by simpa using hb
   subst e
   exact I1.fpOk (Nat.le_refl _) (I1.hok.fresh (Nat.le_refl _))
  cases ha : z.cps.all (· < 128)
  ·exact wpAny_pyIter_wide ha (fin "str_iterator" _ (turn_str _ _ z t (fun A hA => Walks.strWide hA _ z t) fun A i s Q E st h => wpAny_pyIter_striter_wide st h) ⟨_, Heap.get?_push_size _ rfl, rfl, rfl⟩)
  ·exact wpAny_pyIter_ascii ha (fin "str_ascii_iterator" _ (turn_str _ _ z t (fun A hA => Walks.strAscii hA _ z t) fun A i s Q E st h => wpAny_pyIter_striter_ascii st h) ⟨_, Heap.get?_push_size _ rfl, rfl, rfl⟩)
@[simp] noncomputable def oSeq (f : FE) : En -> Option (List D) := fun δ => match f δ with | some (.lst ds) => some ds | some (.tup ds) => some ds | some (.str z) => some (signs z) | _ => none
theorem pid_seq {tg e : Expr} {f : FE} (he : PD X e f) : PID X tg e (oSeq f) := by
 obtain ⟨t, pt, k⟩ := he
 refine ⟨_, pi_any pt, fun B G H δ σ xs R sG rs e q => ?_⟩
 unfold oSeq at e
 split at e
 ·rename_i ds e1
  cases e
  refine k B G H δ σ _ _ sG rs e1 fun v G1 H1 g1 r1 => .inl ?_
  simp only [Rep] at r1
  obtain ⟨a, vs, rfl, hq, rl⟩ := r1
  refine ⟨a, rfl, ⟨vs, g1.s.sqL hq⟩, q _ G1 H1 g1 ⟨fun i d G' H' ed a1 b1 => ?_, fun G' H' a1 b1 => ⟨vs, (a1.trans b1).sqL hq, by rw [rl.length]; exact Nat.le_refl _⟩⟩⟩
  obtain ⟨x, ex, rx⟩ := rl.get ed
  refine ⟨⟨vs, x, (a1.trans b1).sqL hq, ex⟩, fun x' H2 y => ⟨y.1, ?_⟩⟩
  have := y.2 vs ((a1.trans b1).sqL hq)
  rw [ex] at this
  cases this
  exact rx.mono a1
 ·rename_i ds e1
  cases e
  refine k B G H δ σ _ _ sG rs e1 fun v G1 H1 g1 r1 => .inr (.inl ?_)
  simp only [Rep] at r1
  obtain ⟨a, vs, rfl, hq, rl⟩ := r1
  refine ⟨a, rfl, ⟨vs, g1.s.sqT hq⟩, q _ G1 H1 g1 ⟨fun i d G' H' ed a1 b1 => ?_, fun G' H' a1 b1 => ⟨vs, (a1.trans b1).sqT hq, by rw [rl.length]; exact Nat.le_refl _⟩⟩⟩
  obtain ⟨x, ex, rx⟩ := rl.get ed
  refine ⟨⟨vs, x, (a1.trans b1).sqT hq, ex⟩, fun x' H2 y => ⟨y.1, ?_⟩⟩
  have := y.2 vs ((a1.trans b1).sqT hq)
  rw [ex] at this
  cases this
  exact rx.mono a1
 ·rename_i z e1
  cases e
  refine k B G H δ σ _ _ sG rs e1 fun v G1 H1 g1 r1 => .inr (.inr ?_)
  simp only [Rep] at r1
  refine ⟨z, r1, q _ G1 H1 g1 ⟨fun i d G' H' ed a1 b1 => ?_, fun G' H' a1 b1 => ?_⟩⟩
  ·unfold signs at ed
   rw [List.getElem?_map] at ed
   obtain ⟨c, ec, rfl⟩ := omE ed
   have ec' : z.cps[i]? = some c := by simpa using ec
   refine ⟨?_, fun x' H2 y => ?_⟩
   ·show i < z.cps.size
    obtain ⟨hi, _⟩ := Array.getElem?_eq_some_iff.mp ec'
    exact hi
   ·obtain ⟨y1, c', ec2, rfl⟩ := y
    rw [ec'] at ec2
    cases ec2
    exact ⟨y1, by simp [Rep]⟩
  ·show (signs z).length = z.cps.size
   simp [signs]
 ·cases e
@[simp] noncomputable def f1 (o : D -> Option D) (f : FE) : FE := fun δ => (f δ).bind o
noncomputable def negD : D -> Option D | .int i => some (.int (-i)) | _ => none
theorem pd_neg {e : Expr} {f : FE} {pos : Pos} (he : PD X e f) : PD X (.UnaryOp .USub e pos) (f1 negD f) := by
 obtain ⟨t, pt, k1⟩ := he
 refine ⟨_, pe_un un_neg pt, fun B G H δ σ d Q sG rs ef k => ?_⟩
 unfold f1 at ef
 obtain ⟨x, e1, ef⟩ := obE ef
 unfold negD at ef
 split at ef
 ·cases ef
  exact k1 B G H δ σ _ _ sG rs e1 fun v G1 H1 g1 r1 => ⟨_, by simpa only [Rep] using r1, k _ G1 H1 g1 (by simp [Rep])⟩
 ·cases ef
end
mutual
noncomputable def eqA : D -> D -> Bool
 | .tup xs, y => match y with | .tup ys => eqAs xs ys | _ => false
 | .lst xs, y => match y with | .lst ys => eqAs xs ys | _ => false
 | .dic _ _, _ => false
 | .non, y => if flatD y = true then eqV .non (toV y) else false
 | .bl b, y => if flatD y = true then eqV (.bl b) (toV y) else false
 | .int i, y => if flatD y = true then eqV (.int i) (toV y) else false
 | .str x, y => if flatD y = true then eqV (.str x) (toV y) else false
noncomputable def eqAs : List D -> List D -> Bool
 | [], ys => ys.isEmpty
 | x :: xs, ys => match ys with | [] => false | y :: ys => eqA x y && eqAs xs ys
end
noncomputable def plainN : Nat -> D -> Bool
 | _, .dic _ _ => false
 | 0, .tup _ => false
 | 0, .lst _ => false
 | n + 1, .tup xs => xs.all (plainN n)
 | n + 1, .lst xs => xs.all (plainN n)
 | _, _ => true
theorem eqA_flat {x y : D} (hx : flatD x = true) (hy : flatD y = true) : eqA x y = eqV (toV x) (toV y) := by
 cases x with
 | tup _ => cases hx
 | lst _ => cases hx
 | dic _ _ => cases hx
 | _ => simp only [eqA, hy, if_true, toV]
theorem eqV_refl {v : V} (h : flatV v = true) : eqV v v = true := by
 cases v with
 | non => rfl
 | bl b => simp [eqV]
 | int b => simp [eqV]
 | str b => simp [eqV]
 | _ => cases h
theorem eqAs_ne : ∀ {xs ys : List D}, xs.length ≠ ys.length -> eqAs xs ys = false
 | [], [], h => absurd rfl h
 | [], _ :: _, _ => by simp [eqAs]
 | _ :: _, [], _ => by simp [eqAs]
 | x :: xs, y :: ys, h => by
  simp only [eqAs]
  rw [eqAs_ne (fun z => h (by simp [z])), Bool.and_false]
theorem eqAs_all : ∀ {xs ys : List D}, xs.length = ys.length -> eqAs xs ys = (List.range xs.length).all fun j => eqA (xs.getD j .non) (ys.getD j .non)
 | [], [], _ => by simp [eqAs]
 | x :: xs, y :: ys, h => by
  simp only [eqAs]
  rw [eqAs_all (show xs.length = ys.length by simpa using h), List.length_cons, List.range_succ_eq_map, List.all_cons, List.all_map]
  rfl
section
variable {X : Cx} {pins : List (Addr × Obj)} {σ : St} {H : Hp} {s : Shared}
theorem eqA_same (I : Inv X pins σ H s) : ∀ (n : Nat) {x y : D} {v : V}, plainN n x = true -> plainN n y = true -> Rep X.K H x v -> Rep X.K H y v -> eqA x y = true := by
 intro n
 have flatcase : ∀ {x y : D} {v : V}, flatD x = true -> Rep X.K H x v -> Rep X.K H y v -> eqA x y = true := fun {x y v} hx rx ry => by
  have h1 := rep_flat hx rx
  have hy : flatD y = true := by
   cases y with
   | tup ys => simp only [Rep] at ry; obtain ⟨a, us, e, _⟩ := ry; exact absurd (h1.1.symm.trans e) (by cases x with | tup _ => cases hx | lst _ => cases hx | dic _ _ => cases hx | _ => intro z; cases z)
   | lst ys => simp only [Rep] at ry; obtain ⟨a, us, e, _⟩ := ry; exact absurd (h1.1.symm.trans e) (by cases x with | tup _ => cases hx | lst _ => cases hx | dic _ _ => cases hx | _ => intro z; cases z)
   | dic ks ys => simp only [Rep] at ry; obtain ⟨a, us, e, _⟩ := ry; exact absurd (h1.1.symm.trans e) (by cases x with | tup _ => cases hx | lst _ => cases hx | dic _ _ => cases hx | _ => intro z; cases z)
   | _ => rfl
  have h2 := rep_flat hy ry
  rw [eqA_flat hx hy, <- h1.1, <- h2.1]
  exact eqV_refl h1.2
 induction n with
 | zero =>
  intro x y v px py rx ry
  cases x with
  | tup xs => cases px
  | lst xs => cases px
  | dic ks xs => cases px
  | _ => exact flatcase rfl rx ry
 | succ n ih =>
  intro x y v px py rx ry
  have lists : ∀ {xs ys : List D} {vs : List V}, xs.all (plainN n) = true -> ys.all (plainN n) = true -> RepL X.K H xs vs -> RepL X.K H ys vs -> eqAs xs ys = true := by
   intro xs
   induction xs with
   | nil =>
    intro ys vs _ _ r1 r2
    simp only [RepL] at r1
    subst r1
    cases ys with
    | nil => simp [eqAs]
    | cons y ys => simp only [RepL] at r2; obtain ⟨_, _, e, _⟩ := r2; cases e
   | cons x xs ih2 =>
    intro ys vs p1 p2 r1 r2
    simp only [RepL] at r1
    obtain ⟨v, us, rfl, q1, q2⟩ := r1
    cases ys with
    | nil => simp only [RepL] at r2; cases r2
    | cons y ys =>
     simp only [RepL] at r2
     obtain ⟨v2, us2, e, q3, q4⟩ := r2
     cases e
     rw [List.all_cons, Bool.and_eq_true] at p1 p2
     simp only [eqAs]
     rw [ih p1.1 p2.1 q1 q3, ih2 p1.2 p2.2 q2 q4]
     rfl
  cases x with
  | tup xs =>
   simp only [Rep] at rx
   obtain ⟨a, vs, rfl, h1, h2⟩ := rx
   cases y with
   | tup ys =>
    simp only [Rep] at ry
    obtain ⟨b, us, e, h3, h4⟩ := ry
    cases e
    obtain rfl := I.tuple_inj h1 h3
    simp only [eqA]
    exact lists px py h2 h4
   | lst ys =>
    simp only [Rep] at ry
    obtain ⟨b, us, e, h3, h4⟩ := ry
    cases e
    obtain ⟨_, _, p1, _⟩ := I.tuple h1
    obtain ⟨_, _, p2, _⟩ := I.list h3
    obtain ⟨o1, g1, c1, _⟩ := p1
    obtain ⟨o2, g2, c2, _⟩ := p2.isList
    rw [g1] at g2; cases g2; rw [c1] at c2; exact absurd (Value.type.inj c2) (by decide)
   | dic ks ys => cases py
   | _ => simp only [Rep] at ry; cases ry
  | lst xs =>
   simp only [Rep] at rx
   obtain ⟨a, vs, rfl, h1, h2⟩ := rx
   cases y with
   | lst ys =>
    simp only [Rep] at ry
    obtain ⟨b, us, e, h3, h4⟩ := ry
    cases e
    obtain rfl := I.list_inj h1 h3
    simp only [eqA]
    exact lists px py h2 h4
   | tup ys =>
    simp only [Rep] at ry
    obtain ⟨b, us, e, h3, h4⟩ := ry
    cases e
    obtain ⟨_, _, p1, _⟩ := I.tuple h3
    obtain ⟨_, _, p2, _⟩ := I.list h1
    obtain ⟨o1, g1, c1, _⟩ := p1
    obtain ⟨o2, g2, c2, _⟩ := p2.isList
    rw [g1] at g2; cases g2; rw [c1] at c2; exact absurd (Value.type.inj c2) (by decide)
   | dic ks ys => cases py
   | _ => simp only [Rep] at ry; cases ry
  | dic ks xs => cases px
  | _ => exact flatcase rfl rx ry
theorem in1_units (A : Around) : A.in1.units = A.units + 1 := rfl
theorem eqAt_A (I : Inv X pins σ H s) : ∀ (n : Nat) {x y : D} {v v' : V} {u u' : Value} {A : Around}, plainN n x = true -> plainN n y = true -> Rep X.K H x v -> Rep X.K H y v' -> RelV v u -> RelV v' u' -> A.units + n < cLine -> SeqAt.EqAt A s u u' (eqA x y) := by
 intro n
 -- a scalar and anything of no depth
 have ff : ∀ {x y : D} {v v' : V} {u u' : Value} {A : Around}, flatD x = true -> flatD y = true -> Rep X.K H x v -> Rep X.K H y v' -> RelV v u -> RelV v' u' -> SeqAt.EqAt A s u u' (eqA x y) := fun {x y v v' u u' A} hx hy rx ry r r' => by
  have h1 := rep_flat hx rx
  have h2 := rep_flat hy ry
  rw [eqA_flat hx hy, <- h1.1, <- h2.1]
  exact eqAt_V r r' h1.2 h2.2
 induction n with
 | zero =>
  intro x y v v' u u' A px py rx ry r r' hu
  refine ff ?_ ?_ rx ry r r'
  ·cases x <;> first | rfl | cases px
  ·cases y <;> first | rfl | cases py
 | succ n ih =>
  intro x y v v' u u' A px py rx ry r r' hu
  have hu' : A.units < cLine := by omega
  have items : ∀ {xs ys : List D} {vs us : List V} {its its2 : List Value}, xs.all (plainN n) = true -> ys.all (plainN n) = true -> RepL X.K H xs vs -> RepL X.K H ys us -> Vals vs its -> Vals us its2 ->
    ∀ j (h1 : j < its.toArray.size) (h2 : j < its2.toArray.size), SeqAt.EqAt A.in1 s its.toArray[j] its2.toArray[j] (eqA (xs.getD j .non) (ys.getD j .non)) := fun {xs ys vs us its its2} p1 p2 r1 r2 v1 v2 j h1 h2 => by
   have l1 := r1.length
   have l2 := r2.length
   have l3 := v1.length
   have l4 := v2.length
   have j1 : j < xs.length := by simp at h1; omega
   have j2 : j < ys.length := by simp at h2; omega
   have e1 : xs[j]? = some (xs.getD j .non) := by rw [List.getD_eq_getElem?_getD, List.getElem?_eq_getElem j1]; rfl
   have e2 : ys[j]? = some (ys.getD j .non) := by rw [List.getD_eq_getElem?_getD, List.getElem?_eq_getElem j2]; rfl
   obtain ⟨w1, g1, q1⟩ := r1.get e1
   obtain ⟨w2, g2, q2⟩ := r2.get e2
   obtain ⟨u1, k1, k2⟩ := v1.get g1
   obtain ⟨u2, k3, k4⟩ := v2.get g2
   have t1 : its.toArray[j] = u1 := by
    obtain ⟨_, z⟩ := List.getElem?_eq_some_iff.mp k1
    simpa using z
   have t2 : its2.toArray[j] = u2 := by
    obtain ⟨_, z⟩ := List.getElem?_eq_some_iff.mp k3
    simpa using z
   rw [t1, t2]
   exact ih (List.all_eq_true.mp p1 _ (List.mem_of_getElem? e1)) (List.all_eq_true.mp p2 _ (List.mem_of_getElem? e2)) q1 q2 k2 k4 (by rw [in1_units]; omega)
  have tups : ∀ {xs ys : List D}, plainN (n + 1) (.tup xs) = true -> plainN (n + 1) (.tup ys) = true -> Rep X.K H (.tup xs) v -> Rep X.K H (.tup ys) v' -> SeqAt.EqAt A s u u' (eqA (.tup xs) (.tup ys)) := fun {xs ys} px py rx ry => by
   have rx0 := rx
   have ry0 := ry
   simp only [Rep] at rx ry
   obtain ⟨a, vs, rfl, h1, h2⟩ := rx
   obtain ⟨b, us, rfl, h3, h4⟩ := ry
   cases r
   cases r'
   by_cases hab : a = b
   ·subst hab
    rw [eqA_same I (n + 1) px py rx0 ry0]
    exact SeqAt.EqAt.same _
   ·obtain ⟨its, v1, p1, _⟩ := I.tuple h1
    obtain ⟨its2, v2, p2, _⟩ := I.tuple h3
    have q := SeqAt.RcAt.tuples (e := fun j => eqA (xs.getD j .non) (ys.getD j .non)) p1 p2 hu' (items px py h2 h4 v1 v2)
    have e : ((List.range (min its.toArray.size its2.toArray.size)).all (fun j => eqA (xs.getD j .non) (ys.getD j .non)) && its.toArray.size == its2.toArray.size) = eqA (.tup xs) (.tup ys) := by
     have l1 := h2.length
     have l2 := h4.length
     have l3 := v1.length
     have l4 := v2.length
     simp only [eqA]
     by_cases hl : xs.length = ys.length
     ·rw [eqAs_all hl]
      have : min its.toArray.size its2.toArray.size = xs.length := by simp; omega
      rw [this]
      have : (its.toArray.size == its2.toArray.size) = true := by simp; omega
      rw [this, Bool.and_true]
     ·rw [eqAs_ne hl]
      have : (its.toArray.size == its2.toArray.size) = false := by simp; omega
      rw [this, Bool.and_false]
    rw [e] at q
    exact SeqAt.EqAt.of_refs hab q
  have lsts : ∀ {xs ys : List D}, plainN (n + 1) (.lst xs) = true -> plainN (n + 1) (.lst ys) = true -> Rep X.K H (.lst xs) v -> Rep X.K H (.lst ys) v' -> SeqAt.EqAt A s u u' (eqA (.lst xs) (.lst ys)) := fun {xs ys} px py rx ry => by
   have rx0 := rx
   have ry0 := ry
   simp only [Rep] at rx ry
   obtain ⟨a, vs, rfl, h1, h2⟩ := rx
   obtain ⟨b, us, rfl, h3, h4⟩ := ry
   cases r
   cases r'
   by_cases hab : a = b
   ·subst hab
    rw [eqA_same I (n + 1) px py rx0 ry0]
    exact SeqAt.EqAt.same _
   ·obtain ⟨its, v1, p1, _⟩ := I.list h1
    obtain ⟨its2, v2, p2, _⟩ := I.list h3
    have l1 := h2.length
    have l2 := h4.length
    have l3 := v1.length
    have l4 := v2.length
    simp only [eqA]
    by_cases hl : xs.length = ys.length
    ·have q := SeqAt.RcAt.lists (e := fun j => eqA (xs.getD j .non) (ys.getD j .non)) p1.isList p2.isList (by simp; omega) hu' (items px py h2 h4 v1 v2)
     rw [eqAs_all hl]
     have : its.toArray.size = xs.length := by simp; omega
     rw [this] at q
     exact SeqAt.EqAt.of_refs hab q
    ·rw [eqAs_ne hl]
     exact SeqAt.EqAt.of_refs hab (SeqAt.RcAt.lists_lengths p1.isList p2.isList (by simp; omega) hu')
  have tupAt : ∀ {xs : List D} {v : V} {u : Value}, Rep X.K H (.tup xs) v -> RelV v u -> ∃ a its, u = .ref a /\ s.heap.IsTuple a its := fun {xs v u} h r => by
   simp only [Rep] at h
   obtain ⟨a, vs, rfl, h1, h2⟩ := h
   cases r
   obtain ⟨its, _, p, _⟩ := I.tuple h1
   exact ⟨a, _, rfl, p⟩
  have lstAt : ∀ {xs : List D} {v : V} {u : Value}, Rep X.K H (.lst xs) v -> RelV v u -> ∃ a its, u = .ref a /\ s.heap.IsList a its := fun {xs v u} h r => by
   simp only [Rep] at h
   obtain ⟨a, vs, rfl, h1, h2⟩ := h
   cases r
   obtain ⟨its, _, p, _⟩ := I.list h1
   exact ⟨a, _, rfl, p.isList⟩
  cases x with
  | dic ks xs => cases px
  | tup xs =>
   cases y with
   | dic ks ys => cases py
   | tup ys => exact tups px py rx ry
   | lst ys =>
    obtain ⟨a, i1, rfl, t1⟩ := tupAt rx r
    obtain ⟨b, i2, rfl, t2⟩ := lstAt ry r'
    exact SeqAt.EqAt.tuple_list t1 t2 hu'
   | non => obtain ⟨a, i1, rfl, t1⟩ := tupAt rx r; simp only [Rep] at ry; subst ry; cases r'; exact SeqAt.EqAt.tuple_none t1 hu'
   | bl b => obtain ⟨a, i1, rfl, t1⟩ := tupAt rx r; simp only [Rep] at ry; subst ry; cases r'; exact SeqAt.EqAt.tuple_bool b t1 hu'
   | int b => obtain ⟨a, i1, rfl, t1⟩ := tupAt rx r; simp only [Rep] at ry; subst ry; obtain ⟨t, rfl⟩ := r'; exact SeqAt.EqAt.tuple_int b t t1 hu'
   | str b => obtain ⟨a, i1, rfl, t1⟩ := tupAt rx r; simp only [Rep] at ry; subst ry; obtain ⟨t, rfl⟩ := r'; exact SeqAt.EqAt.tuple_str b t t1 hu'
  | lst xs =>
   cases y with
   | dic ks ys => cases py
   | lst ys => exact lsts px py rx ry
   | tup ys =>
    obtain ⟨a, i1, rfl, t1⟩ := lstAt rx r
    obtain ⟨b, i2, rfl, t2⟩ := tupAt ry r'
    exact SeqAt.EqAt.list_tuple t1 t2 hu'
   | non => obtain ⟨a, i1, rfl, t1⟩ := lstAt rx r; simp only [Rep] at ry; subst ry; cases r'; exact SeqAt.EqAt.list_none t1 hu'
   | bl b => obtain ⟨a, i1, rfl, t1⟩ := lstAt rx r; simp only [Rep] at ry; subst ry; cases r'; exact SeqAt.EqAt.list_bool b t1 hu'
   | int b => obtain ⟨a, i1, rfl, t1⟩ := lstAt rx r; simp only [Rep] at ry; subst ry; obtain ⟨t, rfl⟩ := r'; exact SeqAt.EqAt.list_int b t t1 hu'
   | str b => obtain ⟨a, i1, rfl, t1⟩ := lstAt rx r; simp only [Rep] at ry; subst ry; obtain ⟨t, rfl⟩ := r'; exact SeqAt.EqAt.list_str b t t1 hu'
  | non =>
   cases y with
   | dic ks ys => cases py
   | tup ys => obtain ⟨a, i1, rfl, t1⟩ := tupAt ry r'; simp only [Rep] at rx; subst rx; cases r; exact SeqAt.EqAt.none_tuple t1 hu'
   | lst ys => obtain ⟨a, i1, rfl, t1⟩ := lstAt ry r'; simp only [Rep] at rx; subst rx; cases r; exact SeqAt.EqAt.none_list t1 hu'
   | _ => exact ff rfl rfl rx ry r r'
  | bl b =>
   cases y with
   | dic ks ys => cases py
   | tup ys => obtain ⟨a, i1, rfl, t1⟩ := tupAt ry r'; simp only [Rep] at rx; subst rx; cases r; exact SeqAt.EqAt.bool_tuple b t1 hu'
   | lst ys => obtain ⟨a, i1, rfl, t1⟩ := lstAt ry r'; simp only [Rep] at rx; subst rx; cases r; exact SeqAt.EqAt.bool_list b t1 hu'
   | _ => exact ff rfl rfl rx ry r r'
  | int b =>
   cases y with
   | dic ks ys => cases py
   | tup ys => obtain ⟨a, i1, rfl, t1⟩ := tupAt ry r'; simp only [Rep] at rx; subst rx; obtain ⟨t, rfl⟩ := r; exact SeqAt.EqAt.int_tuple b t t1 hu'
   | lst ys => obtain ⟨a, i1, rfl, t1⟩ := lstAt ry r'; simp only [Rep] at rx; subst rx; obtain ⟨t, rfl⟩ := r; exact SeqAt.EqAt.int_list b t t1 hu'
   | _ => exact ff rfl rfl rx ry r r'
  | str b =>
   cases y with
   | dic ks ys => cases py
   | tup ys => obtain ⟨a, i1, rfl, t1⟩ := tupAt ry r'; simp only [Rep] at rx; subst rx; obtain ⟨t, rfl⟩ := r; exact SeqAt.EqAt.str_tuple b t t1 hu'
   | lst ys => obtain ⟨a, i1, rfl, t1⟩ := lstAt ry r'; simp only [Rep] at rx; subst rx; obtain ⟨t, rfl⟩ := r; exact SeqAt.EqAt.str_list b t t1 hu'
   | _ => exact ff rfl rfl rx ry r r'
end
section
variable {X : Cx} {pins : List (Addr × Obj)} {σ : St} {H : Hp} {s : Shared}
theorem items_A (I : Inv X pins σ H s) (n : Nat) {A : Around} (hu : A.units + n < cLine) {xs ys : List D} {vs us : List V} {its its2 : List Value} (p1 : xs.all (plainN n) = true) (p2 : ys.all (plainN n) = true) (r1 : RepL X.K H xs vs) (r2 : RepL X.K H ys us) (v1 : Vals vs its) (v2 : Vals us its2) :
  ∀ j (h1 : j < its.toArray.size) (h2 : j < its2.toArray.size), SeqAt.EqAt A s its.toArray[j] its2.toArray[j] (eqA (xs.getD j .non) (ys.getD j .non)) := fun j h1 h2 => by
 have l1 := r1.length
 have l2 := r2.length
 have l3 := v1.length
 have l4 := v2.length
 have j1 : j < xs.length := by simp at h1; omega
 have j2 : j < ys.length := by simp at h2; omega
 have e1 : xs[j]? = some (xs.getD j .non) := by rw [List.getD_eq_getElem?_getD, List.getElem?_eq_getElem j1]; rfl
 have e2 : ys[j]? = some (ys.getD j .non) := by rw [List.getD_eq_getElem?_getD, List.getElem?_eq_getElem j2]; rfl
 obtain ⟨w1, g1, q1⟩ := r1.get e1
 obtain ⟨w2, g2, q2⟩ := r2.get e2
 obtain ⟨u1, k1, k2⟩ := v1.get g1
 obtain ⟨u2, k3, k4⟩ := v2.get g2
 have t1 : its.toArray[j] = u1 := by
  obtain ⟨_, z⟩ := List.getElem?_eq_some_iff.mp k1
  simpa using z
 have t2 : its2.toArray[j] = u2 := by
  obtain ⟨_, z⟩ := List.getElem?_eq_some_iff.mp k3
  simpa using z
 rw [t1, t2]
 exact eqAt_A I n (List.all_eq_true.mp p1 _ (List.mem_of_getElem? e1)) (List.all_eq_true.mp p2 _ (List.mem_of_getElem? e2)) q1 q2 k2 k4 hu
theorem tups_eq {xs ys : List D} {its its2 : List Value} (l1 : xs.length = its.length) (l2 : ys.length = its2.length) :
  ((List.range (min its.toArray.size its2.toArray.size)).all (fun j => eqA (xs.getD j .non) (ys.getD j .non)) && its.toArray.size == its2.toArray.size) = eqAs xs ys := by
 by_cases hl : xs.length = ys.length
 ·rw [eqAs_all hl]
  have : min its.toArray.size its2.toArray.size = xs.length := by simp; omega
  rw [this]
  have : (its.toArray.size == its2.toArray.size) = true := by simp; omega
  rw [this, Bool.and_true]
 ·rw [eqAs_ne hl]
  have : (its.toArray.size == its2.toArray.size) = false := by simp; omega
  rw [this, Bool.and_false]
end
section
variable {X : Cx}
def rEqT (K : PySem.W.Frag) (neg : Bool) : R2 := fun v u H Q => ∃ xs ys, Rep K H (.tup xs) v /\ Rep K H (.tup ys) u /\ xs.all (plainN 8) = true /\ ys.all (plainN 8) = true /\ Q (.bl (if neg then !eqAs xs ys else eqAs xs ys)) H
def rEqLs (K : PySem.W.Frag) (neg : Bool) : R2 := fun v u H Q => ∃ xs ys, Rep K H (.lst xs) v /\ Rep K H (.lst ys) u /\ xs.all (plainN 8) = true /\ ys.all (plainN 8) = true /\ Q (.bl (if neg then !eqAs xs ys else eqAs xs ys)) H
theorem op_eqT (hu : X.A.units + 20 < cLine) : OpR X (compareOp .Eq) (rEqT X.K false) := by
 intro pins s σ H x y v u Q I rx ry h
 obtain ⟨xs, ys, r1, r2, p1, p2, q⟩ := h
 simp only [Rep] at r1 r2
 obtain ⟨a, vs, rfl, h1, h2⟩ := r1
 obtain ⟨b, us, rfl, h3, h4⟩ := r2
 cases rx
 cases ry
 obtain ⟨its, v1, t1, _⟩ := I.tuple h1
 obtain ⟨its2, v2, t2, _⟩ := I.tuple h3
 refine SeqAt.eq_tupleAt (e := fun j => eqA (xs.getD j .non) (ys.getD j .non)) t1 t2 (by omega) (items_A I 8 (by rw [in1_units]; omega) p1 p2 h2 h4 v1 v2) ?_
 rw [tups_eq (h2.length.trans v1.length) (h4.length.trans v2.length)]
 exact ⟨.bl _, H, I, rfl, q⟩
theorem op_neT (hu : X.A.units + 20 < cLine) : OpR X (compareOp .NotEq) (rEqT X.K true) := by
 intro pins s σ H x y v u Q I rx ry h
 obtain ⟨xs, ys, r1, r2, p1, p2, q⟩ := h
 simp only [Rep] at r1 r2
 obtain ⟨a, vs, rfl, h1, h2⟩ := r1
 obtain ⟨b, us, rfl, h3, h4⟩ := r2
 cases rx
 cases ry
 obtain ⟨its, v1, t1, _⟩ := I.tuple h1
 obtain ⟨its2, v2, t2, _⟩ := I.tuple h3
 refine SeqAt.RcNeAt.tuples (e := fun j => eqA (xs.getD j .non) (ys.getD j .non)) t1 t2 (by omega) (items_A I 8 (by rw [in1_units]; omega) p1 p2 h2 h4 v1 v2) _ _ _ _ ?_
 rw [tups_eq (h2.length.trans v1.length) (h4.length.trans v2.length)]
 exact ⟨.bl _, H, I, rfl, q⟩
theorem op_eqLs' (hu : X.A.units + 20 < cLine) : OpR X (compareOp .Eq) (rEqLs X.K false) := by
 intro pins s σ H x y v u Q I rx ry h
 obtain ⟨xs, ys, r1, r2, p1, p2, q⟩ := h
 simp only [Rep] at r1 r2
 obtain ⟨a, vs, rfl, h1, h2⟩ := r1
 obtain ⟨b, us, rfl, h3, h4⟩ := r2
 cases rx
 cases ry
 obtain ⟨its, v1, t1, _⟩ := I.list h1
 obtain ⟨its2, v2, t2, _⟩ := I.list h3
 have l1 := h2.length.trans v1.length
 have l2 := h4.length.trans v2.length
 by_cases hl : xs.length = ys.length
 ·refine SeqAt.eq_listAt (e := fun j => eqA (xs.getD j .non) (ys.getD j .non)) t1.isList t2.isList (by simp; omega) (by omega) (items_A I 8 (by rw [in1_units]; omega) p1 p2 h2 h4 v1 v2) ?_
  have e := eqAs_all hl
  have : its.toArray.size = xs.length := by simp; omega
  rw [this, <- e]
  exact ⟨.bl _, H, I, rfl, q⟩
 ·refine SeqAt.eq_list_lengthsAt t1.isList t2.isList (by simp; omega) (by omega) ⟨.bl _, H, I, rfl, ?_⟩
  rw [eqAs_ne hl] at q
  exact q
theorem op_neLs' (hu : X.A.units + 20 < cLine) : OpR X (compareOp .NotEq) (rEqLs X.K true) := by
 intro pins s σ H x y v u Q I rx ry h
 obtain ⟨xs, ys, r1, r2, p1, p2, q⟩ := h
 simp only [Rep] at r1 r2
 obtain ⟨a, vs, rfl, h1, h2⟩ := r1
 obtain ⟨b, us, rfl, h3, h4⟩ := r2
 cases rx
 cases ry
 obtain ⟨its, v1, t1, _⟩ := I.list h1
 obtain ⟨its2, v2, t2, _⟩ := I.list h3
 have l1 := h2.length.trans v1.length
 have l2 := h4.length.trans v2.length
 by_cases hl : xs.length = ys.length
 ·refine SeqAt.RcNeAt.lists (e := fun j => eqA (xs.getD j .non) (ys.getD j .non)) t1.isList t2.isList (by simp; omega) (by omega) (items_A I 8 (by rw [in1_units]; omega) p1 p2 h2 h4 v1 v2) _ _ _ _ ?_
  have e := eqAs_all hl
  have : its.toArray.size = xs.length := by simp; omega
  rw [this, <- e]
  exact ⟨.bl _, H, I, rfl, q⟩
 ·refine SeqAt.RcNeAt.lists_lengths t1.isList t2.isList (by simp; omega) (by omega) _ _ _ _ ⟨.bl _, H, I, rfl, ?_⟩
  rw [eqAs_ne hl] at q
  exact q
noncomputable def eqSeq (neg : Bool) : D -> D -> Option D
 | .tup xs, .tup ys => if xs.all (plainN 8) = true /\ ys.all (plainN 8) = true then some (.bl (if neg then !eqAs xs ys else eqAs xs ys)) else none
 | .lst xs, .lst ys => if xs.all (plainN 8) = true /\ ys.all (plainN 8) = true then some (.bl (if neg then !eqAs xs ys else eqAs xs ys)) else none
 | _, _ => none
theorem od_eqSeq {f : Value -> Value -> Sem Value} {neg : Bool} (h1 : OpR X f (rEqT X.K neg)) (h2 : OpR X f (rEqLs X.K neg)) : OpD X f (eqSeq neg) := by
 refine ⟨_, h1.or h2, fun G H x y v u d Q sG rx ry e k => ?_⟩
 unfold eqSeq at e
 split at e
 ·split at e
  ·rename_i hc
   cases e
   exact .inl ⟨_, _, rx.all sG, ry.all sG, hc.1, hc.2, k _ G H (Grow.refl sG) (by simp [Rep])⟩
  ·cases e
 ·split at e
  ·rename_i hc
   cases e
   exact .inr ⟨_, _, rx.all sG, ry.all sG, hc.1, hc.2, k _ G H (Grow.refl sG) (by simp [Rep])⟩
  ·cases e
 ·cases e
noncomputable def eqDic (ks : List Key) (xs : List D) (ls : List Key) (ys : List D) : Bool := xs.length == ys.length && (ks.zip xs).all fun kv => match valD ls ys kv.1 with | some y => eqA kv.2 y | none => false
theorem hits_D {pins : List (Addr × Obj)} {σ : St} {H : Hp} {s : Shared} (I : Inv X pins σ H s) {A : Around} (hu : A.units + 8 < cLine) {ls : List Key} {ys : List D} {ws : List V} {kb : List (Key × Value)} (hl : ls.length = ys.length) (r2 : RepL X.K H ys ws) (p2 : ys.all (plainN 8) = true) (vb : KV (ls.zip ws) kb) :
  ∀ {ks : List Key} {xs : List D} {vs : List V} {ka : List (Key × Value)}, ks.length = xs.length -> RepL X.K H xs vs -> xs.all (plainN 8) = true -> KV (ks.zip vs) ka ->
   PySem.W.KeqHits A s kb ka ((ks.zip xs).all fun kv => match valD ls ys kv.1 with | some y => eqA kv.2 y | none => false) := by
 intro ks
 induction ks with
 | nil =>
  intro xs vs ka _ _ _ va
  simp only [List.zip_nil_left] at va
  cases va
  exact .nil
 | cons k ks ih =>
  intro xs vs ka hl' r1 p1 va
  cases xs with
  | nil => cases hl'
  | cons x xs =>
   simp only [RepL] at r1
   obtain ⟨v, us, rfl, q1, q2⟩ := r1
   rw [List.all_cons, Bool.and_eq_true] at p1
   simp only [List.zip_cons_cons] at va
   cases va with
   | @cons p q l1 l2 hp ht =>
    obtain ⟨k', u⟩ := q
    obtain ⟨e1, ru⟩ := hp
    have e1 : k = k' := e1
    subst e1
    have ru : RelV v u := ru
    rw [List.zip_cons_cons, List.all_cons]
    dsimp only
    have hv := valD_rep k hl r2
    have hw := vb.val k
    cases ev : valD ls ys k with
    | none =>
     rw [hv.2 ev] at hw
     exact .miss hw.none_of
    | some y =>
     obtain ⟨w', e3, r3⟩ := hv.1 y ev
     rw [e3] at hw
     obtain ⟨u', e4, r4⟩ := hw.some_of
     have py : plainN 8 y = true := by
      refine List.all_eq_true.mp p2 y ?_
      unfold valD at ev
      obtain ⟨kv, hkv, rfl⟩ := omE ev
      exact (List.of_mem_zip (List.mem_of_find?_eq_some hkv)).2
     exact .hit e4 (eqAt_A I 8 p1.1 py q1 r3 ru r4 hu) (ih (by simpa using hl') q2 p1.2 ht)
def rEqDc (K : PySem.W.Frag) (neg : Bool) : R2 := fun v u H Q => ∃ ks xs ls ys, Rep K H (.dic ks xs) v /\ Rep K H (.dic ls ys) u /\ xs.all (plainN 8) = true /\ ys.all (plainN 8) = true /\ Q (.bl (if neg then !eqDic ks xs ls ys else eqDic ks xs ls ys)) H
theorem dic_at {pins : List (Addr × Obj)} {σ : St} {H : Hp} {s : Shared} (I : Inv X pins σ H s) {ks : List Key} {xs : List D} {v : V} (h : Rep X.K H (.dic ks xs) v) : ∃ a vs ka, v = .ref a /\ (a == sysModules) = false /\ s.heap.DictOf (mixKind X.prog X.w) a ka /\ KV (ks.zip vs) ka /\ ks.length = xs.length /\ RepL X.K H xs vs /\ ka.length = xs.length := by
 simp only [Rep] at h
 obtain ⟨a, vs, rfl, h1, h2, h3, h4⟩ := h
 obtain ⟨_, h5, ka, h6, h7⟩ := dk_rd I.hok h1
 refine ⟨a, vs, ka, rfl, h5, h7, h6, h2, h4, ?_⟩
 have := h6.length
 rw [List.length_zip] at this
 have := h4.length
 omega
theorem op_eqDc (hu : X.A.units + 20 < cLine) : OpR X (compareOp .Eq) (rEqDc X.K false) := by
 intro pins s σ H x y v u Q I rx ry h
 obtain ⟨ks, xs, ls, ys, r1, r2, p1, p2, q⟩ := h
 obtain ⟨a, vs, ka, rfl, m1, d1, k1, l1, rl1, n1⟩ := dic_at I r1
 obtain ⟨b, us, kb, rfl, m2, d2, k2, l2, rl2, n2⟩ := dic_at I r2
 cases rx
 cases ry
 refine PySem.W.keq_eq m1 m2 d1 d2 (by omega) (fun _ => hits_D I (by rw [in1_units]; omega) l2 rl2 p2 k2 l1 rl1 p1 k1) ⟨.bl _, H, I, rfl, ?_⟩
 rw [n1, n2]
 exact q
theorem op_neDc (hu : X.A.units + 20 < cLine) : OpR X (compareOp .NotEq) (rEqDc X.K true) := by
 intro pins s σ H x y v u Q I rx ry h
 obtain ⟨ks, xs, ls, ys, r1, r2, p1, p2, q⟩ := h
 obtain ⟨a, vs, ka, rfl, m1, d1, k1, l1, rl1, n1⟩ := dic_at I r1
 obtain ⟨b, us, kb, rfl, m2, d2, k2, l2, rl2, n2⟩ := dic_at I r2
 cases rx
 cases ry
 refine PySem.W.keq_ne m1 m2 d1 d2 (by omega) (fun _ => hits_D I (by rw [in1_units]; omega) l2 rl2 p2 k2 l1 rl1 p1 k1) ⟨.bl _, H, I, rfl, ?_⟩
 rw [n1, n2]
 exact q
noncomputable def eqDc (neg : Bool) : D -> D -> Option D
 | .dic ks xs, .dic ls ys => if xs.all (plainN 8) = true /\ ys.all (plainN 8) = true then some (.bl (if neg then !eqDic ks xs ls ys else eqDic ks xs ls ys)) else none
 | _, _ => none
theorem od_eqDc {f : Value -> Value -> Sem Value} {neg : Bool} (h1 : OpR X f (rEqDc X.K neg)) : OpD X f (eqDc neg) := by
 refine ⟨_, h1, fun G H x y v u d Q sG rx ry e k => ?_⟩
 unfold eqDc at e
 split at e
 ·split at e
  ·rename_i hc
   cases e
   exact ⟨_, _, _, _, rx.all sG, ry.all sG, hc.1, hc.2, k _ G H (Grow.refl sG) (by simp [Rep])⟩
  ·cases e
 ·cases e
noncomputable def eqO (neg : Bool) (x y : D) : Option D := (sEq neg x y).or ((eqSeq neg x y).or (eqDc neg x y))
theorem od_eqO (hu : X.A.units + 20 < cLine) : OpD X (compareOp .Eq) (eqO false) := od_seq.or ((od_eqSeq (op_eqT hu) (op_eqLs' hu)).or (od_eqDc (op_eqDc hu)))
theorem od_neO (hu : X.A.units + 20 < cLine) : OpD X (compareOp .NotEq) (eqO true) := od_sne.or ((od_eqSeq (op_neT hu) (op_neLs' hu)).or (od_eqDc (op_neDc hu)))
end
noncomputable def putVals {α : Type} : List Key -> List α -> Key -> α -> List α
 | k0 :: ks, y :: ys, k, x => if k0 = k then x :: ys else y :: putVals ks ys k x
 | _, _, _, x => [x]
instance memKey (k : Key) (ks : List Key) : Decidable (k ∈ ks) :=
 decidable_of_iff (ks.any (fun x => decide (x = k)) = true) ⟨fun h => by
  obtain ⟨x, hx, q⟩ := List.any_eq_true.mp h
  exact (of_decide_eq_true q) ▸ hx, fun h => List.any_eq_true.mpr ⟨k, h, decide_eq_true rfl⟩⟩
noncomputable def putKeys (ks : List Key) (k : Key) : List Key := if k ∈ ks then ks else ks ++ [k]
theorem putVals_len {α : Type} : ∀ (ks : List Key) (ys : List α) (k : Key) (x : α), ks.length = ys.length -> (putKeys ks k).length = (putVals ks ys k x).length
 | [], [], k, x, _ => by simp [putKeys, putVals]
 | k0 :: ks, y :: ys, k, x, h => by
  have ih := putVals_len ks ys k x (by simpa using h)
  unfold putVals
  by_cases e : k0 = k
  ·subst e
   rw [if_pos rfl]
   unfold putKeys
   rw [if_pos List.mem_cons_self]
   simpa using h
  ·rw [if_neg e, List.length_cons, <- ih]
   unfold putKeys
   by_cases m : k ∈ ks
   ·rw [if_pos m, if_pos (List.mem_cons_of_mem _ m), List.length_cons]
   ·rw [if_neg m, if_neg (by rw [List.mem_cons]; exact fun z => z.elim (fun q => e q.symm) m)]
    simp
theorem putKeys_nd {ks : List Key} (k : Key) (h : ks.Nodup) : (putKeys ks k).Nodup := by
 unfold putKeys
 by_cases m : k ∈ ks
 ·rw [if_pos m]; exact h
 ·rw [if_neg m]
  rw [List.nodup_append]
  refine ⟨h, by simp, fun a ha b hb => ?_⟩
  have : b = k := by simpa using hb
  subst this
  exact fun z => m (z ▸ ha)
theorem map_miss {α : Type} {k : Key} {f : α -> α} : ∀ {l : List (Key × α)}, k ∉ l.map (·.1) -> l.map (fun kv => if kv.1 = k then (kv.1, f kv.2) else kv) = l
 | [], _ => rfl
 | p :: l, h => by
  rw [List.map_cons, map_miss (fun z => h (List.mem_cons_of_mem _ z)), if_neg (fun z => h (by rw [List.map_cons, z]; exact List.mem_cons_self))]
theorem keys_zip {α : Type} : ∀ {ks : List Key} {vs : List α}, ks.length = vs.length -> (ks.zip vs).map (·.1) = ks
 | [], [], _ => rfl
 | k :: ks, v :: vs, h => by
  simp only [List.zip_cons_cons, List.map_cons]
  rw [keys_zip (by simpa using h)]
theorem any_zip {vs : List V} {ks : List Key} (h : ks.length = vs.length) (k : Key) : ((ks.zip vs).any fun kv => decide (kv.1 = k)) = decide (k ∈ ks) := by
 have e := keys_zip h
 have : ((ks.zip vs).any fun kv => decide (kv.1 = k)) = ((ks.zip vs).map (·.1)).any fun x => decide (x = k) := by rw [List.any_map]; rfl
 rw [this, e]
 by_cases m : k ∈ ks
 ·rw [decide_eq_true m]
  exact List.any_eq_true.mpr ⟨k, m, by simp⟩
 ·rw [decide_eq_false m]
  refine Bool.eq_false_iff.mpr fun z => ?_
  obtain ⟨x, hx, q⟩ := List.any_eq_true.mp z
  exact m ((of_decide_eq_true q) ▸ hx)
theorem putK_zip : ∀ {ks : List Key} {vs : List V} (k : Key) (v : V), ks.length = vs.length -> ks.Nodup -> putK (ks.zip vs) k v = (putKeys ks k).zip (putVals ks vs k v) := by
 intro ks
 induction ks with
 | nil => intro vs k v h _; cases vs with | nil => rfl | cons _ _ => cases h
 | cons k0 ks ih =>
  intro vs k v h nd
  cases vs with
  | nil => cases h
  | cons v0 vs =>
   have h' : ks.length = vs.length := by simpa using h
   obtain ⟨n1, n2⟩ := List.nodup_cons.mp nd
   have e1 := ih k v h' n2
   unfold putK at e1 ⊢
   rw [any_zip h'] at e1
   rw [any_zip h]
   by_cases e : k0 = k
   ·subst e
    rw [decide_eq_true (List.mem_cons_self), if_pos rfl]
    unfold putKeys putVals
    rw [if_pos List.mem_cons_self, if_pos rfl]
    simp only [List.zip_cons_cons, List.map_cons, if_true]
    congr 1
    exact map_miss (f := fun _ => v) (by rw [keys_zip h']; exact n1)
   ·by_cases m : k ∈ ks
    ·rw [decide_eq_true m, if_pos rfl] at e1
     rw [decide_eq_true (List.mem_cons_of_mem _ m), if_pos rfl]
     unfold putKeys at e1 ⊢
     rw [if_pos m] at e1
     rw [if_pos (List.mem_cons_of_mem _ m)]
     unfold putVals
     rw [if_neg e]
     simp only [List.zip_cons_cons, List.map_cons, if_neg e]
     rw [e1]
    ·have m' : k ∉ k0 :: ks := by rw [List.mem_cons]; exact fun z => z.elim (fun q => e q.symm) m
     rw [decide_eq_false m, if_neg Bool.false_ne_true] at e1
     rw [decide_eq_false m', if_neg Bool.false_ne_true]
     unfold putKeys at e1 ⊢
     rw [if_neg m] at e1
     rw [if_neg m']
     unfold putVals
     rw [if_neg e]
     simp only [List.zip_cons_cons, List.cons_append]
     rw [e1]
theorem repL_put {K : PySem.W.Frag} {G : Hp} {d : D} {v : V} (k : Key) (r : Rep K G d v) : ∀ {ks : List Key} {xs : List D} {vs : List V}, RepL K G xs vs -> RepL K G (putVals ks xs k d) (putVals ks vs k v) := by
 intro ks
 induction ks with
 | nil => intro xs vs _; unfold putVals; simp only [RepL]; exact ⟨v, [], rfl, r, rfl⟩
 | cons k0 ks ih =>
  intro xs vs h
  cases xs with
  | nil =>
   simp only [RepL] at h
   subst h
   unfold putVals
   simp only [RepL]
   exact ⟨v, [], rfl, r, rfl⟩
  | cons x xs =>
   simp only [RepL] at h
   obtain ⟨w, us, rfl, h1, h2⟩ := h
   unfold putVals
   by_cases e : k0 = k
   ·rw [if_pos e, if_pos e]
    simp only [RepL]
    exact ⟨v, us, rfl, r, h2⟩
   ·rw [if_neg e, if_neg e]
    simp only [RepL]
    exact ⟨w, _, rfl, h1, ih h2⟩
section
variable {X : Cx} {e : Expr} {f : FE} {pos : Pos}
@[simp] noncomputable def sDPutM (i : Nat) (fk fv : FE) : FS := fun δ => match δ[i]? with
 | some (some (.pv (.dic ks ds) o)) => (fv δ).bind fun d => (fk δ).bind fun kd => (keyD kd).bind fun k => if ds.length < sizeLine then some (.nx (δ.set i (some (.pv (.dic (putKeys ks k) (putVals ks ds k d)) o)))) else none
 | _ => none
theorem psd_dput (i : Nat) {x : Str} {k value : Expr} {fk fv : FE} {p p1 : Pos} (hu : X.A.units + 1 < cLine) (hk : PD X k fk) (hv : PD X value fv) (hN : X.N[i]? = some x := by rfl) (hvi : Vis X.env.scope x := by walk_at "vi")
  (hd : (x == ("__debug__" : Str)) = false := by decide) (hcd : (x == ("__classdict__" : Str)) = false := by decide) (hs : swapsWith value (some (.Subscript (.Name x p) k p1)) pos.line X.env = pure false := by rfl) (hns : NoSl k := by intro _ _; rfl) :
  PSD X (.Assign [.Subscript (.Name x p) k p1] value pos) (sDPutM i fk fv) := by
 obtain ⟨tk, pk, kk⟩ := hk
 obtain ⟨tv, pv, kv⟩ := hv
 refine ⟨_, ps_dput hu (pe_var hN hvi hd hcd) pk pv hs, fun B G H δ σ o D sG sB rs e w => ?_⟩
 unfold sDPutM at e
 split at e
 ·rename_i ks ds o em
  obtain ⟨d, e1, e⟩ := obE e
  obtain ⟨kd, e2, e⟩ := obE e
  obtain ⟨key, e3, e⟩ := obE e
  split at e
  ·rename_i hl
   cases e
   refine kv B G H δ σ d _ sG rs e1 fun u G1 H1 g1 r1 => ?_
   obtain ⟨v, h1, a, vs, rfl, h2, h3, h4, h5, h6, _⟩ := (rs.grow g1).at_ i _ em
   refine ⟨_, h1, kk B G1 H1 δ σ kd _ g1.s (rs.grow g1) e2 fun ku G2 H2 g2 r2 => ?_⟩
   have hH : H2 a = some (.dK (ks.zip vs)) := g2.h _ _ h4
   have hG2 : G2 a = none := g2.n a _ h4 h3
   obtain rfl := keyD_rep e3 (RepB.of (H := H2) r2)
   have h6 : RepL X.K G1 ds vs := h6
   have lv : ks.length = vs.length := h5.1.trans h6.length
   refine ⟨a, _, rfl, DPut.k (k := key) hH (by rw [List.length_zip]; have := h6.length; have := h5.1; omega), ?_⟩
   rw [putK_zip key u lv h5.2]
   have g12 := g1.trans g2
   refine w σ G2 _ ((g12.stp sB).trans (stp_own g2.s (sB.trans g12.h) h2 hG2)) ((rs.grow g12).upd (m' := .dic (putKeys ks key) (putVals ks ds key d)) (us := putVals ks vs key u) em h1 h2 hG2 ⟨putVals_len ks ds key d h5.1, putKeys_nd key h5.2⟩ ?_)
   exact repL_put key (r1.mono g2.g) (h6.mono g2.g)
  ·cases e
 ·cases e
end
noncomputable def closL (cells : List (Str × Addr)) : List (Str × NameKind) -> List (Str × Addr) -> List (Str × Addr)
 | [], acc => acc
 | (n, k) :: r, acc => closL cells r (if (k == .free) = true then (n, (cells.lookup n).getD 0) :: acc else acc)
theorem closureFor_eq {scope : Scope} {env : Env} (h : ∀ y ∈ scope.names, y.2 = .free -> (env.cells.lookup y.1).isSome = true) : closureFor scope env = pure (closL env.cells scope.names []) := by
 simp only [closureFor]
 have key : ∀ (names : List (Str × NameKind)) (acc : List (Str × Addr)), (∀ y ∈ names, y.2 = .free -> (env.cells.lookup y.1).isSome = true) ->
   (forIn names acc fun (x : Str × NameKind) (r : List (Str × Addr)) => (if (x.snd == NameKind.free) = true then do
    let c <- cellOf env x.fst
    pure (ForInStep.yield ((x.fst, c) :: r)) else pure (ForInStep.yield r) : Sem (ForInStep (List (Str × Addr))))) = pure (closL env.cells names acc) := by
  intro names
  induction names with
  | nil => intro acc _; rfl
  | cons x r ih =>
   intro acc hh
   obtain ⟨n, k⟩ := x
   rw [List.forIn_cons]
   cases hk : (k == NameKind.free) with
   | false =>
    simp only [hk, Bool.false_eq_true, if_false, pure_bind, closL]
    exact ih acc fun y hy => hh y (List.mem_cons_of_mem _ hy)
   | true =>
    have hs := hh (n, k) List.mem_cons_self (by simpa using hk)
    obtain ⟨c, ec⟩ := Option.isSome_iff_exists.mp hs
    have ec : env.cells.lookup n = some c := ec
    have e1 : cellOf env n = pure c := by unfold cellOf; rw [ec]
    simp only [hk, if_true, e1, pure_bind, closL, ec, Option.getD_some]
    exact ih _ fun y hy => hh y (List.mem_cons_of_mem _ hy)
 have := key scope.names [] h
 first
  | exact this
  | (rw [this]; rfl)
  | (simp only [this, pure_bind])
theorem closL_mem {cells : List (Str × Addr)} : ∀ (names : List (Str × NameKind)) (acc : List (Str × Addr)) (p : Str × Addr), p ∈ closL cells names acc -> p ∈ acc \/ ((p.1, NameKind.free) ∈ names /\ p.2 = (cells.lookup p.1).getD 0)
 | [], acc, p, h => .inl h
 | (n, k) :: r, acc, p, h => by
  unfold closL at h
  rcases closL_mem r _ p h with h | ⟨h, e⟩
  ·cases hk : (k == NameKind.free) with
   | false => rw [hk] at h; simp only [Bool.false_eq_true, if_false] at h; exact .inl h
   | true =>
    rw [hk] at h
    simp only [if_true, List.mem_cons] at h
    rcases h with h | h
    ·subst h
     have : k = NameKind.free := by simpa using hk
     subst this
     exact .inr ⟨List.mem_cons_self, rfl⟩
    ·exact .inl h
  ·exact .inr ⟨List.mem_cons_of_mem _ h, e⟩
theorem closL_has {cells : List (Str × Addr)} : ∀ (names : List (Str × NameKind)) (acc : List (Str × Addr)) (x : Str), ((x, NameKind.free) ∈ names \/ ∃ c, (x, c) ∈ acc) -> ∃ c, (x, c) ∈ closL cells names acc
 | [], acc, x, h => h.elim (fun z => by cases z) id
 | (n, k) :: r, acc, x, h => by
  unfold closL
  refine closL_has r _ x ?_
  rcases h with h | ⟨c, h⟩
  ·rcases List.mem_cons.mp h with h | h
   ·cases h
    exact .inr ⟨(cells.lookup n).getD 0, by simp⟩
   ·exact .inl h
  ·refine .inr ⟨c, ?_⟩
   split
   ·exact List.mem_cons_of_mem _ h
   ·exact h
theorem lookup_of_mem {l : List (Str × Addr)} {x : Str} {c : Addr} (h : (x, c) ∈ l) : ∃ c', l.lookup x = some c' := by
 induction l with
 | nil => cases h
 | cons p l ih =>
  obtain ⟨y, d⟩ := p
  rw [List.lookup_cons]
  cases e : x == y with
  | true => exact ⟨d, rfl⟩
  | false =>
   rcases List.mem_cons.mp h with q | q
   ·cases q; simp at e
   ·exact ih q
theorem compOkF {X : Cx} {N : List Str} {nl : Nat} {js : List Nat} {scope : Scope} {n0 : Nat} (hce : X.env.cells = cellsFrom n0 X.env.scope.names []) (hk : scope.kind = .function) (hn : ∀ y ∈ scope.names, y.2 ≠ .cell)
  {sn : List (Str × NameKind)} (hsn : X.env.scope.names = sn) (hf : ∀ y ∈ scope.names, y.2 = .free -> sn.lookup y.1 = some .cell) (hl : ∀ y ∈ scope.names, y.2 = .local -> scope.names.lookup y.1 = some .local) (hN : N.length = nl + js.length)
  (free : ∀ k j x, js[k]? = some j -> N[nl + k]? = some x -> X.N[j]? = some x /\ (X.env.kindOf x = some .cell \/ X.env.kindOf x = some .free) /\ Vis X.env.scope x /\ ((relabel scope X.env).names.lookup x = some .cell \/ (relabel scope X.env).names.lookup x = some .free)) :
  CompOk X N nl js scope (closL X.env.cells scope.names []) where
 clos := closureFor_eq fun y hy e => by
  obtain ⟨c, ec⟩ := cell_has (n := n0) (by rw [hsn]; exact hf y hy e)
  rw [hce, ec]; rfl
 nocell := hn
 kind := hk
 names := hl
 cells := fun x c e => by
  rcases closL_mem _ _ _ (PySem.mem_of_lookup e) with z | ⟨z, q⟩
  ·cases z
  ·obtain ⟨c', ec⟩ := cell_has (n := n0) (by rw [hsn]; exact hf _ z rfl)
   have ec : X.env.cells.lookup x = some c' := by rw [hce]; exact ec
   have q : c = (X.env.cells.lookup x).getD 0 := q
   rw [ec] at q
   rw [ec, q]; rfl
 has := fun x h => by
  have key : ∀ k, (relabel scope X.env).names.lookup x = some k -> k = .cell \/ k = .free -> (x, NameKind.free) ∈ scope.names := fun k e hk => by
   have hm := PySem.mem_of_lookup e
   unfold relabel at hm
   obtain ⟨⟨n, k0⟩, h1, h2⟩ := List.mem_map.mp hm
   dsimp only at h2
   cases hc : (k0 == NameKind.free && X.env.scope.kind == .function && X.env.kindOf n == some .cell) with
   | true =>
    rw [hc] at h2
    simp only [if_true] at h2
    have e2 : n = x := congrArg Prod.fst h2
    subst e2
    have : k0 = NameKind.free := by
     rw [Bool.and_eq_true, Bool.and_eq_true] at hc
     simpa using hc.1.1
    rw [<- this]; exact h1
   | false =>
    rw [hc] at h2
    have e2 : k0 = k := congrArg Prod.snd h2
    have e3 : n = x := congrArg Prod.fst h2
    subst e2 e3
    rcases hk with z | z
    ·exact absurd z (hn _ h1)
    ·rw [<- z]; exact h1
  have hx : (x, NameKind.free) ∈ scope.names := by
   rcases h with h | h
   ·exact key _ h (.inl rfl)
   ·exact key _ h (.inr rfl)
  obtain ⟨c, hc⟩ := closL_has (cells := X.env.cells) scope.names [] x (.inl hx)
  exact lookup_of_mem hc
 len := hN
 free := free
section
variable {X : Cx}
noncomputable def nonD : D -> Bool | .non => true | _ => false
theorem nonD_rep {K : PySem.W.Frag} {G H : Hp} {d : D} {v : V} (r : RepB K G H d v) : decide (v = .non) = nonD d := by
 rcases r with r | ⟨m, a, vs, h1, h2, _⟩
 ·cases d with
  | non => simp only [Rep] at r; subst r; rfl
  | bl b => simp only [Rep] at r; subst r; rfl
  | int b => simp only [Rep] at r; subst r; rfl
  | str b => simp only [Rep] at r; subst r; rfl
  | tup b => simp only [Rep] at r; obtain ⟨_, _, rfl, _⟩ := r; rfl
  | lst b => simp only [Rep] at r; obtain ⟨_, _, rfl, _⟩ := r; rfl
  | dic b c => simp only [Rep] at r; obtain ⟨_, _, rfl, _⟩ := r; rfl
 ·subst h1 h2; cases m <;> rfl
noncomputable def isN (n : Bool) : D -> D -> Option D | x, .non => some (.bl (if n then !nonD x else nonD x)) | _, _ => none
theorem od_isN : OpD X (compareOp .Is) (isN false) := by
 refine ⟨_, op_isN, fun G H x y v u d Q sG rx ry e k => ?_⟩
 unfold isN at e
 split at e
 ·cases e
  have ry := ry.flat rfl
  simp only [Rep] at ry
  refine ⟨ry, ?_⟩
  rw [nonD_rep rx]
  exact k _ G H (Grow.refl sG) (by simp [Rep])
 ·cases e
noncomputable def isA (x y : D) : Option D := (isN false x y).or (isB x y)
theorem od_isA : OpD X (compareOp .Is) isA := od_isN.or od_isB
end
section
variable {X : Cx} {pins : List (Addr × Obj)} {σ : St} {H : Hp} {s : Shared} {a : Addr} {kvs : List (Key × V)} {k : Key} {d : V} {u r : Value} {A : Around} {E : Value -> Shared -> Prop}
theorem d_setd {Q : Value -> Shared -> Prop} (I : Inv X pins σ H s) (e : H a = some (.dK kvs)) (ry : RelV (kV k) u) (rd : RelV d r) (hl : kvs.length < sizeLine)
  (h1 : ∀ v w' s', valV kvs k = some v -> Inv X pins σ H s' -> RelV v w' -> Q w' s') (h2 : ∀ s', valV kvs k = none -> Inv X pins σ (upd H a (.dK (putK kvs k d))) s' -> Q r s') :
  wpAny (model X.prog X.w) A (call (.builtin "dict.setdefault") [.ref a, u, r]) Q E s := by
 obtain ⟨z, hd, vs, rel, dd⟩ := dk_of I.hok e
 refine call_meetsIn PySem.F.slot_dict_setdefault dd.typeIs PySem.F.entry_dict_setdefault (PySem.F.args_dict_setdefault_3 _ _ _) (kt_meets_setdefault (mixKind X.prog X.w) a (kV_is ry) hd r) ⟨vs, dd, by rw [<- rel.length]; exact z, fun v hv => ?_, fun hn h' dd' hs => ?_⟩
 ·cases ev : valV kvs k with
  | none =>
   have hn : valueAt vs k = none := RelO.none_of (by rw [<- ev]; exact rel.val k)
   rw [hn] at hv; cases hv
  | some v0 =>
   obtain ⟨w', hw, rw'⟩ := RelO.some_of (v := v0) (o := valueAt vs k) (by rw [<- ev]; exact rel.val k)
   rw [hw] at hv
   cases hv
   exact h1 v0 _ _ ev (I.tok _) rw'
 ·have ev : valV kvs k = none := by
   cases ev : valV kvs k with
   | none => rfl
   | some v0 =>
    obtain ⟨w', hw, rw'⟩ := RelO.some_of (v := v0) (o := valueAt vs k) (by rw [<- ev]; exact rel.val k)
    rw [hw] at hn; cases hn
  have hl' : (putK kvs k d).length <= sizeLine := by have := length_putK kvs k d; omega
  have he : ∃ q, h'.get? a = some q := let ⟨q, _, _, hq, _⟩ := dd'; ⟨q, hq⟩
  exact h2 _ ev (d_write I (by rw [e]; exact True.intro) hs he (dk_new hl' hd (rel.put k rd) dd'))
end
def tDSetd (td ty tx : TE) : TE := fun σ H Q => td σ H fun x H1 => ∃ a, x = .ref a /\ IsD H1 a /\ ty σ H1 fun y H2 => tx σ H2 fun z H3 => ∃ kvs k, H3 a = some (.dK kvs) /\ y = kV k /\ kvs.length < sizeLine /\
 (∀ v, valV kvs k = some v -> Q v H3) /\ (valV kvs k = none -> Q z (upd H3 a (.dK (putK kvs k z))))
section
variable {X : Cx} {o e f : Expr} {apos cpos : Pos} {td ty tx : TE}
theorem pe_dsetd (ho : PE X o td) (he : PE X e ty) (hf : PE X f tx) (m : M2 X o "setdefault" apos e f cpos) : PE X (.Call (.Attribute o "setdefault" apos) [e, f] [] cpos) (tDSetd td ty tx) := by
 intro pins s σ H Q I h
 refine wpAny_Call_method m.base m.few m.line PySem.F.plainAttrs_dict PySem.F.slot_dict_setdefault PySem.F.type_dict_setdefault (thn (ho pins s σ H _ I h) fun u s1 ⟨x, H1, I1, rx, a, ex, d, q1⟩ => ?_)
 subst ex
 obtain rfl : u = Value.ref a := rx
 obtain ⟨t1, t2, _⟩ := isD_at I1 d
 refine ⟨t1, t2, ?_⟩
 rw [m.trees]
 refine Calls.callWith_builtin rfl (Calls.evalArgs_plain (Calls.spliced_cons (thn (he pins s1 σ H1 _ I1 q1) fun iv s2 ⟨y, H2, I2, ry, q2⟩ =>
  Calls.spliced_cons (thn (hf pins s2 σ H2 _ I2 q2) fun fv s3 ⟨z, H3, I3, rz, kvs, k, ea, ey, hl, q3, q4⟩ => Calls.spliced_nil ?_))))
 subst ey
 exact d_setd I3 ea ry rz hl (fun v w' s' ev I' r' => ⟨v, H3, I', r', q3 v ev⟩) fun s' ev I' => ⟨z, _, I', rz, q4 ev⟩
end
abbrev FX := En -> Option (D × En)
def GivesX (K : PySem.W.Frag) (t : TE) (f : FX) : Prop := ∀ (B G H : Hp) (δ : En) (σ : St) (d : D) (δ' : En) (Q : VK), Same G H -> Same B H -> RepS K B G H δ σ -> f δ = some (d, δ') ->
 (∀ v G' H', Stp B G G' H' -> RepS K B G' H' δ' σ -> Rep K G' d v -> Q v H') -> t σ H Q
def PX (X : Cx) (e : Expr) (f : FX) : Prop := ∃ t, PE X e t /\ GivesX X.K t f
section
variable {X : Cx} {e a b : Expr} {pos : Pos}
@[simp] noncomputable def xSetd (i : Nat) (fk fv : FE) : FX := fun δ => match δ[i]? with
 | some (some (.pv (.dic ks ds) o)) => (fk δ).bind fun kd => (fv δ).bind fun d => (keyD kd).bind fun k => if ds.length < sizeLine then some (match valD ks ds k with
   | some y => (y, δ)
   | none => (d, δ.set i (some (.pv (.dic (putKeys ks k) (putVals ks ds k d)) o)))) else none
 | _ => none
theorem px_setd (i : Nat) {x : Str} {k value : Expr} {fk fv : FE} {p p1 : Pos} (hk : PD X k fk) (hv : PD X value fv) (hN : X.N[i]? = some x := by rfl) (hvi : Vis X.env.scope x := by walk_at "vi")
  (hd : (x == ("__debug__" : Str)) = false := by decide) (hcd : (x == ("__classdict__" : Str)) = false := by decide) (hm : M2 X (.Name x p) "setdefault" p1 k value pos := by exact ⟨rfl, rfl, rfl, rfl⟩) :
  PX X (.Call (.Attribute (.Name x p) "setdefault" p1) [k, value] [] pos) (xSetd i fk fv) := by
 obtain ⟨tk, pk, kk⟩ := hk
 obtain ⟨tv, pv, kv⟩ := hv
 refine ⟨_, pe_dsetd (pe_var hN hvi hd hcd) pk pv hm, fun B G H δ σ d δ' Q sG sB rs e q => ?_⟩
 unfold xSetd at e
 split at e
 ·rename_i ks ds o em
  obtain ⟨kd, e2, e⟩ := obE e
  obtain ⟨dv, e1, e⟩ := obE e
  obtain ⟨key, e3, e⟩ := obE e
  split at e
  ·rename_i hl
   obtain ⟨v, h1, a, vs, rfl, h2, h3, h4, h5, h6, _⟩ := rs.at_ i _ em
   refine ⟨_, h1, a, rfl, .inl ⟨_, .inl h4⟩, kk B G H δ σ kd _ sG rs e2 fun ku G1 H1 g1 r1 => kv B G1 H1 δ σ dv _ g1.s (rs.grow g1) e1 fun u G2 H2 g2 r2 => ?_⟩
   have g12 := g1.trans g2
   have hH : H2 a = some (.dK (ks.zip vs)) := g12.h _ _ h4
   have hG2 : G2 a = none := g12.n a _ h4 h3
   obtain rfl := keyD_rep e3 (RepB.of (H := H2) r1)
   have h6 : RepL X.K G ds vs := h6
   have lv : ks.length = vs.length := h5.1.trans h6.length
   have hvd := valD_rep key h5.1 h6
   refine ⟨_, key, hH, rfl, by rw [List.length_zip]; have := h6.length; have := h5.1; omega, fun v0 ev => ?_, fun ev => ?_⟩
   ·cases ed : valD ks ds key with
    | none => rw [hvd.2 ed] at ev; cases ev
    | some y =>
     obtain ⟨w', e6, r6⟩ := hvd.1 y ed
     rw [e6] at ev
     cases ev
     rw [ed] at e
     cases e
     exact q _ G2 H2 (g12.stp sB) (rs.grow g12) (r6.mono g12.g)
   ·cases ed : valD ks ds key with
    | some y =>
     obtain ⟨w', e6, r6⟩ := hvd.1 y ed
     rw [e6] at ev
     cases ev
    | none =>
     rw [ed] at e
     cases e
     rw [putK_zip key u lv h5.2]
     refine q _ G2 _ ((g12.stp sB).trans (stp_own g2.s (sB.trans g12.h) h2 hG2)) ((rs.grow g12).upd (m' := .dic (putKeys ks key) (putVals ks ds key d)) (us := putVals ks vs key u) em h1 h2 hG2 ⟨putVals_len ks ds key d h5.1, putKeys_nd key h5.2⟩ ?_) r2
     exact repL_put key r2 (h6.mono g12.g)
  ·cases e
 ·cases e
end
end L2
namespace HT
open PySem PySem.Spec PyProof.Rows
variable {prog : Program} {w : World} {A : Around} {E : Value -> Shared -> Prop} {s : Shared}
theorem getItem_tuple_all {t sl : Addr} {items : Array Value} {vl vu : Value} {lo hi : Option Int} {Q : Value -> Shared -> Prop} (ht : IsTup s.heap t items) (hs : s.heap.IsSliceOf sl vl vu .none) (pl : IsPart vl lo) (pu : IsPart vu hi)
  (hw : sIx items.size 0 lo = 0 /\ sIx items.size items.size hi = items.size) (h : Q (.ref t) s) : wpAny (model prog w) A (getItem (.ref t) (.ref sl)) Q E s := by
 obtain ⟨os, hos, hcs, hds⟩ := id hs
 have hTs : s.TypeIs (.ref sl) "slice" := ⟨os, hos, hcs⟩
 unfold getItem
 try with_reducible refine wpAny_holding ?_
 first | refine wpAny_bind (wpAny_pure ?_) | skip
 refine wpAny_bind (wpAny_sequenceKey ht.typeIs (by decide) ?_)
 refine wpAny_bind (wpAny_callSpecial?_slot (name := Str.ofString "__getitem__") ht.typeIs PyProof.Rows.slot_tuple_getitem
  (wpAny_call_entry PyProof.Rows.slot_tuple_getitem ht.typeIs entry_tuple_getitem ?_ (args_tuple_getitem _ _)))
 show wpAny _ _ (Builtin.Tuple.tupleItemsOf (.ref t) >>= _) _ _ s
 refine wpAny_bind (tupleItemsOf_ ht ?_)
 refine wpAny_bind (wpAny_typeOf hTs ?_)
 rw [if_pos (by decide)]
 refine wpAny_bind (sliceApplied_gen hs pl pu ?_)
 have hno : (((sIx items.size 0 lo : Nat) : Int) == 0 && (1 : Int) == 1 && (sIx items.size items.size hi - sIx items.size 0 lo) == items.size) = true := by
  rw [hw.1, hw.2]; simp
 show wpAny _ _ (if (((sIx items.size 0 lo : Nat) : Int) == 0 && (1 : Int) == 1 && (sIx items.size items.size hi - sIx items.size 0 lo) == items.size) = true then _ else _) _ _ s
 rw [if_pos hno]
 refine wpAny_bind ?_
 unfold Builtin.Tuple.tupleIsExact
 refine wpAny_bind (wpAny_typeOf ht.typeIs (wpAny_pure ?_))
 rw [if_pos (by decide)]
 refine wpAny_bind (wpAny_rule ?_)
 first
  | exact wpAny_pure ⟨_, rfl, wpAny_pure h⟩
  | exact wpAny_bind (wpAny_pure ⟨_, rfl, wpAny_pure h⟩)
  | exact wpAny_pure (wpAny_pure ⟨_, rfl, wpAny_pure h⟩)
  | exact wpAny_pure (wpAny_pure h)
end HT
namespace L2
open PySem PySem.Spec PyProof.Rows
section
variable {X : Cx}
def rSlTA (K : PySem.W.Frag) : V -> Option Int -> Option Int -> Hp -> VK -> Prop := fun x lo hi H Q => ∃ a xs, x = .ref a /\ SqT K H a xs /\
 (HT.sIx xs.length 0 lo = 0 /\ HT.sIx xs.length xs.length hi = xs.length) /\ Q (.ref a) H
theorem sl_tupA : SlR X (rSlTA X.K) := by
 intro pins s σ H x v vl vu lo hi sl Q I rx hs pl pu h
 obtain ⟨a, xs, rfl, hx, hw, q⟩ := h
 cases rx
 obtain ⟨its, r, ht, hz⟩ := I.tuple hx
 have hlen : its.toArray.size = xs.length := by rw [List.size_toArray]; exact r.length.symm
 refine ⟨"tuple", _, PyProof.Rows.slot_tuple_getitem.lookup, ht.typeIs, ?_⟩
 exact HT.getItem_tuple_all ht hs pl pu (by rw [hlen]; exact hw) ⟨.ref a, H, I, rfl, q⟩
noncomputable def slA (x : D) (lo hi : Option Int) : Option Rs := match x with
 | .lst ds => some (.fr (.lst (cutD ds lo hi)))
 | .tup ds => some (.sh (.tup (cutD ds lo hi)))
 | _ => none
theorem cutD_all {ds : List D} {lo hi : Option Int} (h : HT.sIx ds.length 0 lo = 0 /\ HT.sIx ds.length ds.length hi = ds.length) : cutD ds lo hi = ds := by
 unfold cutD
 rw [h.1, h.2]
 simp
@[simp] noncomputable def fSlA (f : FE) (l h : En -> Option (Option Int)) : FR := fun δ => (f δ).bind fun x => (l δ).bind fun lo => (h δ).bind fun hi => slA x lo hi
theorem pr_slA {e : Expr} {f : FE} {lo hi : Option Expr} {fl fh : En -> Option (Option Int)} {pos p2 : Pos} (he : PB X e f) (hl : POD X lo fl) (hh : POD X hi fh) : PR X (.Subscript e (.Slice lo hi none p2) pos) (fSlA f fl fh) := by
 obtain ⟨t, pt, k1⟩ := he
 obtain ⟨tl, pl, kl⟩ := hl
 obtain ⟨th, ph, kh⟩ := hh
 refine ⟨_, pe_slice ((sl_list.or sl_tup).or sl_tupA) pt pl ph, fun B G H δ σ d Q sG rs e k => ?_⟩
 unfold fSlA at e
 obtain ⟨x, e1, e⟩ := obE e
 obtain ⟨l, e2, e⟩ := obE e
 obtain ⟨h, e3, e⟩ := obE e
 refine k1 B G H δ σ x _ sG rs e1 fun v G1 H1 g1 r1 => kl B G1 H1 δ σ l _ g1.s (rs.grow g1) e2 fun G2 H2 g2 => kh B G2 H2 δ σ h _ g2.s (rs.grow (g1.trans g2)) e3 fun G3 H3 g3 => ?_
 have g13 := (g1.trans g2).trans g3
 have r3 := r1.grow (g2.trans g3)
 unfold slA at e
 split at e
 ·cases e
  obtain ⟨a, vs, rfl, q, rl⟩ := r3.lst g3.s
  exact .inl (.inl ⟨a, vs, rfl, q, fun p hp => k p _ G3 H3 g13 hp True.intro (rl.cut l h)⟩)
 ·rename_i ds _ _
  cases e
  have r3 := r3.tup
  have r4 := r3
  simp only [Rep] at r4
  obtain ⟨a, vs, rfl, q, rl⟩ := r4
  by_cases hw : HT.sIx ds.length 0 l = 0 /\ HT.sIx ds.length ds.length h = ds.length
  ·rw [cutD_all hw] at k
   exact .inr ⟨a, vs, rfl, g3.s.sqT q, by rw [<- rl.length]; exact hw, k _ _ _ g13 r3⟩
  ·exact .inl (.inr ⟨a, vs, rfl, g3.s.sqT q, by rw [<- rl.length]; exact hw, fun p hp => k _ _ _ (g13.trans (Grow.laid g3.s _ hp)) (rep_tup (g3.s.free hp) (rl.cut l h))⟩)
 ·cases e
noncomputable def strsD : List D -> Option (List Str)
 | [] => some []
 | .str x :: r => (strsD r).map (x :: ·)
 | _ => none
theorem strsD_rep {K : PySem.W.Frag} {G : Hp} : ∀ {ds : List D} {ys : List Str} {vs : List V}, strsD ds = some ys -> RepL K G ds vs -> vs = ys.map V.str
 | [], _, _, e, r => by cases e; simp only [RepL] at r; exact r
 | d :: ds, ys, vs, e, r => by
  cases d with
  | str x =>
   simp only [strsD] at e
   obtain ⟨zs, e1, rfl⟩ := omE e
   simp only [RepL] at r
   obtain ⟨v, us, rfl, r1, r2⟩ := r
   simp only [Rep] at r1
   subst r1
   rw [strsD_rep e1 r2]; rfl
  | non => cases e
  | bl b => cases e
  | int b => cases e
  | tup b => cases e
  | lst b => cases e
  | dic b c => cases e
end
section
variable {prog : Program} {w : World} {A : Around} {E : Value -> Shared -> Prop} {s : Shared}
end
section
variable {prog : Program} {w : World} {A : Around} {E : Value -> Shared -> Prop} {s : Shared}
end
section
variable {prog : Program} {w : World} {A : Around} {E : Value -> Shared -> Prop} {s : Shared}
end
section
variable {prog : Program} {w : World} {A : Around} {E : Value -> Shared -> Prop} {s : Shared}
end
section
variable {prog : Program} {w : World} {A : Around} {E : Value -> Shared -> Prop} {s : Shared}
end
section
variable {X : Cx} {pins : List (Addr × Obj)} {σ : List (Option V)} {H H' : Hp} {s : Shared} {h' : Heap}
end
section
variable {X : Cx} {pins : List (Addr × Obj)} {σ : St} {H : Hp} {s : Shared}
end
section
variable {X : Cx}
noncomputable def forL2 (i j : Nat) (F : FS) : List (D × D) -> FS
 | [], δ => some (.nx δ)
 | x :: xs, δ => match F ((δ.set i (some (.sh x.1))).set j (some (.sh x.2))) with
  | some (.nx δ') => forL2 i j F xs δ'
  | some (.ct δ') => forL2 i j F xs δ'
  | some (.ex c δ') => some (.ex c δ')
  | some (.bk δ') => some (.nx δ')
  | some (.rt d δ') => some (.rt d δ')
  | none => none
end
section
variable {X : Cx} {e : Expr} {es : List Expr} {pos p : Pos}
end
section
variable {X : Cx}
end
inductive Ag where | v (d : D) | o (m : Mo)
noncomputable def mkS : List Ag -> List Addr -> List Sl
 | .v d :: r, _ :: as => .sh d :: mkS r as
 | .o m :: r, a :: as => .pv m (some a) :: mkS r as
 | _, _ => []
def Fits : List Ag -> List Addr -> List (Option Mo) -> List (Option Sl) -> Prop
 | [], _, ms, _ => ms = []
 | .v _ :: r, as, ms, res => ∃ a as' ms' x res', as = a :: as' /\ ms = none :: ms' /\ res = x :: res' /\ Fits r as' ms' res'
 | .o _ :: r, as, ms, res => ∃ a as' m' ms' res', as = a :: as' /\ ms = some m' :: ms' /\ res = some (.pv m' (some a)) :: res' /\ Fits r as' ms' res'
def MutS (M : List Sl -> Option (Rs × En)) (ags : List Ag) (r : Rs) (ms : List (Option Mo)) : Prop := ∀ as : List Addr, as.length = ags.length -> ∃ res, M (mkS ags as) = some (r, res) /\ Fits ags as ms res
theorem Fits.uniq : ∀ {ags : List Ag} {as : List Addr} {ms ms' : List (Option Mo)} {res : En}, Fits ags as ms res -> Fits ags as ms' res -> ms = ms'
 | [], _, _, _, _, h, h' => by simp only [Fits] at h h'; rw [h, h']
 | .v _ :: r, _, _, _, _, h, h' => by
  simp only [Fits] at h h'
  obtain ⟨a, as1, ms1, x, res1, rfl, rfl, rfl, h1⟩ := h
  obtain ⟨b, as2, ms2, y, res2, e1, rfl, e2, h2⟩ := h'
  cases e1
  cases e2
  rw [Fits.uniq h1 h2]
 | .o _ :: r, _, _, _, _, h, h' => by
  simp only [Fits] at h h'
  obtain ⟨a, as1, m1, ms1, res1, rfl, rfl, rfl, h1⟩ := h
  obtain ⟨b, as2, m2, ms2, res2, e1, rfl, e2, h2⟩ := h'
  cases e1
  cases e2
  rw [Fits.uniq h1 h2]
theorem MutS.uniq {M : List Sl -> Option (Rs × En)} {ags : List Ag} {r r' : Rs} {ms ms' : List (Option Mo)} (h : MutS M ags r ms) (h' : MutS M ags r' ms') : (r, ms) = (r', ms') := by
 obtain ⟨res, e, f⟩ := h (List.replicate ags.length 0) (by simp)
 obtain ⟨res', e', f'⟩ := h' (List.replicate ags.length 0) (by simp)
 rw [e] at e'
 cases e'
 rw [f.uniq f']
open Classical in
noncomputable def outM (M : List Sl -> Option (Rs × En)) (ags : List Ag) : Option (Rs × List (Option Mo)) := if h : ∃ p : Rs × List (Option Mo), MutS M ags p.1 p.2 then some h.choose else none
theorem outM_eq {M : List Sl -> Option (Rs × En)} {ags : List Ag} {r : Rs} {ms : List (Option Mo)} (h : MutS M ags r ms) : outM M ags = some (r, ms) := by
 unfold outM
 have hx : ∃ p : Rs × List (Option Mo), MutS M ags p.1 p.2 := ⟨(r, ms), h⟩
 rw [dif_pos hx]
 exact congrArg some (hx.choose_spec.uniq h)
theorem outM_spec {M : List Sl -> Option (Rs × En)} {ags : List Ag} {p : Rs × List (Option Mo)} (h : outM M ags = some p) : MutS M ags p.1 p.2 := by
 unfold outM at h
 split at h
 ·rename_i hx
  cases h
  exact hx.choose_spec
 ·cases h
noncomputable def startS (N : List Str) (xs : List Sl) : En := xs.map some ++ List.replicate (N.length - xs.length) none
noncomputable def runM (N : List Str) (n : Nat) (fb : FS) : List Sl -> Option (Rs × En) := fun xs => if xs.length = n then (match fb (startS N xs) with | some (.rt r δ) => some (r, δ.take n) | some (.nx δ) => some (.sh .non, δ.take n) | _ => none) else none
def WantM (K : PySem.W.Frag) (B G : Hp) (Q : VK) (res : En) : Rs -> Prop
 | .sh d => ∀ v σ' G' H', Stp B G G' H' -> RepS K B G' H' res σ' -> Rep K G' d v -> Q v H'
 | .fr m => ∀ p vs σ' G' H', Stp B G G' H' -> RepS K B G' H' res σ' -> H' p = none -> m.ok -> RepL K G' m.vals vs -> Q (.ref p) (upd H' p (m.ho vs))
def spM (K : PySem.W.Frag) (M : List Sl -> Option (Rs × En)) : Sp := fun vs H Q _ => ∃ B G xs r res, Same G H /\ Same B H /\ RepS K B G H (xs.map some) (vs.map some) /\ M xs = some (r, res) /\ WantM K B G Q res r
def DefOkM (P : Program) (w : World) (K : PySem.W.Frag) (mg : Str -> Option Value) (base : Heap) (k : Nat) (x : Str) (ps : List Str) (M : List Sl -> Option (Rs × En)) : Prop :=
 ∃ f fd, FnOk P w K mg base CX0 k f fd ps (spM K M) /\ Binds K fd ps [] /\ PySem.W.keepIn K (.ref f) = true /\ mg x = some (.ref f)
theorem RepS.more {K : PySem.W.Frag} {B G H : Hp} {δ : En} {σ : St} (r : RepS K B G H δ σ) (k : Nat) : RepS K B G H (δ ++ List.replicate k none) (σ ++ List.replicate k none) := by
 have key : ∀ (i : Nat) (x : Sl), (δ ++ List.replicate k none)[i]? = some (some x) -> δ[i]? = some (some x) /\ i < σ.length := fun i x e => by
  by_cases hi : i < δ.length
  ·rw [List.getElem?_append_left hi] at e; exact ⟨e, by rw [<- r.len]; exact hi⟩
  ·rw [List.getElem?_append_right (by omega), List.getElem?_replicate] at e
   split at e <;> cases e
 refine ⟨by simp [r.len], fun i x e => ?_, fun i j x y o o' hij e1 e2 => ?_⟩
 ·obtain ⟨e1, hl⟩ := key i x e
  obtain ⟨v, h1, h2⟩ := r.at_ i x e1
  exact ⟨v, by rw [List.getElem?_append_left hl]; exact h1, h2⟩
 ·obtain ⟨f1, l1⟩ := key i _ e1
  obtain ⟨f2, l2⟩ := key j _ e2
  rw [List.getElem?_append_left l1, List.getElem?_append_left l2]
  exact r.ap i j x y o o' hij f1 f2
theorem RepS.take {K : PySem.W.Frag} {B G H : Hp} {δ : En} {σ : St} (r : RepS K B G H δ σ) (n : Nat) : RepS K B G H (δ.take n) (σ.take n) := by
 have key : ∀ (i : Nat) (x : Sl), (δ.take n)[i]? = some (some x) -> δ[i]? = some (some x) /\ i < n := fun i x e => by
  rw [List.getElem?_take] at e
  split at e
  ·exact ⟨e, by assumption⟩
  ·cases e
 refine ⟨by simp [r.len], fun i x e => ?_, fun i j x y o o' hij e1 e2 => ?_⟩
 ·obtain ⟨e1, hl⟩ := key i x e
  obtain ⟨v, h1, h2⟩ := r.at_ i x e1
  exact ⟨v, by rw [List.getElem?_take, if_pos hl]; exact h1, h2⟩
 ·obtain ⟨f1, l1⟩ := key i _ e1
  obtain ⟨f2, l2⟩ := key j _ e2
  rw [List.getElem?_take, if_pos l1, List.getElem?_take, if_pos l2]
  exact r.ap i j x y o o' hij f1 f2
section
variable {P : Program} {w : World} {K : PySem.W.Frag} {mg : Str -> Option Value} {base : Heap}
theorem def_runMF {x : Str} {st : Stmt} {N ps : List Str} {k : Nat} {fb : FS} {f : Addr} {fd : FuncData} (F : Fun K x x st f fd) (S : FnScope N ps (defScope st))
  (hbody : ∀ (f : Addr) (cdv : Value) (A : Around) (outer : List Env) (s : Shared) (H : Hp) (E : XK), Room k (A.deeper (envOfC x (defScope st) s.heap.objs.size f cdv)) -> PSsD (cxD P w K mg base N x (defScope st) f cdv A outer s H E) (defBody st) fb) :
  FnOk P w K mg base CX0 (k + 1) f fd ps (spM K (runM N ps.length fb)) := by
 refine F.ok S (fun vs H Q E h => ?_) (fun cdv A outer s H vs Q E hr h => ?_)
 ·obtain ⟨B, G, xs, r, res, sG, sB, rs, e, _⟩ := h
  have hl := rs.len
  rw [List.length_map, List.length_map] at hl
  rw [<- hl]
  unfold runM at e
  split at e
  ·rename_i hl; exact hl
  ·cases e
 ·obtain ⟨B, G, xs, r, res, sG, sB, rs, e, q⟩ := h
  obtain ⟨t, pt, kt⟩ := hbody f cdv A outer s H E hr
  have hl := rs.len
  rw [List.length_map, List.length_map] at hl
  refine ⟨t, pt, ?_⟩
  have rs0 : RepS K B G H (startS N xs) (start N vs) := by
   unfold startS start
   rw [hl]
   exact rs.more _
  unfold runM at e
  split at e
  ·split at e
   ·rename_i eb
    cases e
    refine kt B G H _ _ _ _ sG sB rs0 eb ?_
    cases r with
    | sh d => exact fun v σ' G' H' a rs' rv => q v _ G' H' a (rs'.take _) rv
    | fr m => exact fun p vs σ' G' H' a rs' => q p vs _ G' H' a (rs'.take _)
   ·rename_i eb
    cases e
    exact kt B G H _ _ _ _ sG sB rs0 eb fun σ' G' H' a rs' => q _ _ G' H' a (rs'.take _) (by simp [Rep])
   ·cases e
  ·cases e
theorem def_runM {x : Str} {st : Stmt} {N ps : List Str} {k : Nat} {fb : FS} (F : DefAt K mg x st) (S : FnScope N ps (defScope st))
  (hb : ∀ (kV doc pm : Value) (an : Option Addr) (cdv ct : Value) (us : List Value), us.length = ps.length -> bindArgs (PySem.W.fnOf x x (defArgs st) (defBody st) (defScope st) .none kV doc pm an cdv ct) ⟨us, []⟩ = pure (ps.zip us))
  (hbody : ∀ (f : Addr) (cdv : Value) (A : Around) (outer : List Env) (s : Shared) (H : Hp) (E : XK), Room k (A.deeper (envOfC x (defScope st) s.heap.objs.size f cdv)) -> PSsD (cxD P w K mg base N x (defScope st) f cdv A outer s H E) (defBody st) fb) :
  DefOkM P w K mg base (k + 1) x ps (runM N ps.length fb) := by
 obtain ⟨f, fd, F, hm⟩ := F
 exact ⟨f, fd, def_runMF F S hbody, F.binds hb, F.kp, hm⟩
end
inductive Ar where | own (j : Nat) | val (f : FE)
noncomputable def agOf : List Ar -> En -> Option (List Ag)
 | [], _ => some []
 | .own j :: r, δ => match δ[j]? with | some (some (.pv m _)) => (agOf r δ).map (.o m :: ·) | _ => none
 | .val f :: r, δ => (f δ).bind fun d => (agOf r δ).map (.v d :: ·)
noncomputable def ownsOf : List Ar -> List Nat
 | [] => []
 | .own j :: r => j :: ownsOf r
 | .val _ :: r => ownsOf r
noncomputable def pairsM : List Ar -> List (Option Mo) -> List (Nat × Mo)
 | .own j :: r, some m :: ms => (j, m) :: pairsM r ms
 | _ :: r, _ :: ms => pairsM r ms
 | _, _ => []
noncomputable def putSl (q : Option Mo) (x : Option Sl) : Option Sl := match q, x with | some m', some (.pv _ o) => some (.pv m' o) | _, x => x
noncomputable def putAt (q : Nat -> Option Mo) : Nat -> En -> En
 | _, [] => []
 | k, x :: r => putSl (q k) x :: putAt q (k + 1) r
theorem putAt_get {q : Nat -> Option Mo} : ∀ {k : Nat} {δ : En} {j : Nat}, (putAt q k δ)[j]? = δ[j]?.map (putSl (q (k + j)))
 | _, [], _ => rfl
 | k, x :: r, 0 => rfl
 | k, x :: r, j + 1 => by
  show (putAt q (k + 1) r)[j]? = _
  rw [putAt_get, List.getElem?_cons_succ, show k + 1 + j = k + (j + 1) by omega]
theorem putAt_len {q : Nat -> Option Mo} : ∀ {k : Nat} {δ : En}, (putAt q k δ).length = δ.length
 | _, [] => rfl
 | k, x :: r => by show (putAt q (k + 1) r).length + 1 = _; rw [putAt_len]; rfl
noncomputable def xCallM (M : List Sl -> Option (Rs × En)) (ars : List Ar) : FX := fun δ => (agOf ars δ).bind fun ags => (outM M ags).bind fun p => match p.1 with | .sh d => some (d, putAt (fun j => (pairsM ars p.2).lookup j) 0 δ) | _ => none
def ArgRep (K : PySem.W.Frag) (G : Hp) (δ : En) (σ : St) : List Ar -> List Ag -> List V -> Prop
 | [], ags, vs => ags = [] /\ vs = []
 | .own j :: r, ags, vs => ∃ m o ags' v vs', ags = .o m :: ags' /\ vs = v :: vs' /\ δ[j]? = some (some (.pv m o)) /\ σ[j]? = some (some v) /\ ArgRep K G δ σ r ags' vs'
 | .val _ :: r, ags, vs => ∃ d ags' v vs', ags = .v d :: ags' /\ vs = v :: vs' /\ Rep K G d v /\ ArgRep K G δ σ r ags' vs'
def PAM (X : Cx) (es : List Expr) (ars : List Ar) : Prop := ∃ t, PA X es t /\ ∀ (B G H : Hp) (δ : En) (σ : St) (ags : List Ag) (Q : List V -> Hp -> Prop), Same G H -> RepS X.K B G H δ σ -> agOf ars δ = some ags ->
 (∀ vs G' H', Grow G H G' H' -> ArgRep X.K G' δ σ ars ags vs -> Q vs H') -> t σ H Q
section
variable {X : Cx} {e : Expr} {es : List Expr} {f : FE} {ars : List Ar} {pos p : Pos}
theorem pam_nil : PAM X [] [] := ⟨_, pa_nil, fun B G H δ σ ags Q sG rs ef k => by cases ef; exact k _ G H (Grow.refl sG) ⟨rfl, rfl⟩⟩
theorem pam_val (ha : PD X e f) (hr : PAM X es ars) (hs : starEach (e :: es) X.env = (false, eval e X.env) :: starEach es X.env := by rfl) : PAM X (e :: es) (.val f :: ars) := by
 obtain ⟨ta, pa, ka⟩ := ha
 obtain ⟨tr, pr, kr⟩ := hr
 refine ⟨_, pa_cons pa pr hs, fun B G H δ σ ds Q sG rs ef k => ?_⟩
 unfold agOf at ef
 obtain ⟨d, e1, ef⟩ := obE ef
 obtain ⟨ags', e2, rfl⟩ := omE ef
 exact ka B G H δ σ d _ sG rs e1 fun v G1 H1 g1 r1 => kr B G1 H1 δ σ ags' _ g1.s (rs.grow g1) e2 fun vs G2 H2 g2 r2 => k _ G2 H2 (g1.trans g2) ⟨d, ags', v, vs, rfl, rfl, r1.mono g2.g, r2⟩
theorem pam_own (j : Nat) {x : Str} (hr : PAM X es ars) (hN : X.N[j]? = some x := by rfl) (hv : Vis X.env.scope x := by walk_at "vi") (hd : (x == ("__debug__" : Str)) = false := by decide)
  (hcd : (x == ("__classdict__" : Str)) = false := by decide) (hs : starEach (.Name x p :: es) X.env = (false, eval (.Name x p) X.env) :: starEach es X.env := by rfl) : PAM X (.Name x p :: es) (.own j :: ars) := by
 obtain ⟨tr, pr, kr⟩ := hr
 refine ⟨_, pa_cons (pe_var hN hv hd hcd) pr hs, fun B G H δ σ ds Q sG rs ef k => ?_⟩
 unfold agOf at ef
 split at ef
 ·rename_i m o em
  obtain ⟨ags', e2, rfl⟩ := omE ef
  obtain ⟨v, h1, h2⟩ := rs.at_ j _ em
  exact ⟨v, h1, kr B G H δ σ ags' _ sG rs e2 fun vs G2 H2 g2 r2 => k _ G2 H2 g2 ⟨m, o, ags', v, vs, rfl, rfl, em, h1, r2⟩⟩
 ·cases ef
end
def AArg (K : PySem.W.Frag) (G : Hp) (δ : En) (σ : St) : List Ar -> List Ag -> List V -> List Addr -> Prop
 | [], ags, vs, as => ags = [] /\ vs = [] /\ as = []
 | .own j :: r, ags, vs, as => ∃ m o ags' vs' a as', ags = .o m :: ags' /\ vs = .ref a :: vs' /\ as = a :: as' /\ δ[j]? = some (some (.pv m o)) /\ σ[j]? = some (some (.ref a)) /\ AArg K G δ σ r ags' vs' as'
 | .val _ :: r, ags, vs, as => ∃ d ags' v vs' a as', ags = .v d :: ags' /\ vs = v :: vs' /\ as = a :: as' /\ Rep K G d v /\ AArg K G δ σ r ags' vs' as'
theorem aarg_of {K : PySem.W.Frag} {B G H : Hp} {δ : En} {σ : St} (rs : RepS K B G H δ σ) : ∀ {ars : List Ar} {ags : List Ag} {vs : List V}, ArgRep K G δ σ ars ags vs -> ∃ as, AArg K G δ σ ars ags vs as
 | [], _, _, ⟨h1, h2⟩ => ⟨[], h1, h2, rfl⟩
 | .own j :: r, _, _, ⟨m, o, ags', v, vs', h1, h2, h3, h4, h5⟩ => by
  obtain ⟨as, h⟩ := aarg_of rs h5
  obtain ⟨w, e1, a, us, rfl, _⟩ := rs.at_ j _ h3
  rw [h4] at e1
  cases e1
  exact ⟨a :: as, m, o, ags', vs', a, as, h1, h2, rfl, h3, h4, h⟩
 | .val _ :: r, _, _, ⟨d, ags', v, vs', h1, h2, h3, h5⟩ => by
  obtain ⟨as, h⟩ := aarg_of rs h5
  exact ⟨0 :: as, d, ags', v, vs', 0, as, h1, h2, rfl, h3, h⟩
section
variable {K : PySem.W.Frag} {G : Hp} {δ : En} {σ : St}
theorem AArg.len : ∀ {ars : List Ar} {ags : List Ag} {vs : List V} {as : List Addr}, AArg K G δ σ ars ags vs as -> as.length = ags.length /\ (mkS ags as).length = vs.length
 | [], _, _, _, h => by obtain ⟨rfl, rfl, rfl⟩ := h; exact ⟨rfl, rfl⟩
 | .own j :: r, _, _, _, h => by
  obtain ⟨m, o, ags', vs', a, as', rfl, rfl, rfl, _, _, h⟩ := h
  obtain ⟨l1, l2⟩ := h.len
  exact ⟨by simp [l1], by simp [mkS, l2]⟩
 | .val _ :: r, _, _, _, h => by
  obtain ⟨d, ags', v, vs', a, as', rfl, rfl, rfl, _, h⟩ := h
  obtain ⟨l1, l2⟩ := h.len
  exact ⟨by simp [l1], by simp [mkS, l2]⟩
theorem AArg.pv : ∀ {ars : List Ar} {ags : List Ag} {vs : List V} {as : List Addr} {i : Nat} {m : Mo} {o : Option Addr}, AArg K G δ σ ars ags vs as -> (mkS ags as)[i]? = some (.pv m o) ->
  ∃ a j o', o = some a /\ ars[i]? = some (.own j) /\ vs[i]? = some (.ref a) /\ δ[j]? = some (some (.pv m o')) /\ σ[j]? = some (some (.ref a))
 | [], _, _, _, i, m, o, h, e => by obtain ⟨rfl, rfl, rfl⟩ := h; simp [mkS] at e
 | .own j :: r, _, _, _, i, m, o, h, e => by
  obtain ⟨m1, o1, ags', vs', a, as', rfl, rfl, rfl, h1, h2, h⟩ := h
  cases i with
  | zero =>
   simp only [mkS, List.getElem?_cons_zero] at e
   cases e
   exact ⟨a, j, o1, rfl, rfl, rfl, h1, h2⟩
  | succ i =>
   simp only [mkS, List.getElem?_cons_succ] at e
   exact h.pv e
 | .val _ :: r, _, _, _, i, m, o, h, e => by
  obtain ⟨d, ags', v, vs', a, as', rfl, rfl, rfl, _, h⟩ := h
  cases i with
  | zero => simp only [mkS, List.getElem?_cons_zero] at e; cases e
  | succ i =>
   simp only [mkS, List.getElem?_cons_succ] at e
   exact h.pv e
theorem AArg.sh : ∀ {ars : List Ar} {ags : List Ag} {vs : List V} {as : List Addr} {i : Nat} {d : D}, AArg K G δ σ ars ags vs as -> (mkS ags as)[i]? = some (.sh d) -> ∃ v, vs[i]? = some v /\ Rep K G d v
 | [], _, _, _, i, d, h, e => by obtain ⟨rfl, rfl, rfl⟩ := h; simp [mkS] at e
 | .own j :: r, _, _, _, i, d, h, e => by
  obtain ⟨m1, o1, ags', vs', a, as', rfl, rfl, rfl, h1, h2, h⟩ := h
  cases i with
  | zero => simp only [mkS, List.getElem?_cons_zero] at e; cases e
  | succ i =>
   simp only [mkS, List.getElem?_cons_succ] at e
   exact h.sh e
 | .val _ :: r, _, _, _, i, d, h, e => by
  obtain ⟨d1, ags', v, vs', a, as', rfl, rfl, rfl, h1, h⟩ := h
  cases i with
  | zero => simp only [mkS, List.getElem?_cons_zero] at e; cases e; exact ⟨v, rfl, h1⟩
  | succ i =>
   simp only [mkS, List.getElem?_cons_succ] at e
   exact h.sh e
theorem AArg.ob : ∀ {ars : List Ar} {ags : List Ag} {vs : List V} {as : List Addr} {i : Nat} {c : Str}, AArg K G δ σ ars ags vs as -> (mkS ags as)[i]? = some (.ob c) -> False
 | [], _, _, _, i, c, h, e => by obtain ⟨rfl, rfl, rfl⟩ := h; simp [mkS] at e
 | .own j :: r, _, _, _, i, c, h, e => by
  obtain ⟨m1, o1, ags', vs', a, as', rfl, rfl, rfl, h1, h2, h⟩ := h
  cases i with
  | zero => simp only [mkS, List.getElem?_cons_zero] at e; cases e
  | succ i =>
   simp only [mkS, List.getElem?_cons_succ] at e
   exact h.ob e
 | .val _ :: r, _, _, _, i, c, h, e => by
  obtain ⟨d1, ags', v, vs', a, as', rfl, rfl, rfl, h1, h⟩ := h
  cases i with
  | zero => simp only [mkS, List.getElem?_cons_zero] at e; cases e
  | succ i =>
   simp only [mkS, List.getElem?_cons_succ] at e
   exact h.ob e
theorem own_mem : ∀ {ars : List Ar} {i j : Nat}, ars[i]? = some (.own j) -> j ∈ ownsOf ars
 | [], i, j, e => by simp at e
 | .own k :: r, 0, j, e => by simp at e; subst e; exact List.mem_cons_self
 | .own k :: r, i + 1, j, e => List.mem_cons_of_mem _ (own_mem (ars := r) (i := i) (by simpa using e))
 | .val f :: r, 0, j, e => by simp at e
 | .val f :: r, i + 1, j, e => own_mem (ars := r) (i := i) (by simpa using e)
theorem own_inj : ∀ {ars : List Ar} {i i' j : Nat}, (ownsOf ars).Nodup -> ars[i]? = some (.own j) -> ars[i']? = some (.own j) -> i = i'
 | [], i, i', j, _, e, _ => by simp at e
 | .own k :: r, i, i', j, hn, e, e' => by
  have hn' := List.nodup_cons.mp hn
  cases i with
  | zero =>
   cases i' with
   | zero => rfl
   | succ i' =>
    simp at e; subst e
    exact absurd (own_mem (ars := r) (i := i') (by simpa using e')) hn'.1
  | succ i =>
   cases i' with
   | zero =>
    simp at e'; subst e'
    exact absurd (own_mem (ars := r) (i := i) (by simpa using e)) hn'.1
   | succ i' => rw [own_inj (ars := r) (i := i) (i' := i') hn'.2 (by simpa using e) (by simpa using e')]
 | .val f :: r, i, i', j, hn, e, e' => by
  cases i with
  | zero => simp at e
  | succ i =>
   cases i' with
   | zero => simp at e'
   | succ i' => rw [own_inj (ars := r) (i := i) (i' := i') hn (by simpa using e) (by simpa using e')]
theorem AArg.owns : ∀ {ars : List Ar} {ags : List Ag} {vs : List V} {as : List Addr} {j : Nat}, AArg K G δ σ ars ags vs as -> j ∈ ownsOf ars -> ∃ m o, δ[j]? = some (some (.pv m o))
 | [], _, _, _, j, h, e => by cases e
 | .own k :: r, _, _, _, j, h, e => by
  obtain ⟨m1, o1, ags', vs', a, as', rfl, rfl, rfl, h1, h2, h⟩ := h
  rcases List.mem_cons.mp e with rfl | e
  ·exact ⟨m1, o1, h1⟩
  ·exact h.owns e
 | .val _ :: r, _, _, _, j, h, e => by
  obtain ⟨d1, ags', v, vs', a, as', rfl, rfl, rfl, h1, h⟩ := h
  exact h.owns e
theorem AArg.look : ∀ {ars : List Ar} {ags : List Ag} {vs : List V} {as : List Addr} {ms : List (Option Mo)} {res : En} {j : Nat} {m' : Mo}, AArg K G δ σ ars ags vs as -> Fits ags as ms res -> (pairsM ars ms).lookup j = some m' ->
  ∃ (i : Nat) (a : Addr) (m : Mo) (o : Option Addr), res[i]? = some (some (Sl.pv m' (some a))) /\ δ[j]? = some (some (.pv m o)) /\ σ[j]? = some (some (.ref a))
 | [], _, _, _, ms, res, j, m', h, f, e => by simp [pairsM] at e
 | .own k :: r, _, _, _, ms, res, j, m', h, f, e => by
  obtain ⟨m1, o1, ags', vs', a, as', rfl, rfl, rfl, h1, h2, h⟩ := h
  simp only [Fits] at f
  obtain ⟨a2, as2, m2, ms2, res2, e1, rfl, rfl, f⟩ := f
  cases e1
  simp only [pairsM, List.lookup_cons] at e
  by_cases hj : j = k
  ·subst hj
   simp at e
   subst e
   exact ⟨0, a, m1, o1, rfl, h1, h2⟩
  ·rw [show (j == k) = false by simpa using hj] at e
   obtain ⟨i, a', m, o, q1, q2, q3⟩ := h.look f e
   exact ⟨i + 1, a', m, o, by simpa using q1, q2, q3⟩
 | .val _ :: r, _, _, _, ms, res, j, m', h, f, e => by
  obtain ⟨d1, ags', v, vs', a, as', rfl, rfl, rfl, h1, h⟩ := h
  simp only [Fits] at f
  obtain ⟨a2, as2, ms2, x, res2, e1, rfl, rfl, f⟩ := f
  cases e1
  simp only [pairsM] at e
  obtain ⟨i, a', m, o, q1, q2, q3⟩ := h.look f e
  exact ⟨i + 1, a', m, o, by simpa using q1, q2, q3⟩
theorem AArg.has : ∀ {ars : List Ar} {ags : List Ag} {vs : List V} {as : List Addr} {ms : List (Option Mo)} {res : En} {j : Nat}, AArg K G δ σ ars ags vs as -> Fits ags as ms res -> j ∈ ownsOf ars -> ∃ m', (pairsM ars ms).lookup j = some m'
 | [], _, _, _, ms, res, j, h, f, e => by cases e
 | .own k :: r, _, _, _, ms, res, j, h, f, e => by
  obtain ⟨m1, o1, ags', vs', a, as', rfl, rfl, rfl, h1, h2, h⟩ := h
  simp only [Fits] at f
  obtain ⟨a2, as2, m2, ms2, res2, e1, rfl, rfl, f⟩ := f
  cases e1
  simp only [pairsM, List.lookup_cons]
  by_cases hj : j = k
  ·subst hj; exact ⟨m2, by simp⟩
  ·rw [show (j == k) = false by simpa using hj]
   rcases List.mem_cons.mp e with rfl | e
   ·exact absurd rfl hj
   ·exact h.has f e
 | .val _ :: r, _, _, _, ms, res, j, h, f, e => by
  obtain ⟨d1, ags', v, vs', a, as', rfl, rfl, rfl, h1, h⟩ := h
  simp only [Fits] at f
  obtain ⟨a2, as2, ms2, x, res2, e1, rfl, rfl, f⟩ := f
  cases e1
  simp only [pairsM]
  exact h.has f e
end
open Classical in
noncomputable def lessOwn (σ : St) (js : List Nat) (H : Hp) : Hp := fun b => if ∃ j ∈ js, σ[j]? = some (some (V.ref b)) then none else H b
theorem lessOwn_none {σ : St} {js : List Nat} {H : Hp} {a : Addr} {j : Nat} (hj : j ∈ js) (e : σ[j]? = some (some (V.ref a))) : lessOwn σ js H a = none := by
 unfold lessOwn; rw [if_pos ⟨j, hj, e⟩]
theorem lessOwn_some {σ : St} {js : List Nat} {H : Hp} {a : Addr} (h : ¬ ∃ j ∈ js, σ[j]? = some (some (V.ref a))) : lessOwn σ js H a = H a := by
 unfold lessOwn; rw [if_neg h]
theorem lessOwn_same {σ : St} {js : List Nat} {H : Hp} : Same (lessOwn σ js H) H := fun a o e => by
 unfold lessOwn at e
 split at e
 ·cases e
 ·exact e
theorem putSl_pv {q : Option Mo} {x : Option Sl} {m : Mo} {o : Option Addr} (e : putSl q x = some (.pv m o)) : ∃ m0, x = some (.pv m0 o) := by
 unfold putSl at e
 split at e
 ·cases e; exact ⟨_, rfl⟩
 ·exact ⟨m, e⟩
section
variable {X : Cx} {e : Expr} {es : List Expr} {pos p : Pos} {ars : List Ar}
theorem px_callM {k : Nat} {x : Str} {ps : List Str} {M : List Sl -> Option (Rs × En)} (F : DefOkM X.prog X.w X.K X.mg X.base k x ps M) (hr : Room k X.A) (ha : PAM X (e :: es) ars) (hnd : (ownsOf ars).Nodup := by decide) (hg : Gl X x := by rfl)
  (hdb : (x == ("__debug__" : Str)) = false := by decide) (he : starEach (e :: es) X.env = (false, eval e X.env) :: starEach es X.env := by rfl) (hpl : (backTo pos (starEach es X.env)).any (·.1) = false := by rfl) :
  PX X (.Call (.Name x p) (e :: es) [] pos) (xCallM M ars) := by
 obtain ⟨f, fd, F, hb, hk, hm⟩ := F
 obtain ⟨ta, pa, ka⟩ := ha
 refine ⟨_, pe_call F hr hg hm hk hb .nil pass0 pa hdb he hpl, fun B G H δ σ d δ' Q sG sB rs0 ef q => ?_⟩
 unfold xCallM at ef
 obtain ⟨ags, e1, ef⟩ := obE ef
 obtain ⟨⟨r, ms⟩, e2, ef⟩ := obE ef
 refine ka B G H δ σ ags _ sG rs0 e1 fun vs G1 H1 g1 ar => ?_
 rw [List.append_nil]
 have rs := rs0.grow g1
 have sB1 : Same B H1 := sB.trans g1.h
 obtain ⟨as, aa⟩ := aarg_of rs ar
 obtain ⟨l1, l2⟩ := aa.len
 cases r with
 | fr m => cases ef
 | sh d' =>
  cases ef
  obtain ⟨res, em, fit⟩ := outM_spec e2 as l1
  refine ⟨lessOwn σ (ownsOf ars) H1, G1, mkS ags as, .sh d, res, g1.s, lessOwn_same, ?_, em, ?_⟩
  ·refine ⟨by simp [l2], fun i x e => ?_, fun i j x y o o' hij e1 e2 => ?_⟩
   ·rw [List.getElem?_map] at e
    obtain ⟨x', ex, e⟩ := omE e
    cases e
    cases x with
    | ob c => exact (aa.ob ex).elim
    | sh d =>
     obtain ⟨v, q1, q2⟩ := aa.sh ex
     exact ⟨v, by rw [List.getElem?_map, q1]; rfl, q2⟩
    | pv m o =>
     obtain ⟨a, j, o', rfl, q1, q2, q3, q4⟩ := aa.pv ex
     obtain ⟨v, w1, a2, us, rfl, w2, w3, w4, w5, w6, w7⟩ := rs.at_ j _ q3
     rw [q4] at w1
     cases w1
     exact ⟨.ref a, by rw [List.getElem?_map, q2]; rfl, a, us, rfl, lessOwn_none (own_mem q1) q4, w3, w4, w5, w6, fun b z => by cases z; rfl⟩
   ·rw [List.getElem?_map] at e1 e2
    obtain ⟨x', ex, e1⟩ := omE e1
    obtain ⟨y', ey, e2⟩ := omE e2
    cases e1
    cases e2
    obtain ⟨a, j1, o1, rfl, q1, q2, q3, q4⟩ := aa.pv ex
    obtain ⟨b, j2, o2, rfl, p1, p2, p3, p4⟩ := aa.pv ey
    rw [List.getElem?_map, List.getElem?_map, q2, p2]
    intro z
    have hjj : j1 ≠ j2 := fun z => hij (own_inj hnd q1 (z ▸ p1))
    refine rs.ap j1 j2 _ _ _ _ hjj q3 p3 ?_
    rw [q4, p4]
    exact Option.some.inj z ▸ rfl
  ·intro v σ' G' H' st rs' rv
   have notOwn : ∀ a o, B a = some o -> ¬ ∃ j ∈ ownsOf ars, σ[j]? = some (some (V.ref a)) := fun a o eB ⟨j, hj, ej⟩ => by
    obtain ⟨m, o', ed⟩ := aa.owns hj
    obtain ⟨v, w1, a2, us, rfl, w2, _⟩ := rs.at_ j _ ed
    rw [ej] at w1
    cases w1
    rw [w2] at eB
    cases eB
   have stp : Stp B G1 G' H' := ⟨st.g, st.s, fun a o eB => st.b a o (by rw [lessOwn_some (notOwn a o eB)]; exact sB1 a o eB), fun a o eB n => st.n a o (by rw [lessOwn_some (notOwn a o eB)]; exact sB1 a o eB) n⟩
   refine q v G' H' ((g1.stp sB).trans stp) ⟨by rw [putAt_len]; exact rs.len, fun j x ej => ?_, fun i j x y o o' hij e1 e2 => ?_⟩ rv
   ·rw [putAt_get, Nat.zero_add] at ej
    obtain ⟨y, ey, ex⟩ := omE ej
    cases eq : (pairsM ars ms).lookup j with
    | some m' =>
     rw [eq] at ex
     obtain ⟨i, a, m, o, q1, q2, q3⟩ := aa.look fit eq
     rw [q2] at ey
     cases ey
     cases ex
     obtain ⟨v1, w1, a1, us1, rfl, w2, w3, w4, w5, w6, w7⟩ := rs.at_ j _ q2
     rw [q3] at w1
     cases w1
     obtain ⟨v2, _, a2, us2, rfl, u2, u3, u4, u5, u6, u7⟩ := rs'.at_ i _ q1
     obtain rfl := u7 a rfl
     exact ⟨.ref a, q3, a, us2, rfl, w2, u3, u4, u5, u6, w7⟩
    | none =>
     rw [eq] at ex
     have ex : y = some x := ex
     subst ex
     obtain ⟨v1, w1, w2⟩ := rs.at_ j _ ey
     refine ⟨v1, w1, ?_⟩
     cases x with
     | sh d => exact Rep.mono st.g w2
     | ob c => exact IsEx.mono st.g w2
     | pv m o =>
      obtain ⟨a, us, rfl, w3, w4, w5, w6, w7, w8⟩ := w2
      have hno : ¬ ∃ j' ∈ ownsOf ars, σ[j']? = some (some (V.ref a)) := fun ⟨j', hj', ej'⟩ => by
       have hne : j' ≠ j := fun z => by
        subst z
        obtain ⟨m', em'⟩ := aa.has fit hj'
        rw [eq] at em'
        cases em'
       obtain ⟨m2, o2, ed⟩ := aa.owns hj'
       exact rs.ap j' j _ _ _ _ hne ed ey (ej'.trans w1.symm)
      have hB : lessOwn σ (ownsOf ars) H1 a = some (m.ho us) := by rw [lessOwn_some hno]; exact w5
      exact ⟨a, us, rfl, w3, st.n a _ hB w4, st.b a _ hB, w6, w7.mono st.g, w8⟩
   ·rw [putAt_get, Nat.zero_add] at e1 e2
    obtain ⟨x1, f1, e1⟩ := omE e1
    obtain ⟨y1, f2, e2⟩ := omE e2
    obtain ⟨m1, rfl⟩ := putSl_pv e1
    obtain ⟨m2, rfl⟩ := putSl_pv e2
    exact rs.ap i j m1 m2 _ _ hij f1 f2
end
section
variable {X : Cx} {e : Expr} {es : List Expr} {pos p : Pos}
theorem stp_new {B G G' H' : Hp} {a : Addr} {o : HO} (s : Stp B G G' H') (n : H' a = none) : Stp B G (upd G' a o) (upd H' a o) where
 g := s.g.trans (same_new _ (s.s.free n))
 s := s.s.upd o
 b := s.b.trans (same_new _ n)
 n := fun b u eB nG => by
  have hb : b ≠ a := fun z => by subst z; rw [s.b _ _ eB] at n; cases n
  rw [upd_ne hb]
  exact s.n b u eB nG
theorem RepS.new {K : PySem.W.Frag} {B G H : Hp} {δ : En} {σ : St} (rs : RepS K B G H δ σ) (sG : Same G H) {a : Addr} (n : H a = none) (o : HO) : RepS K B (L2.upd G a o) (L2.upd H a o) δ σ := by
 refine rs.grow ⟨same_new _ (sG.free n), same_new _ n, sG.upd o, fun b u e nG => ?_⟩
 have hb : b ≠ a := fun z => by subst z; rw [e] at n; cases n
 rw [upd_ne hb]
 exact nG
end
section
variable {X : Cx} {e : Expr} {es : List Expr} {pos p : Pos}
end
section
variable {X : Cx} {e : Expr} {es : List Expr} {pos p : Pos}
noncomputable def fCallM1 (M : List Sl -> Option (Rs × En)) (f : FR) (g : En -> Option (List D)) : FE := fun δ => (f δ).bind fun r => match r with | .fr m => (g δ).bind fun ds => (outM M (.o m :: ds.map .v)).bind fun p => (match p.1 with | .sh d => some d | _ => none) | _ => none
end
section
variable {X : Cx} {e : Expr} {es : List Expr} {pos p : Pos}
@[simp] noncomputable def sExt (i : Nat) (f : FR) : FS := fun δ => (f δ).bind fun r => match r, δ[i]? with
 | .fr (.lst ys), some (some (.pv (.lst ds) o)) => if ds.length + ys.length <= sizeLine then some (.nx (δ.set i (some (.pv (.lst (ds ++ ys)) o)))) else none
 | _, _ => none
theorem psd_ext (i : Nat) {x : Str} {f : FR} {p p1 p2 : Pos} (he : PR X e f) (hN : X.N[i]? = some x := by rfl) (hv : Vis X.env.scope x := by walk_at "vi")
  (hb : ∀ {t : TE} {tx : TE}, PE X (.Name x p) tx -> PE X e t -> PE X (.Call (.Attribute (.Name x p) "extend" p1) [e] [] p2) (tBM X.K "list" rExtend tx (tCons t tNil)) := by
   intro t tx hx ht; exact pe_bm PySem.F.plainAttrs_list PySem.F.slot_list_extend PySem.F.type_list_extend mt_extend hx (pa_cons ht pa_nil))
  (hd : (x == ("__debug__" : Str)) = false := by decide) (hcd : (x == ("__classdict__" : Str)) = false := by decide) (hs : swapsWith (.Call (.Attribute (.Name x p) "extend" p1) [e] [] p2) none pos.line X.env = pure false := by rfl) :
  PSD X (.Expr (.Call (.Attribute (.Name x p) "extend" p1) [e] [] p2) pos) (sExt i f) := by
 obtain ⟨t, pt, k⟩ := he
 refine ⟨_, ps_expr (hb (pe_var hN hv hd hcd) pt) hs, fun B G H δ σ o D sG sB rs e w => ?_⟩
 unfold sExt at e
 obtain ⟨r, e1, e⟩ := obE e
 split at e
 ·rename_i ys ds o1 em
  split at e
  ·rename_i hl
   cases e
   obtain ⟨v, h1, a, vs, rfl, h2, h3, h4, h5, h6, _⟩ := rs.at_ i _ em
   refine ⟨_, h1, .inl ⟨rfl, _, SqL.of h4⟩, k B G H δ σ (.fr (.lst ys)) _ sG rs e1 fun b us G1 H1 g1 hn ok rl => ?_⟩
   have hH : H1 a = some (.lst vs) := g1.h _ _ h4
   have hG1 : G1 a = none := g1.n a _ h4 h3
   have hab : a ≠ b := fun z => by subst z; rw [hH] at hn; cases hn
   have rl' : RepL X.K G1 ys us := rl
   have h6' : RepL X.K G ds vs := h6
   refine ⟨a, b, vs, us, rfl, rfl, (by rw [upd_ne hab]; exact hH), upd_same, by rw [<- h6'.length, <- rl'.length]; exact hl, ?_⟩
   have g2 : Grow G1 H1 G1 (upd H1 b (.lst us)) := ⟨Same.refl _, same_new _ hn, g1.s.trans (same_new _ hn), fun _ _ _ n => n⟩
   have g12 := g1.trans g2
   exact w σ G1 _ ((g12.stp sB).trans (stp_own g12.s (sB.trans g12.h) h2 hG1)) ((rs.grow g12).upd (m' := .lst (ds ++ ys)) (us := vs ++ us) em h1 h2 hG1 True.intro ((h6'.mono g1.g).append rl'))
  ·cases e
 ·cases e
end
section
variable {X : Cx} {e : Expr} {es : List Expr} {pos p : Pos}
def rInDc (neg : Bool) : R2 := fun x y H Q => ∃ a o, y = .ref a /\ DGet H a x o /\ Q (.bl (if neg then !o.isSome else o.isSome)) H
theorem op_inDc (hu : X.A.units + 20 < cLine) : OpR X (compareOp .In) (rInDc false) := by
 intro pins s σ H x y v u Q I rx ry h
 obtain ⟨a, o, rfl, g, q⟩ := h
 cases ry
 exact d_in (by omega) I g rx fun s' I' => ⟨.bl _, H, I', rfl, q⟩
theorem op_notinDc (hu : X.A.units + 20 < cLine) : OpR X (compareOp .NotIn) (rInDc true) := by
 intro pins s σ H x y v u Q I rx ry h
 obtain ⟨a, o, rfl, g, q⟩ := h
 cases ry
 exact d_notIn (by omega) I g rx fun s' I' => ⟨.bl _, H, I', rfl, q⟩
noncomputable def inDc (neg : Bool) : D -> D -> Option D
 | x, .dic ks ds => (keyD x).map fun k => .bl (if neg then !(valD ks ds k).isSome else (valD ks ds k).isSome)
 | _, _ => none
theorem od_inDc' {f : Value -> Value -> Sem Value} {neg : Bool} (h : OpR X f (rInDc neg)) : OpD X f (inDc neg) := by
 refine ⟨_, h, fun G H x y v u d Q sG rx ry e k => ?_⟩
 unfold inDc at e
 split at e
 ·rename_i x' ks ds
  obtain ⟨kk, e1, rfl⟩ := omE e
  obtain ⟨a, vs, rfl, hd, hl, nd, rl⟩ := ry.dic sG
  have := keyD_rep e1 rx
  subst this
  refine ⟨a, valV (ks.zip vs) kk, rfl, .inl ⟨_, kk, hd, rfl, rfl⟩, ?_⟩
  have hs : (valV (ks.zip vs) kk).isSome = (valD ks ds kk).isSome := by
   cases ed : valD ks ds kk with
   | none => rw [(valD_rep kk hl rl).2 ed]; rfl
   | some y => obtain ⟨w', e3, _⟩ := (valD_rep kk hl rl).1 y ed; rw [e3]; rfl
  rw [hs]
  exact k _ G H (Grow.refl sG) (by simp [Rep])
 ·cases e
theorem od_inAll (hu : X.A.units + 20 < cLine) : OpD X (compareOp .In) (fun x y => (inD false x y).or (inDc false x y)) := od_in.or (od_inDc' (op_inDc hu))
theorem od_notinAll (hu : X.A.units + 20 < cLine) : OpD X (compareOp .NotIn) (fun x y => (inD true x y).or (inDc true x y)) := od_notin.or (od_inDc' (op_notinDc hu))
end
theorem eqV_congr {a b x : V} (h : eqV a b = true) : eqV a x = eqV b x := by
 cases a <;> cases b <;> simp only [eqV, Bool.false_eq_true, beq_iff_eq] at h <;> first | rfl | (cases x <;> simp_all [eqV]) | skip
 all_goals (try (cases h))
 all_goals (rename_i b1 b2; cases b1 <;> cases b2 <;> rfl)
theorem eqA_tup {xs : List D} {y : D} (h : eqA (.tup xs) y = true) : ∃ ys, y = .tup ys /\ eqAs xs ys = true := by
 cases y with
 | tup ys => exact ⟨ys, rfl, by simpa only [eqA] using h⟩
 | _ => simp [eqA] at h
theorem eqA_lst {xs : List D} {y : D} (h : eqA (.lst xs) y = true) : ∃ ys, y = .lst ys /\ eqAs xs ys = true := by
 cases y with
 | lst ys => exact ⟨ys, rfl, by simpa only [eqA] using h⟩
 | _ => simp [eqA] at h
theorem eqA_congr : ∀ (n : Nat) {a b x : D}, plainN n a = true -> plainN n b = true -> plainN n x = true -> eqA a b = true -> eqA a x = eqA b x := by
 intro n
 have flatc : ∀ {a b x : D}, flatD a = true -> eqA a b = true -> flatD b = true := fun {a b x} ha h => by
  cases a <;> first | exact absurd ha Bool.false_ne_true | (cases b <;> first | rfl | (simp [eqA, flatD] at h))
 have fc : ∀ {a b x : D}, flatD a = true -> eqA a b = true -> eqA a x = eqA b x := fun {a b x} ha h => by
  have hb : flatD b = true := flatc (x := x) ha h
  rw [eqA_flat ha hb] at h
  by_cases hx : flatD x = true
  ·rw [eqA_flat ha hx, eqA_flat hb hx]
   exact eqV_congr h
  ·have e1 : ∀ {c : D}, flatD c = true -> eqA c x = false := fun {c} hc => by
    cases c <;> first | exact absurd hc Bool.false_ne_true | (cases x <;> first | (exact absurd rfl hx) | simp [eqA, flatD])
   rw [e1 ha, e1 hb]
 induction n with
 | zero =>
  intro a b x pa pb px h
  refine fc ?_ h
  cases a <;> first | rfl | exact absurd pa Bool.false_ne_true
 | succ n ih =>
  intro a b x pa pb px h
  have lists : ∀ {xs ys zs : List D}, xs.all (plainN n) = true -> ys.all (plainN n) = true -> zs.all (plainN n) = true -> eqAs xs ys = true -> eqAs xs zs = eqAs ys zs := by
   intro xs
   induction xs with
   | nil =>
    intro ys zs _ _ _ h
    cases ys with
    | nil => rfl
    | cons y ys => simp [eqAs] at h
   | cons x xs ih2 =>
    intro ys zs p1 p2 p3 h
    cases ys with
    | nil => simp [eqAs] at h
    | cons y ys =>
     simp only [eqAs, Bool.and_eq_true] at h
     rw [List.all_cons, Bool.and_eq_true] at p1 p2
     cases zs with
     | nil => simp [eqAs]
     | cons z zs =>
      rw [List.all_cons, Bool.and_eq_true] at p3
      simp only [eqAs]
      rw [ih p1.1 p2.1 p3.1 h.1, ih2 p1.2 p2.2 p3.2 h.2]
  cases a with
  | tup xs =>
   obtain ⟨ys, rfl, h⟩ := eqA_tup h
   cases x with
   | tup zs => simp only [eqA]; exact lists pa pb px h
   | _ => simp [eqA]
  | lst xs =>
   obtain ⟨ys, rfl, h⟩ := eqA_lst h
   cases x with
   | lst zs => simp only [eqA]; exact lists pa pb px h
   | _ => simp [eqA]
  | dic ks xs => cases pa
  | _ => exact fc rfl h
section
variable {X : Cx}
theorem relV_inj {v v' : V} {u : Value} (h : RelV v u) (h' : RelV v' u) : v = v' := by
 cases v <;> cases v' <;> simp only [RelV] at h h' <;> first | rfl | (subst h; cases h'; done) | (subst h; cases h'; rfl) | (obtain ⟨t, rfl⟩ := h; obtain ⟨t', e⟩ := h'; cases e; rfl) | (obtain ⟨t, rfl⟩ := h; cases h'; done) | (obtain ⟨t, rfl⟩ := h; obtain ⟨t', e⟩ := h'; cases e; done) | (obtain ⟨t, rfl⟩ := h'; cases h; done)
noncomputable def inA (x : D) (ds : List D) : Bool := ds.any fun d => eqA d x
open Classical in
noncomputable def firstD : List Value -> List D -> Value -> D
 | u :: us, d :: ds, w => if u = w then d else firstD us ds w
 | _, _, _ => .non
theorem firstD_spec {K : PySem.W.Frag} {H : Hp} : ∀ {ds : List D} {vs : List V} {us : List Value}, RepL K H ds vs -> Vals vs us -> ∀ w ∈ us, ∃ v, firstD us ds w ∈ ds /\ Rep K H (firstD us ds w) v /\ RelV v w
 | [], _, _, r, v => fun w hw => by simp only [RepL] at r; subst r; cases v; cases hw
 | d :: ds, _, _, r, v => fun w hw => by
  simp only [RepL] at r
  obtain ⟨v0, vr, rfl, r0, rl⟩ := r
  cases v with
  | cons rv rvs =>
   rename_i u us
   unfold firstD
   split
   ·rename_i e
    subst e
    exact ⟨v0, List.mem_cons_self, r0, rv⟩
   ·rename_i hne
    rcases List.mem_cons.mp hw with rfl | hw
    ·exact absurd rfl hne
    ·obtain ⟨v, h1, h2, h3⟩ := firstD_spec rl rvs w hw
     exact ⟨v, List.mem_cons_of_mem _ h1, h2, h3⟩
theorem any_first {pins : List (Addr × Obj)} {σ : St} {H : Hp} {s : Shared} (I : Inv X pins σ H s) {x : D} (px : plainN 8 x = true) {ds : List D} {vs : List V} {us : List Value} (pd : ds.all (plainN 8) = true) (r : RepL X.K H ds vs) (v : Vals vs us) :
  us.any (fun w => eqA (firstD us ds w) x) = inA x ds := by
 have key : ∀ (i : Nat) (d : D) (w : Value), ds[i]? = some d -> us[i]? = some w -> eqA (firstD us ds w) x = eqA d x := fun i d w ed ew => by
  obtain ⟨v1, h1, h2, h3⟩ := firstD_spec r v w (List.mem_of_getElem? ew)
  obtain ⟨v2, g1, g2⟩ := r.get ed
  obtain ⟨u2, k1, k2⟩ := v.get g1
  rw [ew] at k1
  cases k1
  have := relV_inj h3 k2
  subst this
  have p1 := List.all_eq_true.mp pd _ h1
  have p2 := List.all_eq_true.mp pd _ (List.mem_of_getElem? ed)
  exact eqA_congr 8 p1 p2 px (eqA_same I 8 p1 p2 h2 g2)
 have hl : ds.length = us.length := r.length.trans v.length
 unfold inA
 rw [Bool.eq_iff_iff, List.any_eq_true, List.any_eq_true]
 constructor
 ·rintro ⟨w, hw, e⟩
  obtain ⟨i, hi⟩ := List.mem_iff_getElem?.mp hw
  have hlt := (List.getElem?_eq_some_iff.mp hi).1
  have hd : ds[i]? = some ds[i] := List.getElem?_eq_getElem (by omega)
  exact ⟨ds[i], List.getElem_mem _, by rw [<- key i _ w hd hi]; exact e⟩
 ·rintro ⟨d, hd, e⟩
  obtain ⟨i, hi⟩ := List.mem_iff_getElem?.mp hd
  have hlt := (List.getElem?_eq_some_iff.mp hi).1
  have hw : us[i]? = some us[i] := List.getElem?_eq_getElem (by omega)
  exact ⟨us[i], List.getElem_mem _, by rw [key i d _ hi hw]; exact e⟩
def rInA (K : PySem.W.Frag) (neg : Bool) : R2 := fun v u H Q => ∃ x ds, Rep K H x v /\ (Rep K H (.lst ds) u \/ Rep K H (.tup ds) u) /\ plainN 8 x = true /\ ds.all (plainN 8) = true /\ Q (.bl (if neg then !inA x ds else inA x ds)) H
theorem op_inA (hu : X.A.units + 20 < cLine) : OpR X (compareOp .In) (rInA X.K false) := by
 intro pins s σ H y z v u Q I ry rz h
 obtain ⟨x, ds, r1, r2, p1, p2, q⟩ := h
 rcases r2 with r2 | r2
 ·simp only [Rep] at r2
  obtain ⟨b, us, rfl, h3, h4⟩ := r2
  cases rz
  obtain ⟨its, rv, pl, hz⟩ := I.list h3
  refine SeqAt.in_listAt (fun w => eqA (firstD its ds w) x) pl.isList (fun w hw => ?_) ⟨.bl _, H, I, rfl, ?_⟩
  ·obtain ⟨v1, g1, g2, g3⟩ := firstD_spec h4 rv w (by simpa using hw)
   exact eqAt_A I 8 (List.all_eq_true.mp p2 _ g1) p1 g2 r1 g3 ry (by rw [in1_units]; omega)
  ·rw [show its.toArray.any (fun w => eqA (firstD its ds w) x) = its.any (fun w => eqA (firstD its ds w) x) by simp, any_first I p1 p2 h4 rv]
   exact q
 ·simp only [Rep] at r2
  obtain ⟨b, us, rfl, h3, h4⟩ := r2
  cases rz
  obtain ⟨its, rv, pl, hz⟩ := I.tuple h3
  refine SeqAt.in_tupleAt (fun w => eqA (firstD its ds w) x) pl (fun w hw => ?_) ⟨.bl _, H, I, rfl, ?_⟩
  ·obtain ⟨v1, g1, g2, g3⟩ := firstD_spec h4 rv w (by simpa using hw)
   exact eqAt_A I 8 (List.all_eq_true.mp p2 _ g1) p1 g2 r1 g3 ry (by rw [in1_units]; omega)
  ·rw [show its.toArray.any (fun w => eqA (firstD its ds w) x) = its.any (fun w => eqA (firstD its ds w) x) by simp, any_first I p1 p2 h4 rv]
   exact q
theorem op_notinA (hu : X.A.units + 20 < cLine) : OpR X (compareOp .NotIn) (rInA X.K true) := by
 intro pins s σ H y z v u Q I ry rz h
 obtain ⟨x, ds, r1, r2, p1, p2, q⟩ := h
 rcases r2 with r2 | r2
 ·simp only [Rep] at r2
  obtain ⟨b, us, rfl, h3, h4⟩ := r2
  cases rz
  obtain ⟨its, rv, pl, hz⟩ := I.list h3
  refine SeqAt.notIn_listAt (fun w => eqA (firstD its ds w) x) pl.isList (fun w hw => ?_) ⟨.bl _, H, I, rfl, ?_⟩
  ·obtain ⟨v1, g1, g2, g3⟩ := firstD_spec h4 rv w (by simpa using hw)
   exact eqAt_A I 8 (List.all_eq_true.mp p2 _ g1) p1 g2 r1 g3 ry (by rw [in1_units]; omega)
  ·rw [show its.toArray.any (fun w => eqA (firstD its ds w) x) = its.any (fun w => eqA (firstD its ds w) x) by simp, any_first I p1 p2 h4 rv]
   exact q
 ·simp only [Rep] at r2
  obtain ⟨b, us, rfl, h3, h4⟩ := r2
  cases rz
  obtain ⟨its, rv, pl, hz⟩ := I.tuple h3
  refine SeqAt.notIn_tupleAt (fun w => eqA (firstD its ds w) x) pl (fun w hw => ?_) ⟨.bl _, H, I, rfl, ?_⟩
  ·obtain ⟨v1, g1, g2, g3⟩ := firstD_spec h4 rv w (by simpa using hw)
   exact eqAt_A I 8 (List.all_eq_true.mp p2 _ g1) p1 g2 r1 g3 ry (by rw [in1_units]; omega)
  ·rw [show its.toArray.any (fun w => eqA (firstD its ds w) x) = its.any (fun w => eqA (firstD its ds w) x) by simp, any_first I p1 p2 h4 rv]
   exact q
noncomputable def inAD (neg : Bool) : D -> D -> Option D
 | x, .lst ds => if plainN 8 x = true /\ ds.all (plainN 8) = true then some (.bl (if neg then !inA x ds else inA x ds)) else none
 | x, .tup ds => if plainN 8 x = true /\ ds.all (plainN 8) = true then some (.bl (if neg then !inA x ds else inA x ds)) else none
 | _, _ => none
theorem od_inA' {f : Value -> Value -> Sem Value} {neg : Bool} (h : OpR X f (rInA X.K neg)) : OpD X f (inAD neg) := by
 refine ⟨_, h, fun G H x y v u d Q sG rx ry e k => ?_⟩
 unfold inAD at e
 split at e
 ·split at e
  ·rename_i hp
   cases e
   exact ⟨x, _, rx.all sG, .inl (ry.all sG), hp.1, hp.2, k _ G H (Grow.refl sG) (by simp [Rep])⟩
  ·cases e
 ·split at e
  ·rename_i hp
   cases e
   exact ⟨x, _, rx.all sG, .inr (ry.all sG), hp.1, hp.2, k _ G H (Grow.refl sG) (by simp [Rep])⟩
  ·cases e
 ·cases e
noncomputable def inE (neg : Bool) (x y : D) : Option D := (inAD neg x y).or ((inD neg x y).or (inDc neg x y))
theorem od_inE (hu : X.A.units + 20 < cLine) : OpD X (compareOp .In) (inE false) := (od_inA' (op_inA hu)).or (od_inAll hu)
theorem od_notinE (hu : X.A.units + 20 < cLine) : OpD X (compareOp .NotIn) (inE true) := (od_inA' (op_notinA hu)).or (od_notinAll hu)
end
open PySem.AutoSeq1 (wpAny_loadPart')
open PySem.MeetsSeq PySem.MeetsSeq2 PySem.MeetsSeq3 PySem.SeqAt
def EqP (pr : Program) (w : World) (A : Around) (s : Shared) (u v : Value) (c : Bool) : Prop := ∀ (E : Value -> Shared -> Prop) (Q : Bool -> Shared -> Prop), Q c s -> wpAny (model pr w) A (eqBool u v) Q E s
noncomputable abbrev lstObj (d : Option Addr) (xs : Array Value) (n : Nat) (sl : Array (Option Value)) : Obj := { cls := .type "list", dict := d, data := .seq xs n, slots := sl }
theorem ne_loopP {pr : Program} {w : World} (p q : Addr) (xs ys : Array Value) (n m : Nat) (d1 d2 : Option Addr) (s1 s2 : Array (Option Value)) (hz : xs.size = ys.size) (e : Nat -> Bool) (k : Nat) :
  ∀ i : Nat, xs.size - i = k -> ∀ (A : Around) (R : Result -> Shared -> Prop) (s : Shared), s.heap.get? p = some (lstObj d1 xs n s1) -> s.heap.get? q = some (lstObj d2 ys m s2) ->
   (∀ j (h1 : j < xs.size) (h2 : j < ys.size), EqP pr w A.in1 s xs[j] ys[j] (e j)) -> R (.ok (.ret (.bool (!((List.range xs.size).drop i).all e)))) s ->
   wpAny (model pr w) A.in1 (Builtin.«list.__eq__.loop» ⟨[.ref p, .ref q, rawInt i, rawInt 3], []⟩)
    (fun fin s' => match fin with | .done f => R (.ok f) s' | .again c' => c'.quiet = true /\ codeAny (model pr w) A c' R s') (fun e s' => R (.error e) s') s := by
 induction k with
 | zero =>
  intro i hk A R s hp hq he h
  obtain ⟨hh, g, d, tk, os⟩ := s
  wp_walk using wpAny_loadPart' hp, wpAny_loadPart' hq
  have z1 : xs[((i : Nat) : Int).toNat]? = none := by simp; omega
  have z2 : ys[((i : Nat) : Int).toNat]? = none := by simp; omega
  have zd : (List.range xs.size).drop i = [] := by simp; omega
  rw [zd] at h
  rw [z1, z2]
  wp_walk using wpAny_loadPart' hp, wpAny_loadPart' hq
  show R (.ok (.ret (.bool (xs.size != ys.size)))) _
  rw [hz]
  simpa using h
 | succ k ih =>
  intro i hk A R s hp hq he h
  obtain ⟨hh, g, d, tk, os⟩ := s
  wp_walk using wpAny_loadPart' hp, wpAny_loadPart' hq
  have l1 : i < xs.size := by omega
  have l2 : i < ys.size := by omega
  have z1 : xs[((i : Nat) : Int).toNat]? = some xs[i] := by simp [l1]
  have z2 : ys[((i : Nat) : Int).toNat]? = some ys[i] := by simp [l2]
  have zd : (List.range xs.size).drop i = i :: (List.range xs.size).drop (i + 1) := by simp [List.drop_eq_getElem_cons, l1]
  have zc : ((i : Int) + 1) = ((i + 1 : Nat) : Int) := by push_cast; rfl
  rw [zd, List.all_cons] at h
  rw [z1, z2]
  refine wpAny_bind (he i l1 l2 _ _ ?_)
  cases ei : e i with
  | true =>
   rw [ei] at h
   wp_walk
   rw [zc]
   exact ⟨plainId_quiet plain_eq_loop _, codeAny_builtin entry_eq_loop (by rw [Around.under_plainId plain_eq_loop _]; exact ih (i + 1) (by omega) A R _ hp hq he (by simpa using h))⟩
  | false =>
   rw [ei] at h
   wp_walk using wpAny_loadPart' hp, wpAny_loadPart' hq
   rw [z1, z2]
   wp_walk
   simpa using h
theorem ne_listP {pr : Program} {w : World} {A : Around} {E : Value -> Shared -> Prop} {s : Shared} {p q : Addr} {xs ys : Array Value} {e : Nat -> Bool} {Q : Value -> Shared -> Prop} (hl : s.heap.IsList p xs) (hb : s.heap.IsList q ys) (hz : xs.size = ys.size) (hu : A.units < cLine)
  (he : ∀ j (h1 : j < xs.size) (h2 : j < ys.size), EqP pr w A.in1 s xs[j] ys[j] (e j)) (h : Q (.bool (!(List.range xs.size).all e)) s) : wpAny (model pr w) A (compareOp .NotEq (.ref p) (.ref q)) Q E s := by
 obtain ⟨⟨c1, d1, dt1, s1⟩, ho, hc, n, hd⟩ := id hl
 obtain ⟨⟨c2, d2, dt2, s2⟩, ho2, hc2, m, hd2⟩ := id hb
 simp only at hc hd hc2 hd2
 subst hc hd hc2 hd2
 refine wpAny_richCompare_same_room (op := .NotEq) ⟨_, ho, rfl⟩ ⟨_, ho2, rfl⟩ PySem.F.slot_list_ne (wpAny_call (codeAny_call_builtin PySem.F.slot_list_ne.plain PySem.F.entry_list_ne (PySem.F.slot_list_ne.check _ _ _ _ _ _ _ _ ⟨_, ho, rfl⟩ (PySem.F.args_list_ne_2 _ _) ?_))) hu
 obtain ⟨hh, g, d, tk, os⟩ := s
 have f3 := PySem.AutoSeq1.sub_list_list
 have hne : ¬ (xs.size != ys.size) = true := by simp [hz]
 wp_walk using wpAny_loadPart' ho, wpAny_loadPart' ho2
 exact ⟨plainId_quiet plain_eq_loop _, codeAny_builtin entry_eq_loop (by rw [Around.under_plainId plain_eq_loop _]; exact ne_loopP p q xs ys n m d1 d2 s1 s2 hz e _ 0 rfl A (PySem.wants (fun v s' => v ≠ .notImplemented /\ Q v s') E) _ ho ho2 he (show Value.bool (!((List.range xs.size).drop 0).all e) ≠ Value.notImplemented /\ Q (.bool (!((List.range xs.size).drop 0).all e)) _ from ⟨(fun z => nomatch z), by simpa using h⟩))⟩
noncomputable def itemOk : D -> D -> Bool
 | .dic _ xs, .dic _ ys => xs.all (plainN 8) && ys.all (plainN 8)
 | x, y => plainN 8 x && plainN 8 y
noncomputable def eqI : D -> D -> Bool
 | .dic ks xs, .dic ls ys => eqDic ks xs ls ys
 | x, y => eqA x y
noncomputable def itemsOk : List D -> List D -> Bool
 | x :: xs, y :: ys => itemOk x y && itemsOk xs ys
 | [], [] => true
 | _, _ => false
noncomputable def eqIs : List D -> List D -> Bool
 | x :: xs, y :: ys => eqI x y && eqIs xs ys
 | [], [] => true
 | _, _ => false
theorem itemsOk_len : ∀ {xs ys : List D}, itemsOk xs ys = true -> xs.length = ys.length
 | [], [], _ => rfl
 | x :: xs, y :: ys, h => by
  simp only [itemsOk, Bool.and_eq_true] at h
  simp [itemsOk_len h.2]
 | [], _ :: _, h => by cases h
 | _ :: _, [], h => by cases h
theorem itemsOk_get : ∀ {xs ys : List D} {j : Nat} {x y : D}, itemsOk xs ys = true -> xs[j]? = some x -> ys[j]? = some y -> itemOk x y = true
 | [], _, j, x, y, _, e, _ => by simp at e
 | _ :: _, [], j, x, y, h, _, _ => by cases h
 | a :: xs, b :: ys, j, x, y, h, e1, e2 => by
  simp only [itemsOk, Bool.and_eq_true] at h
  cases j with
  | zero => simp at e1 e2; subst e1 e2; exact h.1
  | succ j => exact itemsOk_get h.2 (by simpa using e1) (by simpa using e2)
theorem eqIs_all : ∀ {xs ys : List D}, itemsOk xs ys = true -> eqIs xs ys = (List.range xs.length).all fun j => eqI (xs.getD j .non) (ys.getD j .non)
 | [], [], _ => rfl
 | x :: xs, y :: ys, h => by
  simp only [itemsOk, Bool.and_eq_true] at h
  simp only [eqIs]
  rw [eqIs_all h.2, List.length_cons, List.range_succ_eq_map, List.all_cons, List.all_map]
  rfl
 | [], _ :: _, h => by cases h
 | _ :: _, [], h => by cases h
theorem rd_inj {H : Hp} {a : Addr} {k1 k2 : List (Key × V)} (h1 : Rd H a (.dK k1)) (h2 : Rd H a (.dK k2)) : k1 = k2 := by
 rcases h1 with h1 | ⟨o1, h1⟩
 ·rcases h2 with h2 | ⟨o2, h2⟩
  ·rw [h1] at h2; cases h2; rfl
  ·rw [h1] at h2; cases h2
 ·rcases h2 with h2 | ⟨o2, h2⟩
  ·rw [h1] at h2; cases h2
  ·rw [h1] at h2; cases h2; rfl
section
variable {X : Cx} {pins : List (Addr × Obj)} {σ : St} {H : Hp} {s : Shared}
theorem zip_inj {α β : Type} : ∀ {as as' : List α} {bs bs' : List β}, as.length = bs.length -> as'.length = bs'.length -> as.zip bs = as'.zip bs' -> as = as' /\ bs = bs'
 | [], [], [], [], _, _, _ => ⟨rfl, rfl⟩
 | [], a :: as', [], b :: bs', _, _, e => by simp at e
 | a :: as, [], b :: bs, [], _, _, e => by simp at e
 | a :: as, a' :: as', b :: bs, b' :: bs', h1, h2, e => by
  simp only [List.zip_cons_cons, List.cons.injEq, Prod.mk.injEq] at e
  obtain ⟨r1, r2⟩ := zip_inj (by simpa using h1) (by simpa using h2) e.2
  exact ⟨by rw [e.1.1, r1], by rw [e.1.2, r2]⟩
theorem dic_same (I : Inv X pins σ H s) {ks ls : List Key} {xs ys : List D} {v : V} (p1 : xs.all (plainN 8) = true) (p2 : ys.all (plainN 8) = true) (r1 : Rep X.K H (.dic ks xs) v) (r2 : Rep X.K H (.dic ls ys) v) : eqDic ks xs ls ys = true := by
 simp only [Rep] at r1 r2
 obtain ⟨a, vs, rfl, h1, l1, n1, q1⟩ := r1
 obtain ⟨b, us, e, h2, l2, n2, q2⟩ := r2
 cases e
 obtain ⟨rfl, rfl⟩ := zip_inj (l1.trans q1.length) (l2.trans q2.length) (rd_inj h1 h2)
 unfold eqDic
 rw [Bool.and_eq_true, List.all_eq_true]
 refine ⟨by rw [q1.length, q2.length]; simp, fun kv hkv => ?_⟩
 have key : ∀ {ks : List Key} {xs ys : List D} {vs : List V}, ks.Nodup -> RepL X.K H xs vs -> RepL X.K H ys vs -> xs.all (plainN 8) = true -> ys.all (plainN 8) = true -> ∀ kv ∈ ks.zip xs, ∃ y, valD ks ys kv.1 = some y /\ eqA kv.2 y = true := by
  intro ks
  induction ks with
  | nil => intro xs ys vs _ _ _ _ _ kv h; simp at h
  | cons k0 ks ih =>
   intro xs ys vs hn a1 a2 b1 b2 kv h
   cases xs with
   | nil => simp at h
   | cons x xs =>
    simp only [RepL] at a1
    obtain ⟨v0, vr, rfl, a3, a4⟩ := a1
    cases ys with
    | nil => simp only [RepL] at a2; cases a2
    | cons y ys =>
     simp only [RepL] at a2
     obtain ⟨v1, vr', e, a5, a6⟩ := a2
     cases e
     rw [List.all_cons, Bool.and_eq_true] at b1 b2
     have hn' := List.nodup_cons.mp hn
     rw [List.zip_cons_cons] at h
     rcases List.mem_cons.mp h with rfl | h
     ·exact ⟨y, by unfold valD; simp, eqA_same I 8 b1.1 b2.1 a3 a5⟩
     ·obtain ⟨y', e1, e2⟩ := ih hn'.2 a4 a6 b1.2 b2.2 kv h
      have hk : kv.1 ∈ ks := (List.of_mem_zip h).1
      refine ⟨y', ?_, e2⟩
      unfold valD at e1 ⊢
      rw [List.zip_cons_cons, List.find?_cons]
      rw [show decide ((k0, y).1 = kv.1) = false from decide_eq_false fun z => hn'.1 (by rw [show k0 = kv.1 from z]; exact hk)]
      exact e1
 obtain ⟨y, e1, e2⟩ := key n1 q1 q2 p1 p2 kv hkv
 rw [e1]
 exact e2
theorem eqP_I (I : Inv X pins σ H s) {A : Around} (hu : A.units + 12 < cLine) {x y : D} {v v' : V} {u u' : Value} (ok : itemOk x y = true) (rx : Rep X.K H x v) (ry : Rep X.K H y v') (r : RelV v u) (r' : RelV v' u') : EqP X.prog X.w A s u u' (eqI x y) := by
 have plain : plainN 8 x = true -> plainN 8 y = true -> EqP X.prog X.w A s u u' (eqA x y) := fun p1 p2 E Q hq => eqAt_A I 8 p1 p2 rx ry r r' (by omega) X.prog X.w E Q hq
 cases x with
 | dic ks xs =>
  cases y with
  | dic ls ys =>
   simp only [itemOk, Bool.and_eq_true] at ok
   intro E Q hq
   have r1 := rx
   have r2 := ry
   obtain ⟨a, vs, ka, rfl, m1, d1, k1, l1, rl1, n1⟩ := dic_at I r1
   obtain ⟨b, us, kb, rfl, m2, d2, k2, l2, rl2, n2⟩ := dic_at I r2
   cases r
   cases r'
   by_cases hab : a = b
   ·subst hab
    have e1 : eqI (.dic ks xs) (.dic ls ys) = true := dic_same I ok.1 ok.2 rx ry
    rw [e1] at hq
    exact (PySem.SeqAt.EqAt.same (.ref a) : PySem.SeqAt.EqAt A s (.ref a) (.ref a) true) X.prog X.w E Q hq
   ·have hne : (Value.ref a == Value.ref b) ≠ true := fun z => hab (by have := eq_of_beq z; injection this)
    unfold eqBool
    refine wpAny_holding ?_
    refine wpAny_ite_split (fun z => absurd z hne) (fun _ => ?_)
    refine wpAny_bind (show wpAny (model X.prog X.w) A (compareOp .Eq (.ref a) (.ref b)) _ E s from ?_)
    refine PySem.W.keq_eq m1 m2 d1 d2 (by omega) (fun _ => hits_D I (by rw [in1_units]; omega) l2 rl2 ok.2 k2 l1 rl1 ok.1 k1) (wpAny_truthy_bool ?_)
    rw [n1, n2]
    exact hq
  | _ => simp [itemOk, plainN] at ok
 | _ =>
  cases y with
  | dic ls ys => simp [itemOk, plainN] at ok
  | _ => simp only [itemOk, Bool.and_eq_true] at ok; exact plain ok.1 ok.2
end
section
variable {X : Cx}
def rNeI (K : PySem.W.Frag) : R2 := fun v u H Q => ∃ xs ys, Rep K H (.lst xs) v /\ Rep K H (.lst ys) u /\ itemsOk xs ys = true /\ Q (.bl (!eqIs xs ys)) H
theorem op_neI (hu : X.A.units + 20 < cLine) : OpR X (compareOp .NotEq) (rNeI X.K) := by
 intro pins s σ H x y v u Q I rx ry h
 obtain ⟨xs, ys, r1, r2, ok, q⟩ := h
 simp only [Rep] at r1 r2
 obtain ⟨a, vs, rfl, h1, h2⟩ := r1
 obtain ⟨b, us, rfl, h3, h4⟩ := r2
 cases rx
 cases ry
 obtain ⟨its, v1, t1, _⟩ := I.list h1
 obtain ⟨its2, v2, t2, _⟩ := I.list h3
 have le := itemsOk_len ok
 have l1 : xs.length = its.length := h2.length.trans v1.length
 have l2 : ys.length = its2.length := h4.length.trans v2.length
 refine ne_listP (e := fun j => eqI (xs.getD j .non) (ys.getD j .non)) t1.isList t2.isList (by simp; omega) (by omega) (fun j z1 z2 => ?_) ?_
 ·have j1 : j < xs.length := by simp at z1; omega
  have j2 : j < ys.length := by simp at z2; omega
  have e1 : xs[j]? = some (xs.getD j .non) := by rw [List.getD_eq_getElem?_getD, List.getElem?_eq_getElem j1]; rfl
  have e2 : ys[j]? = some (ys.getD j .non) := by rw [List.getD_eq_getElem?_getD, List.getElem?_eq_getElem j2]; rfl
  obtain ⟨w1, g1, q1⟩ := h2.get e1
  obtain ⟨w2, g2, q2⟩ := h4.get e2
  obtain ⟨u1, k1, k2⟩ := v1.get g1
  obtain ⟨u2, k3, k4⟩ := v2.get g2
  have t1 : its.toArray[j] = u1 := by
   obtain ⟨_, z⟩ := List.getElem?_eq_some_iff.mp k1
   simpa using z
  have t2 : its2.toArray[j] = u2 := by
   obtain ⟨_, z⟩ := List.getElem?_eq_some_iff.mp k3
   simpa using z
  rw [t1, t2]
  exact eqP_I I (by rw [in1_units]; omega) (itemsOk_get ok e1 e2) q1 q2 k2 k4
 ·refine ⟨.bl _, H, I, rfl, ?_⟩
  rw [show its.toArray.size = xs.length by simp; omega, <- eqIs_all ok]
  exact q
noncomputable def neI : D -> D -> Option D
 | .lst xs, .lst ys => if itemsOk xs ys = true then some (.bl (!eqIs xs ys)) else none
 | _, _ => none
theorem od_neI (hu : X.A.units + 20 < cLine) : OpD X (compareOp .NotEq) neI := by
 refine ⟨_, op_neI hu, fun G H x y v u d Q sG rx ry e k => ?_⟩
 unfold neI at e
 split at e
 ·split at e
  ·rename_i ok
   cases e
   exact ⟨_, _, rx.all sG, ry.all sG, ok, k _ G H (Grow.refl sG) (by simp [Rep])⟩
  ·cases e
 ·cases e
noncomputable def neE (x y : D) : Option D := (eqO true x y).or (neI x y)
theorem od_neE (hu : X.A.units + 20 < cLine) : OpD X (compareOp .NotEq) neE := (od_neO hu).or (od_neI hu)
end
theorem bools_map {α : Type} (p : α -> Bool) : ∀ (xs : List α), bools (xs.map fun x => D.bl (p x)) = some (xs.map p)
 | [] => rfl
 | x :: xs => by
  show (bools (xs.map fun x => D.bl (p x))).map (p x :: ·) = _
  rw [bools_map p xs]
  rfl
def Op {α : Type} (o : Option α) (R : α -> Prop) : Prop := ∃ d, o = some d /\ R d
def So (o : Option Out) (N : En -> Prop) (T : Rs -> En -> Prop) : Prop := ∃ u, o = some u /\ match u with | .nx δ => N δ | .rt r δ => T r δ | _ => False
theorem op_some {α : Type} {d : α} {R : α -> Prop} (k : R d) : Op (some d) R := ⟨d, rfl, k⟩
theorem Op.eq {α : Type} {o : Option α} {d : α} (h : Op o fun x => x = d) : o = some d := by obtain ⟨x, e, rfl⟩ := h; exact e
theorem op_of {α : Type} {o : Option α} {d : α} {R : α -> Prop} (e : o = some d) (h : R d) : Op o R := ⟨d, e, h⟩
theorem So.mono {o : Option Out} {N N' : En -> Prop} {T T' : Rs -> En -> Prop} (h : So o N T) (k : ∀ δ, N δ -> N' δ) (k' : ∀ r δ, T r δ -> T' r δ) : So o N' T' := by
 obtain ⟨u, e, h⟩ := h
 refine ⟨u, e, ?_⟩
 cases u with
 | nx δ => exact k δ h
 | rt r δ => exact k' r δ h
 | bk δ => exact h
 | ct δ => exact h
 | ex c δ => exact h
def IsBl (R : Bool -> Prop) : D -> Prop | .bl b => R b | _ => False
def IsIn (R : Int -> Prop) : D -> Prop | .int b => R b | _ => False
def IsSq (R : List D -> Prop) : D -> Prop | .lst xs => R xs | .tup xs => R xs | .str z => R (signs z) | _ => False
def PubR (R : D -> Prop) (r : Rs) : Prop := R r.d
def SetK (N : En -> Prop) (δ : En) (i : Nat) (x : Sl) : Prop := N (δ.set i (some x))
def SetR (N : En -> Prop) (δ : En) (i : Nat) (r : Rs) : Prop := N (δ.set i (some r.sl))
theorem pub_sh {R : D -> Prop} {d : D} (k : R d) : PubR R (.sh d) := k
theorem pub_l {R : D -> Prop} {xs : List D} (k : R (.lst xs)) : PubR R (.fr (.lst xs)) := k
theorem setK {N : En -> Prop} {δ δ' : En} {i : Nat} {x : Sl} (e : δ.set i (some x) = δ') (k : N δ') : SetK N δ i x := by unfold SetK; rw [e]; exact k
theorem setR_fr {N : En -> Prop} {δ : En} {i : Nat} {m : Mo} (k : SetK N δ i (.pv m none)) : SetR N δ i (.fr m) := k
theorem ite_t {A B : Prop} (h : A) : if true = true then A else B := h
theorem ite_f {A B : Prop} (h : B) : if false = true then A else B := h
theorem ite_rt {b : Bool} {A B : Prop} (e : b = true) (h : A) : if b = true then A else B := by rw [if_pos e]; exact h
theorem ite_rf {b : Bool} {A B : Prop} (e : b = false) (h : B) : if b = true then A else B := by rw [if_neg (by rw [e]; exact Bool.false_ne_true)]; exact h
theorem isBl_k {R : Bool -> Prop} {b : Bool} (k : R b) : IsBl R (.bl b) := k
theorem isIn_k {R : Int -> Prop} {b : Int} (k : R b) : IsIn R (.int b) := k
theorem isSq_l {R : List D -> Prop} {b : List D} (k : R b) : IsSq R (.lst b) := k
theorem isSq_t {R : List D -> Prop} {b : List D} (k : R b) : IsSq R (.tup b) := k
section
variable {f g h : FE} {fr : FR} {F F' : FS} {c c' : En -> Option Bool} {δ : En} {i j : Nat} {ga : En -> Option (List D)} {R : D -> Prop} {Rr : Rs -> Prop} {N : En -> Prop} {T : Rs -> En -> Prop}
theorem op_f2 {o : D -> D -> Option D} (k : Op (f δ) fun x => Op (g δ) fun y => Op (o x y) R) : Op (f2 o f g δ) R := by
 obtain ⟨x, e1, y, e2, z, e3, k⟩ := k
 exact ⟨z, by unfold f2; rw [e1, Option.bind_some, e2, Option.bind_some, e3], k⟩
theorem op_f1 {o : D -> Option D} (k : Op (f δ) fun x => Op (o x) R) : Op (f1 o f δ) R := by
 obtain ⟨x, e1, z, e3, k⟩ := k
 exact ⟨z, by unfold f1; rw [e1, Option.bind_some, e3], k⟩
theorem op_varB {x : Sl} (e : δ[i]? = some (some x)) (k : R x.d) (h : x.ok = true := by rfl) : Op (fVarB i δ) R := ⟨x.d, by unfold fVarB; rw [e]; exact if_pos h, k⟩
theorem op_var {x : D} (e : δ[i]? = some (some (.sh x))) (k : R x) : Op (fVar i δ) R := ⟨x, by unfold fVar; rw [e], k⟩
theorem op_varBs {d : D} (e : δ[i]? = some (some (.sh d))) (k : R d) : Op (fVarB i δ) R := op_varB e k
theorem op_C {d : D} (k : R d) : Op (fC d δ) R := ⟨d, rfl, k⟩
theorem op_nil {R : List D -> Prop} (k : R []) : Op (fNil δ) R := ⟨_, rfl, k⟩
theorem op_cons {R : List D -> Prop} (k : Op (f δ) fun d => Op (ga δ) fun ds => R (d :: ds)) : Op (fCons f ga δ) R := by
 obtain ⟨x, e1, y, e2, k⟩ := k
 exact ⟨_, by unfold fCons; rw [e1, Option.bind_some, e2, Option.bind_some], k⟩
theorem op_callR {M : List D -> Option Rs} (k : Op (ga δ) fun ds => Op (M ds) Rr) : Op (fCallR M ga δ) Rr := by
 obtain ⟨x, e1, y, e2, k⟩ := k
 exact ⟨_, by unfold fCallR; rw [e1, Option.bind_some, e2], k⟩
theorem op_callB {M : List D -> Option D} (k : Op (ga δ) fun ds => Op (M ds) R) : Op (fCallB M ga δ) R := by
 obtain ⟨x, e1, y, e2, k⟩ := k
 exact ⟨_, by unfold fCallB; rw [e1, Option.bind_some, e2], k⟩
theorem op_pub (k : Op (fr δ) (PubR R)) : Op (fPub fr δ) R := by
 obtain ⟨x, e1, k⟩ := k
 exact ⟨_, by unfold fPub; rw [e1]; rfl, k⟩
theorem op_sh (k : Op (f δ) fun d => Rr (.sh d)) : Op (fSh f δ) Rr := by
 obtain ⟨x, e1, k⟩ := k
 exact ⟨_, by unfold fSh; rw [e1]; rfl, k⟩
theorem op_fB {R : Bool -> Prop} (k : Op (f δ) (IsBl R)) : Op (fB f δ) R := by
 obtain ⟨x, e1, k⟩ := k
 cases x with
 | bl b => exact ⟨b, by unfold fB; rw [e1], k⟩
 | _ => exact k.elim
theorem op_fAnd (k : Op (f δ) (IsBl fun x => if x = true then Op (g δ) R else R (.bl false))) : Op (fAnd f g δ) R := by
 obtain ⟨x, e1, k⟩ := k
 cases x with
 | bl b =>
  cases b with
  | true => obtain ⟨y, e2, k⟩ := (show Op (g δ) R from k); exact ⟨y, by unfold fAnd; rw [e1]; exact e2, k⟩
  | false => exact ⟨_, by unfold fAnd; rw [e1], k⟩
 | _ => exact k.elim
theorem op_fIf (k : Op (c δ) fun x => if x = true then Op (f δ) R else Op (g δ) R) : Op (fIf c f g δ) R := by
 obtain ⟨x, e1, k⟩ := k
 cases x with
 | true => obtain ⟨y, e2, k⟩ := (show Op (f δ) R from k); exact ⟨y, by unfold fIf; rw [e1, Option.bind_some, if_pos rfl, e2], k⟩
 | false => obtain ⟨y, e2, k⟩ := (show Op (g δ) R from k); exact ⟨y, by unfold fIf; rw [e1, Option.bind_some, if_neg Bool.false_ne_true, e2], k⟩
theorem op_tup (k : Op (ga δ) fun ds => ds.length <= sizeLine /\ R (.tup ds)) : Op (fTup ga δ) R := by
 obtain ⟨x, e1, k0, k⟩ := k
 exact ⟨_, by unfold fTup; rw [e1, Option.bind_some, if_pos k0], k⟩
theorem op_lstR (k : Op (ga δ) fun ds => ds.length <= sizeLine /\ Rr (.fr (.lst ds))) : Op (fLstR ga δ) Rr := by
 obtain ⟨x, e1, k0, k⟩ := k
 exact ⟨_, by unfold fLstR; rw [e1, Option.bind_some, if_pos k0], k⟩
theorem op_is {s : String} (k : Op (f δ) fun d => R (.bl (isTy s d))) : Op (fIs s f δ) R := by
 obtain ⟨x, e1, k⟩ := k
 exact ⟨_, by unfold fIs; rw [e1]; rfl, k⟩
theorem op_oInt {R : Option Int -> Prop} (k : Op (f δ) (IsIn fun i => R (some i))) : Op (oInt f δ) R := by
 obtain ⟨x, e1, k⟩ := k
 cases x with
 | int b => exact ⟨_, by unfold oInt; rw [e1], k⟩
 | _ => exact k.elim
theorem op_sl {l h : En -> Option (Option Int)} (k : Op (f δ) fun x => Op (l δ) fun lo => Op (h δ) fun hi => Op (slA x lo hi) Rr) : Op (fSlA f l h δ) Rr := by
 obtain ⟨x, e1, y, e2, z, e3, w, e4, k⟩ := k
 exact ⟨w, by unfold fSlA; rw [e1, Option.bind_some, e2, Option.bind_some, e3, Option.bind_some, e4], k⟩
theorem op_oSeq {R : List D -> Prop} (k : Op (f δ) (IsSq R)) : Op (oSeq f δ) R := by
 obtain ⟨x, e1, k⟩ := k
 cases x with
 | lst xs => exact ⟨_, by unfold oSeq; rw [e1], k⟩
 | tup xs => exact ⟨_, by unfold oSeq; rw [e1], k⟩
 | str xs => exact ⟨_, by unfold oSeq; rw [e1], k⟩
 | _ => exact k.elim
theorem op_comp {nl : Nat} {js : List Nat} {it : En -> Option (List D)} {Rr : Rs -> Prop} (k : Op (it δ) fun xs => xs.length <= sizeLine /\ Op (compL (fun x => c ((csD nl js δ).set i (some (.sh x)))) (fun x => g ((csD nl js δ).set i (some (.sh x)))) xs) fun ys => Rr (.fr (.lst ys))) : Op (fComp nl js i it c g δ) Rr := by
 obtain ⟨x, e1, k0, y, e2, k⟩ := k
 exact ⟨_, by unfold fComp; rw [e1, Option.bind_some, if_pos k0, e2]; rfl, k⟩
theorem op_compI {α : Type} {k : α -> D} {p : α -> Bool} {hh : α -> D} {c : D -> Option Bool} {g : D -> Option D} {xs : List α} {R : List D -> Prop} (h0 : ∀ x ∈ xs, Op (c (k x)) fun b => b = p x) (h1 : ∀ x ∈ xs, p x = true -> Op (g (k x)) fun d => d = hh x) (q : R ((xs.filter p).map hh)) : Op (compL c g (xs.map k)) R := by
 refine ⟨_, ?_, q⟩
 clear q
 induction xs with
 | nil => rfl
 | cons x xs ih =>
  rw [List.map_cons]
  unfold compL
  rw [(h0 x List.mem_cons_self).eq, Option.bind_some, ih (fun y hy => h0 y (List.mem_cons_of_mem _ hy)) fun y hy => h1 y (List.mem_cons_of_mem _ hy)]
  cases e : p x with
  | true => rw [if_pos rfl, (h1 x List.mem_cons_self e).eq, Option.bind_some, Option.bind_some, List.filter_cons, if_pos e]; rfl
  | false => rw [if_neg Bool.false_ne_true, List.filter_cons, if_neg (by rw [e]; exact Bool.false_ne_true)]
theorem so_seq (k : So (F δ) (fun δ' => So (F' δ') N T) T) : So (sSeq F F' δ) N T := by
 obtain ⟨u, e, k⟩ := k
 cases u with
 | nx δ' => obtain ⟨w, e2, k⟩ := k; exact ⟨w, by unfold sSeq; rw [e]; exact e2, k⟩
 | rt r δ' => exact ⟨.rt r δ', by unfold sSeq; rw [e], k⟩
 | bk δ => exact k.elim
 | ct δ => exact k.elim
 | ex c δ => exact k.elim
theorem so_mid (P : En -> Prop) {o : Option Out} (k : So o P T) (k' : ∀ δ', P δ' -> N δ') : So o N T := k.mono k' fun _ _ h => h
theorem so_if (k : Op (c δ) fun x => if x = true then So (F δ) N T else So (F' δ) N T) : So (sIf c F F' δ) N T := by
 obtain ⟨x, e1, k⟩ := k
 cases x with
 | true => obtain ⟨y, e2, k⟩ := (show So (F δ) N T from k); exact ⟨y, by unfold sIf; rw [e1]; exact e2, k⟩
 | false => obtain ⟨y, e2, k⟩ := (show So (F' δ) N T from k); exact ⟨y, by unfold sIf; rw [e1]; exact e2, k⟩
theorem so_nil (k : N δ) : So (sNil δ) N T := ⟨_, rfl, k⟩
theorem so_set (k : Op (f δ) fun d => SetK N δ i (.sh d)) : So (sSet i f δ) N T := by
 obtain ⟨x, e1, k⟩ := k
 exact ⟨_, by unfold sSet; rw [e1]; rfl, k⟩
theorem so_setR (k : Op (fr δ) fun r => SetR N δ i r) : So (sSetR i fr δ) N T := by
 obtain ⟨x, e1, k⟩ := k
 exact ⟨_, by unfold sSetR; rw [e1]; rfl, k⟩
theorem so_ret (k : Op (fr δ) fun r => T r δ) : So (sRet fr δ) N T := by
 obtain ⟨x, e1, k⟩ := k
 exact ⟨_, by unfold sRet; rw [e1]; rfl, k⟩
theorem so_for {it : En -> Option (List D)} (k : Op (it δ) fun xs => So (forL i F xs δ) N T) : So (sFor i it F δ) N T := by
 obtain ⟨x, e1, u, e2, k⟩ := k
 exact ⟨u, by unfold sFor; rw [e1]; exact e2, k⟩
theorem so_forL (I : Nat -> En -> Prop) {xs : List D} (h0 : I 0 δ) (st : ∀ k x, xs[k]? = some x -> ∀ δ, I k δ -> So (F (δ.set i (some (.sh x)))) (I (k + 1)) T) (q : ∀ δ, I xs.length δ -> N δ) : So (forL i F xs δ) N T := by
 have key : ∀ (ys : List D) (k : Nat) (δ : En), xs.drop k = ys -> k <= xs.length -> I k δ -> So (forL i F ys δ) (I xs.length) T := by
  intro ys
  induction ys with
  | nil =>
   intro k δ e hle h
   have hk : xs.length <= k := by simpa using e
   have : k = xs.length := by omega
   subst this
   exact ⟨_, rfl, h⟩
  | cons y ys ih =>
   intro k δ e hle h
   have hk : xs[k]? = some y := by
    have := congrArg (·[0]?) e
    simpa using this
   have hlt : k < xs.length := (List.getElem?_eq_some_iff.mp hk).1
   have hd : xs.drop (k + 1) = ys := by rw [<- List.drop_drop, e]; rfl
   obtain ⟨u, e1, k1⟩ := st k y hk δ h
   cases u with
   | nx δ' =>
    obtain ⟨w, e2, k2⟩ := ih (k + 1) δ' hd hlt k1
    exact ⟨w, by unfold forL; rw [e1]; exact e2, k2⟩
   | rt r δ' => exact ⟨.rt r δ', by unfold forL; rw [e1], k1⟩
   | bk δ => exact k1.elim
   | ct δ => exact k1.elim
   | ex c δ => exact k1.elim
 exact (key xs 0 δ rfl (Nat.zero_le _) h0).mono q fun _ _ h => h
theorem so_ext {ds : List D} {o : Option Addr} (e : δ[i]? = some (some (.pv (.lst ds) o))) (k : Op (fr δ) fun r => ∃ ys, r = .fr (.lst ys) /\ ds.length + ys.length <= sizeLine /\ SetK N δ i (.pv (.lst (ds ++ ys)) o)) : So (sExt i fr δ) N T := by
 obtain ⟨r, e1, ys, rfl, hl, k⟩ := k
 exact ⟨_, by unfold sExt; rw [e1, Option.bind_some, e]; dsimp only; rw [if_pos hl], k⟩
theorem o_add {i j : Int} (k : R (.int (i + j))) : Op (addD (.int i) (.int j)) R := ⟨_, rfl, k⟩
theorem o_mul {i j : Int} (h : CMul i j) (k : R (.int (i * j))) : Op (mulD (.int i) (.int j)) R := ⟨_, by show (if CMul i j then _ else _) = _; rw [if_pos h], k⟩
theorem o_div {i j : Int} (h : CDiv i j) (k : R (.int (i / j))) : Op (fdivD (.int i) (.int j)) R := ⟨_, by show (if CDiv i j then _ else _) = _; rw [if_pos h], k⟩
theorem o_mod {i j : Int} (h : 0 < j) (k : R (.int (i % j))) : Op (modD (.int i) (.int j)) R := ⟨_, by show (if 0 < j then _ else _) = _; rw [if_pos h], k⟩
theorem o_neg {i : Int} (k : R (.int (-i))) : Op (negD (.int i)) R := ⟨_, rfl, k⟩
theorem o_gt {i j : Int} (k : R (.bl (decide (j < i)))) : Op (gtD (.int i) (.int j)) R := ⟨_, rfl, k⟩
theorem o_lenL {xs : List D} (k : R (.int xs.length)) : Op (lenD [.lst xs]) R := ⟨_, rfl, k⟩
theorem o_lenT {xs : List D} (k : R (.int xs.length)) : Op (lenD [.tup xs]) R := ⟨_, rfl, k⟩
theorem o_slT {xs : List D} {lo hi : Option Int} {Rr : Rs -> Prop} (k : Rr (.sh (.tup (cutD xs lo hi)))) : Op (slA (.tup xs) lo hi) Rr := ⟨_, rfl, k⟩
theorem o_ixL {xs : List D} {k : Nat} {x : D} (e : xs[k]? = some x) (q : R x) : Op (ixA (.lst xs) (.int k)) R := ⟨x, atI_nat e, q⟩
theorem o_ixT {xs : List D} {k : Nat} {x : D} (e : xs[k]? = some x) (q : R x) : Op (ixA (.tup xs) (.int k)) R := ⟨x, atI_nat e, q⟩
theorem o_ixLm {xs : List D} {i : Int} (h0 : 0 <= i) (h1 : i < xs.length) (q : ∀ x ∈ xs, R x) : Op (ixA (.lst xs) (.int i)) R := by
 obtain ⟨n, rfl⟩ : ∃ n : Nat, i = n := ⟨i.toNat, by omega⟩
 have hn : n < xs.length := by omega
 exact o_ixL (List.getElem?_eq_getElem hn) (q _ (List.getElem_mem hn))
theorem op_runE {N : List Str} {n : Nat} {fb : FS} {ds : List D} {R : Rs -> Prop} {δ : En} (hl : ds.length = n) (hs : startD N ds = δ) (k : So (fb δ) (fun _ => R (.sh .non)) fun r _ => R r) : Op (runF N n fb ds) R := by
 subst hs
 obtain ⟨u, e, k⟩ := k
 cases u with
 | nx δ => exact ⟨_, by unfold runF; rw [if_pos hl, e], k⟩
 | rt r δ' => exact ⟨_, by unfold runF; rw [if_pos hl, e], k⟩
 | bk δ => exact k.elim
 | ct δ => exact k.elim
 | ex c δ => exact k.elim
end
end L2
local macro_rules | `(tactic| walk_at "wp1") => `(tactic| first
 | (with_reducible first
  | refine L2.so_seq ?_
  | refine L2.so_set ?_
  | refine L2.so_setR ?_
  | refine L2.so_ret ?_
  | refine L2.so_nil ?_
  | refine L2.so_for ?_
  | refine L2.setR_fr ?_
  | refine L2.pub_sh ?_
  | refine L2.pub_l ?_
  | refine L2.ite_t ?_
  | refine L2.ite_f ?_
  | refine L2.isBl_k ?_
  | refine L2.isIn_k ?_
  | refine L2.isSq_l ?_
  | refine L2.isSq_t ?_
  | refine L2.op_f2 ?_
  | refine L2.op_f1 ?_
  | refine L2.op_C ?_
  | refine L2.op_nil ?_
  | refine L2.op_cons ?_
  | refine L2.op_callR ?_
  | refine L2.op_callB ?_
  | refine L2.op_pub ?_
  | refine L2.op_sh ?_
  | refine L2.op_fB ?_
  | refine L2.op_fAnd ?_
  | refine L2.op_fIf ?_
  | refine L2.op_tup ?_
  | refine L2.op_lstR ?_
  | refine L2.op_is ?_
  | refine L2.op_oInt ?_
  | refine L2.op_sl ?_
  | refine L2.op_some ?_
  | refine L2.op_oSeq ?_
  | refine L2.op_comp ?_
  | refine L2.o_add ?_
  | refine L2.o_neg ?_
  | refine L2.o_gt ?_
  | refine L2.o_lenL ?_
  | refine L2.o_lenT ?_
  | refine L2.o_slT ?_)
 | ((with_reducible refine L2.setK (δ' := ?δ2) ?h ?_); case h => dsimp only [List.set]; exact rfl)
 | ((with_reducible refine L2.ite_rt ?h ?_); case h => exact rfl)
 | ((with_reducible refine L2.ite_rf ?h ?_); case h => exact rfl)
 | ((with_reducible first | refine L2.so_ext (ds := ?ds) (o := ?o) ?h ?_ | refine L2.op_varBs (d := ?d) ?h ?_ | refine L2.op_var (x := ?x) ?h ?_); case h => exact rfl)
 | ((with_reducible first | refine L2.o_mul ?h ?_ | refine L2.o_div ?h ?_ | refine L2.o_mod ?h ?_); case h => first | decide | exact Or.inr (by decide) | exact Or.inl (by decide) | exact ⟨by decide, by decide⟩ | omega))
local macro_rules | `(tactic| walk_at "wp") => `(tactic| repeat first | walk_at "wp1" | with_reducible refine L2.so_if ?_)
local macro_rules | `(tactic| walk_at "wpn") => `(tactic| repeat walk_at "wp1")
local macro_rules | `(tactic| walk_at "wrun") => `(tactic| (refine L2.op_runE (δ := ?d) rfl ?h ?_; case h => simp only [L2.startD, List.map_cons, List.map_nil, List.length_cons, List.length_nil, List.replicate, List.cons_append, List.nil_append, Nat.reduceAdd, Nat.reduceSub]; exact rfl))
namespace L2
open PySem PySem.W PyProof.Rows
section
variable {lt : Nat -> Nat -> Bool}
noncomputable def ix (p : Array Nat) (i : Nat) : Nat := p.getD i 0
end
open PySem
open PySem.AutoSeq1 (wpAny_loadPart')
open PySem.MeetsSeq PySem.MeetsSeq2 PySem.MeetsSeq3 PySem.SeqRoads2 PySem.SeqAt
def LtRc (A : Around) (s : Shared) (y x : Value) (b : Bool) : Prop :=
 ∀ (prog : Program) (w : World) (E : Value -> Shared -> Prop) (Q : Value -> Shared -> Prop), Q (.bool b) s -> wpAny (model prog w) A (richCompare .Lt y x) Q E s
noncomputable def lexF (e t : Nat -> Bool) (fin : Bool) : List Nat -> Bool
 | [] => fin
 | j :: js => if e j = true then lexF e t fin js else t j
theorem tuple_ltAt (l b : Addr) (items items2 : Array Value) (n n2 : Nat) (dd dd2 : Option Addr) (sl sl2 : Array (Option Value)) (e t : Nat -> Bool) :
  Meets (Builtin.«tuple.__lt__» ⟨[.ref l, .ref b], []⟩)
   (fun A R s => s.heap.get? l = some { cls := .type "tuple", dict := dd, data := .seq items n, slots := sl } /\ s.heap.get? b = some { cls := .type "tuple", dict := dd2, data := .seq items2 n2, slots := sl2 } /\
    (∀ j (h1 : j < items.size) (h2 : j < items2.size), EqAt A.in1 s items[j] items2[j] (e j)) /\ (∀ j (h1 : j < items.size) (h2 : j < items2.size), (∀ m, m < j -> e m = true) -> e j = false -> LtRc A.in1 s items[j] items2[j] (t j)) /\
    R (.ok (.ret (.bool (lexF e t (decide (items.size < items2.size)) (List.range (min items.size items2.size)))))) s) :=
 .of_wp fun prog w A R s h => by
  obtain ⟨hp, g, d, tk, os⟩ := s; obtain ⟨hl, hb, he, ht, h⟩ := h
  have f2 := AutoSeq1.sub_tuple_tuple
  have hZ : (items.toList.zip items2.toList).length = min items.size items2.size := by simp
  wp_walk using wpAny_loadPart' hl, wpAny_loadPart' hb, wpAny_forIn_list _ (fun rest b s' => b.1 = none /\ s' = ⟨hp, g, d, tk, os⟩ /\ ∃ i, rest = (items.toList.zip items2.toList).drop i /\ (∀ m, m < i -> e m = true) /\
   R (.ok (.ret (.bool (lexF e t (decide (items.size < items2.size)) ((List.range (min items.size items2.size)).drop i))))) ⟨hp, g, d, tk, os⟩) _
  case turn =>
   rintro ⟨y, x⟩ rest b s' ⟨hb', rfl, i, hz, hal, hR⟩
   have hlt : i < (items.toList.zip items2.toList).length := by
    rcases Nat.lt_or_ge i (items.toList.zip items2.toList).length with h' | h'
    ·exact h'
    ·rw [List.drop_of_length_le h'] at hz; cases hz
   have hm : i < min items.size items2.size := hZ ▸ hlt
   have h1 : i < items.size := Nat.lt_of_lt_of_le hm (Nat.min_le_left _ _)
   have h2 : i < items2.size := Nat.lt_of_lt_of_le hm (Nat.min_le_right _ _)
   rw [List.drop_eq_getElem_cons hlt] at hz
   injection hz with hyx hrest
   have hy : y = items[i] := by have := congrArg Prod.fst hyx; simpa using this
   have hx : x = items2[i] := by have := congrArg Prod.snd hyx; simpa using this
   subst hy hx
   have hd : (List.range (min items.size items2.size)).drop i = i :: (List.range (min items.size items2.size)).drop (i + 1) := by simp [List.drop_eq_getElem_cons, hm]
   rw [hd] at hR
   refine wpAny_bind (he i h1 h2 prog w _ _ ?_)
   cases hy : e i with
   | true =>
    have hR : R (.ok (.ret (.bool (lexF e t (decide (items.size < items2.size)) ((List.range (min items.size items2.size)).drop (i + 1)))))) ⟨hp, g, d, tk, os⟩ := by
     simpa only [lexF, hy, if_true] using hR
    wp_walk
    exact ⟨rfl, rfl, i + 1, hrest, fun m hm' => (Nat.lt_succ_iff_lt_or_eq.mp hm').elim (hal m) fun z => z ▸ hy, hR⟩
   | false =>
    have hR : R (.ok (.ret (.bool (t i)))) ⟨hp, g, d, tk, os⟩ := by
     simpa only [lexF, hy, Bool.false_eq_true, if_false] using hR
    generalize hRC : richCompare = RC
    wp_walk
    subst hRC
    refine ht i h1 h2 hal hy prog w _ _ ?_
    wp_walk
    exact ⟨_, rfl, hR⟩
  case fin =>
   rintro ⟨b1, b2⟩ s' ⟨hb', rfl, i, hz, hal, hR⟩
   simp only at hb'
   subst hb'
   have hge : min items.size items2.size <= i := by
    rcases Nat.lt_or_ge i (items.toList.zip items2.toList).length with h' | h'
    ·rw [List.drop_eq_getElem_cons h'] at hz; cases hz
    ·exact hZ ▸ h'
   rw [List.drop_of_length_le (by simpa using hge)] at hR
   wp_walk
   exact ⟨_, rfl, by simpa [Builtin.Tuple.tupleCompareSizes, lexF] using hR⟩
  case h =>
   exact ⟨rfl, rfl, 0, rfl, fun m hm => absurd hm (Nat.not_lt_zero m), by simpa using h⟩
theorem lt_loopAt (l b : Addr) (items items2 : Array Value) (n n2 : Nat) (dd dd2 : Option Addr) (sl sl2 : Array (Option Value)) (e t : Nat -> Bool) (k : Nat) :
  ∀ i : Nat, min items.size items2.size - i = k -> i <= min items.size items2.size -> (∀ m, m < i -> e m = true) -> Meets (Builtin.«list.__eq__.loop» ⟨[.ref l, .ref b, rawInt i, rawInt 0], []⟩)
   (fun A R s => s.heap.get? l = some { cls := .type "list", dict := dd, data := .seq items n, slots := sl } /\ s.heap.get? b = some { cls := .type "list", dict := dd2, data := .seq items2 n2, slots := sl2 } /\
    (∀ j (h1 : j < items.size) (h2 : j < items2.size), EqAt A.in1 s items[j] items2[j] (e j)) /\ (∀ j (h1 : j < items.size) (h2 : j < items2.size), (∀ m, m < j -> e m = true) -> e j = false -> LtRc A.in1 s items[j] items2[j] (t j)) /\
    R (.ok (.ret (.bool (lexF e t (decide (items.size < items2.size)) ((List.range (min items.size items2.size)).drop i))))) s) := by
 induction k with
 | zero =>
  intro i hk hle hal prog w A R s h
  obtain ⟨hp, g, d, tk, os⟩ := s; obtain ⟨hl, hb, he, ht, h⟩ := h
  wp_walk using wpAny_loadPart' hl, wpAny_loadPart' hb
  have hd : (List.range (min items.size items2.size)).drop i = [] := by simp; omega
  rw [hd] at h
  have hR : R (.ok (.ret (.bool (decide (items.size < items2.size))))) ⟨hp, g, d, tk, os⟩ := h
  by_cases c : i < items.size
  ·have hi1 : items[((i : Nat) : Int).toNat]? = some items[i] := by simp [c]
   have hi2 : items2[((i : Nat) : Int).toNat]? = none := by simp; omega
   rw [hi1, hi2]
   wp_walk using wpAny_loadPart' hl, wpAny_loadPart' hb
   exact hR
  ·have hi1 : items[((i : Nat) : Int).toNat]? = none := by simp; omega
   rw [hi1]
   by_cases c2 : i < items2.size
   ·have hi2 : items2[((i : Nat) : Int).toNat]? = some items2[i] := by simp [c2]
    rw [hi2]
    wp_walk using wpAny_loadPart' hl, wpAny_loadPart' hb
    exact hR
   ·have hi2 : items2[((i : Nat) : Int).toNat]? = none := by simp; omega
    rw [hi2]
    wp_walk using wpAny_loadPart' hl, wpAny_loadPart' hb
    exact hR
 | succ k ih =>
  intro i hk hle hal prog w A R s h
  obtain ⟨hp, g, d, tk, os⟩ := s; obtain ⟨hl, hb, he, ht, h⟩ := h
  wp_walk using wpAny_loadPart' hl, wpAny_loadPart' hb
  have hlt : i < items.size := by omega
  have hlt2 : i < items2.size := by omega
  have hi1 : items[((i : Nat) : Int).toNat]? = some items[i] := by simp [hlt]
  have hi2 : items2[((i : Nat) : Int).toNat]? = some items2[i] := by simp [hlt2]
  have hm : i < min items.size items2.size := by omega
  have hd : (List.range (min items.size items2.size)).drop i = i :: (List.range (min items.size items2.size)).drop (i + 1) := by simp [List.drop_eq_getElem_cons, hm]
  have hc : ((i : Int) + 1) = ((i + 1 : Nat) : Int) := by push_cast; rfl
  rw [hd] at h
  rw [hi1, hi2]
  refine wpAny_bind (he i hlt hlt2 prog w _ _ ?_)
  cases hb' : e i with
  | true =>
   have h : R (.ok (.ret (.bool (lexF e t (decide (items.size < items2.size)) ((List.range (min items.size items2.size)).drop (i + 1)))))) ⟨hp, g, d, tk, os⟩ := by
    simpa only [lexF, hb', if_true] using h
   wp_walk
   rw [hc]
   exact ⟨plainId_quiet plain_eq_loop _, codeAny_builtin entry_eq_loop (by
    rw [Around.under_plainId plain_eq_loop _]
    exact ih (i + 1) (by omega) (by omega) (fun m hm' => (Nat.lt_succ_iff_lt_or_eq.mp hm').elim (hal m) fun z => z ▸ hb') prog w A R _ ⟨hl, hb, he, ht, h⟩)⟩
  | false =>
   have h : R (.ok (.ret (.bool (t i)))) ⟨hp, g, d, tk, os⟩ := by
    simpa only [lexF, hb', Bool.false_eq_true, if_false] using h
   generalize hRC : richCompare = RC
   wp_walk using wpAny_loadPart' hl, wpAny_loadPart' hb
   rw [hi1, hi2]
   wp_walk
   subst hRC
   refine ht i hlt hlt2 hal hb' prog w _ _ ?_
   wp_walk
   exact h
theorem list_ltAt (l b : Addr) (items items2 : Array Value) (n n2 : Nat) (dd dd2 : Option Addr) (sl sl2 : Array (Option Value)) (e t : Nat -> Bool) :
  Meets (Builtin.«list.__lt__» ⟨[.ref l, .ref b], []⟩)
   (fun A R s => s.heap.get? l = some { cls := .type "list", dict := dd, data := .seq items n, slots := sl } /\ s.heap.get? b = some { cls := .type "list", dict := dd2, data := .seq items2 n2, slots := sl2 } /\
    (∀ j (h1 : j < items.size) (h2 : j < items2.size), EqAt A.in1 s items[j] items2[j] (e j)) /\ (∀ j (h1 : j < items.size) (h2 : j < items2.size), (∀ m, m < j -> e m = true) -> e j = false -> LtRc A.in1 s items[j] items2[j] (t j)) /\
    R (.ok (.ret (.bool (lexF e t (decide (items.size < items2.size)) (List.range (min items.size items2.size)))))) s) := by
 intro prog w A R s h
 obtain ⟨hp, g, d, tk, os⟩ := s; obtain ⟨hl, hb, he, ht, h⟩ := h
 have f3 := AutoSeq1.sub_list_list
 wp_walk using wpAny_loadPart' hl, wpAny_loadPart' hb
 exact ⟨plainId_quiet plain_eq_loop _, codeAny_builtin entry_eq_loop (by
  rw [Around.under_plainId plain_eq_loop _]
  exact lt_loopAt l b items items2 n n2 dd dd2 sl sl2 e t _ 0 rfl (Nat.zero_le _) (fun m hm => absurd hm (Nat.not_lt_zero m)) prog w A R _ ⟨hl, hb, he, ht, by simpa using h⟩)⟩
section
variable {A : Around} {s : Shared}
theorem LtRc.lists {l b : Addr} {items items2 : Array Value} {e t : Nat -> Bool} (hl : s.heap.IsList l items) (hb : s.heap.IsList b items2) (hu : A.units < cLine)
  (he : ∀ j (h1 : j < items.size) (h2 : j < items2.size), EqAt A.in1 s items[j] items2[j] (e j)) (ht : ∀ j (h1 : j < items.size) (h2 : j < items2.size), (∀ m, m < j -> e m = true) -> e j = false -> LtRc A.in1 s items[j] items2[j] (t j)) :
  LtRc A s (.ref l) (.ref b) (lexF e t (decide (items.size < items2.size)) (List.range (min items.size items2.size))) := fun prog w E Q h => by
 obtain ⟨⟨cls, dd, data, sl⟩, ho, hc, n, hd⟩ := id hl
 obtain ⟨⟨cls2, dd2, data2, sl2⟩, ho2, hc2, n2, hd2⟩ := id hb
 simp only at hc hd hc2 hd2
 subst hc hd hc2 hd2
 exact richCompare_meets_room (op := .Lt) ⟨_, ho, rfl⟩ ⟨_, ho2, rfl⟩ F.slot_list_lt F.entry_list_lt (F.args_list_lt_2 _ _) (list_ltAt l b items items2 n n2 dd dd2 sl sl2 e t)
  ⟨ho, ho2, he, ht, show Value.bool _ ≠ Value.notImplemented /\ Q (.bool _) s from ⟨(fun x => nomatch x), h⟩⟩ hu
theorem LtRc.tuples {l b : Addr} {items items2 : Array Value} {e t : Nat -> Bool} (hl : s.heap.IsTuple l items) (hb : s.heap.IsTuple b items2) (hu : A.units < cLine)
  (he : ∀ j (h1 : j < items.size) (h2 : j < items2.size), EqAt A.in1 s items[j] items2[j] (e j)) (ht : ∀ j (h1 : j < items.size) (h2 : j < items2.size), (∀ m, m < j -> e m = true) -> e j = false -> LtRc A.in1 s items[j] items2[j] (t j)) :
  LtRc A s (.ref l) (.ref b) (lexF e t (decide (items.size < items2.size)) (List.range (min items.size items2.size))) := fun prog w E Q h => by
 obtain ⟨⟨cls, dd, data, sl⟩, ho, hc, n, hd⟩ := id hl
 obtain ⟨⟨cls2, dd2, data2, sl2⟩, ho2, hc2, n2, hd2⟩ := id hb
 simp only at hc hd hc2 hd2
 subst hc hd hc2 hd2
 exact richCompare_meets_room (op := .Lt) ⟨_, ho, rfl⟩ ⟨_, ho2, rfl⟩ F.slot_tuple_lt F.entry_tuple_lt (F.args_tuple_lt_2 _ _) (tuple_ltAt l b items items2 n n2 dd dd2 sl sl2 e t)
  ⟨ho, ho2, he, ht, show Value.bool _ ≠ Value.notImplemented /\ Q (.bool _) s from ⟨(fun x => nomatch x), h⟩⟩ hu
theorem LtRc.int (a b : Int) (t u : Tok) : LtRc A s (.int a t) (.int b u) (decide (a < b)) := fun prog w E Q h => PyProof.Rows.lt_int h
theorem LtRc.str (a b : Str) (t u : Tok) : LtRc A s (.str a t) (.str b u) (decide (a.cps.toList < b.cps.toList)) := fun prog w E Q h => PyProof.Rows.lt_str h
end
open PySem PySem.Spec PySem.W PyProof.Rows
mutual
noncomputable def ltA : D -> D -> Option Bool
 | .int i, y => match y with | .int j => some (decide (i < j)) | _ => none
 | .str x, y => match y with | .str z => some (decide (x.cps.toList < z.cps.toList)) | _ => none
 | .tup xs, y => match y with | .tup ys => ltAs xs ys | _ => none
 | .lst xs, y => match y with | .lst ys => ltAs xs ys | _ => none
 | .non, _ => none
 | .bl _, _ => none
 | .dic _ _, _ => none
noncomputable def ltAs : List D -> List D -> Option Bool
 | [], ys => some (!ys.isEmpty)
 | x :: xs, ys => match ys with | [] => some false | y :: ys => if eqA x y = true then ltAs xs ys else ltA x y
end
noncomputable def ltE : D -> D -> Option D := fun x y => if plainN 8 x = true /\ plainN 8 y = true then (ltA x y).map .bl else none
open PySem PySem.Spec PyProof.Rows
theorem lexF_map (e t : Nat -> Bool) (fin : Bool) (f : Nat -> Nat) : ∀ l : List Nat, lexF e t fin (l.map f) = lexF (fun j => e (f j)) (fun j => t (f j)) fin l
 | [] => rfl
 | j :: l => by
  simp only [List.map_cons, lexF]
  rw [lexF_map e t fin f l]
noncomputable def eAt (xs ys : List D) (j : Nat) : Bool := eqA (xs.getD j .non) (ys.getD j .non)
noncomputable def tAt (xs ys : List D) (j : Nat) : Bool := (ltA (xs.getD j .non) (ys.getD j .non)).getD false
theorem lex_ltAs : ∀ {xs ys : List D} {b : Bool}, ltAs xs ys = some b -> lexF (eAt xs ys) (tAt xs ys) (decide (xs.length < ys.length)) (List.range (min xs.length ys.length)) = b
 | [], ys, b, h => by
  simp only [ltAs, Option.some.injEq] at h
  simp only [List.length_nil, Nat.zero_min, List.range_zero, lexF]
  rw [<- h]
  cases ys <;> simp
 | x :: xs, [], b, h => by
  simp only [ltAs, Option.some.injEq] at h
  simp only [List.length_nil, Nat.min_zero, List.range_zero, lexF]
  rw [<- h]
  simp
 | x :: xs, y :: ys, b, h => by
  simp only [ltAs] at h
  have e1 : min (x :: xs).length (y :: ys).length = min xs.length ys.length + 1 := by simp only [List.length_cons]; omega
  rw [e1, List.range_succ_eq_map, lexF, lexF_map]
  by_cases c : eqA x y = true
  ·rw [if_pos c] at h
   rw [if_pos (show eAt (x :: xs) (y :: ys) 0 = true from c)]
   have := lex_ltAs h
   have e2 : decide ((x :: xs).length < (y :: ys).length) = decide (xs.length < ys.length) := by simp only [List.length_cons, Nat.add_lt_add_iff_right]
   rw [e2]
   exact this
  ·rw [if_neg c] at h
   rw [if_neg (show ¬ eAt (x :: xs) (y :: ys) 0 = true from c)]
   show (ltA x y).getD false = b
   rw [h]; rfl
theorem first_ltAs : ∀ {xs ys : List D} {b : Bool}, ltAs xs ys = some b -> ∀ j, j < xs.length -> j < ys.length -> (∀ m, m < j -> eAt xs ys m = true) -> eAt xs ys j = false -> ltA (xs.getD j .non) (ys.getD j .non) = some (tAt xs ys j)
 | [], ys, b, h, j, h1, h2, ha, hf => absurd h1 (Nat.not_lt_zero j)
 | x :: xs, [], b, h, j, h1, h2, ha, hf => absurd h2 (Nat.not_lt_zero j)
 | x :: xs, y :: ys, b, h, 0, h1, h2, ha, hf => by
  simp only [ltAs] at h
  rw [if_neg (show ¬ eqA x y = true from fun z => by rw [show eAt (x :: xs) (y :: ys) 0 = true from z] at hf; cases hf)] at h
  show ltA x y = some ((ltA x y).getD false)
  rw [h]; rfl
 | x :: xs, y :: ys, b, h, j + 1, h1, h2, ha, hf => by
  simp only [ltAs] at h
  rw [if_pos (show eqA x y = true from ha 0 (Nat.zero_lt_succ j))] at h
  exact first_ltAs h j (by simpa using h1) (by simpa using h2) (fun m hm => ha (m + 1) (by omega)) hf
section
variable {X : Cx} {pins : List (Addr × Obj)} {σ : St} {H : Hp} {s : Shared}
theorem ltRc_A (I : Inv X pins σ H s) : ∀ (n : Nat) {x y : D} {v v' : V} {u u' : Value} {A : Around} {b : Bool}, plainN n x = true -> plainN n y = true -> ltA x y = some b -> Rep X.K H x v -> Rep X.K H y v' -> RelV v u -> RelV v' u' -> A.units + n < cLine -> LtRc A s u u' b := by
 intro n
 have ff : ∀ {x y : D} {v v' : V} {u u' : Value} {A : Around} {b : Bool}, (∀ xs, x ≠ .tup xs) -> (∀ xs, x ≠ .lst xs) -> ltA x y = some b -> Rep X.K H x v -> Rep X.K H y v' -> RelV v u -> RelV v' u' -> LtRc A s u u' b := by
  intro x y v v' u u' A b n1 n2 h rx ry r r'
  cases x with
  | tup xs => exact absurd rfl (n1 xs)
  | lst xs => exact absurd rfl (n2 xs)
  | non => simp only [ltA] at h; cases h
  | bl _ => simp only [ltA] at h; cases h
  | dic _ _ => simp only [ltA] at h; cases h
  | int i =>
   cases y <;> simp only [ltA] at h <;> cases h
   simp only [Rep] at rx ry
   subst rx ry
   obtain ⟨t, rfl⟩ := r
   obtain ⟨t', rfl⟩ := r'
   exact LtRc.int _ _ _ _
  | str i =>
   cases y <;> simp only [ltA] at h <;> cases h
   simp only [Rep] at rx ry
   subst rx ry
   obtain ⟨t, rfl⟩ := r
   obtain ⟨t', rfl⟩ := r'
   exact LtRc.str _ _ _ _
 induction n with
 | zero =>
  intro x y v v' u u' A b px py h rx ry r r' hu
  refine ff ?_ ?_ h rx ry r r'
  ·intro xs e; subst e; cases px
  ·intro xs e; subst e; cases px
 | succ n ih =>
  intro x y v v' u u' A b px py h rx ry r r' hu
  have items : ∀ {xs ys : List D} {vs us : List V} {its its2 : List Value}, ltAs xs ys = some b -> xs.all (plainN n) = true -> ys.all (plainN n) = true -> RepL X.K H xs vs -> RepL X.K H ys us -> Vals vs its -> Vals us its2 ->
    ∀ j (h1 : j < its.toArray.size) (h2 : j < its2.toArray.size), (∀ m, m < j -> eAt xs ys m = true) -> eAt xs ys j = false -> LtRc A.in1 s its.toArray[j] its2.toArray[j] (tAt xs ys j) := fun {xs ys vs us its its2} hlt p1 p2 r1 r2 v1 v2 j h1 h2 ha hf => by
   have l1 := r1.length
   have l2 := r2.length
   have l3 := v1.length
   have l4 := v2.length
   have j1 : j < xs.length := by simp at h1; omega
   have j2 : j < ys.length := by simp at h2; omega
   have e1 : xs[j]? = some (xs.getD j .non) := by rw [List.getD_eq_getElem?_getD, List.getElem?_eq_getElem j1]; rfl
   have e2 : ys[j]? = some (ys.getD j .non) := by rw [List.getD_eq_getElem?_getD, List.getElem?_eq_getElem j2]; rfl
   obtain ⟨w1, g1, q1⟩ := r1.get e1
   obtain ⟨w2, g2, q2⟩ := r2.get e2
   obtain ⟨u1, k1, k2⟩ := v1.get g1
   obtain ⟨u2, k3, k4⟩ := v2.get g2
   have t1 : its.toArray[j] = u1 := by
    obtain ⟨_, z⟩ := List.getElem?_eq_some_iff.mp k1
    simpa using z
   have t2 : its2.toArray[j] = u2 := by
    obtain ⟨_, z⟩ := List.getElem?_eq_some_iff.mp k3
    simpa using z
   rw [t1, t2]
   exact ih (List.all_eq_true.mp p1 _ (List.mem_of_getElem? e1)) (List.all_eq_true.mp p2 _ (List.mem_of_getElem? e2)) (first_ltAs hlt j j1 j2 ha hf) q1 q2 k2 k4 (by rw [in1_units]; omega)
  cases x with
  | tup xs =>
   cases y <;> simp only [ltA] at h <;> try cases h
   rename_i ys
   simp only [Rep] at rx ry
   obtain ⟨a, vs, rfl, h1, h2⟩ := rx
   obtain ⟨b', us, rfl, h3, h4⟩ := ry
   cases r
   cases r'
   obtain ⟨its, v1, p1, _⟩ := I.tuple h1
   obtain ⟨its2, v2, p2, _⟩ := I.tuple h3
   have q := LtRc.tuples (A := A) (e := eAt xs ys) (t := tAt xs ys) p1 p2 (by omega) (items_A I n (by rw [in1_units]; omega) px py h2 h4 v1 v2) (items h px py h2 h4 v1 v2)
   have z1 : its.toArray.size = xs.length := by simp [h2.length, v1.length]
   have z2 : its2.toArray.size = ys.length := by simp [h4.length, v2.length]
   rw [z1, z2, lex_ltAs h] at q
   exact q
  | lst xs =>
   cases y <;> simp only [ltA] at h <;> try cases h
   rename_i ys
   simp only [Rep] at rx ry
   obtain ⟨a, vs, rfl, h1, h2⟩ := rx
   obtain ⟨b', us, rfl, h3, h4⟩ := ry
   cases r
   cases r'
   obtain ⟨its, v1, p1, _⟩ := I.list h1
   obtain ⟨its2, v2, p2, _⟩ := I.list h3
   have q := LtRc.lists (A := A) (e := eAt xs ys) (t := tAt xs ys) p1.isList p2.isList (by omega) (items_A I n (by rw [in1_units]; omega) px py h2 h4 v1 v2) (items h px py h2 h4 v1 v2)
   have z1 : its.toArray.size = xs.length := by simp [h2.length, v1.length]
   have z2 : its2.toArray.size = ys.length := by simp [h4.length, v2.length]
   rw [z1, z2, lex_ltAs h] at q
   exact q
  | _ => exact ff (fun _ z => by cases z) (fun _ z => by cases z) h rx ry r r'
end
section
variable {X : Cx}
def rLtA (K : PySem.W.Frag) : R2 := fun v u H Q => ∃ x y b, Rep K H x v /\ Rep K H y u /\ plainN 8 x = true /\ plainN 8 y = true /\ ltA x y = some b /\ Q (.bl b) H
theorem op_ltA (hu : X.A.units + 20 < cLine) : OpR X (compareOp .Lt) (rLtA X.K) := by
 intro pins s σ H x y v u Q I rx ry h
 obtain ⟨dx, dy, b, r1, r2, p1, p2, e, q⟩ := h
 exact ltRc_A I 8 p1 p2 e r1 r2 rx ry (by omega) X.prog X.w _ _ ⟨.bl b, H, I, rfl, q⟩
theorem od_ltE (hu : X.A.units + 20 < cLine) : OpD X (compareOp .Lt) ltE := by
 refine ⟨_, op_ltA hu, fun G H x y v u d Q sG rx ry e k => ?_⟩
 unfold ltE at e
 split at e
 ·rename_i hc
  obtain ⟨b, e1, rfl⟩ := omE e
  exact ⟨x, y, b, rx.all sG, ry.all sG, hc.1, hc.2, e1, k _ G H (Grow.refl sG) (by simp [Rep])⟩
 ·cases e
end
section
variable {X : Cx} {pins : List (Addr × Obj)} {σ : St} {H : Hp} {s : Shared}
end
section
variable {X : Cx} {pins : List (Addr × Obj)} {σ : St} {H : Hp} {s : Shared}
end
structure STO {α : Type} (lt : α -> α -> Bool) : Prop where
 irr : ∀ a, lt a a = false
 tr : ∀ a b c, lt a b = true -> lt b c = true -> lt a c = true
 tri : ∀ a b, lt a b = false -> lt b a = false -> a = b
section
variable {α : Type} {lt : α -> α -> Bool}
theorem STO.asy (h : STO lt) {a b : α} (e : lt a b = true) : lt b a = false := by
 cases z : lt b a with
 | false => rfl
 | true => have := h.tr _ _ _ e z; rw [h.irr] at this; cases this
theorem STO.ngt (h : STO lt) {a b c : α} (e : lt a b = false) (e' : lt b c = false) : lt a c = false := by
 cases z : lt a c with
 | false => rfl
 | true =>
  cases y : lt b a with
  | false => rw [h.tri _ _ e y, e'] at z; cases z
  | true => rw [h.tr _ _ _ y z] at e'; cases e'
theorem STO.ne (h : STO lt) {a b : α} (e : lt a b = false) (n : a ≠ b) : lt b a = true := by
 cases z : lt b a with
 | false => exact absurd (h.tri _ _ e z) n
 | true => rfl
variable [DecidableEq α]
end
theorem sto_int : STO (fun a b : Int => decide (a < b)) where
 irr := fun a => by simp
 tr := fun a b c h1 h2 => by simp only [decide_eq_true_eq] at *; omega
 tri := fun a b h1 h2 => by simp only [decide_eq_false_iff_not] at *; omega
noncomputable def sLt (x y : Str) : Bool := decide (x.cps.toList < y.cps.toList)
theorem sto_str : STO sLt where
 irr := fun a => by simp [sLt]
 tr := fun a b c h1 h2 => by
  simp only [sLt, decide_eq_true_eq] at *
  exact List.lt_trans h1 h2
 tri := fun a b h1 h2 => by
  simp only [sLt, decide_eq_false_iff_not] at *
  have e : a.cps.toList = b.cps.toList := List.le_antisymm (List.not_lt.mp h2) (List.not_lt.mp h1)
  obtain ⟨a⟩ := a
  obtain ⟨b⟩ := b
  exact congrArg Str.mk (Array.toList_inj.mp e)
theorem sorted_unique {α : Type} {lt : α -> α -> Bool} (W : STO lt) : ∀ {xs ys : List α}, xs.Perm ys -> xs.Pairwise (fun a b => lt b a = false) -> ys.Pairwise (fun a b => lt b a = false) -> xs = ys
 | [], ys, p, _, _ => by rw [p.nil_eq]
 | x :: xs, [], p, _, _ => absurd p.symm (by intro z; exact absurd z.nil_eq (by simp))
 | x :: xs, y :: ys, p, h1, h2 => by
  have e : x = y := by
   have m1 : x ∈ y :: ys := p.mem_iff.mp List.mem_cons_self
   have m2 : y ∈ x :: xs := p.mem_iff.mpr List.mem_cons_self
   rcases List.mem_cons.mp m1 with e | m1
   ·exact e
   rcases List.mem_cons.mp m2 with e | m2
   ·exact e.symm
   exact W.tri _ _ ((List.pairwise_cons.mp h2).1 x m1) ((List.pairwise_cons.mp h1).1 y m2)
  subst e
  rw [sorted_unique W p.cons_inv (List.pairwise_cons.mp h1).2 (List.pairwise_cons.mp h2).2]
section
variable {X : Cx} {pins : List (Addr × Obj)} {σ : St} {H : Hp} {s : Shared}
end
section
variable {X : Cx} {e : Expr} {f : FE} {p1 p2 p3 p4 : Pos}
end
theorem layNew_led (t : SetTable) (es : Array (Int × Value)) (h : Int) (x : Value) : (layNew t es h x).2.1.led = t.led := by
 unfold layNew
 split
 ·show (SetTable.orStandIn (t.put _).1 _).led = t.led
  unfold SetTable.orStandIn
  split
  ·rfl
  ·rfl
 ·rfl
theorem relayAll_led (t : SetTable) (es : Array (Int × Value)) (n : Nat) : (relayAll t es n).2.1.led = t.led /\ (t.plain = false -> (relayAll t es n).2.1.plain = false) := by
 unfold relayAll
 split
 ·rename_i t' order e
  have e' : t'.led = t.led /\ t'.plain = t.plain := by
   unfold SetTable.relaid SetTable.laid at e
   simp only [Option.bind_eq_bind, Option.bind_eq_some_iff] at e
   obtain ⟨ow, _, e⟩ := e
   cases e
   exact ⟨rfl, rfl⟩
  dsimp only
  split
  ·exact ⟨e'.1, fun h => e'.2.trans h⟩
  ·exact ⟨rfl, fun _ => rfl⟩
 ·exact ⟨rfl, fun _ => rfl⟩
section
variable {prog : Program} {w : World} {K : Type} [DecidableEq K] {knd : KeyKind prog w K} {A : Around} {E : Value -> Shared -> Prop} {s : Shared}
def SetAt (knd : KeyKind prog w K) (h : Heap) (a : Addr) (es : Array (Int × Value)) (ep : Nat) (t : SetTable) : Prop :=
 ∃ o, h.get? a = some o /\ o.ExactSet /\ o.data = .set es ep t /\ ElemsOf knd es.toList /\ t.fits es.size = true
theorem setAdd_more {a : Addr} {es : Array (Int × Value)} {ep : Nat} {t : SetTable} {k : K} {x : Value} {Q : Bool -> Shared -> Prop} (hkey : knd.is k x = true) (hsc : x.scannable = true) (hS : SetAt knd s.heap a es ep t) (hroom : es.size + 1 < scanBound)
  (h1 : (∃ e ∈ es.toList, knd.is k e.2 = true) -> Q false s)
  (h2 : (∀ e ∈ es.toList, knd.is k e.2 = false) -> ∀ h' es' ep' t', Heap.SameBut a s.heap h' -> SetAt knd h' a es' ep' t' -> es'.toList.Perm (es.toList ++ [(knd.hash k, x)]) -> t'.led = t.led -> (plainKind x = false -> t'.plain = false) -> Q true { s with heap := h' }) :
  wpAny (model prog w) A (setAddHashed a x (knd.hash k)) Q E s := by
 obtain ⟨o, ho, hex, hd, hel, hf⟩ := hS
 have hb : es.size < scanBound := by omega
 unfold setAddHashed setAddHashedIn
 refine wpAny_holding (wpAny_bind (wpAny_setState_of ho hd hf ?_))
 dsimp only
 rw [byScan_of hsc hb hel]
 simp only [↓reduceIte]
 unfold setAddByScan
 refine wpAny_bind ?_
 refine wpAny_bind (wpAny_rule ?_)
 refine wpAny_bind (wpAny_setScan_of hkey ho hd hf hel ?_)
 cases hr : List.findIdx? (fun e => knd.is k e.2) es.toList with
 | some j =>
  dsimp only
  obtain ⟨hj, hpj, _⟩ := List.findIdx?_eq_some_iff_getElem.mp hr
  exact wpAny_pure (wpAny_pure (h1 ⟨es.toList[j], List.getElem_mem hj, hpj⟩))
 | none =>
  dsimp only
  have hno : ∀ e ∈ es.toList, knd.is k e.2 = false := fun e he => List.findIdx?_eq_none_iff.mp hr e he
  have hgw : ∀ (b : Bool) {s₁ : Shared} {Q' : Unit -> Shared -> Prop}, Q' () s₁ -> wpAny (model prog w) A (match b with | true => rule "set.scan.the-table-gave-way" | false => pure ()) Q' E s₁ :=
   fun b s₁ Q' hq => by cases b <;> first | exact wpAny_pure hq | exact wpAny_rule hq
  have hperm := layNew_perm t es (knd.hash k) x
  have hfits := layNew_fits t es (knd.hash k) x
  have hled := layNew_led t es (knd.hash k) x
  generalize hL : layNew t es (knd.hash k) x = L at hperm hfits hled ⊢
  obtain ⟨es1, t1, wasDummy, gave⟩ := L
  dsimp only at hperm hfits hled ⊢
  rw [Array.toList_push] at hperm
  have hel1 : ElemsOf knd es1.toList := (hel.push hkey hsc).perm hperm
  have hsz1 : es1.size = es.size + 1 := by rw [<- Array.length_toList, hperm.length_eq, List.length_append, Array.length_toList]; rfl
  have hb1 : es1.size < scanBound := by omega
  refine wpAny_bind (hgw _ ?_)
  -- the tail
  have tail : ∀ (t2 : SetTable), t2.fits es1.size = true -> t2.led = t1.led -> (plainKind x = false -> t2.plain = false) -> wpAny (model prog w) A (do
    storeSet a es1 t2
    if (!wasDummy && t2.tooFull) = true then do
      (match (relayAll t2 es1 (SetTable.grown es1.size)).2.2 with | true => rule "set.scan.the-table-gave-way" | false => pure ())
      storeSet a (relayAll t2 es1 (SetTable.grown es1.size)).1 (relayAll t2 es1 (SetTable.grown es1.size)).2.1
      pure (some true)
     else pure (some true)) (fun r s' => match r with | some b => Q b s' | none => False) E s := by
   intro t2 f2 l2 p2
   have hg : (s.heap.update a (Obj.putSet es1 t2)).get? a = some { o with data := .set es1 (ep + 1) t2 } := by
    have := Heap.get?_update_self (Obj.putSet es1 t2) ho (by rw [putSet_of es1 t2 hd]; rfl)
    rw [putSet_of es1 t2 hd] at this; exact this
   have sb1 := Heap.SameBut.update s.heap a (Obj.putSet es1 t2)
   refine wpAny_bind (wpAny_storeSet_of ho hd ?_ (fits_of_scanBound hb1))
   split
   ·have hp := relayAll_perm t2 es1 (SetTable.grown es1.size)
    have hfr := relayAll_fits t2 es1 (SetTable.grown es1.size)
    have hlr := relayAll_led t2 es1 (SetTable.grown es1.size)
    generalize hRl : relayAll t2 es1 (SetTable.grown es1.size) = Rl at hp hfr hlr ⊢
    obtain ⟨es2, t3, gave2⟩ := Rl
    dsimp only at hp hfr hlr ⊢
    have hsz : es2.size = es1.size := by rw [<- Array.length_toList, hp.length_eq, Array.length_toList]
    refine wpAny_bind (hgw _ ?_)
    refine wpAny_bind (wpAny_storeSet_of hg rfl ?_ (fits_of_scanBound (by omega)))
    have hg2 : ((s.heap.update a (Obj.putSet es1 t2)).update a (Obj.putSet es2 t3)).get? a = some { o with data := .set es2 (ep + 1 + 1) t3 } := by
     have := Heap.get?_update_self (Obj.putSet es2 t3) hg (by rw [putSet_of es2 t3 rfl]; rfl)
     rw [putSet_of es2 t3 rfl] at this; exact this
    exact wpAny_pure (h2 hno _ es2 (ep + 1 + 1) t3 (sb1.trans (Heap.SameBut.update _ a _)) ⟨_, hg2, hex, rfl, hel1.perm hp, hfr⟩ (hp.trans hperm) (hlr.1.trans (l2.trans hled)) fun z => hlr.2 (p2 z))
   ·exact wpAny_pure (h2 hno _ es1 (ep + 1) t2 sb1 ⟨_, hg, hex, rfl, hel1, f2⟩ hperm (l2.trans hled) p2)
  split
  ·refine wpAny_bind ?_
   rw [hashByValue_scannable 8 hsc]
   refine wpAny_pure ?_
   refine wpAny_mono (tail _ ?_ ?_ ?_) (fun r s' hq => ?_) fun _ _ z => z
   ·split
    ·exact hfits
    ·exact SetTable.fits_plain_off hfits
   ·split <;> rfl
   ·intro z
    rw [z]
    rfl
   ·cases r with
    | some b => exact wpAny_pure hq
    | none => exact hq.elim
  ·rename_i hpl
   refine wpAny_bind (wpAny_pure ?_)
   simp only [↓reduceIte]
   refine wpAny_mono (tail _ hfits rfl fun _ => by simpa using hpl) (fun r s' hq => ?_) fun _ _ z => z
   cases r with
   | some b => exact wpAny_pure hq
   | none => exact hq.elim
end
theorem entry_set_iter : entryFor table "set.__iter__" = some Builtin.«frozenset.__iter__» :=
 entryFor_alias (id' := "frozenset.__iter__") (by kernel_rfl) rfl (by decide +kernel) (by kernel_rfl)
theorem slot_seti_next : Slot "set_iterator" "__next__" "set_iterator.__next__" :=
 .of (owner := "set_iterator") (n := "__next__") (by rw [typeLookup_type, builtinLookup_eq_fast]; kernel_rfl) (by decide +kernel) (by decide +kernel) (by decide +kernel)
  (by first | exact .inl (by decide +kernel) | exact .inr (by decide +kernel)) (by rw [isSubtype_type]; kernel_rfl)
theorem entry_seti_next : entryFor table "set_iterator.__next__" = some Builtin.«set_iterator.__next__» := entryFor_of_tree (by kernel_rfl)
theorem args_seti_next (a : Value) : argsOk "set_iterator.__next__" ⟨[a], []⟩ := by
 unfold argsOk; kernel_rfl
section
variable {prog : Program} {w : World} {K : Type} [DecidableEq K] {knd : KeyKind prog w K} {A : Around} {E : Value -> Shared -> Prop} {s : Shared}
def IsSetIter (h : Heap) (it : Addr) (first : Value) (i : Nat) (a : Addr) (n ep : Nat) : Prop :=
 ∃ o, h.get? it = some o /\ o.cls = .type "set_iterator" /\ o.data = .fields #[first, .int i 0, .ref a, .int n 0, .int ep 0]
theorem IsSetIter.typeIs {it : Addr} {first : Value} {i : Nat} {a : Addr} {n ep : Nat} (x : IsSetIter s.heap it first i a n ep) : s.TypeIs (.ref it) "set_iterator" := let ⟨o, ho, hc, _⟩ := x; ⟨o, ho, hc⟩
theorem IsSetIter.at {h h' : Heap} {it : Addr} {first : Value} {i : Nat} {a : Addr} {n ep : Nat} (x : IsSetIter h it first i a n ep) (k : ∀ o, h.get? it = some o -> h'.get? it = some o) : IsSetIter h' it first i a n ep := let ⟨o, ho, r⟩ := x; ⟨o, k o ho, r⟩
theorem SetAt.at {h h' : Heap} {a : Addr} {es : Array (Int × Value)} {ep : Nat} {t : SetTable} (x : SetAt knd h a es ep t) (k : ∀ o, h.get? a = some o -> h'.get? a = some o) : SetAt knd h' a es ep t := let ⟨o, ho, r⟩ := x; ⟨o, k o ho, r⟩
theorem seti_field0 {it : Addr} {first : Value} {i : Nat} {a : Addr} {n ep : Nat} {h : Heap} {f' : Value} (x : IsSetIter h it first i a n ep) : IsSetIter (h.update it (Obj.mapFields (·.setIfInBounds 0 f'))) it f' i a n ep := by
 obtain ⟨o, ho, hc, hd⟩ := x
 exact ⟨_, Heap.get?_update_self _ ho (Obj.isFreed_of_fields (Obj.data_mapFields hd _)), (Obj.cls_mapFields ..).trans hc, by rw [Obj.data_mapFields hd]; simp [rawInt]⟩
theorem seti_field1 {it : Addr} {first : Value} {i : Nat} {a : Addr} {n ep : Nat} {h : Heap} (x : IsSetIter h it first i a n ep) : IsSetIter (h.update it (Obj.mapFields (·.setIfInBounds 1 (rawInt ((i : Int) + 1))))) it first (i + 1) a n ep := by
 obtain ⟨o, ho, hc, hd⟩ := x
 exact ⟨_, Heap.get?_update_self _ ho (Obj.isFreed_of_fields (Obj.data_mapFields hd _)), (Obj.cls_mapFields ..).trans hc, by rw [Obj.data_mapFields hd]; simp [rawInt]⟩
theorem stop_end {it : Addr} {o : Obj} {Q : Option Value -> Shared -> Prop} (hh : A.handled = none) (ho : s.heap.get? it = some o) {fs : Array Value} (hd : o.data = .fields fs) (h2 : 2 < fs.size) {h0 : Heap} (hx : Heap.ExtBut it h0 s.heap) (hQ : ∀ h', Heap.ExtBut it h0 h' -> Q none { s with heap := h' }) :
  wpAny (model prog w) A.in1 (do setField (.ref it) 2 .none; raiseNew (<- newExc (.type "StopIteration") []) : Sem PySem.Fin) (fun fin s' => ∃ v, fin = .done (.ret v) /\ wpAny (model prog w) A (pure (some v)) Q E s') (fun e s' => wpAny (model prog w) A (do if <- isInstance e (.type "StopIteration") then pure none else throw e) Q E s') s := by
 refine wpAny_bind (wpAny_setField ho hd h2 ?_)
 refine wpAny_bind ?_
 simp only [newExc, newTuple]
 refine wpAny_bind (wpAny_newObj_type ?_ (by size_fits))
 refine wpAny_bind (m := firstArgMember _ _) (wpAny_of_eq (a := Value.none) (by first | rfl | (simp only [firstArgMember]; rfl)) ?_)
 refine wpAny_newObj_type ?_ (by size_fits)
 simp only [raiseNew]
 refine wpAny_bind (wpAny_handled ?_)
 rw [show A.in1.handled = none from hh]
 refine wpAny_bind (wpAny_pure (wpAny_throw ?_))
 refine wpAny_bind (wpAny_isInstance (T := "StopIteration") (b := true) ⟨_, Heap.get?_push_size _ rfl, rfl⟩ isSubtype_stop ?_)
 refine wpAny_pure (hQ _ (Heap.ExtBut.push (Heap.ExtBut.push (fun b o hb e => ?_) _) _))
 exact (Heap.SameBut.update ..).extBut b o hb (hx b o hb e)
theorem setiI_item {it a : Addr} {slot next i n ep : Nat} {es : Array (Int × Value)} {t : SetTable} {x : Value} {Q : Option Value -> Shared -> Prop} (hit : IsSetIter s.heap it (.int slot 0) i a n ep) (hS : SetAt knd s.heap a es ep t) (hn : es.size = n)
  (hsn : ∀ (Q' : Option (Value × Nat) -> Shared -> Prop) (E' : Value -> Shared -> Prop), Q' (some (x, next)) s -> wpAny (model prog w) A.in1 (setNext a slot i ep) Q' E' s)
  (hQ : ∀ h', IsSetIter h' it (.int next 0) (i + 1) a n ep -> Heap.SameBut it s.heap h' -> Q (some x) { s with heap := h' }) : wpAny (model prog w) A (pyNext (.ref it)) Q E s := by
 obtain ⟨o, ho, hc, hd⟩ := id hit
 obtain ⟨oa, hoa, hex, hda, hel, hf⟩ := id hS
 unfold pyNext
 refine wpAny_bind (wpAny_attempt (wpAny_callSpecial?_slot (name := Str.ofString "__next__") hit.typeIs slot_seti_next
  (wpAny_call_entry slot_seti_next hit.typeIs entry_seti_next ?_ (args_seti_next _))))
 unfold Builtin.«set_iterator.__next__»
 refine wpAny_bind (wpAny_pure ?_)
 refine wpAny_bind (wpAny_fieldsOf ho hd ?_)
 dsimp only
 refine wpAny_bind (wpAny_setEntries_of hoa hda hf ?_)
 rw [if_neg (by simp [hn])]
 simp only [Int.toNat_natCast]
 refine wpAny_bind (hsn _ _ ?_)
 dsimp only
 have hit0 := seti_field0 (f' := rawInt next) hit
 refine wpAny_bind (wpAny_setField ho hd (by simp) ?_)
 obtain ⟨o1, ho1, hc1, hd1⟩ := id hit0
 refine wpAny_bind (wpAny_setField ho1 hd1 (by simp) ?_)
 exact wpAny_pure ⟨_, rfl, wpAny_pure (hQ _ (seti_field1 hit0) ((Heap.SameBut.update ..).trans (Heap.SameBut.update ..)))⟩
theorem setiI_end {it a : Addr} {slot i n ep : Nat} {es : Array (Int × Value)} {t : SetTable} {Q : Option Value -> Shared -> Prop} (hh : A.handled = none) (hit : IsSetIter s.heap it (.int slot 0) i a n ep) (hS : SetAt knd s.heap a es ep t) (hn : es.size = n)
  (hsn : ∀ (Q' : Option (Value × Nat) -> Shared -> Prop) (E' : Value -> Shared -> Prop), Q' none s -> wpAny (model prog w) A.in1 (setNext a slot i ep) Q' E' s)
  (hQ : ∀ h', Heap.ExtBut it s.heap h' -> Q none { s with heap := h' }) : wpAny (model prog w) A (pyNext (.ref it)) Q E s := by
 obtain ⟨o, ho, hc, hd⟩ := id hit
 obtain ⟨oa, hoa, hex, hda, hel, hf⟩ := id hS
 unfold pyNext
 refine wpAny_bind (wpAny_attempt (wpAny_callSpecial?_slot (name := Str.ofString "__next__") hit.typeIs slot_seti_next
  (wpAny_call_entry slot_seti_next hit.typeIs entry_seti_next ?_ (args_seti_next _))))
 unfold Builtin.«set_iterator.__next__»
 refine wpAny_bind (wpAny_pure ?_)
 refine wpAny_bind (wpAny_fieldsOf ho hd ?_)
 dsimp only
 refine wpAny_bind (wpAny_setEntries_of hoa hda hf ?_)
 rw [if_neg (by simp [hn])]
 simp only [Int.toNat_natCast]
 refine wpAny_bind (hsn _ _ ?_)
 dsimp only
 exact stop_end hh ho hd (by simp) (fun b o _ e => e) hQ
theorem setiD_item {it a p : Addr} {i n ep k : Nat} {es : Array (Int × Value)} {t : SetTable} {pl : Array Value} {hx : Int} {x : Value} {Q : Option Value -> Shared -> Prop} (hit : IsSetIter s.heap it (.ref p) i a n ep) (hS : SetAt knd s.heap a es ep t) (hn : es.size = n)
  (hp : s.heap.IsTuple p pl) (hk : pl[i]? = some (.int k 0)) (he : es[k]? = some (hx, x))
  (hQ : ∀ h', IsSetIter h' it (.ref p) (i + 1) a n ep -> Heap.SameBut it s.heap h' -> Q (some x) { s with heap := h' }) : wpAny (model prog w) A (pyNext (.ref it)) Q E s := by
 obtain ⟨o, ho, hc, hd⟩ := id hit
 obtain ⟨oa, hoa, hex, hda, hel, hf⟩ := id hS
 obtain ⟨op, hop, hcp, np, hdp⟩ := id hp
 unfold pyNext
 refine wpAny_bind (wpAny_attempt (wpAny_callSpecial?_slot (name := Str.ofString "__next__") hit.typeIs slot_seti_next
  (wpAny_call_entry slot_seti_next hit.typeIs entry_seti_next ?_ (args_seti_next _))))
 unfold Builtin.«set_iterator.__next__»
 refine wpAny_bind (wpAny_pure ?_)
 refine wpAny_bind (wpAny_fieldsOf ho hd ?_)
 dsimp only
 refine wpAny_bind (wpAny_setEntries_of hoa hda hf ?_)
 rw [if_neg (by simp [hn])]
 simp only [Int.toNat_natCast]
 refine wpAny_bind (wpAny_seqItems hop hdp ?_)
 dsimp only
 rw [hk]
 dsimp only
 refine wpAny_bind ?_
 unfold setNextDrawn
 refine wpAny_bind (wpAny_setState_of hoa hda hf ?_)
 dsimp only
 rw [if_neg (by simp)]
 simp only [Int.toNat_natCast, he]
 refine wpAny_pure ?_
 refine wpAny_bind (wpAny_setField ho hd (by simp) ?_)
 exact wpAny_pure ⟨_, rfl, wpAny_pure (hQ _ (seti_field1 hit) (Heap.SameBut.update ..))⟩
theorem setiD_end {it a p : Addr} {i n ep : Nat} {es : Array (Int × Value)} {t : SetTable} {pl : Array Value} {Q : Option Value -> Shared -> Prop} (hh : A.handled = none) (hit : IsSetIter s.heap it (.ref p) i a n ep) (hS : SetAt knd s.heap a es ep t) (hn : es.size = n)
  (hp : s.heap.IsTuple p pl) (hk : pl[i]? = none)
  (hQ : ∀ h', Heap.ExtBut it s.heap h' -> Q none { s with heap := h' }) : wpAny (model prog w) A (pyNext (.ref it)) Q E s := by
 obtain ⟨o, ho, hc, hd⟩ := id hit
 obtain ⟨oa, hoa, hex, hda, hel, hf⟩ := id hS
 obtain ⟨op, hop, hcp, np, hdp⟩ := id hp
 unfold pyNext
 refine wpAny_bind (wpAny_attempt (wpAny_callSpecial?_slot (name := Str.ofString "__next__") hit.typeIs slot_seti_next
  (wpAny_call_entry slot_seti_next hit.typeIs entry_seti_next ?_ (args_seti_next _))))
 unfold Builtin.«set_iterator.__next__»
 refine wpAny_bind (wpAny_pure ?_)
 refine wpAny_bind (wpAny_fieldsOf ho hd ?_)
 dsimp only
 refine wpAny_bind (wpAny_setEntries_of hoa hda hf ?_)
 rw [if_neg (by simp [hn])]
 simp only [Int.toNat_natCast]
 refine wpAny_bind (wpAny_seqItems hop hdp ?_)
 dsimp only
 rw [hk]
 dsimp only
 have hit0 := seti_field0 (f' := rawInt 0) hit
 refine wpAny_bind (wpAny_setField ho hd (by simp) ?_)
 obtain ⟨o1, ho1, hc1, hd1⟩ := id hit0
 exact stop_end (s := { s with heap := _ }) hh ho1 hd1 (by simp) (Heap.SameBut.update ..).extBut hQ
end
theorem erase_perm {α : Type} : ∀ {l : List α} {i : Nat} (h : i < l.length), (l[i] :: l.eraseIdx i).Perm l
 | x :: xs, 0, h => List.Perm.refl _
 | x :: xs, i + 1, h => by
  show (xs[i]'(by simpa using h) :: x :: xs.eraseIdx i).Perm (x :: xs)
  exact (List.Perm.swap _ _ _).trans (List.Perm.cons _ (erase_perm (by simpa using h)))
theorem pick_go {α : Type} (next : Nat -> Nat) : ∀ (fuel k : Nat) (left : List α) (out : Array α), left.length <= fuel -> (pickOrder.go next fuel k left out).toList.Perm (out.toList ++ left)
 | 0, k, left, out, h => by
  have : left = [] := List.eq_nil_of_length_eq_zero (by omega)
  subst this
  simp [pickOrder.go]
 | fuel + 1, k, left, out, h => by
  unfold pickOrder.go
  cases left with
  | nil => simp
  | cons x xs =>
   have hlt : next k % (x :: xs).length < (x :: xs).length := Nat.mod_lt _ (by simp)
   generalize hi : next k % (x :: xs).length = i at *
   rw [List.getElem?_eq_getElem hlt]
   dsimp only
   refine (pick_go next fuel (k + 1) _ _ (by rw [List.length_eraseIdx]; split <;> simp at * <;> omega)).trans ?_
   rw [Array.toList_push, List.append_assoc]
   refine List.Perm.append_left _ ?_
   exact (erase_perm hlt)
theorem pick_perm {α : Type} (next : Nat -> Nat) (xs : Array α) : (pickOrder next xs).toList.Perm xs.toList := by
 have := pick_go next xs.size 0 xs.toList #[] (by simp)
 unfold pickOrder
 simpa using this
theorem wpAny_choose {M : Model} {A : Around} {E : Value -> Shared -> Prop} {s : Shared} {src : Source} {n : Nat} {Q : Nat -> Shared -> Prop} (hn : n ≠ 0) (h : ∀ i, i < n -> Q i { s with drawn := s.drawn.bump src }) : wpAny M A (choose src n) Q E s := fun Γ p hΓ => by
 show Sem.wp M Γ (.choose src n .pure) _ _ p s
 rw [Sem.wp_choose]
 refine ⟨hn, ?_⟩
 have := h (M.w.draws src (s.drawn.get src) % n) (Nat.mod_lt _ (by omega))
 exact (wpAny_pure (M := M) (A := A) (E := E) this) Γ p hΓ
theorem drawOrder_ok {α : Type} {M : Model} {A : Around} {E : Value -> Shared -> Prop} : ∀ (n : Nat) (xs : List α) {s : Shared} {Q : List α -> Shared -> Prop}, n = xs.length -> (∀ ys d, ys.Perm xs -> Q ys { s with drawn := d }) -> wpAny M A (drawOrder n xs) Q E s
 | 0, xs, s, Q, hn, h => by
  have : xs = [] := List.eq_nil_of_length_eq_zero hn.symm
  subst this
  unfold drawOrder
  exact wpAny_pure (h [] s.drawn (List.Perm.refl _))
 | n + 1, [], s, Q, hn, h => by cases hn
 | n + 1, x :: xs, s, Q, hn, h => by
  unfold drawOrder
  refine wpAny_bind (wpAny_choose (by simp) fun i hi => ?_)
  rw [List.getElem?_eq_getElem hi]
  dsimp only
  refine wpAny_bind (drawOrder_ok n _ (by rw [List.length_eraseIdx, if_pos hi]; simp at *; omega) fun ys d hp => wpAny_pure (h _ d ?_))
  exact (List.Perm.cons _ hp).trans (erase_perm hi)
section
variable {prog : Program} {w : World} {K : Type} [DecidableEq K] {knd : KeyKind prog w K} {A : Around} {E : Value -> Shared -> Prop} {s : Shared}
theorem byText_is {Q : Bool -> Shared -> Prop} (h : Q (w.params.followText "set-order") s) : wpAny (model prog w) A setsByText Q E s := by
 unfold setsByText
 exact wpAny_bind (wpAny_askSetting (wpAny_pure h))
theorem setNext_text {a : Addr} {slot i ep : Nat} {es : Array (Int × Value)} {t : SetTable} {Q : Option (Value × Nat) -> Shared -> Prop} (hS : SetAt knd s.heap a es ep t) (hb : w.params.followText "set-order" = true)
  (h : Q (((pickOrder (w.params.setOrder a ep) es)[i]?).map fun e => (e.2, slot)) s) : wpAny (model prog w) A (setNext a slot i ep) Q E s := by
 obtain ⟨oa, hoa, hex, hda, hel, hf⟩ := hS
 unfold setNext
 refine wpAny_bind (wpAny_setState_of hoa hda hf ?_)
 dsimp only
 refine wpAny_bind (byText_is ?_)
 rw [hb, if_pos rfl, if_neg (by simp)]
 refine wpAny_bind ?_
 unfold setWalk
 refine wpAny_bind (wpAny_setState_of hoa hda hf ?_)
 dsimp only
 refine wpAny_bind (byText_is ?_)
 rw [hb, if_pos rfl]
 exact wpAny_bind (wpAny_askSetting (wpAny_pure (wpAny_pure h)))
theorem setNext_slot {a : Addr} {slot i ep : Nat} {es : Array (Int × Value)} {t : SetTable} {Q : Option (Value × Nat) -> Shared -> Prop} (hS : SetAt knd s.heap a es ep t) (hb : w.params.followText "set-order" = false) (hl : t.led = true) (h1 : es.size <= 1)
  (h : Q (match es[SetTable.below t.place slot]?, t.place[SetTable.below t.place slot]? with | some (_, x), some j => some (x, j + 1) | _, _ => none) s) : wpAny (model prog w) A (setNext a slot i ep) Q E s := by
 obtain ⟨oa, hoa, hex, hda, hel, hf⟩ := hS
 unfold setNext
 refine wpAny_bind (wpAny_setState_of hoa hda hf ?_)
 dsimp only
 refine wpAny_bind (byText_is ?_)
 rw [hb, if_neg Bool.false_ne_true]
 refine wpAny_ite_split (fun c => ?_) fun _ => ?_
 ·have c : (!t.plain && decide (es.size > 1)) = true := c
  rw [decide_eq_false (by omega), Bool.and_false] at c
  cases c
 ·refine wpAny_bind ?_
  refine wpAny_ite_split (fun c => ?_) fun _ => ?_
  ·have c : (!t.led && !es.isEmpty) = true := c
   rw [hl] at c
   cases c
  ·exact wpAny_pure (wpAny_pure h)
end
section
variable {prog : Program} {w : World} {K : Type} [DecidableEq K] {knd : KeyKind prog w K} {A : Around} {E : Value -> Shared -> Prop} {s : Shared}
def Walkable (w : World) (es : Array (Int × Value)) (t : SetTable) : Prop := w.params.followText "set-order" = true \/ (t.led = true /\ (t.plain = false \/ es.size = 0))
structure SetWalk (prog : Program) (w : World) (A : Around) (it : Addr) (fp : List Addr) (vs : List Value) (St : Nat -> Heap -> Prop) : Prop where
 sub : it ∈ fp
 frame : ∀ i h h', St i h -> (∀ b ∈ fp, ∀ o, h.get? b = some o -> h'.get? b = some o) -> St i h'
 item : ∀ i (s : Shared) (Q : Option Value -> Shared -> Prop) (E : Value -> Shared -> Prop), i < vs.length -> St i s.heap ->
  (∀ v h', vs[i]? = some v -> St (i + 1) h' -> Heap.SameBut it s.heap h' -> Q (some v) { s with heap := h' }) -> wpAny (model prog w) A (pyNext (.ref it)) Q E s
 done : ∀ (s : Shared) (Q : Option Value -> Shared -> Prop) (E : Value -> Shared -> Prop), St vs.length s.heap -> (∀ h', Heap.ExtBut it s.heap h' -> Q none { s with heap := h' }) -> wpAny (model prog w) A (pyNext (.ref it)) Q E s
theorem below_one {j k : Nat} : SetTable.below #[j] k = if j < k then 1 else 0 := by
 unfold SetTable.below
 show SetTable.below.go #[j] k 1 0 1 = _
 unfold SetTable.below.go
 simp only [Nat.zero_lt_one, if_true]
 show (if (#[j] : Array Nat).getD 0 k < k then SetTable.below.go #[j] k 0 1 1 else SetTable.below.go #[j] k 0 0 0) = _
 show (if j < k then _ else _) = _
 split <;> rfl
theorem place_size {t : SetTable} {n : Nat} (h : t.fits n = true) : t.place.size = n := by
 unfold SetTable.fits at h
 rw [Bool.and_eq_true] at h
 simpa using h.1
theorem walk_text (hb : w.params.followText "set-order" = true) (hh : A.handled = none) {it a : Addr} (hne : a ≠ it) {es : Array (Int × Value)} {ep : Nat} {t : SetTable} :
  SetWalk prog w A it [it, a] ((pickOrder (w.params.setOrder a ep) es).toList.map (·.2)) (fun i h => IsSetIter h it (.int (0 : Nat) 0) i a es.size ep /\ SetAt knd h a es ep t) where
 sub := by simp
 frame := fun i h h' st k => ⟨st.1.at fun o e => k it (by simp) o e, st.2.at fun o e => k a (by simp) o e⟩
 item := fun i s Q E hi st hQ => by
  rw [List.length_map] at hi
  refine setiI_item (next := 0) (x := (pickOrder (w.params.setOrder a ep) es).toList[i].2) st.1 st.2 rfl (fun Q' E' q => setNext_text st.2 hb ?_) fun h' i' sb => hQ _ h' (by rw [List.getElem?_map, List.getElem?_eq_getElem hi]; rfl) ⟨i', st.2.at fun o e => (sb.2 a hne).trans e⟩ sb
  rw [<- Array.getElem?_toList, List.getElem?_eq_getElem hi]
  exact q
 done := fun s Q E st hQ => by
  refine setiI_end hh st.1 st.2 rfl (fun Q' E' q => setNext_text st.2 hb ?_) hQ
  rw [<- Array.getElem?_toList, List.getElem?_eq_none (by simp)]
  exact q
theorem walk_slot (hb : w.params.followText "set-order" = false) (hh : A.handled = none) {it a : Addr} (hne : a ≠ it) {es : Array (Int × Value)} {ep : Nat} {t : SetTable} (hl : t.led = true) (h1 : es.size <= 1) :
  SetWalk prog w A it [it, a] (es.toList.map (·.2)) (fun i h => ∃ slot : Nat, IsSetIter h it (.int slot 0) i a es.size ep /\ SetAt knd h a es ep t /\ ((i = 0 /\ slot = 0) \/ (i = 1 /\ ∃ j, t.place = #[j] /\ slot = j + 1))) where
 sub := by simp
 frame := fun i h h' st k => let ⟨sl, st1, st2, r⟩ := st; ⟨sl, st1.at fun o e => k it (by simp) o e, st2.at fun o e => k a (by simp) o e, r⟩
 item := fun i s Q E hi st hQ => by
  obtain ⟨sl, st1, st2, r⟩ := st
  rw [List.length_map, Array.length_toList] at hi
  have hi0 : i = 0 := by omega
  have hz : es.size = 1 := by omega
  subst hi0
  have hs0 : sl = 0 := by
   rcases r with r | r
   ·exact r.2
   ·exact absurd r.1 (by decide)
  subst hs0
  obtain ⟨_, _, _, _, _, hf⟩ := id st2
  have hps := place_size hf
  obtain ⟨j, hj⟩ : ∃ j, t.place = #[j] := Array.size_eq_one_iff.mp (hps.trans hz)
  have hes : ∃ e, es = #[e] := Array.size_eq_one_iff.mp hz
  obtain ⟨e, rfl⟩ := hes
  refine setiI_item (next := j + 1) (x := e.2) st1 st2 rfl (fun Q' E' q => setNext_slot st2 hb hl (by omega) ?_) fun h' i' sb => hQ _ h' rfl ⟨j + 1, i', st2.at fun o e => (sb.2 a hne).trans e, .inr ⟨rfl, j, hj, rfl⟩⟩ sb
  rw [hj, below_one, if_neg (Nat.not_lt_zero j)]
  exact q
 done := fun s Q E st hQ => by
  obtain ⟨sl, st1, st2, r⟩ := st
  obtain ⟨_, _, _, _, _, hf⟩ := id st2
  have hps := place_size hf
  refine setiI_end hh st1 st2 rfl (fun Q' E' q => setNext_slot st2 hb hl (by omega) ?_) hQ
  rcases r with r | ⟨r, j, hj, rfl⟩
  ·have hz : es.size = 0 := by have := r.1; simpa using this
   have : es = #[] := Array.eq_empty_of_size_eq_zero hz
   subst this
   exact q
  ·have hz : es.size = 1 := by have := r; simpa using this
   obtain ⟨e, rfl⟩ := Array.size_eq_one_iff.mp hz
   rw [hj, below_one, if_pos (Nat.lt_succ_self j)]
   exact q
theorem walk_drawn (hh : A.handled = none) {it a p : Addr} (hne : a ≠ it) (hnp : p ≠ it) {es : Array (Int × Value)} {ep : Nat} {t : SetTable} {ix : List Nat} (hix : ix.Perm (List.range es.size)) :
  SetWalk prog w A it [it, a, p] (ix.map fun k => (es.getD k (0, .none)).2) (fun i h => IsSetIter h it (.ref p) i a es.size ep /\ SetAt knd h a es ep t /\ h.IsTuple p (ix.map fun k => Value.int (k : Nat) 0).toArray) where
 sub := by simp
 frame := fun i h h' st k => ⟨st.1.at fun o e => k it (by simp) o e, st.2.1.at fun o e => k a (by simp) o e, let ⟨o, e, r⟩ := st.2.2; ⟨o, k p (by simp) o e, r⟩⟩
 item := fun i s Q E hi st hQ => by
  rw [List.length_map] at hi
  have hk : ix[i] < es.size := by simpa using hix.mem_iff.mp (List.getElem_mem hi)
  refine setiD_item (k := ix[i]) (hx := es[ix[i]].1) (x := es[ix[i]].2) st.1 st.2.1 rfl st.2.2 (by simp [hi]) (by rw [Array.getElem?_eq_getElem hk]) fun h' i' sb => hQ _ h' (by simp [hi, Array.getD, hk]) ⟨i', st.2.1.at fun o e => (sb.2 a hne).trans e, let ⟨o, e, r⟩ := st.2.2; ⟨o, (sb.2 p hnp).trans e, r⟩⟩ sb
 done := fun s Q E st hQ => setiD_end hh st.1 st.2.1 rfl st.2.2 (by simp) hQ
theorem pyIter_set {a : Addr} {es : Array (Int × Value)} {ep : Nat} {t : SetTable} {Q : Value -> Shared -> Prop} (hS : SetAt knd s.heap a es ep t) (hw : Walkable w es t) (hb0 : es.size < 4096)
  (q : ∀ (vs : List Value) (h' : Heap) (d : Drawn) (it : Addr) (fp : List Addr) (St : Nat -> Heap -> Prop), vs.Perm (es.toList.map (·.2)) -> (∀ A : Around, A.handled = none -> SetWalk prog w A it fp vs St) -> St 0 h' -> s.heap.objs.size <= it -> it < h'.objs.size -> (∀ b ∈ fp, b = a \/ s.heap.objs.size <= b) -> (∀ b o, s.heap.get? b = some o -> h'.get? b = some o) -> Q (.ref it) { s with heap := h', drawn := d }) :
  wpAny (model prog w) A (pyIter (.ref a)) Q E s := by
 obtain ⟨oa, hoa, hex, hda, hel, hf⟩ := id hS
 have hT : s.TypeIs (.ref a) "set" := ⟨oa, hoa, hex.1⟩
 have haS : a < s.heap.objs.size := Heap.lt_size hoa
 refine wpAny_pyIter_slot hT F.slot_set_iter (wpAny_call_entry F.slot_set_iter hT entry_set_iter ?_ (F.args_set_iter_1 _))
 unfold Builtin.«frozenset.__iter__»
 refine wpAny_bind (m := Builtin.Frozenset.slot0 _ _) (wpAny_pure ?_)
 refine wpAny_bind (m := Builtin.Frozenset.sizeOf a) (wpAny_bind (wpAny_setEntries_of hoa hda hf (wpAny_pure ?_)))
 have epoch : ∀ (s1 : Shared) (Q1 : Nat -> Shared -> Prop), SetAt knd s1.heap a es ep t -> Q1 ep s1 -> wpAny (model prog w) A.in1 (setEpoch a) Q1 E s1 := fun s1 Q1 S1 q1 => by
  obtain ⟨oa, hoa, hex, hda, hel, hf⟩ := S1
  unfold setEpoch
  exact wpAny_bind (wpAny_setState_of hoa hda hf (wpAny_pure q1))
 have fin : ∀ (h1 : Heap) (d : Drawn) (first : Value) (vs : List Value) (fp : List Addr) (St : Nat -> Heap -> Prop), (∀ b o, s.heap.get? b = some o -> h1.get? b = some o) -> s.heap.objs.size <= h1.objs.size -> vs.Perm (es.toList.map (·.2)) ->
   (∀ A : Around, A.handled = none -> SetWalk prog w A h1.objs.size fp vs St) -> (∀ b ∈ fp, b = a \/ s.heap.objs.size <= b) ->
   (∀ h2, IsSetIter h2 h1.objs.size first 0 a es.size ep -> (∀ b o, h1.get? b = some o -> h2.get? b = some o) -> St 0 h2) ->
   wpAny (model prog w) A.in1 (do
    let e <- setEpoch a
    let r <- newFields "set_iterator" [first, rawInt 0, Value.ref a, rawInt (es.size : Nat), rawInt (e : Nat)]
    ret r : Sem PySem.Fin) (fun fin s' => ∃ v, fin = Fin.done (Flow.ret v) /\ ∃ T' r, s'.TypeIs v T' /\ typeLookup (Value.type T') (Str.ofString "__next__") = pure (some r) /\ Q v s') E { s with heap := h1, drawn := d } := by
  intro h1 d first vs fp St keep hle hp W hfp hst
  refine wpAny_bind (epoch { s with heap := h1, drawn := d } _ (hS.at fun o e => keep _ _ e) ?_)
  refine wpAny_bind (wpAny_newObj_type (wpAny_pure ⟨_, rfl, "set_iterator", _, ⟨_, Heap.get?_push_size _ rfl, rfl⟩, slot_seti_next.lookup, ?_⟩))
  refine q vs _ d h1.objs.size fp St hp W (hst _ ⟨_, Heap.get?_push_size _ rfl, rfl, by simp [rawInt]⟩ fun b o e => Heap.get?_push_of_some _ e) hle (by rw [Heap.size_push]; exact Nat.lt_succ_self _) hfp fun b o e => Heap.get?_push_of_some _ (keep b o e)
 refine wpAny_bind ?_
 unfold setDrawn
 refine wpAny_bind (wpAny_setState_of hoa hda hf ?_)
 dsimp only
 refine wpAny_bind (byText_is (wpAny_pure ?_))
 cases hb : w.params.followText "set-order" with
 | true =>
  show wpAny _ _ (if (false && _) = true then _ else _) _ _ _
  rw [Bool.false_and, if_neg Bool.false_ne_true]
  refine wpAny_bind (wpAny_pure ?_)
  refine fin s.heap s.drawn (rawInt 0) ((pickOrder (w.params.setOrder a ep) es).toList.map (·.2)) [s.heap.objs.size, a] _ (fun _ _ e => e) (Nat.le_refl _) ((pick_perm _ es).map _) (fun A hh => walk_text (knd := knd) (t := t) hb hh (Nat.ne_of_lt haS)) (fun b hb' => ?_) fun h2 i2 k2 => ⟨i2, hS.at fun o e => k2 _ _ e⟩
  simp only [List.mem_cons, List.not_mem_nil, or_false] at hb'
  rcases hb' with rfl | rfl
  ·exact .inr (Nat.le_refl _)
  ·exact .inl rfl
 | false =>
  obtain ⟨hl, hpz⟩ : t.led = true /\ (t.plain = false \/ es.size = 0) := hw.resolve_left (by rw [hb]; exact Bool.false_ne_true)
  by_cases h1 : es.size <= 1
  ·refine wpAny_ite_split (fun c => ?_) fun _ => ?_
   ·have c : (!t.plain && decide (es.size > 1)) = true := c
    rw [decide_eq_false (by omega), Bool.and_false] at c
    cases c
   ·refine wpAny_bind (wpAny_pure ?_)
    refine fin s.heap s.drawn (rawInt 0) (es.toList.map (·.2)) [s.heap.objs.size, a] _ (fun _ _ e => e) (Nat.le_refl _) (List.Perm.refl _) (fun A hh => walk_slot (knd := knd) (t := t) hb hh (Nat.ne_of_lt haS) hl h1) (fun b hb' => ?_) fun h2 i2 k2 => ⟨0, i2, hS.at fun o e => k2 _ _ e, .inl ⟨rfl, rfl⟩⟩
    simp only [List.mem_cons, List.not_mem_nil, or_false] at hb'
    rcases hb' with rfl | rfl
    ·exact .inr (Nat.le_refl _)
    ·exact .inl rfl
  ·have hpl : t.plain = false := hpz.resolve_right (by omega)
   refine wpAny_ite_split (fun _ => ?_) fun c => ?_
   ·refine wpAny_bind (drawOrder_ok es.size _ (by simp) fun ix d hix => ?_)
    refine wpAny_bind (wpAny_newObj_type ?_ ?_)
    ·have hnew : (s.heap.push { cls := .type "tuple", data := .seq (ix.map fun i => rawInt (i : Nat)).toArray }).objs.size = s.heap.objs.size + 1 := by rw [Heap.size_push]
     refine fin _ d (.ref s.heap.objs.size) (ix.map fun k => (es.getD k (0, .none)).2) [(s.heap.push { cls := .type "tuple", data := .seq (ix.map fun i => rawInt (i : Nat)).toArray }).objs.size, a, s.heap.objs.size] _ (fun b o e => Heap.get?_push_of_some _ e) (by rw [hnew]; omega) ?_
      (fun A hh => walk_drawn (knd := knd) (t := t) hh (by rw [hnew]; exact Nat.ne_of_lt (Nat.lt_succ_of_lt haS)) (by rw [hnew]; exact Nat.ne_of_lt (Nat.lt_succ_self _)) hix) (fun b hb' => ?_) fun h2 i2 k2 => ⟨i2, hS.at fun o e => k2 _ _ (Heap.get?_push_of_some _ e), _, k2 _ _ (Heap.get?_push_size _ rfl), rfl, 0, rfl⟩
     ·have e : (List.range es.size).map (fun k => (es.getD k (0, .none)).2) = es.toList.map (·.2) := by
       apply List.ext_getElem
       ·simp
       ·intro k h1 h2
        simp at h1
        simp [Array.getD, h1]
      rw [<- e]
      exact hix.map _
     ·simp only [List.mem_cons, List.not_mem_nil, or_false] at hb'
      rcases hb' with rfl | rfl | rfl
      ·exact .inr (by rw [hnew]; exact Nat.le_succ _)
      ·exact .inl rfl
      ·exact .inr (Nat.le_refl _)
    ·show (ix.map fun i => rawInt (i : Nat)).toArray.size <= sizeLine
     rw [List.size_toArray, List.length_map, hix.length_eq, List.length_range, sizeLine_eq]
     omega
   ·have c : ¬ (!t.plain && decide (es.size > 1)) = true := c
    rw [hpl, decide_eq_true (by omega)] at c
    exact absurd rfl c
end
theorem set_len : typeLookup (.type "set") "__len__" = pure (some (.builtin "set.__len__")) := by rw [typeLookup_type, builtinLookup_eq_fast]; kernel_rfl
section
variable {prog : Program} {w : World} {K : Type} [DecidableEq K] {knd : KeyKind prog w K} {A : Around} {E : Value -> Shared -> Prop} {s : Shared}
theorem extend_set {it : Addr} {fp : List Addr} {vs : List Value} {St : Nat -> Heap -> Prop} {R : Result -> Shared -> Prop} (W : SetWalk prog w A.in1 it fp vs St) (hn : vs.length <= sizeLine) (S : Addr) (hSf : S ∉ fp) (res : Value) :
  ∀ (k i : Nat) (s : Shared) (acc : Array Value) (c : Nat), vs.length - i = k -> i <= vs.length -> St i s.heap -> s.heap.get? S = some { cls := .type "list", dict := none, data := .seq acc c, slots := #[] } -> acc.toList = vs.take i ->
  (∀ h' acc' c', (∀ b o, b ≠ S -> b ≠ it -> s.heap.get? b = some o -> h'.get? b = some o) -> h'.get? S = some { cls := .type "list", dict := none, data := .seq acc' c', slots := #[] } -> acc'.toList = vs -> R (.ok (.ret res)) { s with heap := h' }) ->
  codeAny (model prog w) A (.builtin "list.extend.loop" ⟨[.ref S, .ref it, res], []⟩) R s := by
 have hSi : S ≠ it := fun z => hSf (z ▸ W.sub)
 intro k
 induction k with
 | zero =>
  intro i s acc c hk hi hst hS hacc hR
  have hin : i = vs.length := by omega
  subst hin
  refine codeAny_builtin F.entry_extend_loop ?_
  rw [Around.under_plainId F.plain_extend_loop _]
  show wpAny _ A.in1 (pyNext (.ref it) >>= _) _ _ s
  refine wpAny_bind (W.done s _ _ hst fun h' hm => ?_)
  exact wpAny_pure (hR h' acc c (fun b o _ hb e => hm b o hb e) (hm S _ hSi hS) (by rw [hacc, List.take_length]))
 | succ k ih =>
  intro i s acc c hk hi hst hS hacc hR
  have hlt : i < vs.length := by omega
  refine codeAny_builtin F.entry_extend_loop ?_
  rw [Around.under_plainId F.plain_extend_loop _]
  show wpAny _ A.in1 (pyNext (.ref it) >>= _) _ _ s
  refine wpAny_bind (W.item i s _ _ hlt hst fun v h' hv hst' hm => ?_)
  have hS' : h'.get? S = some { cls := .type "list", dict := none, data := .seq acc c, slots := #[] } := (hm.2 S hSi).trans hS
  have hsz : acc.size = i := by rw [<- Array.length_toList, hacc, List.length_take]; omega
  show wpAny _ A.in1 (updateSeq S (·.push v) >>= _) _ _ _
  refine wpAny_bind ?_
  refine wpAny_updateSeq (s := { s with heap := h' }) hS' rfl (wpAny_pure ⟨plainId_quiet F.plain_extend_loop _, ih (i + 1) _ (acc.push v) _ (by omega) hlt (W.frame _ h' _ hst' fun b hb o e => ?_) (Heap.get?_update_self _ hS' rfl) ?_ fun h'' acc' c' hk'' hS'' hacc' => ?_⟩)
   (by rw [hsz]; omega) (by show (acc.push v).size <= sizeLine + 1; rw [Array.size_push, hsz]; omega)
  ·exact (Heap.get?_update_other _ _ (fun h : S = b => hSf (by rw [h]; exact hb))).trans e
  ·rw [Array.toList_push, hacc, List.take_add_one, hv]; rfl
  ·refine hR h'' acc' c' (fun b o hb1 hb2 e => hk'' b o hb1 hb2 ?_) hS'' hacc'
   exact (Heap.get?_update_other _ _ (fun h : S = b => hb1 h.symm)).trans ((hm.2 b hb2).trans e)
theorem collect_set {a : Addr} {es : Array (Int × Value)} {ep : Nat} {t : SetTable} {Q : List Value -> Shared -> Prop} (hh : A.handled = none) (hS : SetAt knd s.heap a es ep t) (hw : Walkable w es t) (hb0 : es.size < 4096)
  (hQ : ∀ vs h' d, vs.Perm (es.toList.map (·.2)) -> (∀ b o, s.heap.get? b = some o -> h'.get? b = some o) -> s.heap.objs.size <= h'.objs.size -> Q vs { s with heap := h', drawn := d }) : wpAny (model prog w) A (collect (.ref a)) Q E s := by
 obtain ⟨oa, hoa, hex, hda, hel, hf⟩ := id hS
 have haS : a < s.heap.objs.size := Heap.lt_size hoa
 unfold collect
 refine wpAny_bind (wpAny_runValue (codeAny_builtin F.entry_proto_collect ?_))
 rw [Around.under_plainId F.plain_proto_collect _]
 show wpAny _ A.in1 (newList [] >>= fun l => again (.builtin "list.__iadd__" ⟨[l, .ref a], []⟩)) _ _ s
 refine wpAny_bind (wpAny_newObj_type ?_)
 refine wpAny_pure ⟨plainId_quiet F.plain_list_iadd _, codeAny_builtin F.entry_list_iadd ?_⟩
 rw [Around.under_plainId F.plain_list_iadd _]
 show wpAny _ A.in1 (Builtin.List.listExtendWith (.ref s.heap.objs.size) (.ref a) (.ref s.heap.objs.size)) _ _ _
 unfold Builtin.List.listExtendWith
 have S1 : SetAt knd (s.heap.push { cls := .type "list", data := .seq ([] : List Value).toArray }) a es ep t := hS.at fun o e => Heap.get?_push_of_some _ e
 have T1 : Shared.TypeIs { s with heap := s.heap.push { cls := .type "list", data := .seq ([] : List Value).toArray } } (.ref a) "set" := ⟨oa, Heap.get?_push_of_some _ hoa, hex.1⟩
 refine wpAny_bind (wpAny_typeOf T1 ?_)
 have h1 : Builtin.List.listSameRef (.ref s.heap.objs.size) (.ref a) = false := by simp [Builtin.List.listSameRef]; exact Nat.ne_of_gt haS
 have h2 : (Value.type "set" == Value.type "list") = false := by decide
 have h3 : (Value.type "set" == Value.type "tuple") = false := by decide
 simp only [h1, h2, h3, Bool.or_false, Bool.false_eq_true, if_false]
 refine wpAny_bind (pyIter_set S1 hw hb0 fun vs h' d it fp St hp W hst hit hit2 hfp keep => ?_)
 refine wpAny_bind (wpAny_holding ?_)
 unfold Builtin.List.listLengthHint
 have T2 : Shared.TypeIs { s with heap := h', drawn := d } (.ref a) "set" := ⟨oa, keep _ _ (Heap.get?_push_of_some _ hoa), hex.1⟩
 refine wpAny_bind (wpAny_specialOf T2 set_len ?_)
 wp_delta
 refine wpAny_bind (wpAny_isInstance T2 (b := true) (by rw [isSubtype_type]; kernel_rfl) ?_)
 show wpAny _ A.in1 (typeOf (Value.ref a) >>= _) _ _ _
 refine wpAny_bind (wpAny_typeOf T2 ?_)
 refine wpAny_pure ?_
 rw [if_pos (by decide)]
 refine wpAny_bind (wpAny_rule ?_)
 generalize hH : s.heap.push { cls := .type "list", data := .seq ([] : List Value).toArray } = H at *
 have hHs : H.objs.size = s.heap.objs.size + 1 := by rw [<- hH, Heap.size_push]
 have hS0 : H.get? s.heap.objs.size = some { cls := .type "list", data := .seq ([] : List Value).toArray } := hH ▸ Heap.get?_push_size _ rfl
 have hS1 : h'.get? s.heap.objs.size = some { cls := .type "list", data := .seq ([] : List Value).toArray } := keep _ _ hS0
 refine wpAny_bind ?_
 show wpAny _ A.in1 (updateSeq s.heap.objs.size (·.push .none) >>= fun _ => updateSeq s.heap.objs.size (·.pop)) _ _ _
 refine wpAny_bind (wpAny_updateSeq hS1 rfl ?_)
 have hS2 := Heap.get?_update_self (Obj.mapSeq (·.push Value.none)) hS1 rfl
 refine wpAny_updateSeq hS2 rfl ?_
 have hS3 := Heap.get?_update_self (Obj.mapSeq (·.pop)) hS2 rfl
 have oth : ∀ b o, b ≠ s.heap.objs.size -> h'.get? b = some o -> ((h'.update s.heap.objs.size (Obj.mapSeq (·.push Value.none))).update s.heap.objs.size (Obj.mapSeq (·.pop))).get? b = some o :=
  fun b o hb e => (Heap.get?_update_other _ _ (Ne.symm hb)).trans ((Heap.get?_update_other _ _ (Ne.symm hb)).trans e)
 have hSf : s.heap.objs.size ∉ fp := fun hm => by
  rcases hfp _ hm with z | z
  ·exact absurd haS (by rw [<- z]; exact Nat.lt_irrefl _)
  ·rw [hHs] at z; exact absurd z (Nat.not_succ_le_self _)
 have hlen : vs.length = es.size := by rw [hp.length_eq]; simp
 refine wpAny_pure ⟨plainId_quiet F.plain_extend_loop _, extend_set (W A.in1 hh) (by rw [hlen, sizeLine_eq]; omega) _ hSf _ vs.length 0 _ _ _ rfl (Nat.zero_le _) ((W A.in1 hh).frame 0 h' _ hst fun b hb o e => oth b o (fun h => hSf (h ▸ hb)) e) hS3 rfl fun h'' acc' c' hk hS' hacc => ?_⟩
 show wpAny _ A (load s.heap.objs.size >>= _) _ _ _
 refine wpAny_bind (wpAny_load hS' ?_)
 have := hQ vs h'' d hp (fun b o e => ?_) (Nat.le_of_lt (Heap.lt_size hS'))
 ·exact wpAny_pure (by rw [hacc]; exact this)
 ·have hlt := Heap.lt_size e
  refine hk b o (Nat.ne_of_lt hlt) (fun z => ?_) (oth b o (Nat.ne_of_lt hlt) (keep b o (hH ▸ Heap.get?_push_of_some _ e)))
  rw [z] at hlt
  rw [hHs] at hit
  exact absurd (Nat.lt_of_lt_of_le hlt (Nat.le_of_succ_le hit)) (Nat.lt_irrefl _)
end
noncomputable def kz (e : Int × Value) : Str := match e.2 with | .str z _ => z | _ => ""
structure StrsSet (prog : Program) (w : World) (h : Heap) (a : Addr) (xs : List Str) (es : Array (Int × Value)) : Prop where
 ex : ∃ ep t, SetAt (strKind prog w) h a es ep t /\ t.led = !w.params.followText "set-order" /\ (t.plain = false \/ es.size = 0)
 txts : ∀ e ∈ es.toList, ∃ z tk, e.2 = .str z tk
 nd : (es.toList.map kz).Nodup
 mem : ∀ z, z ∈ es.toList.map kz ↔ z ∈ xs
 len : es.size <= xs.length
theorem isStr_kz {e : Int × Value} {z : Str} (h : ∃ z tk, e.2 = .str z tk) : Value.isStrOf z e.2 = true ↔ kz e = z := by
 obtain ⟨z', tk, e'⟩ := h
 unfold kz
 rw [e']
 refine ⟨fun h => ?_, fun h => ?_⟩
 ·obtain ⟨t, e⟩ := Value.isStrOf_shape h
  injection e
 ·have h : z' = z := h
  subst h
  simp [Value.isStrOf]
section
variable {prog : Program} {w : World} {A : Around} {E : Value -> Shared -> Prop} {s : Shared}
theorem strs_add {a : Addr} {xs : List Str} {es : Array (Int × Value)} {z : Str} {tk : Tok} {Q : Bool -> Shared -> Prop} (hS : StrsSet prog w s.heap a xs es) (hb : xs.length + 1 < 4096)
  (q : ∀ b h' es', Heap.SameBut a s.heap h' -> StrsSet prog w h' a (xs ++ [z]) es' -> Q b { s with heap := h' }) : wpAny (model prog w) A (setAddHashed a (.str z tk) ((strKind prog w).hash z)) Q E s := by
 obtain ⟨ep, t, hA, hl, hpl⟩ := hS.ex
 have hlen := hS.len
 refine setAdd_more (knd := strKind prog w) (k := z) (by show Value.isStrOf z (.str z tk) = true; simp [Value.isStrOf]) rfl hA (by show _ < 4096; omega) (fun ⟨e, he, hi⟩ => ?_) fun hno h' es' ep' t' sb hA' hp hl' hpl' => ?_
 ·have hz : z ∈ xs := (hS.mem z).mp (List.mem_map.mpr ⟨e, he, (isStr_kz (hS.txts e he)).mp hi⟩)
  have e0 : s = { s with heap := s.heap } := by cases s; rfl
  rw [e0]
  refine q false s.heap es (Heap.SameBut.refl _ _) ⟨⟨ep, t, hA, hl, hpl⟩, hS.txts, hS.nd, fun y => ?_, by rw [List.length_append]; omega⟩
  rw [hS.mem y, List.mem_append, List.mem_singleton]
  exact ⟨.inl, fun h => h.elim id fun e => e ▸ hz⟩
 ·have hz : z ∉ es.toList.map kz := fun hm => by
   obtain ⟨e, he, ek⟩ := List.mem_map.mp hm
   have := hno e he
   rw [show (strKind prog w).is z e.2 = true from (isStr_kz (hS.txts e he)).mpr ek] at this
   cases this
  have hpk : (es'.toList.map kz).Perm (es.toList.map kz ++ [z]) := by
   have := hp.map kz
   rw [List.map_append] at this
   exact this
  refine q true h' es' sb ⟨⟨ep', t', hA', hl'.trans hl, .inl (hpl' rfl)⟩, fun e he => ?_, ?_, fun y => ?_, ?_⟩
  ·rcases List.mem_append.mp (hp.mem_iff.mp he) with he | he
   ·exact hS.txts e he
   ·rw [List.mem_singleton.mp he]; exact ⟨z, tk, rfl⟩
  ·rw [hpk.nodup_iff, List.nodup_append]
   exact ⟨hS.nd, by simp, fun x hx y hy => by rw [List.mem_singleton.mp hy]; exact fun e => hz (e ▸ hx)⟩
  ·rw [hpk.mem_iff, List.mem_append, List.mem_append, List.mem_singleton, hS.mem y]
  ·rw [<- Array.length_toList, hp.length_eq, List.length_append, Array.length_toList, List.length_append]
   simp only [List.length_singleton]
   omega
theorem strs_keep {h h' : Heap} {a : Addr} {xs : List Str} {es : Array (Int × Value)} (x : StrsSet prog w h a xs es) (k : ∀ o, h.get? a = some o -> h'.get? a = some o) : StrsSet prog w h' a xs es :=
 ⟨let ⟨ep, t, hA, r⟩ := x.ex; ⟨ep, t, hA.at k, r⟩, x.txts, x.nd, x.mem, x.len⟩
theorem update_loop {R : Result -> Shared -> Prop} (S I l : Addr) (hSI : S ≠ I) (hSl : S ≠ l) (hlI : l ≠ I) (hh : A.handled = none) {items : Array Value} {zs : List Str} (hz : ∀ (i : Nat) v, items[i]? = some v -> ∃ z tk, zs[i]? = some z /\ v = .str z tk) (hzl : zs.length = items.size) (hb : items.size + 1 < 4096) :
  ∀ (k i : Nat) (s : Shared) (es : Array (Int × Value)), items.size - i = k -> i <= items.size -> s.heap.IsListIter I l i -> s.heap.IsList l items -> StrsSet prog w s.heap S (zs.take i) es ->
   (∀ h' tk es', (∀ b o, b ≠ S -> b ≠ I -> s.heap.get? b = some o -> h'.get? b = some o) -> StrsSet prog w h' S zs es' -> R (.ok (.ret .none)) { s with heap := h', toks := tk }) ->
   codeAny (model prog w) A (.builtin "set.update.loop" ⟨[.ref S, .ref I], []⟩) R s := by
 intro k
 induction k with
 | zero =>
  intro i s es hk hi hit hl hS hR
  have hin : i = items.size := by omega
  subst hin
  refine codeAny_builtin PyProof.Rows.F.entry_set_update_loop ?_
  rw [Around.under_plainId PyProof.Rows.F.plain_set_update_loop _]
  show wpAny _ A.in1 (pyNext (.ref I) >>= _) _ _ s
  refine wpAny_bind (wpAny_pyNext_list_end hh hit hl (by simp) fun h' he => ?_)
  show wpAny _ A.in1 (ret Value.none) _ _ _
  exact wpAny_pure (hR h' s.toks es (fun b o _ hb e => he b o hb e) (by rw [<- hzl, List.take_length] at hS; exact strs_keep hS fun o e => he S o hSI e))
 | succ k ih =>
  intro i s es hk hi hit hl hS hR
  have hlt : i < items.size := by omega
  obtain ⟨z, tk, hzi, hv⟩ := hz i items[i] (Array.getElem?_eq_getElem hlt)
  refine codeAny_builtin PyProof.Rows.F.entry_set_update_loop ?_
  rw [Around.under_plainId PyProof.Rows.F.plain_set_update_loop _]
  show wpAny _ A.in1 (pyNext (.ref I) >>= _) _ _ s
  refine wpAny_bind (wpAny_pyNext_list_item hit hl (Array.getElem?_eq_getElem hlt) fun h' hit' sb => ?_)
  rw [hv]
  show wpAny _ A.in1 (holding [Value.str z tk] (setAdd S (.str z tk)) >>= _) _ _ _
  refine wpAny_bind (wpAny_holding ?_)
  unfold setAdd
  refine wpAny_holding ?_
  refine wpAny_bind ((strKind prog w).pyHash (k := z) (by show Value.isStrOf z (.str z tk) = true; simp [Value.isStrOf]) ?_)
  have hS' : StrsSet prog w h' S (zs.take i) es := strs_keep hS fun o e => (sb.2 S hSI).trans e
  refine strs_add (s := { s with heap := h', toks := _ }) hS' (by rw [List.length_take]; omega) fun b h2 es2 sb2 hS2 => ?_
  have e2 : zs.take i ++ [z] = zs.take (i + 1) := by rw [List.take_add_one, hzi]; rfl
  rw [e2] at hS2
  refine wpAny_pure ⟨plainId_quiet PyProof.Rows.F.plain_set_update_loop _, ih (i + 1) _ es2 (by omega) hlt ?_ ?_ hS2 fun h3 tk3 es3 k3 hS3 => ?_⟩
  ·obtain ⟨o, e, r⟩ := hit'
   exact ⟨o, (sb2.2 I (Ne.symm hSI)).trans e, r⟩
  ·obtain ⟨o, e, r⟩ := hl
   exact ⟨o, (sb2.2 l (Ne.symm hSl)).trans ((sb.2 l hlI).trans e), r⟩
  ·exact hR h3 tk3 es3 (fun b o hb1 hb2 e => k3 b o hb1 hb2 ((sb2.2 b hb1).trans ((sb.2 b hb2).trans e))) hS3
end
section
variable {prog : Program} {w : World} {A : Around} {E : Value -> Shared -> Prop} {s : Shared}
theorem call_set_strs {l : Addr} {items : Array Value} {zs : List Str} {Q : Value -> Shared -> Prop} (hh : A.handled = none) (hl : s.heap.IsList l items) (hz : ∀ (i : Nat) v, items[i]? = some v -> ∃ z tk, zs[i]? = some z /\ v = .str z tk) (hzl : zs.length = items.size) (hb : items.size + 1 < 4096)
  (h : ∀ (h' : Heap) (tk : Nat) es, StrsSet prog w h' s.heap.objs.size zs es -> (∀ b o, b < s.heap.objs.size -> s.heap.get? b = some o -> h'.get? b = some o) -> Q (.ref s.heap.objs.size) { s with heap := h', toks := tk }) :
  wpAny (model prog w) A (call (.type "set") [.ref l]) Q E s := by
 obtain ⟨c, tl, hmro⟩ := F.called_set.mro
 have hmade := F.called_set.made
 have hsub := F.called_set.sub
 refine wpAny_call (codeAny_of_tree ?_)
 show wpAny _ _ (callAny (.type "set") _) _ _ _
 refine wpAny_pure ⟨Code.quiet_builtin _ (by decide +kernel), codeAny_builtin F.entry_type_call ?_⟩
 rw [Around.under_plain (weight_type_call_type "set" [.ref l] []) rfl]
 have h1 := F.called_set.notType
 have h2 := F.called_set.canCreate
 have hct := F.typeCall_set_1 (.ref l)
 repeat (any_goals (first | assumption | wp_step))
 have hnew : codeAny (model prog w) A.in1 (.call (.builtin "set.__new__") ⟨[.type "set", .ref l], []⟩) (wants (fun obj s₁ => obj = .ref s.heap.objs.size /\ s₁ = { s with heap := s.heap.push { cls := .type "set", dict := none, data := .set #[] 0 (.fresh 0 0 (!w.params.followText "set-order")) } }) E) s := by
  refine codeAny_of_tree ?_
  show wpAny _ _ (do checkBuiltinCall "set.__new__" ⟨[.type "set", .ref l], []⟩; again (.builtin "set.__new__" ⟨[.type "set", .ref l], []⟩)) _ _ s
  refine wpAny_bind (wpAny_of_eq (F.newCall_set_1 (.ref l)) (wpAny_pure ⟨plainId_quiet F.plain_set_new _, codeAny_builtin F.entry_set_new ?_⟩))
  rw [Around.under_plainId F.plain_set_new _]
  unfold Builtin.«set.__new__» Builtin.Frozenset.newClass
  have hsub := sub_set_self
  obtain ⟨hp, g, d, tk, os⟩ := s
  dsimp only
  wp_walk
  refine wpAny_askSetting (wpAny_pure ?_)
  dsimp only
  simp only [newObj]
  refine wpAny_bind (wpAny_alloc (wpAny_pure ?_))
  exact wpAny_pure ⟨rfl, rfl⟩
 refine codeAny_mono hnew fun r s₁ hr => ?_
 cases r with
 | error e => exact hr
 | ok fl =>
  cases fl with
  | ret obj =>
   obtain ⟨rfl, rfl⟩ := hr
   generalize hled : (!w.params.followText "set-order") = led at *
   have hS : (s.heap.push { cls := .type "set", dict := none, data := .set #[] 0 (.fresh 0 0 led) }).get? s.heap.objs.size = some { cls := .type "set", dict := none, data := .set #[] 0 (.fresh 0 0 led) } := Heap.get?_push_size _ rfl
   have hT : Shared.TypeIs { s with heap := s.heap.push { cls := .type "set", dict := none, data := .set #[] 0 (.fresh 0 0 led) } } (.ref s.heap.objs.size) "set" := ⟨_, hS, rfl⟩
   have hli := F.called_set.init.lookup
   have hbi := F.called_set.init.bind (.ref s.heap.objs.size)
   repeat (any_goals (first | assumption | wp_step))
   refine codeAny_mono (codeAny_call_builtin (R := wants (fun r s₂ => r = .none /\ ∃ h' tk es, s₂ = { s with heap := h', toks := tk } /\ StrsSet prog w h' s.heap.objs.size zs es /\
     (∀ b o, b < s.heap.objs.size -> s.heap.get? b = some o -> h'.get? b = some o)) E) F.called_set.init.plain F.entry_set_init (check_set_init_1 hT ?_)) fun r₂ s₂ hr₂ => ?_
   ·obtain ⟨ol, hol, hcl, nl, hdl⟩ := hl
    obtain ⟨ocls, odict, odata, oslots⟩ := ol
    simp only at hcl hdl
    subst hcl; subst hdl
    have hol' : (s.heap.push { cls := .type "set", dict := none, data := .set #[] 0 (.fresh 0 0 led) }).get? l = some { cls := .type "list", dict := odict, data := .seq items nl, slots := oslots } := Heap.get?_push_of_some _ hol
    have hsls := F.sub_list_set
    have hslf := F.sub_list_frozenset
    have hne : (Value.type "list" == Value.type "dict") = false := by decide
    have hl1 : (s.heap.push { cls := .type "set", dict := none, data := .set #[] 0 (.fresh 0 0 led) }).IsList l items := ⟨_, hol', rfl, nl, rfl⟩
    unfold Builtin.«set.__init__» noKeywords Builtin.Frozenset.updateFrom
    generalize hPI : pyIter = PI
    wp_walk
    subst hPI
    refine wpAny_pyIter_list hl1 ?_
    refine wpAny_bind (wpAny_runValue ?_)
    have hlS : l < s.heap.objs.size := Heap.lt_size hol
    have hlI : l ≠ (s.heap.push { cls := .type "set", dict := none, data := .set #[] 0 (.fresh 0 0 led) }).objs.size := by
     rw [Heap.size_push]; exact Nat.ne_of_lt (Nat.lt_succ_of_lt hlS)
    have hSI : s.heap.objs.size ≠ (s.heap.push { cls := .type "set", dict := none, data := .set #[] 0 (.fresh 0 0 led) }).objs.size := by
     rw [Heap.size_push]; exact Nat.ne_of_lt (Nat.lt_succ_self _)
    refine update_loop (es := #[]) s.heap.objs.size _ l hSI (Nat.ne_of_gt hlS) hlI (by simp [hh]) hz hzl hb items.size 0 _ (by omega) (Nat.zero_le _) ⟨_, Heap.get?_push_size _ rfl, rfl, rfl⟩ (hl1.push _) ?hS0 ?hR
    case hS0 =>
     refine ⟨⟨0, _, ⟨_, Heap.get?_push_of_some _ hS, ⟨rfl, rfl, rfl⟩, rfl, fun e he => by simp at he, rfl⟩, hled.symm, .inr rfl⟩, fun e he => by simp at he, by simp, fun z => by simp, by simp⟩
    case hR =>
     intro h' tk' es' hk hS'
     refine wpAny_pure ?_
     show wpAny _ _ (ret Value.none) _ _ _
     refine wpAny_pure ⟨rfl, h', tk', es', rfl, hS', fun b o hb' e => ?_⟩
     refine hk b o (Nat.ne_of_lt hb') (fun z => ?_) (Heap.get?_push_of_some _ (Heap.get?_push_of_some _ e))
     rw [z, Heap.size_push] at hb'
     exact absurd hb' (Nat.not_lt.mpr (Nat.le_succ _))
   ·cases r₂ with
    | error e => exact hr₂
    | ok fl₂ =>
     cases fl₂ with
     | ret r =>
      obtain ⟨rfl, h', tk, es', rfl, hS', hk'⟩ := hr₂
      repeat (any_goals (first | assumption | wp_step))
      exact h _ _ _ hS' hk'
     | _ => exact hr₂.elim
  | _ => exact hr.elim
end
open PySem PyProof.Rows
section
variable {prog : Program} {w : World} {A : Around} {E : Value -> Shared -> Prop} {s : Shared}
theorem sorted_by_collect {v : Value} {Q : Value -> Shared -> Prop} (h : wpAny (model prog w) A.in1 (collect v) (fun vs s1 => vs.length < 64 /\ ∃ ss, StrsAre vs ss /\
   ∀ (h' : Heap) (out : List Value) (ss' : List Str) (n : Nat), (∀ b o, s1.heap.get? b = some o -> h'.get? b = some o) -> h'.get? s1.heap.objs.size = some (seqObj "list" out.toArray n) -> StrsAre out ss' -> ss'.Perm ss -> sortedS ss' = true -> Q (.ref s1.heap.objs.size) { s1 with heap := h' }) E s) :
  wpAny (model prog w) A (call (.builtin "sorted") [v]) Q E s := by
 refine Calls.call_function_entry kind_sorted plain_sorted entry_sorted (args_sorted1 _) ?_
 unfold Builtin.«sorted»
 refine wpAny_bind (m := checkCount "sorted" 1 1 _) (wpAny_pure ?_)
 refine wpAny_bind (wpAny_mono h (fun vs s1 hv => ?_) fun _ _ e => e)
 obtain ⟨h64, ss, hS, q⟩ := hv
 refine wpAny_bind (wpAny_newList ?_ (by rw [sizeLine_eq]; omega))
 have hoL : (s1.heap.push (seqObj "list" vs.toArray 0)).get? s1.heap.objs.size = some (seqObj "list" vs.toArray 0) := Heap.get?_push_size _ rfl
 refine wpAny_bind (wpAny_holding (wpAny_call_entry slot_list_sort ⟨_, hoL, rfl⟩ entry_list_sort (list_sort_treeK strKind_oneLt hoL hS.keysOf (fun v₁ v₂ rest e => keyKind_strs (by rw [<- e]; exact hS)) h64 fun st' a1 a2 => ⟨_, rfl, ?_⟩) (args_list_sort _)))
 obtain ⟨ss', h1, h2, h3⟩ := sorted_out_str hS a1 a2
 obtain ⟨n, hn⟩ := sortedHeap_at (out := (arrOf st').map (·.2)) hoL
 refine wpAny_pure ⟨_, rfl, ?_⟩
 have e : ((arrOf st').map (·.2)).toList.toArray = (arrOf st').map (·.2) := Array.toArray_toList
 refine q _ ((arrOf st').map (·.2)).toList ss' n (fun b o eb => ?_) (by rw [e]; exact hn) h1 h2 h3
 have hlt := Heap.lt_size eb
 rw [sortedHeap_old (Nat.ne_of_lt hlt) (by rw [size_push']; exact Nat.lt_succ_of_lt hlt)]
 exact Heap.get?_push_of_some _ eb
theorem StrsAre.perm {vs : List Value} {es : List (Int × Value)} (h : ∀ e ∈ es, ∃ z tk, e.2 = Value.str z tk) (p : vs.Perm (es.map (·.2))) : StrsAre vs (vs.map strOf) /\ (vs.map strOf).Perm (es.map kz) := by
 refine ⟨strsAre_map vs fun v hv => ?_, ?_⟩
 ·obtain ⟨e, he, rfl⟩ := List.mem_map.mp (p.mem_iff.mp hv)
  exact h e he
 ·have := p.map strOf
  rw [List.map_map] at this
  have e : es.map (strOf ∘ fun x => x.2) = es.map kz := List.map_congr_left fun x hx => by
   obtain ⟨z, tk, e1⟩ := h x hx
   show strOf x.2 = kz x
   unfold kz; rw [e1]; rfl
  rw [e] at this
  exact this
theorem sorted_strset {a : Addr} {xs : List Str} {es : Array (Int × Value)} {Q : Value -> Shared -> Prop} (hh : A.handled = none) (hS : StrsSet prog w s.heap a xs es) (h64 : xs.length < 64)
  (h : ∀ (h' : Heap) (d : Drawn) (p : Addr) (out : List Value) (ys : List Str) (n : Nat), s.heap.objs.size <= p -> (∀ b o, s.heap.get? b = some o -> h'.get? b = some o) -> h'.get? p = some (seqObj "list" out.toArray n) -> StrsAre out ys -> ys.Nodup -> (∀ z, z ∈ ys ↔ z ∈ xs) -> sortedS ys = true -> Q (.ref p) { s with heap := h', drawn := d }) :
  wpAny (model prog w) A (call (.builtin "sorted") [.ref a]) Q E s := by
 obtain ⟨ep, t, hA, hl, hp⟩ := hS.ex
 have hlen := hS.len
 refine sorted_by_collect (collect_set (A := A.in1) hh hA ?_ (by omega) fun vs h1 d hpm keep hge => ?_)
 ·unfold Walkable
  cases hb : w.params.followText "set-order" with
  | true => exact .inl rfl
  | false => rw [hb] at hl; exact .inr ⟨hl, hp⟩
 ·obtain ⟨s1, p1⟩ := StrsAre.perm hS.txts hpm
  refine ⟨by rw [hpm.length_eq]; simp; omega, _, s1, fun h' out ss' n k2 ho so po so2 => ?_⟩
  have p2 : ss'.Perm (es.toList.map kz) := po.trans p1
  exact h h' d _ out ss' n hge (fun b o e => k2 b o (keep b o e)) ho so (p2.nodup_iff.mpr hS.nd) (fun z => by rw [p2.mem_iff, hS.mem z]) so2
end
noncomputable def insS (z : Str) : List Str -> List Str
 | [] => [z]
 | y :: ys => if z = y then y :: ys else if sLt z y = true then z :: y :: ys else y :: insS z ys
noncomputable def sortS : List Str -> List Str
 | [] => []
 | z :: zs => insS z (sortS zs)
theorem insS_mem {z x : Str} : ∀ {ys : List Str}, x ∈ insS z ys ↔ x = z \/ x ∈ ys
 | [] => by simp [insS]
 | y :: ys => by
  unfold insS
  split
  ·rename_i e; subst e; simp
  ·split
   ·simp
   ·rw [List.mem_cons, insS_mem, List.mem_cons]
    constructor
    ·rintro (h | h | h)
     ·exact .inr (.inl h)
     ·exact .inl h
     ·exact .inr (.inr h)
    ·rintro (h | h | h)
     ·exact .inr (.inl h)
     ·exact .inl h
     ·exact .inr (.inr h)
theorem insS_ord {z : Str} : ∀ {ys : List Str}, ys.Pairwise (fun a b => sLt a b = true) -> (insS z ys).Pairwise (fun a b => sLt a b = true)
 | [], _ => by simp [insS]
 | y :: ys, h => by
  have h' := List.pairwise_cons.mp h
  unfold insS
  split
  ·exact h
  ·rename_i ne
   split
   ·rename_i lt
    refine List.pairwise_cons.mpr ⟨fun x hx => ?_, h⟩
    rcases List.mem_cons.mp hx with rfl | hx
    ·exact lt
    ·exact sto_str.tr _ _ _ lt (h'.1 x hx)
   ·rename_i nlt
    refine List.pairwise_cons.mpr ⟨fun x hx => ?_, insS_ord h'.2⟩
    rcases insS_mem.mp hx with rfl | hx
    ·exact sto_str.ne (by simpa using nlt) ne
    ·exact h'.1 x hx
theorem sortS_ord : ∀ zs : List Str, (sortS zs).Pairwise (fun a b => sLt a b = true)
 | [] => List.Pairwise.nil
 | z :: zs => insS_ord (sortS_ord zs)
theorem sortS_mem {x : Str} : ∀ {zs : List Str}, x ∈ sortS zs ↔ x ∈ zs
 | [] => Iff.rfl
 | z :: zs => by show x ∈ insS z (sortS zs) ↔ _; rw [insS_mem, sortS_mem, List.mem_cons]
theorem insS_len {z : Str} : ∀ {ys : List Str}, (insS z ys).length <= ys.length + 1
 | [] => by simp [insS]
 | y :: ys => by
  have := insS_len (z := z) (ys := ys)
  unfold insS
  split
  ·simp
  ·split
   ·simp
   ·simp only [List.length_cons]; omega
theorem sortS_len : ∀ {zs : List Str}, (sortS zs).length <= zs.length
 | [] => Nat.le_refl _
 | z :: zs => by
  have h1 := insS_len (z := z) (ys := sortS zs)
  have h2 := sortS_len (zs := zs)
  show (insS z (sortS zs)).length <= _
  simp only [List.length_cons]; omega
theorem ord_nodup {ys : List Str} (h : ys.Pairwise (fun a b => sLt a b = true)) : ys.Nodup := h.imp fun {a b} e z => by rw [z, sto_str.irr] at e; cases e
theorem ord_ge {ys : List Str} (h : ys.Pairwise (fun a b => sLt a b = true)) : ys.Pairwise (fun a b => sLt b a = false) := h.imp fun {a b} e => sto_str.asy e
theorem ord_one {xs ys : List Str} (h1 : xs.Pairwise (fun a b => sLt a b = true)) (h2 : ys.Pairwise (fun a b => sLt a b = true)) (m : ∀ z, z ∈ xs ↔ z ∈ ys) : xs = ys :=
 sorted_unique sto_str ((List.perm_ext_iff_of_nodup (ord_nodup h1) (ord_nodup h2)).mpr m) (ord_ge h1) (ord_ge h2)
theorem sortS_is {zs ys : List Str} (hn : ys.Nodup) (hm : ∀ z, z ∈ ys ↔ z ∈ zs) (ho : ys.Pairwise (fun a b => sLt b a = false)) : ys = sortS zs := by
 refine ord_one ?_ (sortS_ord zs) fun z => by rw [hm, sortS_mem]
 exact List.Pairwise.imp₂ (fun a b e n => sto_str.ne e (Ne.symm n)) ho hn
@[simp] noncomputable def fSortSet (f : FE) : FR := fun δ => (f δ).bind fun d => match d with | .lst ds => (strsD ds).bind fun zs => if zs.length < 64 then some (.fr (.lst ((sortS zs).map .str))) else none | _ => none
def SetX (prog : Program) (w : World) (a : Addr) (zs : List Str) : Heap -> Prop := fun h => ∃ es, StrsSet prog w h a zs es
theorem strs_vals {zs : List Str} {its : List Value} : Vals (zs.map V.str) its -> ∀ (i : Nat) (v : Value), its.toArray[i]? = some v -> ∃ z tk, zs[i]? = some z /\ v = .str z tk := fun h i v e => by
 have e' : its[i]? = some v := by simpa using e
 have hl := h.length
 have hi : i < zs.length := by have := (List.getElem?_eq_some_iff.mp e').1; simp at hl; omega
 have e1 : (zs.map V.str)[i]? = some (V.str zs[i]) := by simp [hi]
 obtain ⟨u, e2, r⟩ := h.get e1
 rw [e'] at e2
 cases e2
 obtain ⟨t, rfl⟩ := r
 exact ⟨zs[i], t, List.getElem?_eq_getElem hi, rfl⟩
theorem strsAre_vals : ∀ {out : List Value} {ys : List Str}, StrsAre out ys -> Vals (ys.map V.str) out
 | _, _, .nil => .nil
 | _, _, .cons x t h => .cons ⟨t, rfl⟩ (strsAre_vals h)
theorem rising_ord : ∀ (p : Str) (r : List Str), risingS p r = true -> (p :: r).Pairwise (fun a b => sLt b a = false)
 | p, [], _ => by simp
 | p, x :: r, h => by
  unfold risingS at h
  rw [Bool.and_eq_true, Bool.not_eq_true', ltCps_eq] at h
  have h1 : sLt x p = false := h.1
  have ih := rising_ord x r h.2
  refine List.pairwise_cons.mpr ⟨fun y hy => ?_, ih⟩
  rcases List.mem_cons.mp hy with rfl | hy
  ·exact h1
  ·exact sto_str.ngt ((List.pairwise_cons.mp ih).1 y hy) h1
theorem sortedS_ord {ys : List Str} (h : sortedS ys = true) : ys.Pairwise (fun a b => sLt b a = false) := by
 cases ys with
 | nil => exact List.Pairwise.nil
 | cons x r => exact rising_ord x r h
section
variable {X : Cx} {pins : List (Addr × Obj)} {σ : St} {H : Hp} {s : Shared}
theorem Inv.drew {h' : Heap} {t' : Nat} {d' : Drawn} {H' : Hp} (I : Inv X pins σ H' { s with heap := h', toks := t' }) : Inv X pins σ H' { s with heap := h', toks := t', drawn := d' } :=
 ⟨I.ok, I.os, I.bare, I.base, I.loc, I.cell, I.free, I.freeC, I.pin, I.hok, I.len⟩
theorem call_setL (hc : X.calm = true) : CallR X (.type "set") (fun xs H Q => ∃ l zs, xs = [.ref l] /\ SqL X.K H l (zs.map V.str) /\ zs.length < 4000 /\ ∀ p, H p = none -> Q (.ref p) (upd H p (.ext (SetX X.prog X.w p zs)))) := by
 intro pins s σ H xs us Q I r h
 obtain ⟨l, zs, rfl, hq, hz, q⟩ := h
 obtain ⟨u, rfl, rx⟩ := vals1 r
 cases rx
 obtain ⟨its, rv, pl, _⟩ := I.list hq
 have hlen : zs.length = its.length := by have := rv.length; simpa using this
 refine call_set_strs (I.ok.hd hc) pl.isList (strs_vals rv) (by simpa using hlen) (by rw [List.size_toArray]; omega) fun h' tk es hS keep => ?_
 have hn : H s.heap.objs.size = none := I.hok.fresh (Nat.le_refl _)
 refine ⟨.ref _, _, I.laid (t' := tk) (h' := h') (fun b o e => keep b o (Heap.lt_size e) e) (Nat.le_refl _) ?_, rfl, q _ hn⟩
 obtain ⟨ep, t, ⟨o, ho, _⟩, _⟩ := hS.ex
 exact ⟨⟨es, hS⟩, ⟨o, ho⟩, fun h1 h2 ⟨es', S'⟩ k => ⟨es', strs_keep S' k⟩⟩
theorem call_sortedS (hc : X.calm = true) : CallR X (.builtin "sorted") (fun xs H Q => ∃ a zs, xs = [.ref a] /\ H a = some (.ext (SetX X.prog X.w a zs)) /\ zs.length < 64 /\ ∀ p, H p = none -> Q (.ref p) (upd H p (.lst ((sortS zs).map V.str)))) := by
 intro pins s σ H xs us Q I r h
 obtain ⟨a, zs, rfl, hq, hz, q⟩ := h
 obtain ⟨u, rfl, rx⟩ := vals1 r
 cases rx
 obtain ⟨⟨es, hS⟩, _⟩ := I.hok a _ hq
 refine sorted_strset (I.ok.hd hc) hS hz fun h' d p out ys n hp keep ho so nd mem ord => ?_
 have hn : H p = none := I.hok.fresh hp
 have e : ys = sortS zs := sortS_is nd mem (sortedS_ord ord)
 subst e
 refine ⟨.ref p, _, Inv.drew (I.laid (t' := s.toks) (h' := h') keep hp ?_), rfl, q _ hn⟩
 have hl : ((sortS zs).map V.str).length <= sizeLine := by
  have h1 := sortS_len (zs := zs)
  rw [List.length_map, sizeLine_eq]; omega
 exact ⟨hl, out, n, strsAre_vals so, ho⟩
theorem strsD_map : ∀ {ds : List D} {zs : List Str}, strsD ds = some zs -> ds = zs.map .str
 | [], zs, h => by cases h; rfl
 | d :: ds, zs, h => by
  cases d with
  | str z =>
   simp only [strsD] at h
   obtain ⟨ys, e1, rfl⟩ := omE h
   rw [strsD_map e1]; rfl
  | _ => cases h
theorem repL_strs' {K : PySem.W.Frag} {G : Hp} : ∀ {zs : List Str} {vs : List V}, RepL K G (zs.map .str) vs -> vs = zs.map V.str
 | [], vs, h => by simp only [List.map_nil, RepL] at h; subst h; rfl
 | z :: zs, vs, h => by
  simp only [List.map_cons, RepL, Rep] at h
  obtain ⟨v, r, rfl, rfl, h3⟩ := h
  rw [repL_strs' h3]; rfl
section
variable {X : Cx} {e : Expr} {f : FE} {p1 p2 q1 q2 : Pos}
theorem pr_sortSet (hc : X.calm = true) (hm1 : X.mg "sorted" = none) (hm2 : X.mg "set" = none) (he : PB X e f) (hg1 : Gl X "sorted" := by rfl) (hg2 : Gl X "set" := by rfl)
  (h1 : starEach [.Call (.Name "set" q1) [e] [] q2] X.env = (false, eval (.Call (.Name "set" q1) [e] [] q2) X.env) :: starEach [] X.env := by rfl) (h2 : starEach [e] X.env = (false, eval e X.env) :: starEach [] X.env := by rfl) :
  PR X (.Call (.Name "sorted" p1) [.Call (.Name "set" q1) [e] [] q2] [] p2) (fSortSet f) := by
 obtain ⟨te, pe, ke⟩ := he
 refine ⟨_, pe_callB (call_sortedS hc) hg1 hm1 boot_sorted (pa_cons (pe_callTy (call_setL hc) hg2 hm2 boot_set (pa_cons pe pa_nil h2) (by decide) (by decide) h2) pa_nil h1) (by decide) (by decide) h1, fun B G H δ σ r Q sG rs ef k => ?_⟩
 unfold fSortSet at ef
 obtain ⟨d, e1, ef⟩ := obE ef
 cases d with
 | lst ds =>
  dsimp only at ef
  obtain ⟨zs, e2, ef⟩ := obE ef
  split at ef
  ·rename_i hz
   cases ef
   obtain rfl := strsD_map e2
   refine ke B G H δ σ (.lst (zs.map .str)) _ sG rs e1 fun v G1 H1 g1 rb => ?_
   obtain ⟨a, vs, rfl, hq, rl⟩ := rb.lst g1.s
   obtain rfl := repL_strs' rl
   refine ⟨a, zs, rfl, hq, by omega, fun p hp => ?_⟩
   refine ⟨p, zs, rfl, upd_same, hz, fun p2 hp2 => ?_⟩
   have hne : p2 ≠ p := fun z => by rw [z, upd_same] at hp2; cases hp2
   have g2 : Grow G H G1 (upd H1 p (.ext (SetX X.prog X.w p zs))) := ⟨g1.g, fun b u e => by rw [upd_ne (ne_of_none (g1.h _ _ e) hp)]; exact g1.h _ _ e, fun b u e => by rw [upd_ne (ne_of_none (g1.s _ _ e) hp)]; exact g1.s _ _ e, g1.n⟩
   exact k p2 ((sortS zs).map V.str) G1 _ g2 hp2 trivial (repL_strs _)
  ·cases ef
 | _ => cases ef
end
end
section
variable {X : Cx}
end
section
variable {X : Cx}
end
section
variable {X : Cx} {e : Expr} {es : List Expr} {pos p : Pos}
end
section
variable {δ : En} {i : Nat} {f : FE} {N : En -> Prop} {T : Rs -> En -> Prop}
end
noncomputable def pairD : D -> Option (D × D) | .tup [a, b] => some (a, b) | _ => none
noncomputable def pairsD : List D -> Option (List (D × D))
 | [] => some []
 | d :: ds => (pairD d).bind fun p => (pairsD ds).map (p :: ·)
theorem pairsD_is : ∀ {xs : List D} {ps : List (D × D)}, pairsD xs = some ps -> xs = ps.map fun p => .tup [p.1, p.2]
 | [], ps, h => by cases h; rfl
 | d :: ds, ps, h => by
  unfold pairsD at h
  obtain ⟨p, e1, h⟩ := obE h
  obtain ⟨qs, e2, rfl⟩ := omE h
  unfold pairD at e1
  split at e1
  ·cases e1
   rw [pairsD_is e2]
   rfl
  ·cases e1
section
variable {X : Cx}
@[simp] noncomputable def sForP (i j : Nat) (g : En -> Option (List D)) (F : FS) : FS := fun δ => (g δ).bind fun xs => (pairsD xs).bind fun ps => forL2 i j F ps δ
theorem psd_forP (i j : Nat) {x y : Str} {px py pt pf : Pos} {k : Nat} {iter : Expr} {g : En -> Option (List D)} {F : FS} {body : List Stmt} (hN : X.N.Nodup) (hc : X.calm = true) (hp : PassesOwn (model X.prog X.w) X.A X.env X.xe)
  (hi : PID X (.Tuple [.Name x px, .Name y py] k pt) iter g) (hbody : PSsD X body F)
  (hix : X.N[i]? = some x := by rfl) (hx : Loc X.env.scope x := by walk_at "or") (hfx : X.fn x = true \/ X.env.scope.names.lookup x = some .local := by walk_at "or")
  (hjy : X.N[j]? = some y := by rfl) (hy : Loc X.env.scope y := by walk_at "or") (hfy : X.fn y = true \/ X.env.scope.names.lookup y = some .local := by walk_at "or")
  (ht1 : (assignEach [.Name x px, .Name y py] X.env).map (·.2) = assign (.Name x px) X.env :: (assignEach [.Name y py] X.env).map (·.2) := by rfl) (ht2 : (assignEach [.Name y py] X.env).map (·.2) = assign (.Name y py) X.env :: (assignEach [] X.env).map (·.2) := by rfl)
  (hn : (assignEach [.Name x px, .Name y py] X.env).length = 2 := by rfl) (hst : (assignEach [.Name x px, .Name y py] X.env).findIdx? (·.1) = none := by rfl)
  (hfold : ∀ x, foldedSetIterable iter X.env x = pure x := by intro _; rfl) :
  PSD X (.For (.Tuple [.Name x px, .Name y py] k pt) iter body [] pf) (sForP i j g F) := by
 obtain ⟨wi, pw, kw⟩ := hi
 obtain ⟨tb, pb, kb⟩ := hbody
 refine ⟨_, ps_for hp hc pw (pg_tup (n := 2) hc (pgs_cons (pg_name hN hix hx hfx) (pgs_cons (pg_name hN hjy hy hfy) pgs_nil ht2) ht1) hn hst) pb hfold, fun B G H δ σ o D sG sB rs e w => ?_⟩
 unfold sForP at e
 obtain ⟨xs, e1, e⟩ := obE e
 obtain ⟨ps, e2, e3⟩ := obE e
 clear e
 have hxs := pairsD_is e2
 subst hxs
 refine kw B G H δ σ _ _ sG rs e1 fun J G1 H1 g1 wk => ?_
 have st1 : Stp B G G1 H1 := g1.stp sB
 refine ⟨fun n m σ' H' => ∃ δ' G', m = ps.length - n /\ n <= ps.length /\ Stp B G1 G' H' /\ RepS X.K B G' H' δ' σ' /\ forL2 i j F (ps.drop n) δ' = some o, ⟨_, δ, G1, rfl, Nat.zero_le _, Stp.refl st1.s st1.b, rs.grow g1, by simpa using e3⟩, ?_⟩
 rintro n m σ' H' ⟨δ', G', rfl, hn', a1, rs', eo⟩
 by_cases hlt : n < ps.length
 ·right
  obtain ⟨dx', dy', ep⟩ : ∃ p q, ps[n] = (p, q) := ⟨_, _, rfl⟩
  obtain ⟨go, yl⟩ := wk.go n (.tup [dx', dy']) G' H' (by simp [hlt, ep]) a1.g a1.s
  rw [List.drop_eq_getElem_cons hlt, ep] at eo
  unfold forL2 at eo
  refine ⟨go, fun σ2 H2 => ∃ m', m' < ps.length - n /\ ∃ δ2 G2, m' = ps.length - (n + 1) /\ n + 1 <= ps.length /\ Stp B G1 G2 H2 /\ RepS X.K B G2 H2 δ2 σ2 /\ forL2 i j F (ps.drop (n + 1)) δ2 = some o, fun σ2 H2 z => z, fun x H2 y => ?_⟩
  obtain ⟨rfl, rx⟩ := yl x H2 y
  simp only [Rep, RepL] at rx
  obtain ⟨p, us, rfl, hp1, ux, r1, rfl, rvx, uy, r2, rfl, rvy, rfl⟩ := rx
  refine ⟨p, [ux, uy], rfl, a1.s.sqT hp1, rfl, ux, [uy], rfl, uy, [], rfl, rfl, ?_⟩
  have again : ∀ {δ2 : En} {σ2 : St} {G2 H3 : Hp}, Stp B G' G2 H3 -> RepS X.K B G2 H3 δ2 σ2 -> forL2 i j F (ps.drop (n + 1)) δ2 = some o ->
    ∃ m', m' < ps.length - n /\ ∃ δ2 G2, m' = ps.length - (n + 1) /\ n + 1 <= ps.length /\ Stp B G1 G2 H3 /\ RepS X.K B G2 H3 δ2 σ2 /\ forL2 i j F (ps.drop (n + 1)) δ2 = some o :=
   fun {δ2 σ2 G2 H3} a r e => ⟨ps.length - (n + 1), by omega, δ2, G2, rfl, hlt, a1.trans a, r, e⟩
  cases eF : F ((δ'.set i (some (.sh dx'))).set j (some (.sh dy'))) with
  | none => rw [eF] at eo; cases eo
  | some o1 =>
   rw [eF] at eo
   refine kb B G' _ _ _ o1 _ a1.s a1.b ((rs'.set i rvx).set j rvy) eF ?_
   cases o1 with
   | nx δ2 => exact fun σ2 G2 H3 a r => again a r eo
   | ct δ2 => exact fun σ2 G2 H3 a r => again a r eo
   | ex c δ2 =>
    cases eo
    exact fun pins σ2 G2 H3 s3 e C I a => w pins σ2 G2 H3 s3 e C I (st1.trans (a1.trans a))
   | bk δ2 =>
    cases eo
    exact fun σ2 G2 H3 a r => w σ2 G2 H3 (st1.trans (a1.trans a)) r
   | rt r δ2 =>
    cases eo
    cases r with
    | sh d => exact fun v σ2 G2 H3 a r => w v σ2 G2 H3 (st1.trans (a1.trans a)) r
    | fr m => exact fun p vs σ2 G2 H3 a => w p vs σ2 G2 H3 (st1.trans (a1.trans a))
 ·left
  have hnn : n = ps.length := by omega
  subst hnn
  rw [List.drop_of_length_le (Nat.le_refl _)] at eo
  cases eo
  have := wk.stop G' H' a1.g a1.s
  rw [List.length_map] at this
  exact ⟨this, w σ' G' H' (st1.trans a1) rs'⟩
end
section
variable {δ : En} {i j : Nat} {g : En -> Option (List D)} {F : FS} {N : En -> Prop} {T : Rs -> En -> Prop}
end
noncomputable def bmV : List Value := [.type "ValueError", .type "Exception", .type "BaseException", .type "object"]
def RaiseC (K : PySem.W.Frag) (c : Str) : Prop := ∃ C, PySem.W.nsIn K mainGlobals c = some (some (.ref C)) /\ ExcC K C /\ PySem.W.excIn K C bmV "ValueError.__new__" = true
theorem OwnTail.keeps {h h' : Heap} {bmB bm : List Value} (k : ∀ b o, h.get? b = some o -> h'.get? b = some o) (t : OwnTail h bmB bm) : OwnTail h' bmB bm := by
 induction t with
 | base => exact .base
 | own e n i _ ih => obtain ⟨o, es, ep, ho, r⟩ := n; exact .own (k _ _ e) ⟨o, es, ep, k _ _ ho, r⟩ i ih
theorem ObjOk.is {P : Program} {w : World} {H : Hp} {h : Heap} {a : Addr} {o : HO} (x : ObjOk P w H h a o) : ∃ u, h.get? a = some u := by
 induction o with
 | lst xs => obtain ⟨_, _, _, _, e⟩ := x; exact ⟨_, e⟩
 | tup xs => obtain ⟨_, _, _, p⟩ := x; obtain ⟨o, e, _⟩ := p; exact ⟨_, e⟩
 | dK kvs => obtain ⟨_, _, _, _, o, _, _, e, _⟩ := x; exact ⟨_, e⟩
 | dT kvs => obtain ⟨_, _, _, _, o, _, _, e, _⟩ := x; exact ⟨_, e⟩
 | set S n => obtain ⟨o, _, _, _, e, _⟩ := x; exact ⟨_, e⟩
 | ins C dx fs => obtain ⟨_, _, _, e, _⟩ := x; exact ⟨_, e⟩
 | own y => exact x
 | xd fs => obtain ⟨_, e, _⟩ := x; obtain ⟨o, _, _, e, _⟩ := e; exact ⟨_, e⟩
 | rng lo hi => obtain ⟨_, _, _, e⟩ := x; exact ⟨_, e⟩
 | frz o u ih => exact ⟨_, x.1⟩
 | tbl ps => exact ⟨_, x⟩
 | met f y => exact ⟨_, x⟩
 | ext φ => exact x.2.1
section
variable {X : Cx} {e0 : Expr} {rest : List Expr} {np cpos pos : Pos} {g : En -> Option (List D)} {c : Str}
@[simp] noncomputable def sRaise (c : Str) (g : En -> Option (List D)) : FS := fun δ => (g δ).bind fun ds => if ds.length <= sizeLine then some (.ex c δ) else none
def tRaise (X : Cx) (c : Str) (ta : TA) : TS := fun D σ H => ta σ H fun vs H1 => vs.length <= sizeLine /\ ∀ pins s' e C, Inv X pins σ H1 s' -> PySem.W.nsIn X.K mainGlobals c = some (some (.ref C)) -> Fly X H1 s'.heap e C -> X.xe (.ref e) s'
theorem ps_raise {ta : TA} (R : RaiseC X.K c) (hex : X.ex = []) (hc : X.calm = true) (ha : PA X (e0 :: rest) ta) (hg : Gl X c) (hdb : (c == ("__debug__" : Str)) = false)
  (he : starEach (e0 :: rest) X.env = (false, eval e0 X.env) :: starEach rest X.env) (hpl : (backTo cpos (starEach (e0 :: rest) X.env)).any (·.1) = false) :
  PS X (.Raise (some (.Call (.Name c np) (e0 :: rest) [] cpos)) none pos) (tRaise X c ta) := by
 intro pins s σ H D I h
 obtain ⟨C, hC, eC, hx⟩ := R
 obtain ⟨bm, N, nm, q, bs, hdct, sn, sub, ab, col, dd, k0, k1, k2, k3, k5, mN, h1, hN, hi, hT⟩ := ownK I.ok.mod.kin hx
 refine wpAny_Raise_call_subT (nm := nm) (q := q) (C := C) (N := N) (bs := bs) (hdct := hdct) (sn := sn) (sub := sub) (ab := ab) (col := col) (dd := dd) (k0 := k0) (k1 := k1) (k2 := k2) (k3 := k3) (k5 := k5) PySem.F.excBase_ValueError (tail_has hT (by decide)) (I.ok.hd hc) hpl hi ?_
 refine ld_glob I hg (PySem.W.mg_of I.ok.mod.kin I.ok.mod.glob hC) ⟨rfl, ?_⟩ hdb
 obtain ⟨x0, hb⟩ : ∃ x0, backTo cpos (starEach (e0 :: rest) X.env) = (false, x0) :: backTo cpos (starEach rest X.env) := ⟨_, by rw [he]; rfl⟩
 rw [hb]
 refine Calls.evalArgs_plain ?_
 rw [<- hb]
 refine thn (ha cpos pins s σ H _ I h) fun us s2 ⟨vs, H1, I1, r1, hl, q1⟩ => ?_
 obtain ⟨o, es, ep, ho, r⟩ := hN
 refine ⟨rfl, by show us.length <= _; rw [<- r1.length]; exact hl, I1.bk _ _ h1, ⟨o, es, ep, I1.bk _ _ ho, r⟩, OwnTail.keeps I1.bk hT, fun h' e me => ?_⟩
 have I3 : Inv X pins σ H1 { s2 with heap := h' } := I1.kept (t' := s2.toks) me.keeps
 obtain ⟨t, he', _, _⟩ := me.there
 have fe : H1 e = none := by
  cases z : H1 e with
  | none => rfl
  | some u => obtain ⟨o, ho⟩ := ObjOk.is (I1.hok e u z); rw [me.new] at ho; cases ho
 exact q1 pins _ e C I3 hC ⟨Out1.of I1 hex me.new, fe, _, _, he', rfl, rfl, rfl, .inl rfl⟩
theorem psd_raise (R : RaiseC X.K c) (ha : PAD X (e0 :: rest) g) (hex : X.ex = [] := by rfl) (hc : X.calm = true := by rfl) (hg : Gl X c := by rfl) (hdb : (c == ("__debug__" : Str)) = false := by decide)
  (he : starEach (e0 :: rest) X.env = (false, eval e0 X.env) :: starEach rest X.env := by rfl) (hpl : (backTo cpos (starEach (e0 :: rest) X.env)).any (·.1) = false := by rfl) :
  PSD X (.Raise (some (.Call (.Name c np) (e0 :: rest) [] cpos)) none pos) (sRaise c g) := by
 obtain ⟨ta, pa, ka⟩ := ha
 refine ⟨_, ps_raise R hex hc pa hg hdb he hpl, fun B G H δ σ o D sG sB rs e w => ?_⟩
 unfold sRaise at e
 obtain ⟨ds, e1, e⟩ := obE e
 split at e
 ·rename_i hl
  cases e
  refine ka B G H δ σ ds _ sG rs e1 fun vs G1 H1 g1 r1 => ⟨by rw [<- r1.length]; exact hl, fun pins s' e C I hC F => ?_⟩
  exact w pins σ G1 H1 s' e C I (g1.stp sB) (rs.grow g1) hC F
 ·cases e
end
def FlyN (h0 : Heap) (H : Hp) (h : Heap) (e C : Addr) : Prop := h0.get? e = none /\ H e = none /\ ∃ oe vs, h.get? e = some oe /\ oe.cls = .ref C /\ oe.dict = none /\ oe.data = .fields vs /\ (vs[1]? = some .none \/
  ∃ T oT ts, vs[1]? = some (.ref T) /\ T ≠ e /\ h0.get? T = none /\ H T = none /\ h.get? T = some oT /\ oT.data = .fields ts /\ ts[3]? = some .none)
theorem Fly.toN {X : Cx} {H : Hp} {h : Heap} {e C : Addr} (F : Fly X H h e C) : FlyN X.s₀.heap H h e C := by
 obtain ⟨o, f, oe, vs, h1, h2, h3, h4, h5⟩ := F
 refine ⟨o.2.1, f, oe, vs, h1, h2, h3, h4, ?_⟩
 rcases h5 with h5 | ⟨T, oT, ts, q1, q2, q3, q4⟩
 ·exact .inl h5
 ·exact .inr ⟨T, oT, ts, q1, q2, q3.2.1, q4⟩
theorem FlyN.to {X : Cx} {pins : List (Addr × Obj)} {σ : St} {H H' : Hp} {s : Shared} {h : Heap} {e C : Addr} (F : FlyN s.heap H' h e C) (I : Inv X pins σ H s) (hex : X.ex = []) : Fly X H' h e C := by
 obtain ⟨o, f, oe, vs, h1, h2, h3, h4, h5⟩ := F
 refine ⟨Out1.of I hex o, f, oe, vs, h1, h2, h3, h4, ?_⟩
 rcases h5 with h5 | ⟨T, oT, ts, q1, q2, q3, q4⟩
 ·exact .inl h5
 ·exact .inr ⟨T, oT, ts, q1, q2, Out1.of I hex q3, q4⟩
def CXR (P : Program) (w : World) : CXT := fun outer H s E ev s' => ∃ e C H', ev = .ref e /\ s'.os = s.os /\ AllBare s'.gens /\ Un (frs outer) [] H H' s.heap s'.heap /\ HOk P w H' s'.heap /\ FlyN s.heap H' s'.heap e C /\ E ev (some C) H'
def spE (K : PySem.W.Frag) (M : List Sl -> Option Str) : Sp := fun vs H Q E => ∃ B G xs c, Same G H /\ Same B H /\ RepS K B G H (xs.map some) (vs.map some) /\ M xs = some c /\
 ∀ e C G' H', PySem.W.nsIn K mainGlobals c = some (some (.ref C)) -> Stp B G G' H' -> E (.ref e) (some C) H'
noncomputable def runE (N : List Str) (n : Nat) (fb : FS) : List Sl -> Option Str := fun xs => if xs.length = n then (match fb (startS N xs) with | some (.ex c _) => some c | _ => none) else none
def DefOkE (P : Program) (w : World) (K : PySem.W.Frag) (mg : Str -> Option Value) (base : Heap) (k : Nat) (x : Str) (ps : List Str) (M : List Sl -> Option Str) : Prop :=
 ∃ f fd, FnOk P w K mg base (CXR P w) k f fd ps (spE K M) /\ Binds K fd ps [] /\ PySem.W.keepIn K (.ref f) = true /\ mg x = some (.ref f)
noncomputable abbrev cxE (P : Program) (w : World) (K : PySem.W.Frag) (mg : Str -> Option Value) (base : Heap) (N : List Str) (x : Str) (scope : Scope) (f : Addr) (cdv : Value) (A : Around) (outer : List Env) (s : Shared) (H : Hp) (E : XK) : Cx :=
 cxOf (CXR P w) P w K mg base N x scope f cdv A outer s H E
section
variable {P : Program} {w : World} {K : PySem.W.Frag} {mg : Str -> Option Value} {base : Heap}
theorem def_runE {x : Str} {st : Stmt} {N ps : List Str} {k : Nat} {fb : FS} (F : DefAt K mg x st) (S : FnScope N ps (defScope st))
  (hb : ∀ (kV doc pm : Value) (an : Option Addr) (cdv ct : Value) (us : List Value), us.length = ps.length -> bindArgs (PySem.W.fnOf x x (defArgs st) (defBody st) (defScope st) .none kV doc pm an cdv ct) ⟨us, []⟩ = pure (ps.zip us))
  (hbody : ∀ (f : Addr) (cdv : Value) (A : Around) (outer : List Env) (s : Shared) (H : Hp) (E : XK), Room k (A.deeper (envOfC x (defScope st) s.heap.objs.size f cdv)) -> PSsD (cxE P w K mg base N x (defScope st) f cdv A outer s H E) (defBody st) fb) :
  DefOkE P w K mg base (k + 1) x ps (runE N ps.length fb) := by
 obtain ⟨f, fd, F, hm⟩ := F
 refine ⟨f, fd, ?_, F.binds hb, F.kp, hm⟩
 obtain ⟨oc, od, kV, doc, pm, an, cdv, ct, osl, rfl, lk, hcd⟩ := F.ex
 refine fn_of lk hcd S (fun vs H Q E h => ?_) fun A outer s H vs Q E hr h => ?_
 ·obtain ⟨B, G, xs, c, sG, sB, rs, e, _⟩ := h
  have hl := rs.len
  rw [List.length_map, List.length_map] at hl
  rw [<- hl]
  unfold runE at e
  split at e
  ·rename_i hl; exact hl
  ·cases e
 ·obtain ⟨B, G, xs, c, sG, sB, rs, e, q⟩ := h
  obtain ⟨t, pt, kt⟩ := hbody f cdv A outer s H E hr
  have hl := rs.len
  rw [List.length_map, List.length_map] at hl
  refine ⟨t, pt, ?_⟩
  have rs0 : RepS K B G H (startS N xs) (start N vs) := by
   unfold startS start
   rw [hl]
   exact rs.more _
  unfold runE at e
  split at e
  ·split at e
   ·rename_i eb
    cases e
    refine kt B G H _ _ _ _ sG sB rs0 eb ?_
    intro pins σ' G' H' s' e C I st _ hC Fl
    refine leave_fly I rfl rfl Fl fun h' I' F' => ?_
    exact ⟨e, C, H', rfl, I'.os, I'.bare, I'.base, I'.hok, F'.toN, q e C G' H' hC st⟩
   ·cases e
  ·cases e
end
section
variable {X : Cx} {k : Nat} {f : Addr} {fd : FuncData} {ps : List Str} {sp : Sp} {x : Str} {p pos : Pos} {e : Expr} {es : List Expr} {t : TA}
def tCallE (X : Cx) (sp : Sp) (t : TA) : TE := fun σ H Q => t σ H fun vs H1 => ∃ E : XK, sp vs H1 Q E /\ ∀ pins s' e C H', Inv X pins σ H' s' -> Fly X H' s'.heap e C -> E (.ref e) (some C) H' -> X.xe (.ref e) s'
theorem pe_callE (F : FnOk X.prog X.w X.K X.mg X.base (CXR X.prog X.w) k f fd ps sp) (hr : Room k X.A) (hex : X.ex = []) (hg : Gl X x) (hm : X.mg x = some (.ref f)) (hk : PySem.W.keepIn X.K (.ref f) = true) (hb : Binds X.K fd ps [])
  (ha : PA X (e :: es) t) (hdb : (x == ("__debug__" : Str)) = false := by decide) (he : starEach (e :: es) X.env = (false, eval e X.env) :: starEach es X.env := by rfl) (hpl : (backTo pos (starEach es X.env)).any (·.1) = false := by rfl) :
  PE X (.Call (.Name x p) (e :: es) [] pos) (tCallE X sp t) := by
 intro pins s σ H Q I h
 refine wpAny_Call_Name_kw (ld_glob I hg hm ?_ hdb)
 refine PySem.W.callWith_K (h₀ := X.base) I.ok.mod.kin hk (thn (ha pos pins s σ H _ I h) fun us s1 ⟨vs, H1, I1, r, E, q, kx⟩ => ⟨I1.kIn, ?_⟩) he hpl
 have hl : us.length = ps.length := by rw [<- r.length]; exact F.len _ _ _ _ q
 have bnd := hb s1 us I1.kIn (by rw [List.append_nil]; exact hl)
 rw [List.append_nil] at bnd
 refine wpAny_call (codeAny_mono (F.run X.A X.stack s1 H1 ⟨us, []⟩ us vs Q E hr I1.env0 bnd r q) fun r s' hq => ?_)
 cases r with
 | error ev =>
  obtain ⟨e, C, H', rfl, os, bare, un, hok, Fl, hE⟩ := hq
  have I2 : Inv X pins σ H' s' := I1.call' os un hok bare (fun b z => absurd z (by simp))
  exact kx pins s' e C H' I2 (Fl.to I1 hex) hE
 | ok fl =>
  cases fl with
  | ret u => exact I1.after hq
  | next => exact False.elim hq
  | brk => exact False.elim hq
  | cont => exact False.elim hq
@[simp] noncomputable def sOr (F F' : FS) : FS := fun δ => (F δ).or (F' δ)
theorem psd_or {st : Stmt} {F F' : FS} (h : PSD X st F) (h' : PSD X st F') : PSD X st (sOr F F') := by
 obtain ⟨t, pt, k⟩ := h
 obtain ⟨u, pu, l⟩ := h'
 refine ⟨fun D σ H => t D σ H \/ u D σ H, fun pins s σ H D I q => q.elim (pt pins s σ H D I) (pu pins s σ H D I), fun B G H δ σ o D sG sB rs e w => ?_⟩
 have e : (F δ).or (F' δ) = some o := e
 cases eF : F δ with
 | some o1 => rw [eF] at e; cases e; exact .inl (k B G H δ σ _ D sG sB rs eF w)
 | none => rw [eF] at e; exact .inr (l B G H δ σ o D sG sB rs e w)
@[simp] noncomputable def sCallE (M : List Sl -> Option Str) (g : En -> Option (List D)) : FS := fun δ => (g δ).bind fun ds => (M (ds.map .sh)).map fun c => .ex c δ
theorem gives_callE {K : PySem.W.Frag} {M : List Sl -> Option Str} {g : En -> Option (List D)} {B G H : Hp} {δ : En} {σ : St} {ds : List D} {c : Str} {Q : VK} (hK : X.K = K)
  (ka : ∀ (B G H : Hp) (δ : En) (σ : St) (ds : List D) (Q : List V -> Hp -> Prop), Same G H -> RepS X.K B G H δ σ -> g δ = some ds -> (∀ vs G' H', Grow G H G' H' -> RepL X.K G' ds vs -> Q vs H') -> t σ H Q)
  (sG : Same G H) (sB : Same B H) (rs : RepS X.K B G H δ σ) (e1 : g δ = some ds) (e2 : M (ds.map .sh) = some c) {D : Ends} (w : Want X B G D (.ex c δ)) : tCallE X (spE X.K M) t σ H Q := by
 refine ka B G H δ σ ds _ sG rs e1 fun vs G1 H1 g1 r1 => ?_
 have rsA : RepS X.K H1 G1 H1 ((ds.map Sl.sh).map some) (vs.map some) := by
  refine ⟨by simp [r1.length], fun i x e => ?_, fun i j x y o o' hij f1 f2 => ?_⟩
  ·rw [List.getElem?_map, List.getElem?_map] at e
   cases ed : ds[i]? with
   | none => rw [ed] at e; cases e
   | some d =>
    rw [ed] at e
    cases e
    obtain ⟨v, h1, h2⟩ := r1.get ed
    exact ⟨v, by rw [List.getElem?_map, h1]; rfl, h2⟩
  ·rw [List.getElem?_map, List.getElem?_map] at f1
   cases ed : ds[i]? with
   | none => rw [ed] at f1; cases f1
   | some d => rw [ed] at f1; cases f1
 refine ⟨fun ev oc H' => ∃ C G', oc = some C /\ PySem.W.nsIn X.K mainGlobals c = some (some (.ref C)) /\ Stp H1 G1 G' H', ⟨H1, G1, ds.map .sh, c, g1.s, Same.refl _, rsA, e2, fun e C G' H' hC st => ⟨C, G', rfl, hC, st⟩⟩, ?_⟩
 rintro pins s' e C H' I Fl ⟨C', G', eC, hC, st⟩
 cases eC
 have gr : Grow G H G' H' := g1.trans ⟨st.g, st.b, st.s, st.n⟩
 exact w pins σ G' H' s' e C I (gr.stp sB) (rs.grow gr) hC Fl
theorem psd_setE (i : Nat) {y : Str} {pos' pos2 : Pos} {M : List Sl -> Option Str} {g : En -> Option (List D)} (hN : X.N.Nodup) (F : DefOkE X.prog X.w X.K X.mg X.base k x ps M) (hr : Room k X.A) (ha : PAD X (e :: es) g) (hex : X.ex = [] := by rfl) (hg : Gl X x := by rfl)
  (hdb : (x == ("__debug__" : Str)) = false := by decide) (he : starEach (e :: es) X.env = (false, eval e X.env) :: starEach es X.env := by rfl) (hpl : (backTo pos (starEach es X.env)).any (·.1) = false := by rfl)
  (hi : X.N[i]? = some y := by rfl) (hx : Loc X.env.scope y := by walk_at "or")
  (hs : swapsWith (.Call (.Name x p) (e :: es) [] pos) (some (.Name y pos')) pos2.line X.env = pure false := by rfl) (hf : X.fn y = true \/ X.env.scope.names.lookup y = some .local := by walk_at "or") :
  PSD X (.Assign [.Name y pos'] (.Call (.Name x p) (e :: es) [] pos) pos2) (sCallE M g) := by
 obtain ⟨f, fd, F, hb, hk, hm⟩ := F
 obtain ⟨ta, pa, ka⟩ := ha
 refine ⟨_, ps_set hN hi hx (pe_callE F hr hex hg hm hk hb pa hdb he hpl) hs hf, fun B G H δ σ o D sG sB rs ef w => ?_⟩
 unfold sCallE at ef
 obtain ⟨ds, e1, ef⟩ := obE ef
 obtain ⟨c, e2, rfl⟩ := omE ef
 exact gives_callE rfl ka sG sB rs e1 e2 w
@[simp] noncomputable def sDrop (f : FX) : FS := fun δ => (f δ).map fun r => .nx r.2
theorem psd_drop {f : FX} {pos2 : Pos} (he : PX X e f) (hs : swapsWith e none pos2.line X.env = pure false := by rfl) : PSD X (.Expr e pos2) (sDrop f) := by
 obtain ⟨t, pt, k⟩ := he
 refine ⟨_, ps_expr pt hs, fun B G H δ σ o D sG sB rs ef w => ?_⟩
 unfold sDrop at ef
 obtain ⟨r, e1, rfl⟩ := omE ef
 exact k B G H δ σ r.1 r.2 _ sG sB rs e1 fun v G' H' st rs' rv => w σ G' H' st rs'
noncomputable def outE (M : List Sl -> Option Str) (ags : List Ag) : Option Str := open Classical in if h : ∃ c, ∀ as : List Addr, as.length = ags.length -> M (mkS ags as) = some c then some h.choose else none
theorem outE_eq {M : List Sl -> Option Str} {ags : List Ag} {c : Str} (h : ∀ as : List Addr, as.length = ags.length -> M (mkS ags as) = some c) : outE M ags = some c := by
 have hx : ∃ c, ∀ as : List Addr, as.length = ags.length -> M (mkS ags as) = some c := ⟨c, h⟩
 unfold outE
 rw [dif_pos hx]
 have h1 := hx.choose_spec (List.replicate ags.length 0) (by simp)
 have h2 := h (List.replicate ags.length 0) (by simp)
 rw [h1] at h2
 exact h2
theorem outE_spec {M : List Sl -> Option Str} {ags : List Ag} {c : Str} (h : outE M ags = some c) : ∀ as : List Addr, as.length = ags.length -> M (mkS ags as) = some c := by
 unfold outE at h
 split at h
 ·rename_i hx; cases h; exact hx.choose_spec
 ·cases h
theorem aarg_repS {K : PySem.W.Frag} {B G H : Hp} {δ : En} {σ : St} {ars : List Ar} {ags : List Ag} {vs : List V} {as : List Addr} (rs : RepS K B G H δ σ) (aa : AArg K G δ σ ars ags vs as) (hnd : (ownsOf ars).Nodup) :
  RepS K (lessOwn σ (ownsOf ars) H) G H ((mkS ags as).map some) (vs.map some) := by
 obtain ⟨l1, l2⟩ := aa.len
 refine ⟨by simp [l2], fun i x e => ?_, fun i j x y o o' hij e1 e2 => ?_⟩
 ·rw [List.getElem?_map] at e
  obtain ⟨x', ex, e⟩ := omE e
  cases e
  cases x with
  | ob c => exact (aa.ob ex).elim
  | sh d =>
   obtain ⟨v, q1, q2⟩ := aa.sh ex
   exact ⟨v, by rw [List.getElem?_map, q1]; rfl, q2⟩
  | pv m o =>
   obtain ⟨a, j, o', rfl, q1, q2, q3, q4⟩ := aa.pv ex
   obtain ⟨v, w1, a2, us, rfl, w2, w3, w4, w5, w6, w7⟩ := rs.at_ j _ q3
   rw [q4] at w1
   cases w1
   exact ⟨.ref a, by rw [List.getElem?_map, q2]; rfl, a, us, rfl, lessOwn_none (own_mem q1) q4, w3, w4, w5, w6, fun b z => by cases z; rfl⟩
 ·rw [List.getElem?_map] at e1 e2
  obtain ⟨x', ex, e1⟩ := omE e1
  obtain ⟨y', ey, e2⟩ := omE e2
  cases e1
  cases e2
  obtain ⟨a, j1, o1, rfl, q1, q2, q3, q4⟩ := aa.pv ex
  obtain ⟨b, j2, o2, rfl, p1, p2, p3, p4⟩ := aa.pv ey
  rw [List.getElem?_map, List.getElem?_map, q2, p2]
  intro z
  have hjj : j1 ≠ j2 := fun z => hij (own_inj hnd q1 (z ▸ p1))
  refine rs.ap j1 j2 _ _ _ _ hjj q3 p3 ?_
  rw [q4, p4]
  exact Option.some.inj z ▸ rfl
theorem bare_at {δ : En} {i : Nat} {x : Sl} (e : (δ.map fun _ => (none : Option Sl))[i]? = some (some x)) : False := by
 rw [List.getElem?_map] at e
 cases h : δ[i]? with
 | none => rw [h] at e; cases e
 | some y => rw [h] at e; cases e
theorem RepS.bare {K : PySem.W.Frag} {B G H : Hp} {δ : En} {σ : St} (hl : δ.length = σ.length) : RepS K B G H (δ.map fun _ => none) σ :=
 ⟨by simpa using hl, fun i x e => (bare_at e).elim, fun i j x y o o' _ e _ => (bare_at e).elim⟩
noncomputable def sDropE (M : List Sl -> Option Str) (ars : List Ar) : FS := fun δ => (agOf ars δ).bind fun ags => (outE M ags).map fun c => .ex c (δ.map fun _ => none)
theorem psd_dropE {pos2 : Pos} {M : List Sl -> Option Str} {ars : List Ar} (F : DefOkE X.prog X.w X.K X.mg X.base k x ps M) (hr : Room k X.A) (ha : PAM X (e :: es) ars) (hnd : (ownsOf ars).Nodup := by decide) (hex : X.ex = [] := by rfl) (hg : Gl X x := by rfl)
  (hdb : (x == ("__debug__" : Str)) = false := by decide) (he : starEach (e :: es) X.env = (false, eval e X.env) :: starEach es X.env := by rfl) (hpl : (backTo pos (starEach es X.env)).any (·.1) = false := by rfl)
  (hs : swapsWith (.Call (.Name x p) (e :: es) [] pos) none pos2.line X.env = pure false := by rfl) :
  PSD X (.Expr (.Call (.Name x p) (e :: es) [] pos) pos2) (sDropE M ars) := by
 obtain ⟨f, fd, F, hb, hk, hm⟩ := F
 obtain ⟨ta, pa, ka⟩ := ha
 refine ⟨_, ps_expr (pe_callE F hr hex hg hm hk hb pa hdb he hpl) hs, fun B G H δ σ o D sG sB rs0 ef w => ?_⟩
 unfold sDropE at ef
 obtain ⟨ags, e1, ef⟩ := obE ef
 obtain ⟨c, e2, rfl⟩ := omE ef
 refine ka B G H δ σ ags _ sG rs0 e1 fun vs G1 H1 g1 ar => ?_
 have rs := rs0.grow g1
 have sB1 : Same B H1 := sB.trans g1.h
 obtain ⟨as, aa⟩ := aarg_of rs ar
 obtain ⟨l1, l2⟩ := aa.len
 refine ⟨fun ev oc H' => ∃ C G', oc = some C /\ PySem.W.nsIn X.K mainGlobals c = some (some (.ref C)) /\ Stp (lessOwn σ (ownsOf ars) H1) G1 G' H', ⟨_, G1, mkS ags as, c, g1.s, lessOwn_same, aarg_repS rs aa hnd, outE_spec e2 as l1, fun e C G' H' hC st => ⟨C, G', rfl, hC, st⟩⟩, ?_⟩
 rintro pins s' e C H' I Fl ⟨C', G', eC, hC, st⟩
 cases eC
 have notOwn : ∀ a o, B a = some o -> ¬ ∃ j ∈ ownsOf ars, σ[j]? = some (some (V.ref a)) := fun a o eB ⟨j, hj, ej⟩ => by
  obtain ⟨m, o', ed⟩ := aa.owns hj
  obtain ⟨v, w1, a2, us, rfl, w2, _⟩ := rs.at_ j _ ed
  rw [ej] at w1
  cases w1
  rw [w2] at eB
  cases eB
 have stp : Stp B G1 G' H' := ⟨st.g, st.s, fun a o eB => st.b a o (by rw [lessOwn_some (notOwn a o eB)]; exact sB1 a o eB), fun a o eB n => st.n a o (by rw [lessOwn_some (notOwn a o eB)]; exact sB1 a o eB) n⟩
 exact w pins σ G' H' s' e C I ((g1.stp sB).trans stp) (RepS.bare rs.len) hC Fl
end
noncomputable abbrev Cx.held (X : Cx) (e : Addr) : Cx := { X with A := X.A.mark (some (.ref e)), calm := false, xe := fun _ _ => False }
section
variable {X : Cx} {pins : List (Addr × Obj)} {σ : St} {H : Hp} {s : Shared}
theorem Inv.held (I : Inv X pins σ H s) (e : Addr) : Inv (X.held e) pins σ H s :=
 ⟨⟨I.ok.mod, I.ok.kind, I.ok.glob, I.ok.blt, I.ok.above, I.ok.inj, I.ok.has, I.ok.cab, (fun z => Bool.noConfusion z), I.ok.frames, I.ok.stk, I.ok.exf, I.ok.bs, I.ok.bsz, I.ok.noex, I.ok.exfs, I.ok.funs, I.ok.frf⟩, I.os, I.bare, I.base, I.loc, I.cell, I.free, I.freeC, I.pin, I.hok, I.len⟩
theorem Inv.unheld {e : Addr} (I : Inv (X.held e) pins σ H s) (ok : X.Ok) : Inv X pins σ H s := ⟨ok, I.os, I.bare, I.base, I.loc, I.cell, I.free, I.freeC, I.pin, I.hok, I.len⟩
noncomputable abbrev Cx.tried (X : Cx) (pn : List (Addr × Obj)) (xe : Value -> Shared -> Prop) : Cx := { X with pn := pn, xe := xe }
theorem Cx.Ok.tried (ok : X.Ok) (pn : List (Addr × Obj)) (xe : Value -> Shared -> Prop) : (X.tried pn xe).Ok :=
 ⟨ok.mod, ok.kind, ok.glob, ok.blt, ok.above, ok.inj, ok.has, ok.cab, ok.hd, ok.frames, ok.stk, ok.exf, ok.bs, ok.bsz, ok.noex, ok.exfs, ok.funs, ok.frf⟩
theorem Inv.tried (I : Inv X pins σ H s) (xe : Value -> Shared -> Prop) : Inv (X.tried (X.pn ++ pins) xe) [] σ H s :=
 ⟨I.ok.tried _ _, I.os, I.bare, I.base, I.loc, I.cell, I.free, I.freeC, fun p hp => I.pin p (by have hp : p ∈ (X.pn ++ pins) ++ [] := hp; simpa using hp), I.hok, I.len⟩
theorem Inv.untried {xe : Value -> Shared -> Prop} {pins' : List (Addr × Obj)} (I : Inv (X.tried (X.pn ++ pins) xe) pins' σ H s) (ok : X.Ok) : Inv X pins σ H s :=
 ⟨ok, I.os, I.bare, I.base, I.loc, I.cell, I.free, I.freeC, fun p hp => I.pin p (List.mem_append_left _ hp), I.hok, I.len⟩
theorem Inv.gone {j : Nat} {n : Str} {h' : Heap} {m : Str -> Option Value} {v : Option Value} {t' : Nat} (I : Inv X pins σ H s) (hm : s.heap.Ns X.env.locals m) (hN : X.N.Nodup) (hj : X.N[j]? = some n) (hk : X.env.kindOf n = some .local) (hn : h'.Ns X.env.locals fun x => if x = n then v else m x) (hs : Heap.SameBut X.env.locals s.heap h') :
  Inv X pins (σ.set j none) H { s with heap := h', toks := t' } := by
 have old : ∀ b o, X.s₀.heap.get? b = some o -> b ≠ X.env.locals := fun b o e => Nat.ne_of_lt (Nat.lt_of_lt_of_le (Heap.lt_size e) I.ok.above)
 obtain ⟨m0, hm0, hl⟩ := id I.loc
 obtain rfl : m0 = m := by
  obtain ⟨o, es, ep, h1, h2, h3, h4⟩ := hm0
  obtain ⟨o', es', ep', g1, g2, g3, g4⟩ := hm
  rw [h1] at g1; cases g1
  rw [h2] at g2; cases g2
  funext y
  rw [<- h4, <- g4]
 refine ⟨I.ok, I.os, I.bare, ⟨fun b o e n hb hx => (hs.2 b (old b o e)).trans (I.base.keep b o e n hb hx), fun b o e n hb hx => ?_, I.base.free, fun b o e hx => ?_, I.base.tups, I.base.frzs, I.base.tbls⟩, ⟨_, hn, fun i y w e1 e2 e3 => ?_⟩, fun y c e => ?_, I.free, I.freeC, fun p hp => ?_, fun b u q => ?_, by simpa using I.len⟩
 ·obtain ⟨sl, e1⟩ := I.base.slot b o e n hb hx
  exact ⟨sl, (hs.2 b (old b o e)).trans e1⟩
 ·obtain ⟨o', e1⟩ := I.base.there b o e hx
  exact ⟨o', (hs.2 b (old b o e)).trans e1⟩
 ·rcases get_set e2 with ⟨_, z⟩ | ⟨hij, e2⟩
  ·cases z
  ·obtain ⟨u, r, q⟩ := hl i y w e1 e2 e3
   refine ⟨u, r, ?_⟩
   have hy : y ≠ n := fun z => hij (nodup_ix hN hj (z ▸ e1))
   rcases q with ⟨k, e⟩ | ⟨k, c, e, z⟩
   ·exact .inl ⟨k, by simp [hy, e]⟩
   ·exact .inr ⟨k, c, e, z.sameBut hs (I.cne y c e)⟩
 ·obtain ⟨w', z⟩ := I.cell y c e
  exact ⟨w', z.sameBut hs (I.cne y c e)⟩
 ·obtain ⟨e, nn, ne, nf, d⟩ := I.pin p hp
  exact ⟨(hs.2 p.1 ne).trans e, nn, ne, nf, d⟩
 ·refine (I.hok b u q).stay (fun c w' hc z => (hs.2 c ?_).trans z) (fun _ z => z) fun _ _ z => z
  rintro rfl
  have := I.free
  rcases hc with z | z
  ·rw [<- z, this] at q; cases q
  ·rw [this] at z; cases z
end
def CatchC (K : PySem.W.Frag) (r c : Str) : Prop := ∃ R C, PySem.W.nsIn K mainGlobals r = some (some (.ref R)) /\ PySem.W.nsIn K mainGlobals c = some (some (.ref C)) /\ ExcC K C /\ PySem.W.exmOne K (.ref C) (.ref R) = some true
section
variable {X : Cx} {r n : Str} {j : Nat} {F Fh : FS} {cs : List Str} {body suite : List Stmt} {b₀ : Stmt} {np hpos pos : Pos}
@[simp] noncomputable def sTry (cs : List Str) (j : Nat) (F Fh : FS) : FS := fun δ => match F δ with
 | some (.ex c δ') => if cs.contains c = true then (match Fh (δ'.set j (some (.ob c))) with | some (.nx δ2) => some (.nx (δ2.set j none)) | _ => none) else none
 | o => o
theorem RepS.gone {K : PySem.W.Frag} {B G H : Hp} {δ : En} {σ : St} (rs : RepS K B G H δ σ) (j : Nat) : RepS K B G H (δ.set j none) (σ.set j none) := by
 refine ⟨by simp [rs.len], fun i x e => ?_, fun i l x y o o' hil e1 e2 => ?_⟩
 ·rcases get_set e with ⟨_, z⟩ | ⟨hj, e⟩
  ·cases z
  ·obtain ⟨v, h1, h2⟩ := rs.at_ i x e
   exact ⟨v, by rw [List.getElem?_set_ne hj]; exact h1, h2⟩
 ·rcases get_set e1 with ⟨_, z⟩ | ⟨hj, e1⟩
  ·cases z
  ·rcases get_set e2 with ⟨_, z⟩ | ⟨hj2, e2⟩
   ·cases z
   ·rw [List.getElem?_set_ne hj, List.getElem?_set_ne hj2]
    exact rs.ap i l x y o o' hil e1 e2
theorem psd_try (j : Nat) (hN : X.N.Nodup) (hb : ∀ pn xe, PSsD (X.tried pn xe) body F) (hh : ∀ e, PSsD (X.held e) (b₀ :: suite) Fh) (hcs : ∀ c ∈ cs, CatchC X.K r c)
  (hst : X.stack = X.env :: X.outer := by rfl) (hfr : X.env.frame = some X.env.locals := by rfl) (hg : Gl X r := by rfl) (hdb : (r == ("__debug__" : Str)) = false := by decide)
  (hj : X.N[j]? = some n := by rfl) (hk : X.env.scope.names.lookup n = some .local := by rfl) :
  PSD X (.Try body [.ExceptHandler (some (.Name r np)) (some n) (b₀ :: suite) hpos] [] [] pos) (sTry cs j F Fh) := by
 refine ⟨fun D σ H => ∃ B G δ o, Same G H /\ Same B H /\ RepS X.K B G H δ σ /\ sTry cs j F Fh δ = some o /\ Want X B G D o, ?_, fun B G H δ σ o D sG sB rs e w => ⟨B, G, δ, o, sG, sB, rs, e, w⟩⟩
 intro pins s σ H D I ⟨B, G, δ, o, sG, sB, rs, e, w⟩
 refine wpAny_Try_except ?_
 have key : ∀ f s1, SP (X.tried (X.pn ++ pins) (fun ev s₁ => wpAny (model X.prog X.w) X.A (noteFrame ev X.env) (fun _ s₂ => wpAny (model X.prog X.w) X.A (setFlight ev none) (fun _ s₃ => wpAny (model X.prog X.w) X.A (handleBy ev X.env [.ExceptHandler (some (.Name r np)) (some n) (b₀ :: suite) hpos]) (SP X pins D) X.xe s₃) X.xe s₂) X.xe s₁)) [] D f s1 -> SP X pins D f s1 := by
  intro f s1 h
  cases f with
  | next => obtain ⟨σ', H', J, q⟩ := h; exact ⟨σ', H', J.untried I.ok, q⟩
  | brk => obtain ⟨σ', H', J, q⟩ := h; exact ⟨σ', H', J.untried I.ok, q⟩
  | cont => obtain ⟨σ', H', J, q⟩ := h; exact ⟨σ', H', J.untried I.ok, q⟩
  | ret u => obtain ⟨v, σ', H', J, rv, q⟩ := h; exact ⟨v, σ', H', J.untried I.ok, rv, q⟩
 obtain ⟨tb, pb, kb⟩ := hb (X.pn ++ pins) (fun ev s₁ => wpAny (model X.prog X.w) X.A (noteFrame ev X.env) (fun _ s₂ => wpAny (model X.prog X.w) X.A (setFlight ev none) (fun _ s₃ => wpAny (model X.prog X.w) X.A (handleBy ev X.env [.ExceptHandler (some (.Name r np)) (some n) (b₀ :: suite) hpos]) (SP X pins D) X.xe s₃) X.xe s₂) X.xe s₁)
 refine wpAny_mono (pb [] s σ H D (I.tried _) ?_) (fun f s1 h => ?_) fun ev s1 h => h
 ·unfold sTry at e
  cases eF : F δ with
  | none => rw [eF] at e; cases e
  | some o1 =>
   rw [eF] at e
   refine kb B G H δ σ o1 D sG sB rs eF ?_
   cases o1 with
   | nx δ1 => cases e; exact w
   | bk δ1 => cases e; exact w
   | ct δ1 => cases e; exact w
   | rt rr δ1 => cases e; cases rr <;> exact w
   | ex c δ1 =>
    intro pins' σ' G' H' s' e' C' I' st rs' hC' Fl
    dsimp only at e
    split at e
    case isFalse => cases e
    rename_i hcc
    obtain ⟨R, C, hR, hC, eC, hx⟩ := hcs c (by simpa using hcc)
    have hC' : PySem.W.nsIn X.K mainGlobals c = some (some (.ref C')) := hC'
    rw [hC] at hC'
    cases hC'
    refine leave_fly2 (X := X.tried (X.pn ++ pins) _) I' hst hfr Fl fun h1 I1 F1 => ?_
    refine wpAny_handleBy_cons ?_ (by intro z; cases z)
    -- the test
    refine codeAny_handlers_test ?_
    have I2 : Inv (X.held e') pins σ' H' { s' with heap := h1 } := (I1.untried I.ok).held e'
    refine ld_glob I2 hg (PySem.W.mg_of I.ok.mod.kin I.ok.mod.glob hR) ?_ hdb
    obtain ⟨ox, ins⟩ := F1.inst
    refine PySem.W.exm_one I2.kIn ins.type hx _ _ _ _ (fun _ _ z => z) ?_
    show codeAny _ _ _ _ _
    refine codeAny_handlers_suite_as ?_
    refine flight_fly I1 F1 fun h2 I3 F3 => ?_
    have I4 := (I3.trackX F3)
    have I5 : Inv (X.held e') pins σ' (upd H' e' (.ext (ExO e' C'))) { s' with heap := h2 } := (I4.untried I.ok).held e'
    refine store_ok (X := X.held e') (v := .ref e') I5 hN hj (.inl hk) rfl (fun s6 I6 => ?_) (.inr hk)
    have rs2 : RepS X.K B (upd G' e' (.ext (ExO e' C'))) (upd H' e' (.ext (ExO e' C'))) δ1 σ' := RepS.new rs' st.s F3.free _
    have st2 : Stp B G (upd G' e' (.ext (ExO e' C'))) (upd H' e' (.ext (ExO e' C'))) := stp_new st F3.free
    have rs3 : RepS X.K B (upd G' e' (.ext (ExO e' C'))) (upd H' e' (.ext (ExO e' C'))) (δ1.set j (some (.ob c))) (σ'.set j (some (.ref e'))) :=
     rs2.put j (x := .ob c) ⟨e', C', rfl, hC, eC, upd_same⟩ fun m _ z => nomatch z
    split at e
    case h_2 => cases e
    rename_i δ2 eh
    cases e
    obtain ⟨th, ph, kh⟩ := hh e'
    refine wpAny_mono (ph pins s6 _ _ { nx := fun σ7 H7 => ∃ G7, Stp B G G7 H7 /\ RepS X.K B G7 H7 δ2 σ7, rt := fun _ _ => False } I6 (kh B _ _ _ _ _ _ st2.s st2.b rs3 eh fun σ7 G7 H7 a ra => ⟨G7, st2.trans a, ra⟩)) (fun f s7 h => ?_) fun _ _ z => z.elim
    cases f with
    | next =>
     obtain ⟨σ7, H7, I7, G7, st7, rs7⟩ := h
     have I8 : Inv X pins σ7 H7 s7 := I7.unheld I.ok
     obtain ⟨m, hm, _⟩ := id I8.loc
     show wpAny _ _ (bindName X.env n Value.none >>= fun _ => unbindBehindTheSuite X.env n hpos) _ _ _
     refine wpAny_nameGoes_keeps hk hm (by rw [I.ok.kind]; rfl) fun h' v hn hs => ?_
     exact ⟨_, H7, I8.gone hm hN hj hk hn hs, w _ G7 H7 st7 (rs7.gone j)⟩
    | brk => obtain ⟨_, _, _, z⟩ := h; exact z.elim
    | cont => obtain ⟨_, _, _, z⟩ := h; exact z.elim
    | ret u => obtain ⟨_, _, _, _, _, z⟩ := h; exact z.elim
 ·cases f with
  | next => exact wpAny_execs_nil (key _ _ h)
  | brk => exact key _ _ h
  | cont => exact key _ _ h
  | ret u => exact key _ _ h
end
section
variable {X : Cx} {x y r : Str} {p px pr pos pos' : Pos} {e : Expr}
@[simp] noncomputable def sCpy (i j : Nat) : FS := fun δ => match δ[j]? with | some (some (.ob c)) => some (.nx (δ.set i (some (.ob c)))) | _ => none
theorem psd_cpy (i j : Nat) (hN : X.N.Nodup) (hi : X.N[i]? = some y := by rfl) (hx : Loc X.env.scope y := by walk_at "or") (hj : X.N[j]? = some x := by rfl)
  (hv : Vis X.env.scope x := by walk_at "vi") (hd : (x == ("__debug__" : Str)) = false := by decide) (hcd : (x == ("__classdict__" : Str)) = false := by decide)
  (hs : swapsWith (.Name x p) (some (.Name y pos')) pos.line X.env = pure false := by rfl) (hf : X.fn y = true \/ X.env.scope.names.lookup y = some .local := by walk_at "or") : PSD X (.Assign [.Name y pos'] (.Name x p) pos) (sCpy i j) := by
 refine ⟨_, ps_set hN hi hx (pe_var hj hv hd hcd) hs hf, fun B G H δ σ o D sG sB rs e w => ?_⟩
 unfold sCpy at e
 split at e
 ·rename_i c ed
  cases e
  obtain ⟨v, h1, h2⟩ := rs.at_ j _ ed
  exact ⟨v, h1, w _ G H (Stp.refl sG sB) (rs.put i (x := .ob c) h2 fun m _ z => nomatch z)⟩
 ·cases e
@[simp] noncomputable def fObN (i : Nat) : FE := fun δ => match δ[i]? with | some (some (.ob _)) => some (.bl false) | _ => none
theorem pdt_obN (i : Nat) {q q' : Pos} {kd} (hi : X.N[i]? = some x := by rfl) (hv : Vis X.env.scope x := by walk_at "vi") (hd : (x == ("__debug__" : Str)) = false := by decide) (hcd : (x == ("__classdict__" : Str)) = false := by decide)
  (hm : behindInMarks .Is (.Constant .none kd q) = false := by first | exact nomark _ | with_unfolding_all rfl) : PDT X (.Compare (.Name x p) [.Is] [.Constant .none kd q] q') (fB (fObN i)) := by
 refine ⟨_, pt_cmpR op_isN (pe_var hi hv hd hcd) pe_non hm, fun B G H δ σ b Q sG rs ef k => ?_⟩
 have ef := fB_some ef
 unfold fObN at ef
 split at ef
 ·rename_i c ed
  cases ef
  obtain ⟨v, h1, a, C, rfl, _⟩ := rs.at_ i _ ed
  exact ⟨_, h1, rfl, false, rfl, k G H (Grow.refl sG)⟩
 ·cases ef
@[simp] noncomputable def bOr2 (f g : En -> Option Bool) : En -> Option Bool := fun δ => (f δ).or (g δ)
theorem pdt_or {f g : En -> Option Bool} (h : PDT X e f) (h' : PDT X e g) : PDT X e (bOr2 f g) := by
 obtain ⟨t, pt, k⟩ := h
 obtain ⟨u, pu, l⟩ := h'
 refine ⟨fun σ H Q => t σ H Q \/ u σ H Q, fun pins s σ H Q I q => q.elim (pt pins s σ H Q I) (pu pins s σ H Q I), fun B G H δ σ b Q sG rs ef w => ?_⟩
 have ef : (f δ).or (g δ) = some b := ef
 cases eF : f δ with
 | some o1 => rw [eF] at ef; cases ef; exact .inl (k B G H δ σ _ Q sG rs eF w)
 | none => rw [eF] at ef; exact .inr (l B G H δ σ b Q sG rs ef w)
theorem pe_clsK {R : Addr} (hR : PySem.W.nsIn X.K mainGlobals r = some (some (.ref R))) (hg : Gl X r) (hd : (r == ("__debug__" : Str)) = false) : PE X (.Name r pr) (tC (.ref R)) :=
 fun pins s σ H Q I h => ld_glob I hg (PySem.W.mg_of I.ok.mod.kin I.ok.mod.glob hR) ⟨.ref R, H, I, rfl, h⟩ hd
@[simp] noncomputable def fIsOb (i : Nat) (tbl : List (Str × Bool)) : FE := fun δ => match δ[i]? with | some (some (.ob c)) => (tbl.lookup c).map .bl | _ => none
def IsOb1 (K : PySem.W.Frag) (r : Str) (tbl : List (Str × Bool)) : Prop := ∃ R, PySem.W.nsIn K mainGlobals r = some (some (.ref R)) /\ ∀ c b, tbl.lookup c = some b -> ∃ C, PySem.W.nsIn K mainGlobals c = some (some (.ref C)) /\ PySem.W.kitOne K (.ref C) (.ref R) = some b
theorem pd_isOb1 (i : Nat) {tbl : List (Str × Bool)} (hT : IsOb1 X.K r tbl) (hm : X.mg "isinstance" = none) (hi : X.N[i]? = some x := by rfl) (hv : Vis X.env.scope x := by walk_at "vi") (hd : (x == ("__debug__" : Str)) = false := by decide)
  (hcd : (x == ("__classdict__" : Str)) = false := by decide) (hg : Gl X "isinstance" := by rfl) (hgr : Gl X r := by rfl) (hdr : (r == ("__debug__" : Str)) = false := by decide)
  (hs : starEach [.Name x px, .Name r pr] X.env = (false, eval (.Name x px) X.env) :: starEach [.Name r pr] X.env := by rfl) (hs2 : starEach [.Name r pr] X.env = (false, eval (.Name r pr) X.env) :: starEach [] X.env := by rfl) (hpl : (backTo pos (starEach [.Name r pr] X.env)).any (·.1) = false := by rfl)
  (hb : bootBuiltins "isinstance" = some (.builtin "isinstance") := by decide +kernel) : PD X (.Call (.Name "isinstance" p) [.Name x px, .Name r pr] [] pos) (fIsOb i tbl) := by
 obtain ⟨R, hR, hT⟩ := hT
 have hc : CallR X (.builtin "isinstance") (fun xs H Q => ∃ a C b, xs = [.ref a, .ref R] /\ H a = some (.ext (ExO a C)) /\ ExcC X.K C /\ PySem.W.kitOne X.K (.ref C) (.ref R) = some b /\ Q (.bl b) H) := by
  intro pins s σ H xs us Q I r h
  obtain ⟨a, C, b, rfl, hH, eC, hk, q⟩ := h
  obtain ⟨u, w', rfl, r1, r2⟩ := vals2 r
  cases (show u = Value.ref a from r1)
  cases (show w' = Value.ref R from r2)
  exact PySem.W.kia_one (kitx_exc eC) I.kIn (I.hok a _ hH).1 hk (by intro z; cases z) fun tk => ⟨.bl b, H, I.tok tk, rfl, q⟩
 refine ⟨_, pe_callB hc hg hm hb (pa_cons (pe_var hi hv hd hcd) (pa_cons (pe_clsK hR hgr hdr) pa_nil hs2) hs) (by decide) (by decide) hs hpl, fun B G H δ σ d Q sG rs ef k => ?_⟩
 unfold fIsOb at ef
 split at ef
 ·rename_i c ed
  obtain ⟨b, e1, rfl⟩ := omE ef
  obtain ⟨v, h1, a, C, rfl, hC, eC, hG⟩ := rs.at_ i _ ed
  obtain ⟨C', hC', hk⟩ := hT c b e1
  rw [hC] at hC'
  cases hC'
  exact ⟨_, h1, a, C, b, rfl, sG _ _ hG, eC, hk, k _ G H (Grow.refl sG) (by simp [Rep])⟩
 ·cases ef
def NsAll (K : PySem.W.Frag) (rs : List Str) (Rs : List Addr) : Prop := Paired (fun (r : Str) (R : Addr) => PySem.W.nsIn K mainGlobals r = some (some (.ref R))) rs Rs
def IsObT (K : PySem.W.Frag) (rs : List Str) (tbl : List (Str × Bool)) : Prop := ∃ Rs, NsAll K rs Rs /\ rs.length <= 100 /\ ∀ c b, tbl.lookup c = some b -> ∃ C, PySem.W.nsIn K mainGlobals c = some (some (.ref C)) /\ PySem.W.kitAny K (.ref C) (Rs.map Value.ref) = some b
def PAC (X : Cx) (es : List Expr) (rs : List Str) : Prop := ∀ Rs, NsAll X.K rs Rs -> PA X es (fun σ H Q => Q (Rs.map V.ref) H)
theorem pac_nil : PAC X [] [] := fun Rs h => by cases h; exact fun pos pins s σ H Q I q => pa_nil pos pins s σ H Q I q
theorem pac_cons {es : List Expr} {rs : List Str} (hr : PAC X es rs) (hg : Gl X r := by rfl) (hd : (r == ("__debug__" : Str)) = false := by decide) (hs : starEach (.Name r pr :: es) X.env = (false, eval (.Name r pr) X.env) :: starEach es X.env := by rfl) : PAC X (.Name r pr :: es) (r :: rs) := fun Rs h => by
 cases h with
 | cons h1 h2 => exact fun pos pins s σ H Q I q => pa_cons (pe_clsK h1 hg hd) (hr _ h2) hs pos pins s σ H Q I q
theorem vals_refs : ∀ {Rs : List Addr} {us : List Value}, Vals (Rs.map V.ref) us -> us = Rs.map Value.ref
 | [], _, h => by cases h; rfl
 | R :: Rs, _, h => by
  cases h with
  | cons h1 h2 => rw [vals_refs h2]; cases (show _ = Value.ref R from h1); rfl
theorem paired_len {α β : Type} {P : α -> β -> Prop} : ∀ {xs : List α} {ys : List β}, Paired P xs ys -> xs.length = ys.length := fun h => Paired.length h
theorem pd_isObT (i : Nat) {es : List Expr} {ctx} {pt : Pos} {rs : List Str} {tbl : List (Str × Bool)} (hT : IsObT X.K rs tbl) (hm : X.mg "isinstance" = none) (ha : PAC X es rs) (hi : X.N[i]? = some x := by rfl) (hv : Vis X.env.scope x := by walk_at "vi") (hd : (x == ("__debug__" : Str)) = false := by decide)
  (hcd : (x == ("__classdict__" : Str)) = false := by decide) (hg : Gl X "isinstance" := by rfl)
  (hs : starEach [.Name x px, .Tuple es ctx pt] X.env = (false, eval (.Name x px) X.env) :: starEach [.Tuple es ctx pt] X.env := by rfl) (hs2 : starEach [.Tuple es ctx pt] X.env = (false, eval (.Tuple es ctx pt) X.env) :: starEach [] X.env := by rfl) (hpl : (backTo pos (starEach [.Tuple es ctx pt] X.env)).any (·.1) = false := by rfl)
  (hb : bootBuiltins "isinstance" = some (.builtin "isinstance") := by decide +kernel) : PD X (.Call (.Name "isinstance" p) [.Name x px, .Tuple es ctx pt] [] pos) (fIsOb i tbl) := by
 obtain ⟨Rs, hR, hl, hT⟩ := hT
 have hc : CallR X (.builtin "isinstance") (fun xs H Q => ∃ a C b tp, xs = [.ref a, .ref tp] /\ H a = some (.ext (ExO a C)) /\ H tp = some (.tup (Rs.map V.ref)) /\ ExcC X.K C /\ PySem.W.kitAny X.K (.ref C) (Rs.map Value.ref) = some b /\ Q (.bl b) H) := by
  intro pins s σ H xs us Q I r h
  obtain ⟨a, C, b, tp, rfl, hH, hP, eC, hk, q⟩ := h
  obtain ⟨u, w', rfl, r1, r2⟩ := vals2 r
  cases (show u = Value.ref a from r1)
  cases (show w' = Value.ref tp from r2)
  obtain ⟨_, its, rv, ot, ho, hcl, n, hdt⟩ := I.hok tp _ hP
  rw [vals_refs rv] at hdt
  rcases ot with ⟨c1, d1, dt1, sl1⟩
  cases hcl
  cases hdt
  exact PySem.W.kia_tup (kitx_exc eC) I.kIn (I.hok a _ hH).1 ho hk (by intro z; cases z) fun tk => ⟨.bl b, H, I.tok tk, rfl, q⟩
 refine ⟨_, pe_callB hc hg hm hb (pa_cons (pe_var hi hv hd hcd) (pa_cons (pe_tup (ha Rs hR)) pa_nil hs2) hs) (by decide) (by decide) hs hpl, fun B G H δ σ d Q sG rs' ef k => ?_⟩
 unfold fIsOb at ef
 split at ef
 ·rename_i c ed
  obtain ⟨b, e1, rfl⟩ := omE ef
  obtain ⟨v, h1, a, C, rfl, hC, eC, hG⟩ := rs'.at_ i _ ed
  obtain ⟨C', hC', hk⟩ := hT c b e1
  rw [hC] at hC'
  cases hC'
  refine ⟨_, h1, by rw [List.length_map, <- paired_len hR]; exact Nat.le_trans hl (by decide), fun tp hp => ?_⟩
  have ne : a ≠ tp := ne_of_none (sG _ _ hG) hp
  refine ⟨a, C, b, tp, rfl, by rw [upd_ne ne]; exact sG _ _ hG, upd_same, eC, hk, k _ _ _ (Grow.laid sG _ hp) (by simp [Rep])⟩
 ·cases ef
end
noncomputable def fz (a : Addr) (o : Obj) (u : HO) (H : Hp) : Hp := fun b => if b = a then (H a).map (fun _ => HO.frz o u) else H b
noncomputable def th (a : Addr) (u : HO) (H : Hp) : Hp := fun b => if b = a then (H a).map (fun _ => u) else H b
theorem fz_ne {a b : Addr} {o : Obj} {u : HO} {H : Hp} (h : b ≠ a) : fz a o u H b = H b := if_neg h
theorem fz_at {a : Addr} {o : Obj} {u x : HO} {H : Hp} (h : H a = some x) : fz a o u H a = some (.frz o u) := by unfold fz; rw [if_pos rfl, h]; rfl
theorem fz_no {a b : Addr} {o : Obj} {u : HO} {H : Hp} (h : H b = none) : fz a o u H b = none := by
 unfold fz; split
 ·rename_i e; rw [<- e, h]; rfl
 ·exact h
theorem th_ne {a b : Addr} {u : HO} {H : Hp} (h : b ≠ a) : th a u H b = H b := if_neg h
theorem th_at {a : Addr} {u x : HO} {H : Hp} (h : H a = some x) : th a u H a = some u := by unfold th; rw [if_pos rfl, h]; rfl
theorem th_no {a b : Addr} {u : HO} {H : Hp} (h : H b = none) : th a u H b = none := by
 unfold th; split
 ·rename_i e; rw [<- e, h]; rfl
 ·exact h
structure FzL (a : Addr) (kvs : List (Key × V)) (G G' : Hp) : Prop where
 one : Rd G a (.dK kvs)
 two : Rd G' a (.dK kvs)
 oth : ∀ b, b ≠ a -> G' b = G b
theorem Rd.det {H : Hp} {a : Addr} {kvs : List (Key × V)} {u : HO} (h : Rd H a (.dK kvs)) (h' : Rd H a u) (hu : ∀ o x, u ≠ .frz o x) : u = .dK kvs := by
 rcases h with h | ⟨o, h⟩
 ·rcases h' with h' | ⟨o', h'⟩
  ·rw [h] at h'; cases h'; rfl
  ·rw [h] at h'; cases h'
 ·rcases h' with h' | ⟨o', h'⟩
  ·rw [h] at h'; cases h'; exact absurd rfl (hu _ _)
  ·rw [h] at h'; cases h'; rfl
theorem FzL.rd {a b : Addr} {kvs : List (Key × V)} {G G' : Hp} {u : HO} (l : FzL a kvs G G') (h : Rd G b u) (hu : ∀ o x, u ≠ .frz o x) : Rd G' b u := by
 by_cases hb : b = a
 ·subst hb; rw [l.one.det h hu]; exact l.two
 ·rcases h with h | ⟨o, h⟩
  ·exact .inl (by rw [l.oth b hb]; exact h)
  ·exact .inr ⟨o, by rw [l.oth b hb]; exact h⟩
mutual
theorem FzL.rep {K : PySem.W.Frag} {a : Addr} {kvs : List (Key × V)} {G G' : Hp} (l : FzL a kvs G G') : ∀ {d : D} {v : V}, Rep K G d v -> Rep K G' d v
 | .non, _, h => by simp only [Rep] at h ⊢; exact h
 | .bl b, _, h => by simp only [Rep] at h ⊢; exact h
 | .int i, _, h => by simp only [Rep] at h ⊢; exact h
 | .str x, _, h => by simp only [Rep] at h ⊢; exact h
 | .tup ds, _, h => by
  simp only [Rep] at h ⊢
  obtain ⟨a, vs, h1, h2, h3⟩ := h
  exact ⟨a, vs, h1, h2.elim (fun z => .inl (l.rd z (fun _ _ z => nomatch z))) .inr, FzL.repL l h3⟩
 | .lst ds, _, h => by
  simp only [Rep] at h ⊢
  obtain ⟨a, vs, h1, h2, h3⟩ := h
  exact ⟨a, vs, h1, h2.elim (fun z => .inl (l.rd z (fun _ _ z => nomatch z))) .inr, FzL.repL l h3⟩
 | .dic ks ds, _, h => by
  simp only [Rep] at h ⊢
  obtain ⟨a, vs, h1, h2, h3, h4, h5⟩ := h
  exact ⟨a, vs, h1, l.rd h2 (fun _ _ z => nomatch z), h3, h4, FzL.repL l h5⟩
theorem FzL.repL {K : PySem.W.Frag} {a : Addr} {kvs : List (Key × V)} {G G' : Hp} (l : FzL a kvs G G') : ∀ {ds : List D} {vs : List V}, RepL K G ds vs -> RepL K G' ds vs
 | [], _, h => by simp only [RepL] at h ⊢; exact h
 | d :: ds, _, h => by
  simp only [RepL] at h ⊢
  obtain ⟨v, r, h1, h2, h3⟩ := h
  exact ⟨v, r, h1, FzL.rep l h2, FzL.repL l h3⟩
end
theorem FzL.repS {K : PySem.W.Frag} {a : Addr} {kvs : List (Key × V)} {B B' G G' H H' : Hp} {δ : En} {σ : St} (l : FzL a kvs G G') (hB : ∀ b, B b = none -> B' b = none) (hH : ∀ b, b ≠ a -> H' b = H b) (rs : RepS K B G H δ σ) : RepS K B' G' H' δ σ := by
 have ga : ∀ b, G b = none -> b ≠ a := fun b e z => by subst z; rcases l.one with h | ⟨o, h⟩ <;> rw [e] at h <;> cases h
 refine ⟨rs.len, fun i x e => ?_, rs.ap⟩
 obtain ⟨v, h1, h2⟩ := rs.at_ i x e
 refine ⟨v, h1, ?_⟩
 cases x with
 | sh d => exact l.rep h2
 | ob c =>
  obtain ⟨e1, C, q1, q2, q3, q4⟩ := h2
  have hne : e1 ≠ a := fun z => by subst z; rcases l.one with h | ⟨o, h⟩ <;> rw [q4] at h <;> cases h
  exact ⟨e1, C, q1, q2, q3, by rw [l.oth _ hne]; exact q4⟩
 | pv m o =>
  obtain ⟨b, us, q1, q2, q3, q4, q5, q6, q7⟩ := h2
  have hne := ga b q3
  exact ⟨b, us, q1, hB b q2, by rw [l.oth _ hne]; exact q3, by rw [hH b hne]; exact q4, q5, l.repL q6, q7⟩
section
variable {X : Cx} {pins : List (Addr × Obj)} {σ : St} {H : Hp} {s : Shared} {a : Addr} {kvs : List (Key × V)} {o : Obj}
theorem Inv.fz (I : Inv X pins σ H s) (e : H a = some (.dK kvs)) (ho : s.heap.get? a = some o) : Inv X pins σ (fz a o (.dK kvs) H) s := by
 have ne : ∀ b u, H b = some u -> (∀ k, u ≠ .dK k) -> b ≠ a := fun b u q h z => by subst z; rw [e] at q; cases q; exact h _ rfl
 refine I.un (t' := s.toks) (h' := s.heap) ⟨fun _ _ q _ _ _ => q, fun _ o q _ _ _ => ⟨o.slots, q⟩, fun b o q n _ => fz_no n, fun _ o q _ => ⟨o, q⟩, fun b xs q => by rw [fz_ne (ne b _ q fun _ z => nomatch z)]; exact q, fun b o u q => by rw [fz_ne (ne b _ q fun _ z => nomatch z)]; exact q, fun b ps q => ⟨#[], by rw [fz_ne (ne b _ q fun _ z => nomatch z), q]; simp⟩⟩ fun b u q => ?_
 have st : ∀ {b : Addr} {u : HO}, ObjOk X.prog X.w H s.heap b u -> ObjOk X.prog X.w (L2.fz a o (.dK kvs) H) s.heap b u := fun {b u} x => x.stay (fun _ _ _ z => z) (fun c z => by rw [fz_ne (ne c _ z fun _ z => nomatch z)]; exact z) fun c xs z => by rw [fz_ne (ne c _ z fun _ z => nomatch z)]; exact z
 by_cases hb : b = a
 ·subst hb
  rw [fz_at e] at q
  cases q
  exact ⟨ho, st (I.hok _ _ e)⟩
 ·rw [fz_ne hb] at q
  exact st (I.hok _ _ q)
theorem Inv.th (I : Inv X pins σ H s) (e : H a = some (.frz o (.dK kvs))) (h0 : ∀ o u, X.H₀ a ≠ some (.frz o u)) : Inv X pins σ (th a (.dK kvs) H) s := by
 have ne : ∀ b u, H b = some u -> (∀ o k, u ≠ .frz o k) -> b ≠ a := fun b u q h z => by subst z; rw [e] at q; cases q; exact h _ _ rfl
 refine ⟨I.ok, I.os, I.bare, ⟨I.base.keep, I.base.slot, fun b o q n x => th_no (I.base.free b o q n x), I.base.there, fun b xs q => by rw [th_ne (ne b _ (I.base.tups b xs q) fun _ _ z => nomatch z)]; exact I.base.tups b xs q, fun b o u q => ?_, fun b ps q => ?_⟩, I.loc, I.cell, th_no I.free, fun x c q => th_no (I.freeC x c q), fun p hp => let ⟨q1, q2, q3⟩ := I.pin p hp; ⟨q1, th_no q2, q3⟩, fun b u q => ?_, I.len⟩
 ·have hb : b ≠ a := fun z => by subst z; exact h0 _ _ q
  rw [th_ne hb]; exact I.base.frzs b o u q
 ·obtain ⟨more, q1⟩ := I.base.tbls b ps q
  exact ⟨more, by rw [th_ne (ne b _ q1 fun _ _ z => nomatch z)]; exact q1⟩
 ·have st : ∀ {b : Addr} {u : HO}, ObjOk X.prog X.w H s.heap b u -> ObjOk X.prog X.w (L2.th a (.dK kvs) H) s.heap b u := fun {b u} x => x.stay (fun _ _ _ z => z) (fun c z => by rw [th_ne (ne c _ z fun _ _ z => nomatch z)]; exact z) fun c xs z => by rw [th_ne (ne c _ z fun _ _ z => nomatch z)]; exact z
  by_cases hb : b = a
  ·subst hb
   rw [th_at e] at q
   cases q
   exact st (I.hok _ _ e).2
  ·rw [th_ne hb] at q
   exact st (I.hok _ _ q)
end
noncomputable def kD : Key -> D | .inl i => .int i | .inr x => .str x
section
variable {X : Cx} {pins : List (Addr × Obj)} {σ : St} {H : Hp} {s : Shared} {a : Addr} {kvs : List (Key × V)} {o : Obj}
theorem dict_frz (I : Inv X pins σ H s) (e : H a = some (.frz o (.dK kvs))) : (a == sysModules) = false /\ ∃ vs es ep, KV kvs vs /\ o.data = .dict es ep /\ Heap.DictAt (mixKind X.prog X.w) s.heap a vs ep := by
 obtain ⟨ho, z, hd, vs, rel, o', es, ep, h1, h2, h3, h4⟩ := I.hok a _ e
 rw [ho] at h1
 cases h1
 exact ⟨hd, vs, es, ep, rel, h3, o, es, ho, h2, h3, h4⟩
noncomputable def Itd (vals : Bool) (a : Addr) (o : Obj) (kvs : List (Key × V)) : It :=
 ⟨fun i H => H a = some (.frz o (.dK kvs)) /\ i < kvs.length, fun i H x H' => H' = H /\ (kvs[i]?).map (fun kv => if vals then kv.2 else kV kv.1) = some x, fun i H => H a = some (.frz o (.dK kvs)) /\ kvs.length <= i⟩
theorem KV.get : ∀ {kvs : List (Key × V)} {vs : List (Key × Value)} {i : Nat} {kv : Key × V}, KV kvs vs -> kvs[i]? = some kv -> ∃ v, vs[i]? = some (kv.1, v) /\ RelV kv.2 v
 | [], _, _, _, _, e => by simp at e
 | p :: r, _, 0, kv, h, e => by
  cases h with
  | cons h1 h2 =>
   rename_i q qs
   simp at e; subst e
   obtain ⟨k, v⟩ := q
   exact ⟨v, by rw [List.getElem?_cons_zero]; rw [h1.1], h1.2⟩
 | p :: r, _, i + 1, kv, h, e => by
  cases h with
  | cons h1 h2 =>
   obtain ⟨v, q1, q2⟩ := KV.get (i := i) h2 (by simpa using e)
   exact ⟨v, by simpa using q1, q2⟩
theorem turn_dictK {P : Program} {w : World} {K : PySem.W.Frag} {tg : Expr} {es : Array DictEntry} {ep : Nat} (hd : o.data = .dict es ep) (a it : Addr) : Turn P w K tg (Itd false a o kvs) [it] it (fun i h => h.IsKeyIter it a i kvs.length ep) where
 mem := by simp
 obj := fun i h st b hb => by
  have e : b = it := by simpa using hb
  subst e
  obtain ⟨o, e, c, d⟩ := st
  exact ⟨o, e, fun v z => by rw [d] at z; cases z⟩
 keep := fun i h h' st k => by obtain ⟨o, e, r⟩ := st; exact ⟨o, k it (by simp) o e, r⟩
 item := by
  intro X hP hw hK hc i pins s σ H E I hf st hg
  subst hP hw hK
  obtain ⟨he, hi⟩ := hg
  obtain ⟨_, vs, es', ep', rel, hd', da⟩ := dict_frz I he
  rw [hd] at hd'
  cases hd'
  obtain ⟨kv, hkv⟩ : ∃ kv, kvs[i]? = some kv := ⟨_, List.getElem?_eq_getElem hi⟩
  obtain ⟨v, hv, rv⟩ := KV.get rel hkv
  obtain ⟨f0, f1, f2, f3, f4, f5⟩ := hf it (by simp)
  refine wpAny_pyNext_dict_item (knd := mixKind X.prog X.w) (by rw [<- Paired.length rel]; exact st) da hv fun key h' hk st' sb => ?_
  have I1 : Inv X pins σ H { s with heap := h' } := I.turned (t' := s.toks) (fun b o hb e => (sb.2 b hb).trans e) f0 f1 f3 f4 f5
  obtain ⟨o2, e, c, d⟩ := id st'
  refine ⟨key, rfl, go_of (s := { s with heap := h' }) e c d (by decide) ⟨kV kv.1, H, I1, ?_, ⟨rfl, by rw [hkv]; rfl⟩, by rw [Paired.length rel]; exact st', fun b hb => (hf b hb).1⟩⟩
  rcases keyIs_shape hk with ⟨i, t, h1, h2⟩ | ⟨x, t, h1, h2⟩
  ·rw [h1, h2]; exact ⟨t, rfl⟩
  ·rw [h1, h2]; exact ⟨t, rfl⟩
 done := by
  intro X hP hw hK hc i pins s σ H E I hf st hg
  subst hP hw hK
  obtain ⟨he, hi⟩ := hg
  obtain ⟨_, vs, es', ep', rel, hd', da⟩ := dict_frz I he
  rw [hd] at hd'
  cases hd'
  obtain ⟨f0, f1, f2, f3, f4, f5⟩ := hf it (by simp)
  exact wpAny_pyNext_dict_end (knd := mixKind X.prog X.w) (I.ok.hd hc) (by rw [<- Paired.length rel]; exact st) da (List.getElem?_eq_none_iff.mpr (by rw [<- Paired.length rel]; exact hi)) fun h' eb => ⟨rfl, I.turned (t' := s.toks) (fun b o hb e => eb b o hb e) f0 f1 f3 f4 f5⟩
 self := fun _ _ _ _ _ st h => wpAny_pyIter_keyiter st h
theorem turn_dictV {P : Program} {w : World} {K : PySem.W.Frag} {tg : Expr} {es : Array DictEntry} {ep : Nat} (hd : o.data = .dict es ep) (a it : Addr) : Turn P w K tg (Itd true a o kvs) [it] it (fun i h => h.IsValIter it a i kvs.length ep) where
 mem := by simp
 obj := fun i h st b hb => by
  have e : b = it := by simpa using hb
  subst e
  obtain ⟨o, e, c, d⟩ := st
  exact ⟨o, e, fun v z => by rw [d] at z; cases z⟩
 keep := fun i h h' st k => by obtain ⟨o, e, r⟩ := st; exact ⟨o, k it (by simp) o e, r⟩
 item := by
  intro X hP hw hK hc i pins s σ H E I hf st hg
  subst hP hw hK
  obtain ⟨he, hi⟩ := hg
  obtain ⟨_, vs, es', ep', rel, hd', da⟩ := dict_frz I he
  rw [hd] at hd'
  cases hd'
  obtain ⟨kv, hkv⟩ : ∃ kv, kvs[i]? = some kv := ⟨_, List.getElem?_eq_getElem hi⟩
  obtain ⟨v, hv, rv⟩ := KV.get rel hkv
  obtain ⟨f0, f1, f2, f3, f4, f5⟩ := hf it (by simp)
  refine wpAny_pyNext_values_item (knd := mixKind X.prog X.w) (by rw [<- Paired.length rel]; exact st) da hv fun h' st' sb => ?_
  have I1 : Inv X pins σ H { s with heap := h' } := I.turned (t' := s.toks) (fun b o hb e => (sb.2 b hb).trans e) f0 f1 f3 f4 f5
  obtain ⟨o2, e, c, d⟩ := id st'
  exact ⟨v, rfl, go_of (s := { s with heap := h' }) e c d (by decide) ⟨kv.2, H, I1, rv, ⟨rfl, by rw [hkv]; rfl⟩, by rw [Paired.length rel]; exact st', fun b hb => (hf b hb).1⟩⟩
 done := by
  intro X hP hw hK hc i pins s σ H E I hf st hg
  subst hP hw hK
  obtain ⟨he, hi⟩ := hg
  obtain ⟨_, vs, es', ep', rel, hd', da⟩ := dict_frz I he
  rw [hd] at hd'
  cases hd'
  obtain ⟨f0, f1, f2, f3, f4, f5⟩ := hf it (by simp)
  exact wpAny_pyNext_values_end (knd := mixKind X.prog X.w) (I.ok.hd hc) (by rw [<- Paired.length rel]; exact st) da (List.getElem?_eq_none_iff.mpr (by rw [<- Paired.length rel]; exact hi)) fun h' eb => ⟨rfl, I.turned (t' := s.toks) (fun b o hb e => eb b o hb e) f0 f1 f3 f4 f5⟩
 self := fun _ _ _ _ _ st h => wpAny_pyIter_valiter st h
end
section
variable {X : Cx} {tg : Expr} {d : Str} {p pos apos : Pos}
def iDic (vals : Bool) (j : Nat) : TI := fun σ H R => ∃ a o kvs, σ[j]? = some (some (.ref a)) /\ H a = some (.frz o (.dK kvs)) /\ R (Itd vals a o kvs) H
theorem pi_dictK (j : Nat) (hj : X.N[j]? = some d) (hv : Vis X.env.scope d) (hd : (d == ("__debug__" : Str)) = false) (hcd : (d == ("__classdict__" : Str)) = false) : PI X tg (.Name d p) (iDic false j) := by
 intro pins s σ H R I ⟨a, o, kvs, hs, he, q⟩
 refine thn (pe_var hj hv hd hcd pins s σ H (fun v H' => v = .ref a /\ H' = H) I ⟨_, hs, rfl, rfl⟩) fun v s1 ⟨x, H1, I1, r1, ex, eh⟩ => ?_
 subst ex eh
 obtain rfl : v = Value.ref a := r1
 obtain ⟨hm, vs, es, ep, rel, hdt, da⟩ := dict_frz I1 he
 refine wpAny_pyIter_dict hm da ?_
 refine ⟨s1.heap.objs.size, [s1.heap.objs.size], _, _, H1, rfl, I1.kept (t' := s1.toks) fun b o e => Heap.get?_push_of_some _ e, turn_dictK hdt a _, ⟨_, Heap.get?_push_size _ rfl, rfl, by rw [Paired.length rel]; rfl⟩, fun b hb => ?_, q⟩
 have e : b = s1.heap.objs.size := by simpa using hb
 subst e
 exact I1.fpOk (Nat.le_refl _) (I1.hok.fresh (Nat.le_refl _))
theorem pi_dictV (j : Nat) (hj : X.N[j]? = some d) (hv : Vis X.env.scope d) (hd : (d == ("__debug__" : Str)) = false) (hcd : (d == ("__classdict__" : Str)) = false)
  (hbase : attributeBase (.Name d p) "values" X.env (eval (.Name d p) X.env) = eval (.Name d p) X.env) (hline : (apos.endLine == pos.line) = true) : PI X tg (.Call (.Attribute (.Name d p) "values" apos) [] [] pos) (iDic true j) := by
 intro pins s σ H R I ⟨a, o, kvs, hs, he, q⟩
 refine wpAny_Call_method0_late hbase hline (thn (pe_var hj hv hd hcd pins s σ H (fun v H' => v = .ref a /\ H' = H) I ⟨_, hs, rfl, rfl⟩) fun v s1 ⟨x, H1, I1, r1, ex, eh⟩ => ?_)
 subst ex eh
 obtain rfl : v = Value.ref a := r1
 obtain ⟨hm, vs, es, ep, rel, hdt, da⟩ := dict_frz I1 he
 obtain ⟨t1, t2, _⟩ := isD_at I1 (.inl ⟨kvs, .inr ⟨o, he⟩⟩)
 refine ⟨"dict", "dict.values", PySem.F.plainAttrs_dict, PySem.F.slot_dict_values, PySem.F.type_dict_values, t1, t2, Calls.callWith_builtin rfl (PySem.evalArgs_none ?_)⟩
 have dof : Heap.DictOf (mixKind X.prog X.w) s1.heap a vs := let ⟨o, es, r⟩ := da; ⟨o, es, ep, r⟩
 refine call_meetsIn PySem.F.slot_dict_values t1 PySem.F.entry_dict_values (PySem.F.args_dict_values_1 _) (meets_dict_values (mixKind X.prog X.w) a hm) ⟨⟨vs, dof⟩, ?_⟩
 obtain ⟨o', es', h1, h2⟩ := da
 refine wpAny_pyIter_values (knd := mixKind X.prog X.w) (d := a) (kvs := vs) (ep := ep) ⟨_, Heap.get?_push_size _ rfl, rfl, rfl⟩ ⟨o', es', Heap.get?_push_of_some _ h1, h2⟩ ?_
 have I2 : Inv X pins σ H1 { s1 with heap := s1.heap.push { cls := .type "dict_values", data := .fields #[.ref a] } } := I1.kept (t' := s1.toks) fun b o e => Heap.get?_push_of_some _ e
 refine ⟨_, [_], _, _, H1, rfl, I2.kept (t' := s1.toks) fun b o e => Heap.get?_push_of_some _ e, turn_dictV hdt a _, ⟨_, Heap.get?_push_size _ rfl, rfl, by rw [Paired.length rel]; rfl⟩, fun b hb => ?_, q⟩
 have e : b = _ := List.mem_singleton.mp hb
 subst e
 exact I2.fpOk (Nat.le_refl _) (I2.hok.fresh (Nat.le_refl _))
end
section
variable {X : Cx} {F : FS} {B G H : Hp} {δ : En} {σ : St} {o : Out}
theorem for_run (i : Nat) {wi : TI} {tb : TS} {xs : List D} {E : Ends} (kb : GivesS X tb F) (sG : Same G H) (sB : Same B H) (rs : RepS X.K B G H δ σ)
  (hw : ∀ R : It -> Hp -> Prop, (∀ J G' H', Grow G H G' H' -> Wk X.K J G' xs -> R J H') -> wi σ H R) (e : forL i F xs δ = some o) (w : Want X B G E o) : tFor wi (gName i) tb E σ H := by
 refine hw _ fun J G1 H1 g1 wk => ?_
 have st1 : Stp B G G1 H1 := g1.stp sB
 refine ⟨fun n m σ' H' => ∃ δ' G', m = xs.length - n /\ n <= xs.length /\ Stp B G1 G' H' /\ RepS X.K B G' H' δ' σ' /\ forL i F (xs.drop n) δ' = some o, ⟨_, δ, G1, rfl, Nat.zero_le _, Stp.refl st1.s st1.b, rs.grow g1, by simpa using e⟩, ?_⟩
 rintro n m σ' H' ⟨δ', G', rfl, hn, a1, rs', eo⟩
 by_cases hlt : n < xs.length
 ·right
  obtain ⟨go, yl⟩ := wk.go n xs[n] G' H' (by simp [hlt]) a1.g a1.s
  rw [List.drop_eq_getElem_cons hlt] at eo
  unfold forL at eo
  refine ⟨go, fun σ2 H2 => ∃ m', m' < xs.length - n /\ ∃ δ2 G2, m' = xs.length - (n + 1) /\ n + 1 <= xs.length /\ Stp B G1 G2 H2 /\ RepS X.K B G2 H2 δ2 σ2 /\ forL i F (xs.drop (n + 1)) δ2 = some o, fun σ2 H2 z => z, fun x H2 y => ?_⟩
  obtain ⟨rfl, rx⟩ := yl x H2 y
  show tb _ (σ'.set i (some x)) H2
  have again : ∀ {δ2 : En} {σ2 : St} {G2 H3 : Hp}, Stp B G' G2 H3 -> RepS X.K B G2 H3 δ2 σ2 -> forL i F (xs.drop (n + 1)) δ2 = some o ->
    ∃ m', m' < xs.length - n /\ ∃ δ2 G2, m' = xs.length - (n + 1) /\ n + 1 <= xs.length /\ Stp B G1 G2 H3 /\ RepS X.K B G2 H3 δ2 σ2 /\ forL i F (xs.drop (n + 1)) δ2 = some o :=
   fun {δ2 σ2 G2 H3} a r e => ⟨xs.length - (n + 1), by omega, δ2, G2, rfl, hlt, a1.trans a, r, e⟩
  cases eF : F (δ'.set i (some (.sh xs[n]))) with
  | none => rw [eF] at eo; cases eo
  | some o1 =>
   rw [eF] at eo
   refine kb B G' H2 _ _ o1 _ a1.s a1.b (rs'.set i rx) eF ?_
   cases o1 with
   | nx δ2 => exact fun σ2 G2 H3 a r => again a r eo
   | ct δ2 => exact fun σ2 G2 H3 a r => again a r eo
   | ex c δ2 =>
    cases eo
    exact fun pins σ2 G2 H3 s3 e C I a => w pins σ2 G2 H3 s3 e C I (st1.trans (a1.trans a))
   | bk δ2 =>
    cases eo
    exact fun σ2 G2 H3 a r => w σ2 G2 H3 (st1.trans (a1.trans a)) r
   | rt r δ2 =>
    cases eo
    cases r with
    | sh d => exact fun v σ2 G2 H3 a r => w v σ2 G2 H3 (st1.trans (a1.trans a)) r
    | fr m => exact fun p vs σ2 G2 H3 a => w p vs σ2 G2 H3 (st1.trans (a1.trans a))
 ·left
  have hnn : n = xs.length := by omega
  subst hnn
  rw [List.drop_of_length_le (Nat.le_refl _)] at eo
  cases eo
  exact ⟨wk.stop G' H' a1.g a1.s, w σ' G' H' (st1.trans a1) rs'⟩
end
noncomputable def dItems (vals : Bool) (ks : List Key) (ds : List D) : List D := if vals then ds else ks.map kD
theorem zip_get {ks : List Key} {vs : List V} {i : Nat} {kv : Key × V} (e : (ks.zip vs)[i]? = some kv) : ks[i]? = some kv.1 /\ vs[i]? = some kv.2 := by
 rw [List.getElem?_zip_eq_some] at e
 exact e
theorem wk_dic {K : PySem.W.Frag} {G : Hp} {a : Addr} {o : Obj} {ks : List Key} {ds : List D} {vs : List V} (vals : Bool) (hG : G a = some (.frz o (.dK (ks.zip vs)))) (hl : ks.length = ds.length) (rl : RepL K G ds vs) : Wk K (Itd vals a o (ks.zip vs)) G (dItems vals ks ds) := by
 have hlz : (ks.zip vs).length = ds.length := by rw [List.length_zip, <- rl.length, hl]; simp
 have hli : (dItems vals ks ds).length = ds.length := by unfold dItems; split <;> simp [hl]
 refine ⟨fun i d G' H' ed a1 b1 => ⟨⟨b1 _ _ (a1 _ _ hG), ?_⟩, fun x H2 y => ⟨y.1, ?_⟩⟩, fun G' H' a1 b1 => ⟨b1 _ _ (a1 _ _ hG), by rw [hlz, hli]; exact Nat.le_refl _⟩⟩
 ·have := (List.getElem?_eq_some_iff.mp ed).1
  rw [hlz]; rw [hli] at this; exact this
 ·obtain ⟨kv, e1, e2⟩ := omE y.2
  obtain ⟨hk, hv⟩ := zip_get e1
  cases vals with
  | true =>
   have ed : ds[i]? = some d := ed
   obtain ⟨v, q1, q2⟩ := rl.get ed
   rw [q1] at hv
   cases hv
   rw [<- e2]
   exact q2.mono a1
  | false =>
   have ed : (ks.map kD)[i]? = some d := ed
   rw [List.getElem?_map, hk] at ed
   cases ed
   rw [<- e2]
   show Rep K G' (kD kv.1) (kV kv.1)
   cases kv.1 <;> simp [kD, kV, Rep]
section
variable {X : Cx} {F : FS} {x d : Str} {p pos pos' apos cpos : Pos} {body : List Stmt}
@[simp] noncomputable def sForD (vals : Bool) (i j : Nat) (F : FS) : FS := fun δ => match δ[j]? with
 | some (some (.sh (.dic ks ds))) => forL i F (dItems vals ks ds) δ
 | _ => none
theorem psd_forDI (vals : Bool) (i j : Nat) {iter : Expr} (hN : X.N.Nodup) (hc : X.calm = true) (hp : PassesOwn (model X.prog X.w) X.A X.env X.xe) (hi : PI X (.Name x pos') iter (iDic vals j)) (hb : PSsD X body F)
  (hix : X.N[i]? = some x) (hx : Loc X.env.scope x) (hf : X.fn x = true \/ X.env.scope.names.lookup x = some .local) (hs : ∀ x, foldedSetIterable iter X.env x = pure x) : PSD X (.For (.Name x pos') iter body [] pos) (sForD vals i j F) := by
 obtain ⟨tb, pb, kb⟩ := hb
 have pfor := ps_for (pos := pos) hp hc hi (pg_name hN hix hx hf) pb hs
 refine ⟨fun E σ H => ∃ B G δ o, Same G H /\ Same B H /\ RepS X.K B G H δ σ /\ sForD vals i j F δ = some o /\ Want X B G E o, ?_, fun B G H δ σ o D sG sB rs e w => ⟨B, G, δ, o, sG, sB, rs, e, w⟩⟩
 intro pins s σ H E I ⟨B, G, δ, o', sG, sB, rs, e, w⟩
 unfold sForD at e
 split at e
 case h_2 => cases e
 rename_i ks ds ed
 obtain ⟨v, h1, h2⟩ := rs.at_ j _ ed
 have h2 : Rep X.K G (.dic ks ds) v := h2
 simp only [Rep] at h2
 obtain ⟨a, vs, rfl, hrd, hl, nd, rl⟩ := h2
 rcases hrd with hG | ⟨o, hG⟩
 ·have hH := sG _ _ hG
  obtain ⟨o, ho⟩ := ObjOk.is (I.hok a _ hH)
  have h0 : ∀ o u, X.H₀ a ≠ some (.frz o u) := fun o u z => by have := I.base.frzs a o u z; rw [hH] at this; cases this
  have lkG : FzL a (ks.zip vs) G (fz a o (.dK (ks.zip vs)) G) := ⟨.inl hG, .inr ⟨o, fz_at hG⟩, fun b hb => fz_ne hb⟩
  have rs1 : RepS X.K (fz a o (.dK (ks.zip vs)) B) (fz a o (.dK (ks.zip vs)) G) (fz a o (.dK (ks.zip vs)) H) δ σ := lkG.repS (fun b e => fz_no e) (fun b hb => fz_ne hb) rs
  have same : ∀ {P Q : Hp}, Same P Q -> Same (fz a o (.dK (ks.zip vs)) P) (fz a o (.dK (ks.zip vs)) Q) := fun {P Q} s b u z => by
   by_cases hb : b = a
   ·subst hb
    cases e : P b with
    | none => rw [fz_no e] at z; cases z
    | some y => rw [fz_at e] at z; cases z; exact fz_at (s _ _ e)
   ·rw [fz_ne hb] at z ⊢; exact s b u z
  have sG1 := same sG
  have sB1 := same sB
  have fzN : ∀ {P : Hp} {b : Addr}, fz a o (.dK (ks.zip vs)) P b = none -> P b = none := fun {P b} z => by
   by_cases hb : b = a
   ·subst hb
    cases e : P b with
    | none => rfl
    | some y => rw [fz_at e] at z; cases z
   ·rw [fz_ne hb] at z; exact z
  have at' : ∀ {G' H' : Hp}, Stp (fz a o (.dK (ks.zip vs)) B) (fz a o (.dK (ks.zip vs)) G) G' H' -> G' a = some (.frz o (.dK (ks.zip vs))) /\ H' a = some (.frz o (.dK (ks.zip vs))) := fun {G' H'} st => ⟨st.g _ _ (fz_at hG), st.s _ _ (st.g _ _ (fz_at hG))⟩
  have stp : ∀ {G' H' : Hp}, Stp (fz a o (.dK (ks.zip vs)) B) (fz a o (.dK (ks.zip vs)) G) G' H' -> Stp B G (th a (.dK (ks.zip vs)) G') (th a (.dK (ks.zip vs)) H') := fun {G' H'} st => by
   obtain ⟨q1, q2⟩ := at' st
   refine ⟨fun b u z => ?_, fun b u z => ?_, fun b u z => ?_, fun b u z n => ?_⟩
   ·by_cases hb : b = a
    ·subst hb; rw [hG] at z; cases z; exact th_at q1
    ·rw [th_ne hb]; exact st.g b u (by rw [fz_ne hb]; exact z)
   ·by_cases hb : b = a
    ·subst hb; rw [th_at q1] at z; cases z; exact th_at q2
    ·rw [th_ne hb] at z ⊢; exact st.s b u z
   ·by_cases hb : b = a
    ·subst hb
     have := sB _ _ z
     rw [hH] at this
     cases this
     exact th_at q2
    ·rw [th_ne hb]; exact st.b b u (by rw [fz_ne hb]; exact z)
   ·have hb : b ≠ a := fun y => by subst y; rw [hG] at n; cases n
    rw [th_ne hb]
    exact st.n b u (by rw [fz_ne hb]; exact z) (by rw [fz_ne hb]; exact n)
  have lkT : ∀ {G' : Hp}, G' a = some (.frz o (.dK (ks.zip vs))) -> FzL a (ks.zip vs) G' (th a (.dK (ks.zip vs)) G') := fun {G'} q => ⟨.inr ⟨o, q⟩, .inl (th_at q), fun b hb => th_ne hb⟩
  have rst : ∀ {G' H' : Hp} {δ' : En} {σ' : St}, Stp (fz a o (.dK (ks.zip vs)) B) (fz a o (.dK (ks.zip vs)) G) G' H' -> RepS X.K (fz a o (.dK (ks.zip vs)) B) G' H' δ' σ' -> RepS X.K B (th a (.dK (ks.zip vs)) G') (th a (.dK (ks.zip vs)) H') δ' σ' :=
   fun st rs' => (lkT (at' st).1).repS (fun b z => fzN z) (fun b hb => th_ne hb) rs'
  have w1 : Want X (fz a o (.dK (ks.zip vs)) B) (fz a o (.dK (ks.zip vs)) G) { nx := fun σ' H' => H' a = some (.frz o (.dK (ks.zip vs))) /\ E.nx σ' (th a (.dK (ks.zip vs)) H'), rt := fun v H' => H' a = some (.frz o (.dK (ks.zip vs))) /\ E.rt v (th a (.dK (ks.zip vs)) H'), bk := fun σ' H' => H' a = some (.frz o (.dK (ks.zip vs))) /\ E.bk σ' (th a (.dK (ks.zip vs)) H'), ct := fun σ' H' => H' a = some (.frz o (.dK (ks.zip vs))) /\ E.ct σ' (th a (.dK (ks.zip vs)) H') } o' := by
   cases o' with
   | nx δ' => exact fun σ' G' H' st rs' => ⟨(at' st).2, w σ' _ _ (stp st) (rst st rs')⟩
   | bk δ' => exact fun σ' G' H' st rs' => ⟨(at' st).2, w σ' _ _ (stp st) (rst st rs')⟩
   | ct δ' => exact fun σ' G' H' st rs' => ⟨(at' st).2, w σ' _ _ (stp st) (rst st rs')⟩
   | ex c δ' =>
    intro pins' σ' G' H' s' e' C I' st rs' hC Fl
    obtain ⟨q1, q2, oe, ovs, q3, q4, q5, q6, q7⟩ := Fl
    refine w pins' σ' _ _ s' e' C (I'.th (at' st).2 h0) (stp st) (rst st rs') hC ⟨q1, th_no q2, oe, ovs, q3, q4, q5, q6, ?_⟩
    rcases q7 with q7 | ⟨T, oT, ts, r1, r2, r3, r4, r5⟩
    ·exact .inl q7
    ·exact .inr ⟨T, oT, ts, r1, r2, r3, th_no r4, r5⟩
   | rt r δ' =>
    cases r with
    | sh dd => exact fun v σ' G' H' st rs' rv => ⟨(at' st).2, w v σ' _ _ (stp st) (rst st rs') ((lkT (at' st).1).rep rv)⟩
    | fr m =>
     intro p us σ' G' H' st rs' hp ok rl'
     have hpa : a ≠ p := ne_of_none (at' st).2 hp
     refine ⟨by rw [upd_ne hpa]; exact (at' st).2, ?_⟩
     have := w p us σ' _ _ (stp st) (rst st rs') (th_no hp) ok ((lkT (at' st).1).repL rl')
     rw [show th a (.dK (ks.zip vs)) (upd H' p (m.ho us)) = upd (th a (.dK (ks.zip vs)) H') p (m.ho us) from ?_]
     ·exact this
     ·funext b
      by_cases hb : b = p
      ·subst hb; rw [th_ne (Ne.symm hpa), upd_same, upd_same]
      ·rw [upd_ne hb]
       by_cases hba : b = a
       ·subst hba; rw [th_at (at' st).2, th_at (x := .frz o (.dK (ks.zip vs))) (by rw [upd_ne hb]; exact (at' st).2)]
       ·rw [th_ne hba, th_ne hba, upd_ne hb]
  have rl1 := lkG.repL rl
  refine thn (pfor pins s σ _ _ (I.fz hH ho) (for_run i kb sG1 sB1 rs1 (fun R k => ⟨a, o, _, h1, sG1 _ _ (fz_at hG), k _ _ _ (Grow.refl sG1) (wk_dic vals (fz_at hG) hl rl1)⟩) e w1)) fun f s' h => ?_
  cases f with
  | next => obtain ⟨σ', H', J, q, r⟩ := h; exact ⟨σ', _, J.th q h0, r⟩
  | brk => obtain ⟨σ', H', J, q, r⟩ := h; exact ⟨σ', _, J.th q h0, r⟩
  | cont => obtain ⟨σ', H', J, q, r⟩ := h; exact ⟨σ', _, J.th q h0, r⟩
  | ret u => obtain ⟨v, σ', H', J, rv, q, r⟩ := h; exact ⟨v, σ', _, J.th q h0, rv, r⟩
 ·exact pfor pins s σ H E I (for_run i kb sG sB rs (fun R k => ⟨a, o, _, h1, sG _ _ hG, k _ _ _ (Grow.refl sG) (wk_dic vals hG hl rl)⟩) e w)
theorem psd_forDK (i j : Nat) (hN : X.N.Nodup) (hc : X.calm = true) (hp : PassesOwn (model X.prog X.w) X.A X.env X.xe) (hb : PSsD X body F)
  (hj : X.N[j]? = some d := by rfl) (hv : Vis X.env.scope d := by walk_at "vi") (hd : (d == ("__debug__" : Str)) = false := by decide) (hcd : (d == ("__classdict__" : Str)) = false := by decide)
  (hix : X.N[i]? = some x := by rfl) (hx : Loc X.env.scope x := by walk_at "or") (hf : X.fn x = true \/ X.env.scope.names.lookup x = some .local := by walk_at "or")
  (hs : ∀ x, foldedSetIterable (.Name d p) X.env x = pure x := by intro _; rfl) : PSD X (.For (.Name x pos') (.Name d p) body [] pos) (sForD false i j F) :=
 psd_forDI false i j hN hc hp (pi_dictK j hj hv hd hcd) hb hix hx hf hs
theorem psd_forDV (i j : Nat) (hN : X.N.Nodup) (hc : X.calm = true) (hp : PassesOwn (model X.prog X.w) X.A X.env X.xe) (hb : PSsD X body F)
  (hj : X.N[j]? = some d := by rfl) (hv : Vis X.env.scope d := by walk_at "vi") (hd : (d == ("__debug__" : Str)) = false := by decide) (hcd : (d == ("__classdict__" : Str)) = false := by decide)
  (hbase : attributeBase (.Name d p) "values" X.env (eval (.Name d p) X.env) = eval (.Name d p) X.env := by rfl) (hline : (apos.endLine == cpos.line) = true := by rfl)
  (hix : X.N[i]? = some x := by rfl) (hx : Loc X.env.scope x := by walk_at "or") (hf : X.fn x = true \/ X.env.scope.names.lookup x = some .local := by walk_at "or")
  (hs : ∀ x, foldedSetIterable (.Call (.Attribute (.Name d p) "values" apos) [] [] cpos) X.env x = pure x := by intro _; rfl) : PSD X (.For (.Name x pos') (.Call (.Attribute (.Name d p) "values" apos) [] [] cpos) body [] pos) (sForD true i j F) :=
 psd_forDI true i j hN hc hp (pi_dictV j hj hv hd hcd hbase hline) hb hix hx hf hs
end
section
variable {X : Cx} {a b e c : Expr} {pos : Pos} {F F' : FS}
def PTX (X : Cx) (e : Expr) (f : En -> Option (Bool × En)) : Prop := ∃ t, PT X e t /\ ∀ (B G H : Hp) (δ : En) (σ : St) (b : Bool) (δ' : En) (Q : Bool -> Hp -> Prop), Same G H -> Same B H -> RepS X.K B G H δ σ -> f δ = some (b, δ') ->
 (∀ G' H', Stp B G G' H' -> RepS X.K B G' H' δ' σ -> Q b H') -> t σ H Q
@[simp] noncomputable def xCmp (o : D -> D -> Option D) (f : FX) (g : FE) : En -> Option (Bool × En) := fun δ => (f δ).bind fun r => (g r.2).bind fun y => match o r.1 y with | some (.bl b) => some (b, r.2) | _ => none
theorem ptx_cmp {op : CmpOp} {o : D -> D -> Option D} {f : FX} {g : FE} (ho : OpD X (compareOp op) o) (ha : PX X a f) (hb : PB X b g) (hm : behindInMarks op b = false := by first | exact nomark _ | with_unfolding_all rfl) : PTX X (.Compare a [op] [b] pos) (xCmp o f g) := by
 obtain ⟨r, ho, ko⟩ := ho
 obtain ⟨ta, pa, ka⟩ := ha
 obtain ⟨tb, pb, kb⟩ := hb
 refine ⟨_, pt_cmpR ho pa pb hm, fun B G H δ σ q δ' Q sG sB rs ef k => ?_⟩
 unfold xCmp at ef
 obtain ⟨⟨x, δ1⟩, e1, ef⟩ := obE ef
 obtain ⟨y, e2, ef⟩ := obE ef
 dsimp only at ef e2
 split at ef
 ·rename_i bb e3
  cases ef
  refine ka B G H δ σ x _ _ sG sB rs e1 fun v G1 H1 s1 r1 rv => kb B G1 H1 _ σ y _ s1.s r1 e2 fun u G2 H2 g2 ru => ?_
  refine ko G2 H2 x y v u _ _ g2.s (RepB.of (rv.mono g2.g)) ru e3 fun z G3 H3 g3 rz => ?_
  simp only [Rep] at rz
  exact ⟨_, rz, k G3 H3 (s1.trans ((g2.trans g3).stp s1.b)) (r1.grow (g2.trans g3))⟩
 ·cases ef
@[simp] noncomputable def sIfX (c : En -> Option (Bool × En)) (F F' : FS) : FS := fun δ => (c δ).bind fun r => if r.1 = true then F r.2 else F' r.2
theorem psd_ifX {as bs : List Stmt} {fb : En -> Option (Bool × En)} (hc : PTX X c fb) (ha : PSsD X as F) (hb : PSsD X bs F') : PSD X (.If c as bs pos) (sIfX fb F F') := by
 obtain ⟨tc, pc, kc⟩ := hc
 obtain ⟨ta, pa, ka⟩ := ha
 obtain ⟨tb, pb, kb⟩ := hb
 refine ⟨_, ps_if pc pa pb, fun B G H δ σ o D sG sB rs e w => ?_⟩
 unfold sIfX at e
 obtain ⟨⟨x, δ1⟩, e1, e⟩ := obE e
 refine kc B G H δ σ x δ1 _ sG sB rs e1 fun G1 H1 s1 r1 => ?_
 cases x with
 | true => rw [if_pos rfl] at e ⊢; exact ka B G1 H1 _ σ o D s1.s s1.b r1 e (w.mono s1)
 | false => rw [if_neg Bool.false_ne_true] at e ⊢; exact kb B G1 H1 _ σ o D s1.s s1.b r1 e (w.mono s1)
end
section
variable {X : Cx} {a b e c : Expr} {pos p1 p2 : Pos} {f : FE}
@[simp] noncomputable def fFmt (f : FE) (z : Str) : FE := fun δ => match f δ with | some (.str x) => if x.length <= sizeLine /\ (Str.empty ++ x).length <= sizeLine /\ (Str.empty ++ x ++ z).length <= sizeLine then some (.str (Str.empty ++ x ++ z)) else none | _ => none
def tFmt (z : Str) (t : TE) : TE := fun σ H Q => t σ H fun v H1 => ∃ x, v = .str x /\ (x.length <= sizeLine /\ (Str.empty ++ x).length <= sizeLine /\ (Str.empty ++ x ++ z).length <= sizeLine) /\ Q (.str (Str.empty ++ x ++ z)) H1
theorem pe_fmt {z : Str} {j} {t : TE} (he : PE X e t) : PE X (.JoinedStr [.FormattedValue e (-1) none p1, .Constant (.str z) j p2] pos) (tFmt z t) := by
 intro pins s σ H Q I h
 refine wpAny_JoinedStr ?_
 show wpAny _ _ (eval (.FormattedValue e (-1) none p1) X.env) _ _ _
 refine wpAny_FormattedValue_plain (thn (he pins s σ H _ I h) fun v s1 ⟨x, H1, I1, r1, y, ey, ⟨l1, l2, l3⟩, q⟩ => ?_)
 subst ey
 obtain ⟨tk, rfl⟩ := r1
 have fin : ∀ (tk : Tok) (s2 : Shared), Inv X pins σ H1 s2 -> ∃ y' t', Value.str y tk = .str y' t' /\ (Str.empty ++ y').length <= sizeLine /\ wpAny (model X.prog X.w) X.A (eval (.Constant (.str z) j p2) X.env) (fun v s₁ => ∃ y2 t, v = Value.str y2 t /\ (Str.empty ++ y' ++ y2).length <= sizeLine /\ ((Str.empty ++ y' ++ y2).length <= sizeLine /\ EP X pins σ Q (Value.str (Str.empty ++ y' ++ y2) s₁.toks) { s₁ with toks := s₁.toks + 1 })) X.xe s2 := by
  intro tk s2 I2
  refine ⟨y, tk, rfl, l2, Calls.Constant_str ?_⟩
  exact ⟨z, _, rfl, l3, l3, .str _, H1, (I2.tok _).tok _, ⟨_, rfl⟩, q⟩
 refine wpAny_formatField_str ?_ ?_ l1
 ·exact fin _ _ I1
 ·exact fin _ _ (I1.tok _)
theorem pd_fmt {z : Str} {j} (he : PD X e f) : PD X (.JoinedStr [.FormattedValue e (-1) none p1, .Constant (.str z) j p2] pos) (fFmt f z) := by
 obtain ⟨t, pt, k⟩ := he
 refine ⟨_, pe_fmt pt, fun B G H δ σ d Q sG rs ef q => ?_⟩
 unfold fFmt at ef
 split at ef
 ·rename_i x e1
  split at ef
  ·rename_i hl
   cases ef
   refine k B G H δ σ _ _ sG rs e1 fun v G1 H1 g1 r1 => ?_
   simp only [Rep] at r1
   exact ⟨x, r1, hl, q _ G1 H1 g1 (by simp [Rep])⟩
  ·cases ef
 ·cases ef
noncomputable def idxOf (z : Str) : List Str -> Option Nat
 | [] => none
 | y :: ys => if y = z then some 0 else (idxOf z ys).map (· + 1)
theorem idxOf_get {z : Str} : ∀ {ys : List Str} {n : Nat}, idxOf z ys = some n -> ys[n]? = some z /\ ∀ m, m < n -> ys[m]? ≠ some z
 | [], _, h => by cases h
 | y :: ys, n, h => by
  unfold idxOf at h
  split at h
  ·rename_i e
   cases h
   exact ⟨by simp [e], fun m hm => absurd hm (Nat.not_lt_zero _)⟩
  ·rename_i e
   obtain ⟨k, h1, rfl⟩ := omE h
   obtain ⟨q1, q2⟩ := idxOf_get h1
   refine ⟨by simpa using q1, fun m hm => ?_⟩
   cases m with
   | zero => simpa using e
   | succ m => simpa using q2 m (by omega)
def rIdx (K : PySem.W.Frag) : V -> List V -> Hp -> VK -> Prop := fun x vs H Q => ∃ z a ys n, x = .ref a /\ vs = [.str z] /\ SqL K H a (ys.map V.str) /\ idxOf z ys = some n /\ ys.length <= 1000 /\ Q (.int n) H
noncomputable def eqT (z : Str) : Value -> Bool | .str y _ => decide (y = z) | _ => false
theorem mt_index (hu : X.A.units + 20 < cLine) : MtR X "list.index" (rIdx X.K) := by
 intro pins s σ H x vs v us Q I rx rv h
 obtain ⟨z, a, ys, n, rfl, rfl, hq, hn, hl, q⟩ := h
 obtain rfl : v = Value.ref a := rx
 obtain ⟨u, rfl, ru⟩ := rv.one
 obtain ⟨tk, rfl⟩ := ru
 obtain ⟨its, r, ⟨o, m, ho, hc, hd, hs⟩, hz⟩ := I.list hq
 obtain ⟨q1, q2⟩ := idxOf_get hn
 have hlen : its.length = ys.length := by rw [<- r.length]; simp
 have hnl : n < ys.length := (List.getElem?_eq_some_iff.mp q1).1
 have item : ∀ (k : Nat) (hk : k < its.length), ∃ t, its[k] = .str (ys[k]'(by omega)) t := fun k hk => by
  have hk' : k < ys.length := by omega
  obtain ⟨u, h1, h2⟩ := r.get (i := k) (x := .str ys[k]) (by simp [hk'])
  obtain ⟨t, rfl⟩ := h2
  exact ⟨t, by have := List.getElem?_eq_some_iff.mp h1; obtain ⟨_, e⟩ := this; exact e⟩
 rcases o with ⟨oc, od, odt, osl⟩
 cases hc
 cases hd
 cases hs
 have hn63 : (n : Int) < 2 ^ 63 - 1 := by
  have h1 : (n : Int) < 1001 := by omega
  have h2 : (1001 : Int) < 2 ^ 63 - 1 := by decide
  omega
 have key := SeqAt.list_indexAt a its.toArray m none osl (.str z tk) (eqT z) n (by rw [List.size_toArray]; omega) hn63 (by
   obtain ⟨t, e⟩ := item n (by omega)
   rw [List.getElem_toArray, e]
   have : ys[n] = z := (List.getElem?_eq_some_iff.mp q1).2
   simp [eqT, this]) (fun k hk hkn => by
   rw [List.size_toArray] at hk
   obtain ⟨t, e⟩ := item k hk
   rw [List.getElem_toArray, e]
   have : ys[k]'(by omega) ≠ z := fun w => q2 k hkn (by rw [<- w]; exact List.getElem?_eq_getElem _)
   simp [eqT, this])
 refine call_meets PySem.F.slot_list_index ⟨_, ho, rfl⟩ PySem.F.entry_list_index (PySem.F.args_list_index_2 _ _) key ⟨ho, fun y hy => ?_, ⟨.int n, H, I.tok _, ⟨_, rfl⟩, q⟩⟩
 obtain ⟨k, hk, e⟩ := List.getElem_of_mem (show y ∈ its by simpa using hy)
 obtain ⟨t, e2⟩ := item k hk
 rw [<- e, e2]
 have := eqAt_A I 1 (x := .str (ys[k]'(by omega))) (y := .str z) (v := .str (ys[k]'(by omega))) (v' := .str z) (u := .str (ys[k]'(by omega)) t) (u' := .str z tk) (A := X.A.in1) rfl rfl (by simp [Rep]) (by simp [Rep]) ⟨t, rfl⟩ ⟨tk, rfl⟩ (by rw [in1_units]; omega)
 have e3 : eqA (.str (ys[k]'(by omega))) (.str z) = eqT z (.str (ys[k]'(by omega)) t) := by
  simp [eqA, eqT, flatD, toV, eqV]
  by_cases hz : ys[k]'(by omega) = z <;> simp [hz]
 rw [<- e3]
 exact this
noncomputable def idxD : D -> D -> Option D
 | .lst ds, .str z => (strsD ds).bind fun ys => if ys.length <= 1000 then (idxOf z ys).map fun (n : Nat) => D.int (n : Int) else none
 | _, _ => none
theorem pd_index {o : Expr} {fo fa : FE} {pa pc : Pos} (hu : X.A.units + 20 < cLine) (ho : PD X o fo) (ha : PD X a fa)
  (hb : ∀ {to ta : TE}, PE X o to -> PE X a ta -> PE X (.Call (.Attribute o "index" pa) [a] [] pc) (tBM X.K "list" (rIdx X.K) to (tCons ta tNil))) : PD X (.Call (.Attribute o "index" pa) [a] [] pc) (f2 idxD fo fa) := by
 obtain ⟨to, po, ko⟩ := ho
 obtain ⟨ta, pa', ka⟩ := ha
 refine ⟨_, hb po pa', fun B G H δ σ d Q sG rs ef q => ?_⟩
 unfold f2 at ef
 obtain ⟨x, e1, ef⟩ := obE ef
 obtain ⟨y, e2, ef⟩ := obE ef
 unfold idxD at ef
 split at ef
 ·rename_i ds z w
  obtain ⟨ys, e3, ef⟩ := obE ef
  split at ef
  ·rename_i hl
   obtain ⟨n, e4, rfl⟩ := omE ef
   refine ko B G H δ σ _ _ sG rs e1 fun v G1 H1 g1 r1 => ?_
   simp only [Rep] at r1
   obtain ⟨p, us, rfl, hq, rl⟩ := r1
   rw [strsD_rep e3 rl] at hq
   refine ⟨.inl ⟨rfl, _, g1.s.sqL hq⟩, ka B G1 H1 δ σ _ _ g1.s (rs.grow g1) e2 fun v2 G2 H2 g2 r2 => ?_⟩
   simp only [Rep] at r2
   exact ⟨z, p, ys, n, rfl, by rw [r2], (g2.g.trans g2.s).sqL hq, e4, hl, q _ G2 H2 (g1.trans g2) (by simp [Rep])⟩
  ·cases ef
 ·cases ef
end
section
variable {K : PySem.W.Frag} {c r : Str} {C R R1 R2 R3 R4 R5 : Addr} {b : Bool}
theorem excC_mk (h1 : PySem.W.findIn K (.ref C) "__getattribute__" = some (some (.builtin "BaseException.__getattribute__"))) (h2 : PySem.W.findIn K (.ref C) "__getattr__" = some none)
  (h3 : PySem.W.findObj K C none "__class__" = some (.bind (.builtin "getset_descriptor.__get__") (.builtin "object.__class__"))) (h4 : PySem.W.mroIn K C (.type "object") = some true) (h5 : PySem.W.mroIn K C (.type "BaseException") = some true)
  (h6 : PySem.W.kitCls K (.ref C) (.ref C) = some true) : ExcC K C := ⟨h1, h2, h3, h4, h5, h6⟩
theorem raiseC_mk (a : PySem.W.nsIn K mainGlobals c = some (some (.ref C))) (e : ExcC K C) (x : PySem.W.excIn K C bmV "ValueError.__new__" = true) : RaiseC K c := ⟨C, a, e, x⟩
theorem catch_nil : ∀ c ∈ ([] : List Str), CatchC K r c := fun _ h => nomatch h
theorem catch_cons {cs : List Str} (a : PySem.W.nsIn K mainGlobals r = some (some (.ref R))) (a2 : PySem.W.nsIn K mainGlobals c = some (some (.ref C))) (e : ExcC K C) (x : PySem.W.exmOne K (.ref C) (.ref R) = some true) (t : ∀ c ∈ cs, CatchC K r c) : ∀ c' ∈ c :: cs, CatchC K r c' := fun c' h => by
 rcases List.mem_cons.mp h with rfl | h
 ·exact ⟨R, C, a, a2, e, x⟩
 ·exact t c' h
theorem lk1 {c c' : Str} {b b' : Bool} (h : List.lookup c' [(c, b)] = some b') : c' = c /\ b' = b := by
 unfold List.lookup at h
 split at h
 ·rename_i e; cases h; exact ⟨by simpa using e, rfl⟩
 ·cases h
theorem isOb1_mk (a : PySem.W.nsIn K mainGlobals r = some (some (.ref R))) (a2 : PySem.W.nsIn K mainGlobals c = some (some (.ref C))) (k : PySem.W.kitOne K (.ref C) (.ref R) = some b) : IsOb1 K r [(c, b)] :=
 ⟨R, a, fun c' b' h => by obtain ⟨rfl, rfl⟩ := lk1 h; exact ⟨C, a2, k⟩⟩
theorem nsAll_nil : NsAll K [] [] := .nil
theorem nsAll_cons {rs : List Str} {Rs : List Addr} (a : PySem.W.nsIn K mainGlobals r = some (some (.ref R))) (t : NsAll K rs Rs) : NsAll K (r :: rs) (R :: Rs) := .cons a t
theorem isObT_mk {rs : List Str} {Rs : List Addr} (n : NsAll K rs Rs) (hl : rs.length <= 100) (a2 : PySem.W.nsIn K mainGlobals c = some (some (.ref C))) (k : PySem.W.kitAny K (.ref C) (Rs.map Value.ref) = some b) : IsObT K rs [(c, b)] :=
 ⟨Rs, n, hl, fun c' b' h => by obtain ⟨rfl, rfl⟩ := lk1 h; exact ⟨C, a2, k⟩⟩
end
end L2
namespace K04
open PySem PySem.Spec PyProof.Rows L2
noncomputable def top (i : Nat) : Stmt := PySem.Challenge.pw_reason_k04_safe_and_widths.main.body.getD i (.Pass ⟨0, 0, 0, 0⟩)
noncomputable def g_LONGEST : D := (.int 8)
structure Txt (K : PySem.W.Frag) (mg : Str -> Option Value) : Prop where
 d_is_small : DefAt K mg "is_small" (top 10)
 d_is_big : DefAt K mg "is_big" (top 11)
 d_is_figure : DefAt K mg "is_figure" (top 12)
 d_is_short_text : DefAt K mg "is_short_text" (top 13)
 d_is_variable : DefAt K mg "is_variable" (top 14)
 d_is_group : DefAt K mg "is_group" (top 16)
 d_has_predicate : DefAt K mg "has_predicate" (top 17)
 d_literal_variables : DefAt K mg "literal_variables" (top 18)
 d_head_variables : DefAt K mg "head_variables" (top 19)
 d_body_variables : DefAt K mg "body_variables" (top 20)
 d_are_bound_ahead : DefAt K mg "are_bound_ahead" (top 21)
 d_is_safe : DefAt K mg "is_safe" (top 22)
 d_note_width : DefAt K mg "note_width" (top 23)
 d_widths_of : DefAt K mg "widths_of" (top 24)
 d__law_cell : DefAt K mg "_law_cell" (top 26)
 d__law_terms : DefAt K mg "_law_terms" (top 27)
 d__law_literal : DefAt K mg "_law_literal" (top 28)
 d__law_rule : DefAt K mg "_law_rule" (top 29)
 d__law_facts : DefAt K mg "_law_facts" (top 30)
 d__law_variables : DefAt K mg "_law_variables" (top 31)
 d__law_safe : DefAt K mg "_law_safe" (top 32)
 d__law_widths : DefAt K mg "_law_widths" (top 33)
 d__law_told : DefAt K mg "_law_told" (top 34)
 d_law : DefAt K mg "law" (top 35)
 m_all : mg "all" = none
 m_bool : mg "bool" = none
 m_dict : mg "dict" = none
 m_isinstance : mg "isinstance" = none
 m_len : mg "len" = none
 m_list : mg "list" = none
 m_range : mg "range" = none
 m_set : mg "set" = none
 m_sorted : mg "sorted" = none
 m_str : mg "str" = none
 m_tuple : mg "tuple" = none
 t_bool : IsTyOk K "bool"
 t_dict : IsTyOk K "dict"
 t_list : IsTyOk K "list"
 t_str : IsTyOk K "str"
 t_tuple : IsTyOk K "tuple"
 c_LONGEST : GlobAt K mg "LONGEST" g_LONGEST
 x_0 : RaiseC K "Unlike"
 x_1 : IsOb1 K "Unlike" [("Unlike", true)]
 x_2 : IsObT K ["NoFact", "NoRule", "Ring", "Twice", "Unsafe"] [("Unlike", false)]
 x_3 : ∀ c ∈ (["Unlike"] : List Str), CatchC K "ReasonError" c
noncomputable section
noncomputable def fb_is_small : FS := (sSeq (sRet (fSh (f3 (leD) (leD) (fC (.str "a")) (fVarB 0) (fC (.str "z")))))
  sNil)
noncomputable def M_is_small : List D -> Option Rs := runF ["sign"] 1 fb_is_small
noncomputable def fb_is_big : FS := (sSeq (sRet (fSh (f3 (leD) (leD) (fC (.str "A")) (fVarB 0) (fC (.str "Z")))))
  sNil)
noncomputable def M_is_big : List D -> Option Rs := runF ["sign"] 1 fb_is_big
noncomputable def fb_is_figure : FS := (sSeq (sRet (fSh (f3 (leD) (leD) (fC (.str "0")) (fVarB 0) (fC (.str "9")))))
  sNil)
noncomputable def M_is_figure : List D -> Option Rs := runF ["sign"] 1 fb_is_figure
noncomputable def fb_is_short_text : FS := (sSeq (sRet (fSh (fAnd (fIs "str" (fVarB 0)) (f3 (leD) (leD) (fC (.int 1)) (fCallB lenD (fCons (fVarB 0) fNil)) (fC g_LONGEST)))))
  sNil)
noncomputable def M_is_short_text : List D -> Option Rs := runF ["thing"] 1 fb_is_short_text
noncomputable def fb_is_variable : FS := (sSeq (sIf (bOr (bNot (fB (fPub (fCallR M_is_short_text (fCons (fVar 0) fNil))))) (bNot (fB (fPub (fCallR M_is_big (fCons (f2 ixA (fVarB 0) (fC (.int 0))) fNil)))))) (sSeq (sRet (fSh (fC (.bl false))))
  sNil) sNil)
  (sSeq (sRet (fSh (fCallB allD (fCons (fPub (fComp 1 [] 0 (oSeq (fVar 0)) bYes (fOr (fPub (fCallR M_is_small (fCons (fVar 0) fNil))) (fOr (fPub (fCallR M_is_big (fCons (fVar 0) fNil))) (fPub (fCallR M_is_figure (fCons (fVar 0) fNil))))))) fNil))))
  sNil))
noncomputable def M_is_variable : List D -> Option Rs := runF ["thing"] 1 fb_is_variable
noncomputable def fb_is_group : FS := (sSeq (sRet (fSh (fAnd (f2 (gtD) (fCallB lenD (fCons (f2 ixA (fVarB 0) (fC (.int 1))) fNil)) (fC (.int 0))) (fIs "tuple" (f2 ixA (f2 ixA (fVarB 0) (fC (.int 1))) (f1 negD (fC (.int 1))))))))
  sNil)
noncomputable def M_is_group : List D -> Option Rs := runF ["rule"] 1 fb_is_group
noncomputable def fb_has_predicate : FS := (sSeq (sRet (fSh (f2 (inE false) (f2 ixA (fVarB 0) (fC (.int 0))) (fTup (fCons (fC (.str "yes")) (fCons (fC (.str "not")) fNil))))))
  sNil)
noncomputable def M_has_predicate : List D -> Option Rs := runF ["literal"] 1 fb_has_predicate
noncomputable def fb_literal_variables : FS := (sSeq (sSet 1 (fIf (fB (fPub (fCallR M_has_predicate (fCons (fVar 0) fNil)))) (f2 ixA (fVarB 0) (fC (.int 2))) (fPub (fSlA (fVarB 0) (oInt (fC (.int 1))) (fun _ => some none)))))
  (sSeq (sRet (fComp 1 [] 0 (oSeq (fVar 1)) (fB (fPub (fCallR M_is_variable (fCons (fVar 0) fNil)))) (fVar 0)))
  sNil))
noncomputable def M_literal_variables : List D -> Option Rs := runF ["literal", "terms"] 1 fb_literal_variables
noncomputable def fb_head_variables : FS := (sSeq (sSet 1 (fIf (fB (fPub (fCallR M_is_group (fCons (fVar 0) fNil)))) (f2 addD (fPub (fSlA (f2 ixA (fVarB 0) (fC (.int 1))) (fun _ => some none) (oInt (f1 negD (fC (.int 1)))))) (fPub (fSlA (f2 ixA (f2 ixA (fVarB 0) (fC (.int 1))) (f1 negD (fC (.int 1)))) (oInt (fC (.int 1))) (fun _ => some none)))) (f2 ixA (fVarB 0) (fC (.int 1)))))
  (sSeq (sRet (fComp 1 [] 0 (oSeq (fVar 1)) (fB (fPub (fCallR M_is_variable (fCons (fVar 0) fNil)))) (fVar 0)))
  sNil))
noncomputable def M_head_variables : List D -> Option Rs := runF ["rule", "terms"] 1 fb_head_variables
noncomputable def fb_body_variables : FS := (sSeq (sSetR 1 (fLstR fNil))
  (sSeq (sFor 2 (oSeq (fVar 0)) (sSeq (sExt 1 (fCallR M_literal_variables (fCons (fVar 2) fNil)))
  sNil))
  (sSeq (sRet (fSortSet (fVarB 1)))
  sNil)))
noncomputable def M_body_variables : List D -> Option Rs := runF ["body", "found", "literal"] 1 fb_body_variables
noncomputable def fb_are_bound_ahead : FS := (sSeq (sSetR 1 fDicR)
  (sSeq (sFor 2 (oSeq (fVar 0)) (sSeq (sFor 3 (oSeq (fPub (fCallR M_literal_variables (fCons (fVar 2) fNil)))) (sSeq (sIf (fB (f2 (eqO false) (f2 ixA (fVarB 2) (fC (.int 0))) (fC (.str "yes")))) (sSeq (sDPutM 1 (fVar 3) (fC (.bl true)))
  sNil) (sSeq (sIf (fB (f2 (inE true) (fVarB 3) (fVarB 1))) (sSeq (sRet (fSh (fC (.bl false))))
  sNil) sNil)
  sNil))
  sNil))
  sNil))
  (sSeq (sRet (fSh (fC (.bl true))))
  sNil)))
noncomputable def M_are_bound_ahead : List D -> Option Rs := runF ["body", "bound", "literal", "variable"] 1 fb_are_bound_ahead
noncomputable def fb_is_safe : FS := (sSeq (sSet 1 (fPub (fCallR M_body_variables (fCons (fPub (fComp 1 [] 0 (oSeq (f2 ixA (fVarB 0) (fC (.int 2)))) (fB (f2 (eqO false) (f2 ixA (fVarB 0) (fC (.int 0))) (fC (.str "yes")))) (fVar 0))) fNil))))
  (sSeq (sIf (bNot (fB (fCallB allD (fCons (fPub (fComp 1 [1] 0 (oSeq (fPub (fCallR M_head_variables (fCons (fVar 0) fNil)))) bYes (f2 (inE false) (fVarB 0) (fVarB 1)))) fNil)))) (sSeq (sRet (fSh (fC (.bl false))))
  sNil) sNil)
  (sSeq (sRet (fCallR M_are_bound_ahead (fCons (f2 ixA (fVarB 0) (fC (.int 2))) fNil)))
  sNil)))
noncomputable def M_is_safe : List D -> Option Rs := runF ["rule", "bound"] 1 fb_is_safe
noncomputable def fb_note_width : FS := (sSeq (sIfX (xCmp (neE) (xSetd 0 (fVar 1) (fVar 2)) (fVarB 2)) (sSeq (sRaise "Unlike" (fCons (fFmt (fVar 1) " has two numbers of places") fNil))
  sNil) sNil)
  sNil)
noncomputable def M_note_width : List Sl -> Option (Rs × En) := runM ["widths", "predicate", "width"] 3 fb_note_width
noncomputable def Mx_note_width : List Sl -> Option Str := runE ["widths", "predicate", "width"] 3 fb_note_width
noncomputable def fb_widths_of : FS := (sSeq (sSetR 2 fDicR)
  (sSeq (sForD true 3 0 (sSeq (sOr (sDrop (xCallM M_note_width [.own 2, .val (f2 ixA (fVarB 3) (fC (.int 0))), .val (fCallB lenD (fCons (f2 ixA (fVarB 3) (fC (.int 1))) fNil))])) (sDropE Mx_note_width [.own 2, .val (f2 ixA (fVarB 3) (fC (.int 0))), .val (fCallB lenD (fCons (f2 ixA (fVarB 3) (fC (.int 1))) fNil))]))
  (sSeq (sFor 4 (oSeq (f2 ixA (fVarB 3) (fC (.int 2)))) (sSeq (sIf (fB (fPub (fCallR M_has_predicate (fCons (fVar 4) fNil)))) (sSeq (sOr (sDrop (xCallM M_note_width [.own 2, .val (f2 ixA (fVarB 4) (fC (.int 1))), .val (fCallB lenD (fCons (f2 ixA (fVarB 4) (fC (.int 2))) fNil))])) (sDropE Mx_note_width [.own 2, .val (f2 ixA (fVarB 4) (fC (.int 1))), .val (fCallB lenD (fCons (f2 ixA (fVarB 4) (fC (.int 2))) fNil))]))
  sNil) sNil)
  sNil))
  sNil)))
  (sSeq (sFor 5 (oSeq (fVar 1)) (sSeq (sOr (sDrop (xCallM M_note_width [.own 2, .val (f2 ixA (fVarB 5) (fC (.int 0))), .val (fCallB lenD (fCons (f2 ixA (fVarB 5) (fC (.int 1))) fNil))])) (sDropE Mx_note_width [.own 2, .val (f2 ixA (fVarB 5) (fC (.int 0))), .val (fCallB lenD (fCons (f2 ixA (fVarB 5) (fC (.int 1))) fNil))]))
  sNil))
  (sSeq (sRetV 2)
  sNil))))
noncomputable def M_widths_of : List D -> Option Rs := runF ["rules", "told", "widths", "rule", "literal", "fact"] 2 fb_widths_of
noncomputable def Mx_widths_of : List Sl -> Option Str := runE ["rules", "told", "widths", "rule", "literal", "fact"] 2 fb_widths_of
noncomputable def fb__law_cell : FS := (sSeq (sIf (fB (f2 (ltE) (fVarB 1) (fCallB lenD (fCons (fVarB 0) fNil)))) (sSeq (sRet (fSh (f2 ixA (fVarB 0) (fVarB 1))))
  sNil) sNil)
  (sSeq (sSet 2 (f2 addD (f2 mulD (fVarB 1) (fC (.int 7919))) (fC (.int 5))))
  (sSeq (sIf (fB (f2 (gtD) (fCallB lenD (fCons (fVarB 0) fNil)) (fC (.int 0)))) (sSeq (sSet 2 (f2 modD (f2 addD (f2 mulD (f2 ixA (fVarB 0) (f2 modD (f2 mulD (fVarB 1) (fC (.int 7))) (fCallB lenD (fCons (fVarB 0) fNil)))) (fC (.int 48271))) (f2 mulD (fVarB 1) (fC (.int 7919)))) (fC (.int 2147483647))))
  sNil) sNil)
  (sSeq (sRet (fSh (f2 modD (f2 mulD (fVarB 2) (fVarB 2)) (fC (.int 2147483629)))))
  sNil))))
noncomputable def M__law_cell : List D -> Option Rs := runF ["_law_script", "_law_k", "_law_number"] 2 fb__law_cell
noncomputable def fb__law_terms : FS := (sSeq (sSet 2 (fTup fNil))
  (sSeq (sFor 3 (oRng (fVar 1)) (sSeq (sSet 2 (f2 addD (fVarB 2) (fTup (fCons (f2 ixA (fPub (fLstR (fCons (fC (.str "X")) (fCons (fC (.str "Y")) (fCons (fC (.str "Z")) (fCons (fC (.str "X")) (fCons (fC (.str "a")) (fCons (fC (.int 3)) fNil)))))))) (f2 modD (fVarB 0) (fC (.int 6)))) fNil))))
  (sSeq (sSet 0 (f2 fdivD (fVarB 0) (fC (.int 6))))
  sNil)))
  (sSeq (sRetV 2)
  sNil)))
noncomputable def M__law_terms : List D -> Option Rs := runF ["_law_cell_here", "_law_many", "_law_terms_here", "_law_k"] 2 fb__law_terms
noncomputable def fb__law_literal : FS := (sSeq (sSet 1 (f2 ixA (fPub (fLstR (fCons (fC (.str "yes")) (fCons (fC (.str "yes")) (fCons (fC (.str "not")) (fCons (fC (.str "under")) (fCons (fC (.str "unlike")) fNil))))))) (f2 modD (fVarB 0) (fC (.int 5)))))
  (sSeq (sSet 0 (f2 fdivD (fVarB 0) (fC (.int 5))))
  (sSeq (sIf (fB (f2 (inE false) (fVarB 1) (fTup (fCons (fC (.str "under")) (fCons (fC (.str "unlike")) fNil))))) (sSeq (sSet 2 (fPub (fCallR M__law_terms (fCons (fVar 0) (fCons (fC (.int 2)) fNil)))))
  (sSeq (sRet (fSh (fTup (fCons (fVar 1) (fCons (f2 ixA (fVarB 2) (fC (.int 0))) (fCons (f2 ixA (fVarB 2) (fC (.int 1))) fNil))))))
  sNil)) sNil)
  (sSeq (sSet 3 (f2 ixA (fPub (fLstR (fCons (fC (.str "p")) (fCons (fC (.str "q")) (fCons (fC (.str "r")) fNil))))) (f2 modD (fVarB 0) (fC (.int 3)))))
  (sSeq (sSet 4 (f2 idxD (fPub (fLstR (fCons (fC (.str "p")) (fCons (fC (.str "q")) (fCons (fC (.str "r")) fNil))))) (fVar 3)))
  (sSeq (sIf (fB (f2 (eqO false) (f2 modD (f2 fdivD (fVarB 0) (fC (.int 3))) (fC (.int 32))) (fC (.int 17)))) (sSeq (sSet 4 (fC (.int 3)))
  sNil) sNil)
  (sSeq (sRet (fSh (fTup (fCons (fVar 1) (fCons (fVar 3) (fCons (fPub (fCallR M__law_terms (fCons (f2 fdivD (fVarB 0) (fC (.int 96))) (fCons (fVar 4) fNil)))) fNil))))))
  sNil)))))))
noncomputable def M__law_literal : List D -> Option Rs := runF ["_law_cell_here", "_law_kind", "_law_terms_here", "_law_head", "_law_many"] 1 fb__law_literal
noncomputable def fb__law_rule : FS := (sSeq (sSet 1 (f2 modD (fVarB 0) (fC (.int 5))))
  (sSeq (sSet 2 (f2 addD (fC (.int 1)) (f2 modD (f2 fdivD (fVarB 0) (fC (.int 5))) (fC (.int 4)))))
  (sSeq (sSet 3 (fPub (fCallR M__law_terms (fCons (f2 fdivD (fVarB 0) (fC (.int 40))) (fCons (f2 addD (fC (.int 1)) (f2 modD (f2 fdivD (fVarB 0) (fC (.int 20))) (fC (.int 2)))) fNil)))))
  (sSeq (sIf (fB (f2 (gtD) (fVarB 1) (fC (.int 1)))) (sSeq (sSet 3 (f2 addD (fPub (fSlA (fVarB 3) (fun _ => some none) (oInt (f1 negD (fC (.int 1)))))) (fTup (fCons (f2 ixA (fPub (fLstR (fCons (fTup (fCons (fC (.str "sum")) (fCons (fC (.str "X")) fNil))) (fCons (fTup (fCons (fC (.str "least")) (fCons (fC (.str "Y")) fNil))) (fCons (fTup (fCons (fC (.str "count")) fNil)) fNil))))) (f2 subD (fVarB 1) (fC (.int 2)))) fNil))))
  sNil) sNil)
  (sSeq (sSet 0 (f2 fdivD (fVarB 0) (fC (.int 1440))))
  (sSeq (sSet 4 (fTup fNil))
  (sSeq (sFor 5 (oRng (fVar 2)) (sSeq (sSet 4 (f2 addD (fVarB 4) (fTup (fCons (fPub (fCallR M__law_literal (fCons (fVar 0) fNil))) fNil))))
  (sSeq (sSet 0 (f2 fdivD (fVarB 0) (f2 mulD (fC (.int 480)) (fC (.int 216)))))
  sNil)))
  (sSeq (sRet (fSh (fTup (fCons (f2 ixA (fPub (fLstR (fCons (fC (.str "q")) (fCons (fC (.str "r")) fNil)))) (f2 subD (fCallB lenD (fCons (fVarB 3) fNil)) (fC (.int 1)))) (fCons (fVar 3) (fCons (fVar 4) fNil))))))
  sNil))))))))
noncomputable def M__law_rule : List D -> Option Rs := runF ["_law_cell_here", "_law_way", "_law_many", "_law_terms_here", "_law_body", "_law_k"] 1 fb__law_rule
noncomputable def fb__law_facts : FS := (sSeq (sSetR 1 (fLstR fNil))
  (sSeq (sFor 2 (oRng (f2 modD (fVarB 0) (fC (.int 9)))) (sSeq (sSet 0 (f2 fdivD (fVarB 0) (fC (.int 9))))
  (sSeq (sSet 3 (f2 ixA (fPub (fLstR (fCons (fC (.int 0)) (fCons (fC (.int 1)) (fCons (fC (.int 2)) (fCons (fC (.int 1)) fNil)))))) (f2 modD (fVarB 0) (fC (.int 4)))))
  (sSeq (sIf (fB (f2 (eqO false) (f2 modD (f2 fdivD (fVarB 0) (fC (.int 4))) (fC (.int 32))) (fC (.int 17)))) (sSeq (sSet 3 (fC (.int 3)))
  sNil) sNil)
  (sSeq (sSet 4 (fTup (fCons (f2 ixA (fPub (fLstR (fCons (fC (.str "p")) (fCons (fC (.str "q")) (fCons (fC (.str "r")) (fCons (fC (.str "told")) fNil)))))) (f2 modD (fVarB 0) (fC (.int 4)))) (fCons (fPub (fSlA (fTup (fCons (fC (.str "a")) (fCons (fC (.int 3)) (fCons (fC (.str "b")) fNil)))) (fun _ => some none) (oInt (fVar 3)))) fNil))))
  (sSeq (sIf (fB (f2 (inE true) (fVarB 4) (fVarB 1))) (sSeq (sApp 1 (fVar 4))
  sNil) sNil)
  (sSeq (sSet 0 (f2 fdivD (fVarB 0) (fC (.int 128))))
  sNil)))))))
  (sSeq (sRetV 1)
  sNil)))
noncomputable def M__law_facts : List D -> Option Rs := runF ["_law_cell_here", "_law_facts_here", "_law_k", "_law_many", "_law_fact"] 1 fb__law_facts
noncomputable def fb__law_variables : FS := (sSeq (sSetR 1 (fLstR fNil))
  (sSeq (sFor 2 (oSeq (fVar 0)) (sSeq (sIf (fB (fIs "tuple" (fVarB 2))) (sSeq (sSet 2 (f2 ixA (fVarB 2) (f1 negD (fC (.int 1)))))
  sNil) sNil)
  (sSeq (sIf (fB (f2 (inE false) (fVarB 2) (fTup (fCons (fC (.str "X")) (fCons (fC (.str "Y")) (fCons (fC (.str "Z")) fNil)))))) (sSeq (sApp 1 (fVar 2))
  sNil) sNil)
  sNil)))
  (sSeq (sRetV 1)
  sNil)))
noncomputable def M__law_variables : List D -> Option Rs := runF ["_law_terms_here", "_law_found", "_law_term"] 1 fb__law_variables
noncomputable def fb__law_safe : FS := (sSeq (sSet 1 (fPub (fLstR fNil)))
  (sSeq (sFor 2 (oSeq (f2 ixA (fVarB 0) (fC (.int 2)))) (sSeq (sIf (fB (f2 (inE false) (f2 ixA (fVarB 2) (fC (.int 0))) (fTup (fCons (fC (.str "yes")) (fCons (fC (.str "not")) fNil))))) (sSeq (sSet 3 (fPub (fCallR M__law_variables (fCons (f2 ixA (fVarB 2) (fC (.int 2))) fNil))))
  sNil) (sSeq (sSet 3 (fPub (fCallR M__law_variables (fCons (fPub (fSlA (fVarB 2) (oInt (fC (.int 1))) (fun _ => some none))) fNil))))
  sNil))
  (sSeq (sIf (fB (f2 (eqO false) (f2 ixA (fVarB 2) (fC (.int 0))) (fC (.str "yes")))) (sSeq (sSet 1 (f2 addD (fVarB 1) (fVarB 3)))
  sNil) (sSeq (sIf (fB (f2 (neE) (fPub (fComp 1 [1] 0 (oSeq (fVar 3)) (fB (f2 (inE true) (fVarB 0) (fVarB 1))) (fVar 0))) (fPub (fLstR fNil)))) (sSeq (sRet (fSh (fC (.bl false))))
  sNil) sNil)
  sNil))
  sNil)))
  (sSeq (sRet (fSh (f2 (eqO false) (fPub (fComp 1 [1] 0 (oSeq (fPub (fCallR M__law_variables (fCons (f2 ixA (fVarB 0) (fC (.int 1))) fNil)))) (fB (f2 (inE true) (fVarB 0) (fVarB 1))) (fVar 0))) (fPub (fLstR fNil)))))
  sNil)))
noncomputable def M__law_safe : List D -> Option Rs := runF ["_law_rule_here", "_law_bound", "_law_literal_here", "_law_some"] 1 fb__law_safe
noncomputable def fb__law_widths : FS := (sSeq (sSetR 2 (fCallN lstN (fCons (fVarB 1) fNil)))
  (sSeq (sForD false 3 0 (sSeq (sApp 2 (fTup (fCons (f2 ixA (f2 ixA (fVarB 0) (fVarB 3)) (fC (.int 0))) (fCons (f2 ixA (f2 ixA (fVarB 0) (fVarB 3)) (fC (.int 1))) fNil))))
  (sSeq (sFor 4 (oSeq (f2 ixA (f2 ixA (fVarB 0) (fVarB 3)) (fC (.int 2)))) (sSeq (sIf (fB (f2 (inE false) (f2 ixA (fVarB 4) (fC (.int 0))) (fTup (fCons (fC (.str "yes")) (fCons (fC (.str "not")) fNil))))) (sSeq (sApp 2 (fTup (fCons (f2 ixA (fVarB 4) (fC (.int 1))) (fCons (f2 ixA (fVarB 4) (fC (.int 2))) fNil))))
  sNil) sNil)
  sNil))
  sNil)))
  (sSeq (sSetR 5 fDicR)
  (sSeq (fun δ => (sForP 6 7 (oSeq (fVar 2)) (sSeq (sIfX (xCmp (neE) (xSetd 5 (fVar 6) (fCallB lenD (fCons (fVarB 7) fNil))) (fCallB lenD (fCons (fVarB 7) fNil))) (sSeq (sRet (fSh (fC .non)))
  sNil) sNil)
  sNil)) (pubS 2 δ))
  (sSeq (sRetV 5)
  sNil)))))
noncomputable def M__law_widths : List D -> Option Rs := runF ["_law_rules", "_law_told_here", "_law_some", "_law_number", "_law_literal_here", "_law_widths_here", "_law_head", "_law_places"] 2 fb__law_widths
noncomputable def fb__law_told : FS := (sSeq (sSet 2 (fC .non))
  (sSeq (sSet 3 (fC .non))
  (sSeq (sTry ["Unlike"] 4 (sSeq (sOr (sSet 2 (fPub (fCallR M_widths_of (fCons (fVar 0) (fCons (fVar 1) fNil))))) (sCallE Mx_widths_of (fCons (fVar 0) (fCons (fVar 1) fNil))))
  sNil) (sSeq (sCpy 3 4)
  sNil))
  (sSeq (sIf (bOr2 (fB (f2 (isA) (fVarB 3) (fC .non))) (fB (fObN 3))) (sSeq (sRetV 2)
  sNil) sNil)
  (sSeq (sIf (bAnd (fB (fIsOb 3 [("Unlike", true)])) (bNot (fB (fIsOb 3 [("Unlike", false)])))) (sSeq (sRet (fSh (fC .non)))
  sNil) sNil)
  (sSeq (sRet (fSh (fC (.str "other"))))
  sNil))))))
noncomputable def M__law_told : List D -> Option Rs := runF ["_law_rules", "_law_told_here", "_law_found", "_law_error", "e"] 2 fb__law_told
noncomputable def fb_law : FS := (sSeq (sSetR 1 fDicR)
  (sSeq (sFor 2 (oRng (f2 addD (fC (.int 1)) (f2 modD (fPub (fCallR M__law_cell (fCons (fVar 0) (fCons (fC (.int 0)) fNil)))) (fC (.int 6))))) (sSeq (sDPutM 1 (f2 addD (f2 addD (fVarB 2) (fC (.int 1))) (f2 modD (f2 fdivD (fPub (fCallR M__law_cell (fCons (fVar 0) (fCons (fC (.int 0)) fNil)))) (fC (.int 6))) (fC (.int 1000)))) (fPub (fCallR M__law_rule (fCons (fPub (fCallR M__law_cell (fCons (fVar 0) (fCons (f2 addD (fC (.int 2)) (fVarB 2)) fNil)))) fNil))))
  sNil))
  (sSeq (sSet 3 (fPub (fCallR M__law_facts (fCons (fPub (fCallR M__law_cell (fCons (fVar 0) (fCons (fC (.int 1)) fNil)))) fNil))))
  (sSeq (fun δ => (sForD false 4 1 (sSeq (sSet 5 (fPub (fCallR M_is_safe (fCons (f2 ixA (fVarB 1) (fVarB 4)) fNil))))
  (sSeq (sIf (bOr (bNot (fB (fIs "bool" (fVarB 5)))) (fB (f2 (neE) (fVarB 5) (fPub (fCallR M__law_safe (fCons (f2 ixA (fVarB 1) (fVarB 4)) fNil)))))) (sSeq (sRet (fSh (fC (.bl false))))
  sNil) sNil)
  sNil))) (pubS 1 δ))
  (sSeq (sSet 6 (fPub (fCallN dicN (fCons (fVarB 1) fNil))))
  (sSeq (sSet 7 (fPub (fCallN lstN (fCons (fVarB 3) fNil))))
  (sSeq (sSet 5 (fPub (fCallR M__law_told (fCons (fVar 6) (fCons (fVar 7) fNil)))))
  (sSeq (fun δ => (sIf (bOr (fB (f2 (neE) (fVarB 6) (fVarB 1))) (bOr (fB (f2 (neE) (fVarB 7) (fVarB 3))) (fB (f2 (neE) (fVarB 5) (fPub (fCallR M__law_widths (fCons (fVar 1) (fCons (fVar 3) fNil)))))))) (sSeq (sRet (fSh (fC (.bl false))))
  sNil) sNil) (pubS 1 δ))
  (sSeq (sRet (fSh (fAnd (f2 (eqO false) (fPub (fCallR M__law_told (fCons (fPub fDicR) (fCons (fPub (fLstR fNil)) fNil)))) (fPub fDicR)) (f2 (eqO false) (fPub (fCallR M__law_told (fCons (fPub fDicR) (fCons (fVar 3) fNil)))) (fPub (fCallR M__law_widths (fCons (fPub fDicR) (fCons (fVar 3) fNil))))))))
  sNil)))))))))
noncomputable def M_law : List D -> Option Rs := runF ["_law_script", "_law_rules", "_law_k", "_law_told_here", "_law_number", "_law_found", "_law_handed", "_law_facts_here"] 1 fb_law
end
theorem hu_of2 {k : Nat} {A : Around} (r : Room k A) : A.units + 20 < cLine := by have := r.un; omega
variable {P : Program} {w : World} {K : PySem.W.Frag} {mg : Str -> Option Value} {base : Heap}
theorem sc_is_small : FnScope ["sign"] ["sign"] (defScope (top 10)) := ⟨rfl, rfl, rfl, by decide +kernel, rfl, by decide +kernel, by decide +kernel⟩
theorem mk_is_small (T : Txt K mg)  : DefOk P w K mg base 1 "is_small" ["sign"] M_is_small :=
 def_run T.d_is_small sc_is_small (fun _ _ _ _ _ _ us hl => match us, hl with | [_], _ => rfl) fun f cdv A outer s H E hr => by
  have nd : (["sign"] : List Str).Nodup := sc_is_small.nd
  have hu := hu_of2 hr
  exact (psd_cons (psd_ret (PD.pr (pd_chain od_leD od_leD (PD.pb pd_str) (pb_var 0) (PD.pb pd_str))))
  psd_nil)
theorem sc_is_big : FnScope ["sign"] ["sign"] (defScope (top 11)) := ⟨rfl, rfl, rfl, by decide +kernel, rfl, by decide +kernel, by decide +kernel⟩
theorem mk_is_big (T : Txt K mg)  : DefOk P w K mg base 1 "is_big" ["sign"] M_is_big :=
 def_run T.d_is_big sc_is_big (fun _ _ _ _ _ _ us hl => match us, hl with | [_], _ => rfl) fun f cdv A outer s H E hr => by
  have nd : (["sign"] : List Str).Nodup := sc_is_big.nd
  have hu := hu_of2 hr
  exact (psd_cons (psd_ret (PD.pr (pd_chain od_leD od_leD (PD.pb pd_str) (pb_var 0) (PD.pb pd_str))))
  psd_nil)
theorem sc_is_figure : FnScope ["sign"] ["sign"] (defScope (top 12)) := ⟨rfl, rfl, rfl, by decide +kernel, rfl, by decide +kernel, by decide +kernel⟩
theorem mk_is_figure (T : Txt K mg)  : DefOk P w K mg base 1 "is_figure" ["sign"] M_is_figure :=
 def_run T.d_is_figure sc_is_figure (fun _ _ _ _ _ _ us hl => match us, hl with | [_], _ => rfl) fun f cdv A outer s H E hr => by
  have nd : (["sign"] : List Str).Nodup := sc_is_figure.nd
  have hu := hu_of2 hr
  exact (psd_cons (psd_ret (PD.pr (pd_chain od_leD od_leD (PD.pb pd_str) (pb_var 0) (PD.pb pd_str))))
  psd_nil)
theorem sc_is_short_text : FnScope ["thing"] ["thing"] (defScope (top 13)) := ⟨rfl, rfl, rfl, by decide +kernel, rfl, by decide +kernel, by decide +kernel⟩
theorem mk_is_short_text (T : Txt K mg)  : DefOk P w K mg base 1 "is_short_text" ["thing"] M_is_short_text :=
 def_run T.d_is_short_text sc_is_short_text (fun _ _ _ _ _ _ us hl => match us, hl with | [_], _ => rfl) fun f cdv A outer s H E hr => by
  have nd : (["thing"] : List Str).Nodup := sc_is_short_text.nd
  have hu := hu_of2 hr
  exact (psd_cons (psd_ret (PD.pr (pd_and (pd_is "str" T.t_str T.m_isinstance T.m_str boot_str (pb_var 0)) (pd_one (pd_chain od_leD od_leD (PD.pb pd_int) (PD.pb (pd_callB cd_len T.m_len boot_len (pab_cons (pb_var 0) pab_nil))) (PD.pb (T.c_LONGEST.pd)))))))
  psd_nil)
theorem sc_is_variable : FnScope ["thing"] ["thing"] (defScope (top 14)) := ⟨rfl, rfl, rfl, by decide +kernel, rfl, by decide +kernel, by decide +kernel⟩
theorem mk_is_variable (T : Txt K mg) (ok_is_big : DefOk P w K mg base 1 "is_big" ["sign"] M_is_big) (ok_is_figure : DefOk P w K mg base 1 "is_figure" ["sign"] M_is_figure) (ok_is_short_text : DefOk P w K mg base 1 "is_short_text" ["thing"] M_is_short_text) (ok_is_small : DefOk P w K mg base 1 "is_small" ["sign"] M_is_small) : DefOk P w K mg base 2 "is_variable" ["thing"] M_is_variable :=
 def_run T.d_is_variable sc_is_variable (fun _ _ _ _ _ _ us hl => match us, hl with | [_], _ => rfl) fun f cdv A outer s H E hr => by
  have nd : (["thing"] : List Str).Nodup := sc_is_variable.nd
  have hu := hu_of2 hr
  exact (psd_cons (psd_if (PDW.pdt (pdw_or (pdt_not (pdt_val (PR.pd (pr_call ok_is_short_text (hr.mono (by decide)) (pad_cons (pd_var 0) pad_nil))))) (pdw_or1 (pdt_not (pdt_val (PR.pd (pr_call ok_is_big (hr.mono (by decide)) (pad_cons (pd_ix (nlL (naL (by decide) _) hu) (pb_var 0) (PD.pb pd_int)) pad_nil)))))))) (psd_cons (psd_ret (PD.pr pd_bl))
  psd_nil) psd_nil)
  (psd_cons (psd_ret (PD.pr (pd_callB (cd_all rfl) T.m_all boot_all (pab_cons (PD.pb (PR.pd (pr_comp' (N := ["sign"]) (js := []) (i := 0) rfl (compOk0 rfl (by decide +kernel) (by decide +kernel) rfl) (pid_seq (pd_var 0)) (by decide) (by decide) rfl rfl (by decide) (fun _ _ _ _ => pifd_nil) (fun _ _ _ _ => (pd_or (PR.pd (pr_call ok_is_small (hr.mono (by decide)) (pad_cons (pd_var 0) pad_nil))) (pd_or (PR.pd (pr_call ok_is_big (hr.mono (by decide)) (pad_cons (pd_var 0) pad_nil))) (pd_one (PR.pd (pr_call ok_is_figure (hr.mono (by decide)) (pad_cons (pd_var 0) pad_nil)))))))))) pab_nil))))
  psd_nil))
theorem sc_is_group : FnScope ["rule"] ["rule"] (defScope (top 16)) := ⟨rfl, rfl, rfl, by decide +kernel, rfl, by decide +kernel, by decide +kernel⟩
theorem mk_is_group (T : Txt K mg)  : DefOk P w K mg base 1 "is_group" ["rule"] M_is_group :=
 def_run T.d_is_group sc_is_group (fun _ _ _ _ _ _ us hl => match us, hl with | [_], _ => rfl) fun f cdv A outer s H E hr => by
  have nd : (["rule"] : List Str).Nodup := sc_is_group.nd
  have hu := hu_of2 hr
  exact (psd_cons (psd_ret (PD.pr (pd_and (pd_cmp od_gt (PD.pb (pd_callB cd_len T.m_len boot_len (pab_cons (PD.pb (pd_ix (nlL (naL (by decide) _) hu) (pb_var 0) (PD.pb pd_int))) pab_nil))) (PD.pb pd_int)) (pd_one (pd_is "tuple" T.t_tuple T.m_isinstance T.m_tuple boot_tuple (PD.pb (pd_ix (nlL (naL (by decide) _) hu) (PD.pb (pd_ix (nlL (naL (by decide) _) hu) (pb_var 0) (PD.pb pd_int))) (PD.pb (pd_neg pd_int)))))))))
  psd_nil)
theorem sc_has_predicate : FnScope ["literal"] ["literal"] (defScope (top 17)) := ⟨rfl, rfl, rfl, by decide +kernel, rfl, by decide +kernel, by decide +kernel⟩
theorem mk_has_predicate (T : Txt K mg)  : DefOk P w K mg base 1 "has_predicate" ["literal"] M_has_predicate :=
 def_run T.d_has_predicate sc_has_predicate (fun _ _ _ _ _ _ us hl => match us, hl with | [_], _ => rfl) fun f cdv A outer s H E hr => by
  have nd : (["literal"] : List Str).Nodup := sc_has_predicate.nd
  have hu := hu_of2 hr
  exact (psd_cons (psd_ret (PD.pr (pd_cmp (od_inE hu) (PD.pb (pd_ix (nlL (naL (by decide) _) hu) (pb_var 0) (PD.pb pd_int))) (PD.pb (pd_tup (pad_cons pd_str (pad_cons pd_str pad_nil)))))))
  psd_nil)
theorem sc_literal_variables : FnScope ["literal", "terms"] ["literal"] (defScope (top 18)) := ⟨rfl, rfl, rfl, by decide +kernel, rfl, by decide +kernel, by decide +kernel⟩
theorem mk_literal_variables (T : Txt K mg) (ok_has_predicate : DefOk P w K mg base 1 "has_predicate" ["literal"] M_has_predicate) (ok_is_variable : DefOk P w K mg base 2 "is_variable" ["thing"] M_is_variable) : DefOk P w K mg base 3 "literal_variables" ["literal"] M_literal_variables :=
 def_run T.d_literal_variables sc_literal_variables (fun _ _ _ _ _ _ us hl => match us, hl with | [_], _ => rfl) fun f cdv A outer s H E hr => by
  have nd : (["literal", "terms"] : List Str).Nodup := sc_literal_variables.nd
  have hu := hu_of2 hr
  exact (psd_cons (psd_set 1 nd (pd_if (pdt_val (PR.pd (pr_call ok_has_predicate (hr.mono (by decide)) (pad_cons (pd_var 0) pad_nil)))) (pd_ix (nlL (naL (by decide) _) hu) (pb_var 0) (PD.pb pd_int)) (PR.pd (pr_slA (pb_var 0) (pod_some pd_int) pod_none))))
  (psd_cons (psd_ret (pr_comp' (N := ["term"]) (js := []) (i := 0) rfl (compOk0 rfl (by decide +kernel) (by decide +kernel) rfl) (pid_seq (pd_var 1)) (by decide) (by decide) rfl rfl (by decide) (fun _ _ _ _ => pifd_one (pdt_val (PR.pd (pr_call ok_is_variable (hr.mono (by decide)) (pad_cons (pd_var 0) pad_nil))))) (fun _ _ _ _ => (pd_var 0))))
  psd_nil))
theorem sc_head_variables : FnScope ["rule", "terms"] ["rule"] (defScope (top 19)) := ⟨rfl, rfl, rfl, by decide +kernel, rfl, by decide +kernel, by decide +kernel⟩
theorem mk_head_variables (T : Txt K mg) (ok_is_group : DefOk P w K mg base 1 "is_group" ["rule"] M_is_group) (ok_is_variable : DefOk P w K mg base 2 "is_variable" ["thing"] M_is_variable) : DefOk P w K mg base 3 "head_variables" ["rule"] M_head_variables :=
 def_run T.d_head_variables sc_head_variables (fun _ _ _ _ _ _ us hl => match us, hl with | [_], _ => rfl) fun f cdv A outer s H E hr => by
  have nd : (["rule", "terms"] : List Str).Nodup := sc_head_variables.nd
  have hu := hu_of2 hr
  exact (psd_cons (psd_set 1 nd (pd_if (pdt_val (PR.pd (pr_call ok_is_group (hr.mono (by decide)) (pad_cons (pd_var 0) pad_nil)))) (pd_op od_add (PD.pb (PR.pd (pr_slA (PD.pb (pd_ix (nlL (naL (by decide) _) hu) (pb_var 0) (PD.pb pd_int))) pod_none (pod_some (pd_neg pd_int))))) (PD.pb (PR.pd (pr_slA (PD.pb (pd_ix (nlL (naL (by decide) _) hu) (PD.pb (pd_ix (nlL (naL (by decide) _) hu) (pb_var 0) (PD.pb pd_int))) (PD.pb (pd_neg pd_int)))) (pod_some pd_int) pod_none)))) (pd_ix (nlL (naL (by decide) _) hu) (pb_var 0) (PD.pb pd_int))))
  (psd_cons (psd_ret (pr_comp' (N := ["term"]) (js := []) (i := 0) rfl (compOk0 rfl (by decide +kernel) (by decide +kernel) rfl) (pid_seq (pd_var 1)) (by decide) (by decide) rfl rfl (by decide) (fun _ _ _ _ => pifd_one (pdt_val (PR.pd (pr_call ok_is_variable (hr.mono (by decide)) (pad_cons (pd_var 0) pad_nil))))) (fun _ _ _ _ => (pd_var 0))))
  psd_nil))
theorem sc_body_variables : FnScope ["body", "found", "literal"] ["body"] (defScope (top 20)) := ⟨rfl, rfl, rfl, by decide +kernel, rfl, by decide +kernel, by decide +kernel⟩
theorem mk_body_variables (T : Txt K mg) (ok_literal_variables : DefOk P w K mg base 3 "literal_variables" ["literal"] M_literal_variables) : DefOk P w K mg base 4 "body_variables" ["body"] M_body_variables :=
 def_run T.d_body_variables sc_body_variables (fun _ _ _ _ _ _ us hl => match us, hl with | [_], _ => rfl) fun f cdv A outer s H E hr => by
  have nd : (["body", "found", "literal"] : List Str).Nodup := sc_body_variables.nd
  have hu := hu_of2 hr
  exact (psd_cons (psd_setR 1 nd (pr_lst pad_nil))
  (psd_cons (psd_for 2 nd rfl PassesOwn.never (pid_seq (pd_var 0)) (psd_cons (psd_ext 1 (pr_call ok_literal_variables (hr.mono (by decide)) (pad_cons (pd_var 2) pad_nil)))
  psd_nil))
  (psd_cons (psd_ret (pr_sortSet rfl T.m_sorted T.m_set (pb_var 1)))
  psd_nil)))
theorem sc_are_bound_ahead : FnScope ["body", "bound", "literal", "variable"] ["body"] (defScope (top 21)) := ⟨rfl, rfl, rfl, by decide +kernel, rfl, by decide +kernel, by decide +kernel⟩
theorem mk_are_bound_ahead (T : Txt K mg) (ok_literal_variables : DefOk P w K mg base 3 "literal_variables" ["literal"] M_literal_variables) : DefOk P w K mg base 4 "are_bound_ahead" ["body"] M_are_bound_ahead :=
 def_run T.d_are_bound_ahead sc_are_bound_ahead (fun _ _ _ _ _ _ us hl => match us, hl with | [_], _ => rfl) fun f cdv A outer s H E hr => by
  have nd : (["body", "bound", "literal", "variable"] : List Str).Nodup := sc_are_bound_ahead.nd
  have hu := hu_of2 hr
  exact (psd_cons (psd_setR 1 nd pr_dnew)
  (psd_cons (psd_for 2 nd rfl PassesOwn.never (pid_seq (pd_var 0)) (psd_cons (psd_for 3 nd rfl PassesOwn.never (pid_seq (PR.pd (pr_call ok_literal_variables (hr.mono (by decide)) (pad_cons (pd_var 2) pad_nil)))) (psd_cons (psd_if (pdt_cmp (od_eqO hu) (PD.pb (pd_ix (nlL (naL (by decide) _) hu) (pb_var 2) (PD.pb pd_int))) (PD.pb pd_str)) (psd_cons (psd_dput 1 (nlL (naL (by decide) _) hu) (pd_var 3) pd_bl)
  psd_nil) (psd_cons (psd_if (pdt_cmp (od_notinE hu) (pb_var 3) (pb_var 1)) (psd_cons (psd_ret (PD.pr pd_bl))
  psd_nil) psd_nil)
  psd_nil))
  psd_nil))
  psd_nil))
  (psd_cons (psd_ret (PD.pr pd_bl))
  psd_nil)))
theorem sc_is_safe : FnScope ["rule", "bound"] ["rule"] (defScope (top 22)) := ⟨rfl, rfl, rfl, by decide +kernel, rfl, by decide +kernel, by decide +kernel⟩
theorem mk_is_safe (T : Txt K mg) (ok_are_bound_ahead : DefOk P w K mg base 4 "are_bound_ahead" ["body"] M_are_bound_ahead) (ok_body_variables : DefOk P w K mg base 4 "body_variables" ["body"] M_body_variables) (ok_head_variables : DefOk P w K mg base 3 "head_variables" ["rule"] M_head_variables) : DefOk P w K mg base 5 "is_safe" ["rule"] M_is_safe :=
 def_run T.d_is_safe sc_is_safe (fun _ _ _ _ _ _ us hl => match us, hl with | [_], _ => rfl) fun f cdv A outer s H E hr => by
  have nd : (["rule", "bound"] : List Str).Nodup := sc_is_safe.nd
  have hu := hu_of2 hr
  exact (psd_cons (psd_set 1 nd (PR.pd (pr_call ok_body_variables (hr.mono (by decide)) (pad_cons (PR.pd (pr_comp' (N := ["literal"]) (js := []) (i := 0) rfl (compOk0 rfl (by decide +kernel) (by decide +kernel) rfl) (pid_seq (pd_ix (nlL (naL (by decide) _) hu) (pb_var 0) (PD.pb pd_int))) (by decide) (by decide) rfl rfl (by decide) (fun _ _ _ _ => pifd_one (pdt_cmp (od_eqO hu) (PD.pb (pd_ix (nlL (naL (by decide) _) hu) (pb_var 0) (PD.pb pd_int))) (PD.pb pd_str))) (fun _ _ _ _ => (pd_var 0)))) pad_nil))))
  (psd_cons (psd_if (pdt_not (pdt_val (pd_callB (cd_all rfl) T.m_all boot_all (pab_cons (PD.pb (PR.pd (pr_comp' (N := ["variable", "bound"]) (js := [1]) (i := 0) rfl (compOkF (sn := (defScope (top 22)).names) rfl rfl (by decide +kernel) rfl (by decide +kernel) (by decide +kernel) rfl (by intro k j x e1 e2; rcases k with _ | k <;> first | (cases e1; cases e2; exact ⟨rfl, (by walk_at "or"), (by walk_at "vi"), (by walk_at "or")⟩) | (simp at e1))) (pid_seq (PR.pd (pr_call ok_head_variables (hr.mono (by decide)) (pad_cons (pd_var 0) pad_nil)))) (by decide) (by decide) rfl rfl (by decide) (fun _ _ _ _ => pifd_nil) (fun _ _ _ _ => (pd_cmp (od_inE hu) (pb_var 0) (pb_var 1)))))) pab_nil)))) (psd_cons (psd_ret (PD.pr pd_bl))
  psd_nil) psd_nil)
  (psd_cons (psd_ret (pr_call ok_are_bound_ahead (hr.mono (by decide)) (pad_cons (pd_ix (nlL (naL (by decide) _) hu) (pb_var 0) (PD.pb pd_int)) pad_nil)))
  psd_nil)))
theorem sc_note_width : FnScope ["widths", "predicate", "width"] ["widths", "predicate", "width"] (defScope (top 23)) := ⟨rfl, rfl, rfl, by decide +kernel, rfl, by decide +kernel, by decide +kernel⟩
theorem mk_note_width (T : Txt K mg)  : DefOkM P w K mg base 1 "note_width" ["widths", "predicate", "width"] M_note_width :=
 def_runM T.d_note_width sc_note_width (fun _ _ _ _ _ _ us hl => match us, hl with | [_, _, _], _ => rfl) fun f cdv A outer s H E hr => by
  have nd : (["widths", "predicate", "width"] : List Str).Nodup := sc_note_width.nd
  have hu := hu_of2 hr
  exact (psd_cons (psd_ifX (ptx_cmp (od_neE hu) (px_setd 0 (pd_var 1) (pd_var 2)) (pb_var 2)) (psd_cons (psd_raise T.x_0 (pad_cons (pd_fmt (pd_var 1)) pad_nil))
  psd_nil) psd_nil)
  psd_nil)
theorem mkE_note_width (T : Txt K mg)  : DefOkE P w K mg base 1 "note_width" ["widths", "predicate", "width"] Mx_note_width :=
 def_runE T.d_note_width sc_note_width (fun _ _ _ _ _ _ us hl => match us, hl with | [_, _, _], _ => rfl) fun f cdv A outer s H E hr => by
  have nd : (["widths", "predicate", "width"] : List Str).Nodup := sc_note_width.nd
  have hu := hu_of2 hr
  exact (psd_cons (psd_ifX (ptx_cmp (od_neE hu) (px_setd 0 (pd_var 1) (pd_var 2)) (pb_var 2)) (psd_cons (psd_raise T.x_0 (pad_cons (pd_fmt (pd_var 1)) pad_nil))
  psd_nil) psd_nil)
  psd_nil)
theorem sc_widths_of : FnScope ["rules", "told", "widths", "rule", "literal", "fact"] ["rules", "told"] (defScope (top 24)) := ⟨rfl, rfl, rfl, by decide +kernel, rfl, by decide +kernel, by decide +kernel⟩
theorem mk_widths_of (T : Txt K mg) (ok_has_predicate : DefOk P w K mg base 1 "has_predicate" ["literal"] M_has_predicate) (ok_note_width : DefOkM P w K mg base 1 "note_width" ["widths", "predicate", "width"] M_note_width) (okE_note_width : DefOkE P w K mg base 1 "note_width" ["widths", "predicate", "width"] Mx_note_width) : DefOk P w K mg base 2 "widths_of" ["rules", "told"] M_widths_of :=
 def_run T.d_widths_of sc_widths_of (fun _ _ _ _ _ _ us hl => match us, hl with | [_, _], _ => rfl) fun f cdv A outer s H E hr => by
  have nd : (["rules", "told", "widths", "rule", "literal", "fact"] : List Str).Nodup := sc_widths_of.nd
  have hu := hu_of2 hr
  exact (psd_cons (psd_setR 2 nd pr_dnew)
  (psd_cons (psd_forDV 3 0 nd rfl PassesOwn.never (psd_cons (psd_or (psd_drop (px_callM ok_note_width (hr.mono (by decide)) (pam_own 2 (pam_val (pd_ix (nlL (naL (by decide) _) hu) (pb_var 3) (PD.pb pd_int)) (pam_val (pd_callB cd_len T.m_len boot_len (pab_cons (PD.pb (pd_ix (nlL (naL (by decide) _) hu) (pb_var 3) (PD.pb pd_int))) pab_nil)) pam_nil))))) (psd_dropE okE_note_width (hr.mono (by decide)) (pam_own 2 (pam_val (pd_ix (nlL (naL (by decide) _) hu) (pb_var 3) (PD.pb pd_int)) (pam_val (pd_callB cd_len T.m_len boot_len (pab_cons (PD.pb (pd_ix (nlL (naL (by decide) _) hu) (pb_var 3) (PD.pb pd_int))) pab_nil)) pam_nil)))))
  (psd_cons (psd_for 4 nd rfl PassesOwn.never (pid_seq (pd_ix (nlL (naL (by decide) _) hu) (pb_var 3) (PD.pb pd_int))) (psd_cons (psd_if (pdt_val (PR.pd (pr_call ok_has_predicate (hr.mono (by decide)) (pad_cons (pd_var 4) pad_nil)))) (psd_cons (psd_or (psd_drop (px_callM ok_note_width (hr.mono (by decide)) (pam_own 2 (pam_val (pd_ix (nlL (naL (by decide) _) hu) (pb_var 4) (PD.pb pd_int)) (pam_val (pd_callB cd_len T.m_len boot_len (pab_cons (PD.pb (pd_ix (nlL (naL (by decide) _) hu) (pb_var 4) (PD.pb pd_int))) pab_nil)) pam_nil))))) (psd_dropE okE_note_width (hr.mono (by decide)) (pam_own 2 (pam_val (pd_ix (nlL (naL (by decide) _) hu) (pb_var 4) (PD.pb pd_int)) (pam_val (pd_callB cd_len T.m_len boot_len (pab_cons (PD.pb (pd_ix (nlL (naL (by decide) _) hu) (pb_var 4) (PD.pb pd_int))) pab_nil)) pam_nil)))))
  psd_nil) psd_nil)
  psd_nil))
  psd_nil)))
  (psd_cons (psd_for 5 nd rfl PassesOwn.never (pid_seq (pd_var 1)) (psd_cons (psd_or (psd_drop (px_callM ok_note_width (hr.mono (by decide)) (pam_own 2 (pam_val (pd_ix (nlL (naL (by decide) _) hu) (pb_var 5) (PD.pb pd_int)) (pam_val (pd_callB cd_len T.m_len boot_len (pab_cons (PD.pb (pd_ix (nlL (naL (by decide) _) hu) (pb_var 5) (PD.pb pd_int))) pab_nil)) pam_nil))))) (psd_dropE okE_note_width (hr.mono (by decide)) (pam_own 2 (pam_val (pd_ix (nlL (naL (by decide) _) hu) (pb_var 5) (PD.pb pd_int)) (pam_val (pd_callB cd_len T.m_len boot_len (pab_cons (PD.pb (pd_ix (nlL (naL (by decide) _) hu) (pb_var 5) (PD.pb pd_int))) pab_nil)) pam_nil)))))
  psd_nil))
  (psd_cons (psd_retV 2)
  psd_nil))))
theorem mkE_widths_of (T : Txt K mg) (ok_has_predicate : DefOk P w K mg base 1 "has_predicate" ["literal"] M_has_predicate) (ok_note_width : DefOkM P w K mg base 1 "note_width" ["widths", "predicate", "width"] M_note_width) (okE_note_width : DefOkE P w K mg base 1 "note_width" ["widths", "predicate", "width"] Mx_note_width) : DefOkE P w K mg base 2 "widths_of" ["rules", "told"] Mx_widths_of :=
 def_runE T.d_widths_of sc_widths_of (fun _ _ _ _ _ _ us hl => match us, hl with | [_, _], _ => rfl) fun f cdv A outer s H E hr => by
  have nd : (["rules", "told", "widths", "rule", "literal", "fact"] : List Str).Nodup := sc_widths_of.nd
  have hu := hu_of2 hr
  exact (psd_cons (psd_setR 2 nd pr_dnew)
  (psd_cons (psd_forDV 3 0 nd rfl PassesOwn.leaving (psd_cons (psd_or (psd_drop (px_callM ok_note_width (hr.mono (by decide)) (pam_own 2 (pam_val (pd_ix (nlL (naL (by decide) _) hu) (pb_var 3) (PD.pb pd_int)) (pam_val (pd_callB cd_len T.m_len boot_len (pab_cons (PD.pb (pd_ix (nlL (naL (by decide) _) hu) (pb_var 3) (PD.pb pd_int))) pab_nil)) pam_nil))))) (psd_dropE okE_note_width (hr.mono (by decide)) (pam_own 2 (pam_val (pd_ix (nlL (naL (by decide) _) hu) (pb_var 3) (PD.pb pd_int)) (pam_val (pd_callB cd_len T.m_len boot_len (pab_cons (PD.pb (pd_ix (nlL (naL (by decide) _) hu) (pb_var 3) (PD.pb pd_int))) pab_nil)) pam_nil)))))
  (psd_cons (psd_for 4 nd rfl PassesOwn.leaving (pid_seq (pd_ix (nlL (naL (by decide) _) hu) (pb_var 3) (PD.pb pd_int))) (psd_cons (psd_if (pdt_val (PR.pd (pr_call ok_has_predicate (hr.mono (by decide)) (pad_cons (pd_var 4) pad_nil)))) (psd_cons (psd_or (psd_drop (px_callM ok_note_width (hr.mono (by decide)) (pam_own 2 (pam_val (pd_ix (nlL (naL (by decide) _) hu) (pb_var 4) (PD.pb pd_int)) (pam_val (pd_callB cd_len T.m_len boot_len (pab_cons (PD.pb (pd_ix (nlL (naL (by decide) _) hu) (pb_var 4) (PD.pb pd_int))) pab_nil)) pam_nil))))) (psd_dropE okE_note_width (hr.mono (by decide)) (pam_own 2 (pam_val (pd_ix (nlL (naL (by decide) _) hu) (pb_var 4) (PD.pb pd_int)) (pam_val (pd_callB cd_len T.m_len boot_len (pab_cons (PD.pb (pd_ix (nlL (naL (by decide) _) hu) (pb_var 4) (PD.pb pd_int))) pab_nil)) pam_nil)))))
  psd_nil) psd_nil)
  psd_nil))
  psd_nil)))
  (psd_cons (psd_for 5 nd rfl PassesOwn.leaving (pid_seq (pd_var 1)) (psd_cons (psd_or (psd_drop (px_callM ok_note_width (hr.mono (by decide)) (pam_own 2 (pam_val (pd_ix (nlL (naL (by decide) _) hu) (pb_var 5) (PD.pb pd_int)) (pam_val (pd_callB cd_len T.m_len boot_len (pab_cons (PD.pb (pd_ix (nlL (naL (by decide) _) hu) (pb_var 5) (PD.pb pd_int))) pab_nil)) pam_nil))))) (psd_dropE okE_note_width (hr.mono (by decide)) (pam_own 2 (pam_val (pd_ix (nlL (naL (by decide) _) hu) (pb_var 5) (PD.pb pd_int)) (pam_val (pd_callB cd_len T.m_len boot_len (pab_cons (PD.pb (pd_ix (nlL (naL (by decide) _) hu) (pb_var 5) (PD.pb pd_int))) pab_nil)) pam_nil)))))
  psd_nil))
  (psd_cons (psd_retV 2)
  psd_nil))))
theorem sc__law_cell : FnScope ["_law_script", "_law_k", "_law_number"] ["_law_script", "_law_k"] (defScope (top 26)) := ⟨rfl, rfl, rfl, by decide +kernel, rfl, by decide +kernel, by decide +kernel⟩
theorem mk__law_cell (T : Txt K mg)  : DefOk P w K mg base 1 "_law_cell" ["_law_script", "_law_k"] M__law_cell :=
 def_run T.d__law_cell sc__law_cell (fun _ _ _ _ _ _ us hl => match us, hl with | [_, _], _ => rfl) fun f cdv A outer s H E hr => by
  have nd : (["_law_script", "_law_k", "_law_number"] : List Str).Nodup := sc__law_cell.nd
  have hu := hu_of2 hr
  exact (psd_cons (psd_if (pdt_cmp (od_ltE hu) (pb_var 1) (PD.pb (pd_callB cd_len T.m_len boot_len (pab_cons (pb_var 0) pab_nil)))) (psd_cons (psd_ret (PD.pr (pd_ix (nlL (naL (by decide) _) hu) (pb_var 0) (pb_var 1))))
  psd_nil) psd_nil)
  (psd_cons (psd_set 2 nd (pd_op od_add (PD.pb (pd_op od_mul (pb_var 1) (PD.pb pd_int))) (PD.pb pd_int)))
  (psd_cons (psd_if (pdt_cmp od_gt (PD.pb (pd_callB cd_len T.m_len boot_len (pab_cons (pb_var 0) pab_nil))) (PD.pb pd_int)) (psd_cons (psd_set 2 nd (pd_op od_mod (PD.pb (pd_op od_add (PD.pb (pd_op od_mul (PD.pb (pd_ix (nlL (naL (by decide) _) hu) (pb_var 0) (PD.pb (pd_op od_mod (PD.pb (pd_op od_mul (pb_var 1) (PD.pb pd_int))) (PD.pb (pd_callB cd_len T.m_len boot_len (pab_cons (pb_var 0) pab_nil))))))) (PD.pb pd_int))) (PD.pb (pd_op od_mul (pb_var 1) (PD.pb pd_int))))) (PD.pb pd_int)))
  psd_nil) psd_nil)
  (psd_cons (psd_ret (PD.pr (pd_op od_mod (PD.pb (pd_op od_mul (pb_var 2) (pb_var 2))) (PD.pb pd_int))))
  psd_nil))))
theorem sc__law_terms : FnScope ["_law_cell_here", "_law_many", "_law_terms_here", "_law_k"] ["_law_cell_here", "_law_many"] (defScope (top 27)) := ⟨rfl, rfl, rfl, by decide +kernel, rfl, by decide +kernel, by decide +kernel⟩
theorem mk__law_terms (T : Txt K mg)  : DefOk P w K mg base 1 "_law_terms" ["_law_cell_here", "_law_many"] M__law_terms :=
 def_run T.d__law_terms sc__law_terms (fun _ _ _ _ _ _ us hl => match us, hl with | [_, _], _ => rfl) fun f cdv A outer s H E hr => by
  have nd : (["_law_cell_here", "_law_many", "_law_terms_here", "_law_k"] : List Str).Nodup := sc__law_terms.nd
  have hu := hu_of2 hr
  exact (psd_cons (psd_set 2 nd (pd_tup pad_nil))
  (psd_cons (psd_for 3 nd rfl PassesOwn.never (pid_range T.m_range (pd_var 1)) (psd_cons (psd_set 2 nd (pd_op od_add (pb_var 2) (PD.pb (pd_tup (pad_cons (pd_ix (nlL (naL (by decide) _) hu) (PD.pb (PR.pd (pr_lst (pad_cons pd_str (pad_cons pd_str (pad_cons pd_str (pad_cons pd_str (pad_cons pd_str (pad_cons pd_int pad_nil))))))))) (PD.pb (pd_op od_mod (pb_var 0) (PD.pb pd_int)))) pad_nil)))))
  (psd_cons (psd_set 0 nd (pd_op od_fdiv (pb_var 0) (PD.pb pd_int)))
  psd_nil)))
  (psd_cons (psd_retV 2)
  psd_nil)))
theorem sc__law_literal : FnScope ["_law_cell_here", "_law_kind", "_law_terms_here", "_law_head", "_law_many"] ["_law_cell_here"] (defScope (top 28)) := ⟨rfl, rfl, rfl, by decide +kernel, rfl, by decide +kernel, by decide +kernel⟩
theorem mk__law_literal (T : Txt K mg) (ok__law_terms : DefOk P w K mg base 1 "_law_terms" ["_law_cell_here", "_law_many"] M__law_terms) : DefOk P w K mg base 2 "_law_literal" ["_law_cell_here"] M__law_literal :=
 def_run T.d__law_literal sc__law_literal (fun _ _ _ _ _ _ us hl => match us, hl with | [_], _ => rfl) fun f cdv A outer s H E hr => by
  have nd : (["_law_cell_here", "_law_kind", "_law_terms_here", "_law_head", "_law_many"] : List Str).Nodup := sc__law_literal.nd
  have hu := hu_of2 hr
  exact (psd_cons (psd_set 1 nd (pd_ix (nlL (naL (by decide) _) hu) (PD.pb (PR.pd (pr_lst (pad_cons pd_str (pad_cons pd_str (pad_cons pd_str (pad_cons pd_str (pad_cons pd_str pad_nil)))))))) (PD.pb (pd_op od_mod (pb_var 0) (PD.pb pd_int)))))
  (psd_cons (psd_set 0 nd (pd_op od_fdiv (pb_var 0) (PD.pb pd_int)))
  (psd_cons (psd_if (pdt_cmp (od_inE hu) (pb_var 1) (PD.pb (pd_tup (pad_cons pd_str (pad_cons pd_str pad_nil))))) (psd_cons (psd_set 2 nd (PR.pd (pr_call ok__law_terms (hr.mono (by decide)) (pad_cons (pd_var 0) (pad_cons pd_int pad_nil)))))
  (psd_cons (psd_ret (PD.pr (pd_tup (pad_cons (pd_var 1) (pad_cons (pd_ix (nlL (naL (by decide) _) hu) (pb_var 2) (PD.pb pd_int)) (pad_cons (pd_ix (nlL (naL (by decide) _) hu) (pb_var 2) (PD.pb pd_int)) pad_nil))))))
  psd_nil)) psd_nil)
  (psd_cons (psd_set 3 nd (pd_ix (nlL (naL (by decide) _) hu) (PD.pb (PR.pd (pr_lst (pad_cons pd_str (pad_cons pd_str (pad_cons pd_str pad_nil)))))) (PD.pb (pd_op od_mod (pb_var 0) (PD.pb pd_int)))))
  (psd_cons (psd_set 4 nd (pd_index hu (PR.pd (pr_lst (pad_cons pd_str (pad_cons pd_str (pad_cons pd_str pad_nil))))) (pd_var 3) fun po pa => pe_bm PySem.F.plainAttrs_list PySem.F.slot_list_index PySem.F.type_list_index (mt_index hu) po (pa_cons pa pa_nil)))
  (psd_cons (psd_if (pdt_cmp (od_eqO hu) (PD.pb (pd_op od_mod (PD.pb (pd_op od_fdiv (pb_var 0) (PD.pb pd_int))) (PD.pb pd_int))) (PD.pb pd_int)) (psd_cons (psd_set 4 nd pd_int)
  psd_nil) psd_nil)
  (psd_cons (psd_ret (PD.pr (pd_tup (pad_cons (pd_var 1) (pad_cons (pd_var 3) (pad_cons (PR.pd (pr_call ok__law_terms (hr.mono (by decide)) (pad_cons (pd_op od_fdiv (pb_var 0) (PD.pb pd_int)) (pad_cons (pd_var 4) pad_nil)))) pad_nil))))))
  psd_nil)))))))
theorem sc__law_rule : FnScope ["_law_cell_here", "_law_way", "_law_many", "_law_terms_here", "_law_body", "_law_k"] ["_law_cell_here"] (defScope (top 29)) := ⟨rfl, rfl, rfl, by decide +kernel, rfl, by decide +kernel, by decide +kernel⟩
theorem mk__law_rule (T : Txt K mg) (ok__law_literal : DefOk P w K mg base 2 "_law_literal" ["_law_cell_here"] M__law_literal) (ok__law_terms : DefOk P w K mg base 1 "_law_terms" ["_law_cell_here", "_law_many"] M__law_terms) : DefOk P w K mg base 3 "_law_rule" ["_law_cell_here"] M__law_rule :=
 def_run T.d__law_rule sc__law_rule (fun _ _ _ _ _ _ us hl => match us, hl with | [_], _ => rfl) fun f cdv A outer s H E hr => by
  have nd : (["_law_cell_here", "_law_way", "_law_many", "_law_terms_here", "_law_body", "_law_k"] : List Str).Nodup := sc__law_rule.nd
  have hu := hu_of2 hr
  exact (psd_cons (psd_set 1 nd (pd_op od_mod (pb_var 0) (PD.pb pd_int)))
  (psd_cons (psd_set 2 nd (pd_op od_add (PD.pb pd_int) (PD.pb (pd_op od_mod (PD.pb (pd_op od_fdiv (pb_var 0) (PD.pb pd_int))) (PD.pb pd_int)))))
  (psd_cons (psd_set 3 nd (PR.pd (pr_call ok__law_terms (hr.mono (by decide)) (pad_cons (pd_op od_fdiv (pb_var 0) (PD.pb pd_int)) (pad_cons (pd_op od_add (PD.pb pd_int) (PD.pb (pd_op od_mod (PD.pb (pd_op od_fdiv (pb_var 0) (PD.pb pd_int))) (PD.pb pd_int)))) pad_nil)))))
  (psd_cons (psd_if (pdt_cmp od_gt (pb_var 1) (PD.pb pd_int)) (psd_cons (psd_set 3 nd (pd_op od_add (PD.pb (PR.pd (pr_slA (pb_var 3) pod_none (pod_some (pd_neg pd_int))))) (PD.pb (pd_tup (pad_cons (pd_ix (nlL (naL (by decide) _) hu) (PD.pb (PR.pd (pr_lst (pad_cons (pd_tup (pad_cons pd_str (pad_cons pd_str pad_nil))) (pad_cons (pd_tup (pad_cons pd_str (pad_cons pd_str pad_nil))) (pad_cons (pd_tup (pad_cons pd_str pad_nil)) pad_nil)))))) (PD.pb (pd_op od_sub (pb_var 1) (PD.pb pd_int)))) pad_nil)))))
  psd_nil) psd_nil)
  (psd_cons (psd_set 0 nd (pd_op od_fdiv (pb_var 0) (PD.pb pd_int)))
  (psd_cons (psd_set 4 nd (pd_tup pad_nil))
  (psd_cons (psd_for 5 nd rfl PassesOwn.never (pid_range T.m_range (pd_var 2)) (psd_cons (psd_set 4 nd (pd_op od_add (pb_var 4) (PD.pb (pd_tup (pad_cons (PR.pd (pr_call ok__law_literal (hr.mono (by decide)) (pad_cons (pd_var 0) pad_nil))) pad_nil)))))
  (psd_cons (psd_set 0 nd (pd_op od_fdiv (pb_var 0) (PD.pb (pd_op od_mul (PD.pb pd_int) (PD.pb pd_int)))))
  psd_nil)))
  (psd_cons (psd_ret (PD.pr (pd_tup (pad_cons (pd_ix (nlL (naL (by decide) _) hu) (PD.pb (PR.pd (pr_lst (pad_cons pd_str (pad_cons pd_str pad_nil))))) (PD.pb (pd_op od_sub (PD.pb (pd_callB cd_len T.m_len boot_len (pab_cons (pb_var 3) pab_nil))) (PD.pb pd_int)))) (pad_cons (pd_var 3) (pad_cons (pd_var 4) pad_nil))))))
  psd_nil))))))))
theorem sc__law_facts : FnScope ["_law_cell_here", "_law_facts_here", "_law_k", "_law_many", "_law_fact"] ["_law_cell_here"] (defScope (top 30)) := ⟨rfl, rfl, rfl, by decide +kernel, rfl, by decide +kernel, by decide +kernel⟩
theorem mk__law_facts (T : Txt K mg)  : DefOk P w K mg base 1 "_law_facts" ["_law_cell_here"] M__law_facts :=
 def_run T.d__law_facts sc__law_facts (fun _ _ _ _ _ _ us hl => match us, hl with | [_], _ => rfl) fun f cdv A outer s H E hr => by
  have nd : (["_law_cell_here", "_law_facts_here", "_law_k", "_law_many", "_law_fact"] : List Str).Nodup := sc__law_facts.nd
  have hu := hu_of2 hr
  exact (psd_cons (psd_setR 1 nd (pr_lst pad_nil))
  (psd_cons (psd_for 2 nd rfl PassesOwn.never (pid_range T.m_range (pd_op od_mod (pb_var 0) (PD.pb pd_int))) (psd_cons (psd_set 0 nd (pd_op od_fdiv (pb_var 0) (PD.pb pd_int)))
  (psd_cons (psd_set 3 nd (pd_ix (nlL (naL (by decide) _) hu) (PD.pb (PR.pd (pr_lst (pad_cons pd_int (pad_cons pd_int (pad_cons pd_int (pad_cons pd_int pad_nil))))))) (PD.pb (pd_op od_mod (pb_var 0) (PD.pb pd_int)))))
  (psd_cons (psd_if (pdt_cmp (od_eqO hu) (PD.pb (pd_op od_mod (PD.pb (pd_op od_fdiv (pb_var 0) (PD.pb pd_int))) (PD.pb pd_int))) (PD.pb pd_int)) (psd_cons (psd_set 3 nd pd_int)
  psd_nil) psd_nil)
  (psd_cons (psd_set 4 nd (pd_tup (pad_cons (pd_ix (nlL (naL (by decide) _) hu) (PD.pb (PR.pd (pr_lst (pad_cons pd_str (pad_cons pd_str (pad_cons pd_str (pad_cons pd_str pad_nil))))))) (PD.pb (pd_op od_mod (pb_var 0) (PD.pb pd_int)))) (pad_cons (PR.pd (pr_slA (PD.pb (pd_tup (pad_cons pd_str (pad_cons pd_int (pad_cons pd_str pad_nil))))) pod_none (pod_some (pd_var 3)))) pad_nil))))
  (psd_cons (psd_if (pdt_cmp (od_notinE hu) (pb_var 4) (pb_var 1)) (psd_cons (psd_app 1 (pd_var 4))
  psd_nil) psd_nil)
  (psd_cons (psd_set 0 nd (pd_op od_fdiv (pb_var 0) (PD.pb pd_int)))
  psd_nil)))))))
  (psd_cons (psd_retV 1)
  psd_nil)))
theorem sc__law_variables : FnScope ["_law_terms_here", "_law_found", "_law_term"] ["_law_terms_here"] (defScope (top 31)) := ⟨rfl, rfl, rfl, by decide +kernel, rfl, by decide +kernel, by decide +kernel⟩
theorem mk__law_variables (T : Txt K mg)  : DefOk P w K mg base 1 "_law_variables" ["_law_terms_here"] M__law_variables :=
 def_run T.d__law_variables sc__law_variables (fun _ _ _ _ _ _ us hl => match us, hl with | [_], _ => rfl) fun f cdv A outer s H E hr => by
  have nd : (["_law_terms_here", "_law_found", "_law_term"] : List Str).Nodup := sc__law_variables.nd
  have hu := hu_of2 hr
  exact (psd_cons (psd_setR 1 nd (pr_lst pad_nil))
  (psd_cons (psd_for 2 nd rfl PassesOwn.never (pid_seq (pd_var 0)) (psd_cons (psd_if (pdt_val (pd_is "tuple" T.t_tuple T.m_isinstance T.m_tuple boot_tuple (pb_var 2))) (psd_cons (psd_set 2 nd (pd_ix (nlL (naL (by decide) _) hu) (pb_var 2) (PD.pb (pd_neg pd_int))))
  psd_nil) psd_nil)
  (psd_cons (psd_if (pdt_cmp (od_inE hu) (pb_var 2) (PD.pb (pd_tup (pad_cons pd_str (pad_cons pd_str (pad_cons pd_str pad_nil)))))) (psd_cons (psd_app 1 (pd_var 2))
  psd_nil) psd_nil)
  psd_nil)))
  (psd_cons (psd_retV 1)
  psd_nil)))
theorem sc__law_safe : FnScope ["_law_rule_here", "_law_bound", "_law_literal_here", "_law_some"] ["_law_rule_here"] (defScope (top 32)) := ⟨rfl, rfl, rfl, by decide +kernel, rfl, by decide +kernel, by decide +kernel⟩
theorem mk__law_safe (T : Txt K mg) (ok__law_variables : DefOk P w K mg base 1 "_law_variables" ["_law_terms_here"] M__law_variables) : DefOk P w K mg base 2 "_law_safe" ["_law_rule_here"] M__law_safe :=
 def_run T.d__law_safe sc__law_safe (fun _ _ _ _ _ _ us hl => match us, hl with | [_], _ => rfl) fun f cdv A outer s H E hr => by
  have nd : (["_law_rule_here", "_law_bound", "_law_literal_here", "_law_some"] : List Str).Nodup := sc__law_safe.nd
  have hu := hu_of2 hr
  exact (psd_cons (psd_set 1 nd (PR.pd (pr_lst pad_nil)))
  (psd_cons (psd_for 2 nd rfl PassesOwn.never (pid_seq (pd_ix (nlL (naL (by decide) _) hu) (pb_var 0) (PD.pb pd_int))) (psd_cons (psd_if (pdt_cmp (od_inE hu) (PD.pb (pd_ix (nlL (naL (by decide) _) hu) (pb_var 2) (PD.pb pd_int))) (PD.pb (pd_tup (pad_cons pd_str (pad_cons pd_str pad_nil))))) (psd_cons (psd_set 3 nd (PR.pd (pr_call ok__law_variables (hr.mono (by decide)) (pad_cons (pd_ix (nlL (naL (by decide) _) hu) (pb_var 2) (PD.pb pd_int)) pad_nil))))
  psd_nil) (psd_cons (psd_set 3 nd (PR.pd (pr_call ok__law_variables (hr.mono (by decide)) (pad_cons (PR.pd (pr_slA (pb_var 2) (pod_some pd_int) pod_none)) pad_nil))))
  psd_nil))
  (psd_cons (psd_if (pdt_cmp (od_eqO hu) (PD.pb (pd_ix (nlL (naL (by decide) _) hu) (pb_var 2) (PD.pb pd_int))) (PD.pb pd_str)) (psd_cons (psd_set 1 nd (pd_op od_add (pb_var 1) (pb_var 3)))
  psd_nil) (psd_cons (psd_if (pdt_cmp (od_neE hu) (PD.pb (PR.pd (pr_comp' (N := ["_law_one", "_law_bound"]) (js := [1]) (i := 0) rfl (compOkF (sn := (defScope (top 32)).names) rfl rfl (by decide +kernel) rfl (by decide +kernel) (by decide +kernel) rfl (by intro k j x e1 e2; rcases k with _ | k <;> first | (cases e1; cases e2; exact ⟨rfl, (by walk_at "or"), (by walk_at "vi"), (by walk_at "or")⟩) | (simp at e1))) (pid_seq (pd_var 3)) (by decide) (by decide) rfl rfl (by decide) (fun _ _ _ _ => pifd_one (pdt_cmp (od_notinE hu) (pb_var 0) (pb_var 1))) (fun _ _ _ _ => (pd_var 0))))) (PD.pb (PR.pd (pr_lst pad_nil)))) (psd_cons (psd_ret (PD.pr pd_bl))
  psd_nil) psd_nil)
  psd_nil))
  psd_nil)))
  (psd_cons (psd_ret (PD.pr (pd_cmp (od_eqO hu) (PD.pb (PR.pd (pr_comp' (N := ["_law_one", "_law_bound"]) (js := [1]) (i := 0) rfl (compOkF (sn := (defScope (top 32)).names) rfl rfl (by decide +kernel) rfl (by decide +kernel) (by decide +kernel) rfl (by intro k j x e1 e2; rcases k with _ | k <;> first | (cases e1; cases e2; exact ⟨rfl, (by walk_at "or"), (by walk_at "vi"), (by walk_at "or")⟩) | (simp at e1))) (pid_seq (PR.pd (pr_call ok__law_variables (hr.mono (by decide)) (pad_cons (pd_ix (nlL (naL (by decide) _) hu) (pb_var 0) (PD.pb pd_int)) pad_nil)))) (by decide) (by decide) rfl rfl (by decide) (fun _ _ _ _ => pifd_one (pdt_cmp (od_notinE hu) (pb_var 0) (pb_var 1))) (fun _ _ _ _ => (pd_var 0))))) (PD.pb (PR.pd (pr_lst pad_nil))))))
  psd_nil)))
theorem sc__law_widths : FnScope ["_law_rules", "_law_told_here", "_law_some", "_law_number", "_law_literal_here", "_law_widths_here", "_law_head", "_law_places"] ["_law_rules", "_law_told_here"] (defScope (top 33)) := ⟨rfl, rfl, rfl, by decide +kernel, rfl, by decide +kernel, by decide +kernel⟩
theorem mk__law_widths (T : Txt K mg)  : DefOk P w K mg base 1 "_law_widths" ["_law_rules", "_law_told_here"] M__law_widths :=
 def_run T.d__law_widths sc__law_widths (fun _ _ _ _ _ _ us hl => match us, hl with | [_, _], _ => rfl) fun f cdv A outer s H E hr => by
  have nd : (["_law_rules", "_law_told_here", "_law_some", "_law_number", "_law_literal_here", "_law_widths_here", "_law_head", "_law_places"] : List Str).Nodup := sc__law_widths.nd
  have hu := hu_of2 hr
  exact (psd_cons (psd_setR 2 nd (pr_callTy cn_list T.m_list boot_list (pab_cons (pb_var 1) pab_nil)))
  (psd_cons (psd_forDK 3 0 nd rfl PassesOwn.never (psd_cons (psd_app 2 (pd_tup (pad_cons (pd_ix (nlL (naL (by decide) _) hu) (PD.pb (pd_ix (nlL (naL (by decide) _) hu) (pb_var 0) (pb_var 3))) (PD.pb pd_int)) (pad_cons (pd_ix (nlL (naL (by decide) _) hu) (PD.pb (pd_ix (nlL (naL (by decide) _) hu) (pb_var 0) (pb_var 3))) (PD.pb pd_int)) pad_nil))))
  (psd_cons (psd_for 4 nd rfl PassesOwn.never (pid_seq (pd_ix (nlL (naL (by decide) _) hu) (PD.pb (pd_ix (nlL (naL (by decide) _) hu) (pb_var 0) (pb_var 3))) (PD.pb pd_int))) (psd_cons (psd_if (pdt_cmp (od_inE hu) (PD.pb (pd_ix (nlL (naL (by decide) _) hu) (pb_var 4) (PD.pb pd_int))) (PD.pb (pd_tup (pad_cons pd_str (pad_cons pd_str pad_nil))))) (psd_cons (psd_app 2 (pd_tup (pad_cons (pd_ix (nlL (naL (by decide) _) hu) (pb_var 4) (PD.pb pd_int)) (pad_cons (pd_ix (nlL (naL (by decide) _) hu) (pb_var 4) (PD.pb pd_int)) pad_nil))))
  psd_nil) psd_nil)
  psd_nil))
  psd_nil)))
  (psd_cons (psd_setR 5 nd pr_dnew)
  (psd_cons (psd_pub 2 (psd_forP 6 7 nd rfl PassesOwn.never (pid_seq (pd_var 2)) (psd_cons (psd_ifX (ptx_cmp (od_neE hu) (px_setd 5 (pd_var 6) (pd_callB cd_len T.m_len boot_len (pab_cons (pb_var 7) pab_nil))) (PD.pb (pd_callB cd_len T.m_len boot_len (pab_cons (pb_var 7) pab_nil)))) (psd_cons (psd_ret (PD.pr pd_non))
  psd_nil) psd_nil)
  psd_nil)))
  (psd_cons (psd_retV 5)
  psd_nil)))))
theorem sc__law_told : FnScope ["_law_rules", "_law_told_here", "_law_found", "_law_error", "e"] ["_law_rules", "_law_told_here"] (defScope (top 34)) := ⟨rfl, rfl, rfl, by decide +kernel, rfl, by decide +kernel, by decide +kernel⟩
theorem mk__law_told (T : Txt K mg) (ok_widths_of : DefOk P w K mg base 2 "widths_of" ["rules", "told"] M_widths_of) (okE_widths_of : DefOkE P w K mg base 2 "widths_of" ["rules", "told"] Mx_widths_of) : DefOk P w K mg base 3 "_law_told" ["_law_rules", "_law_told_here"] M__law_told :=
 def_run T.d__law_told sc__law_told (fun _ _ _ _ _ _ us hl => match us, hl with | [_, _], _ => rfl) fun f cdv A outer s H E hr => by
  have nd : (["_law_rules", "_law_told_here", "_law_found", "_law_error", "e"] : List Str).Nodup := sc__law_told.nd
  have hu := hu_of2 hr
  exact (psd_cons (psd_set 2 nd pd_non)
  (psd_cons (psd_set 3 nd pd_non)
  (psd_cons (psd_try 4 nd (fun _ _ => (psd_cons (psd_or (psd_set 2 nd (PR.pd (pr_call ok_widths_of (hr.mono (by decide)) (pad_cons (pd_var 0) (pad_cons (pd_var 1) pad_nil))))) (psd_setE 2 nd okE_widths_of (hr.mono (by decide)) (pad_cons (pd_var 0) (pad_cons (pd_var 1) pad_nil))))
  psd_nil)) (fun _ => (psd_cons (psd_cpy 3 4 nd)
  psd_nil)) T.x_3)
  (psd_cons (psd_if (pdt_or (pdt_cmp od_isA (pb_var 3) (PD.pb pd_non)) (pdt_obN 3)) (psd_cons (psd_retV 2)
  psd_nil) psd_nil)
  (psd_cons (psd_if (PDW.pdt (pdw_and (pdt_val (pd_isOb1 3 T.x_1 T.m_isinstance)) (pdw_and1 (pdt_not (pdt_val (pd_isObT 3 T.x_2 T.m_isinstance (pac_cons (pac_cons (pac_cons (pac_cons (pac_cons pac_nil))))))))))) (psd_cons (psd_ret (PD.pr pd_non))
  psd_nil) psd_nil)
  (psd_cons (psd_ret (PD.pr pd_str))
  psd_nil))))))
theorem sc_law : FnScope ["_law_script", "_law_rules", "_law_k", "_law_told_here", "_law_number", "_law_found", "_law_handed", "_law_facts_here"] ["_law_script"] (defScope (top 35)) := ⟨rfl, rfl, rfl, by decide +kernel, rfl, by decide +kernel, by decide +kernel⟩
theorem mk_law (T : Txt K mg) {f : Addr} {fd : FuncData} (F : Fun K "law" "law" (top 35) f fd) (ok__law_cell : DefOk P w K mg base 1 "_law_cell" ["_law_script", "_law_k"] M__law_cell) (ok__law_facts : DefOk P w K mg base 1 "_law_facts" ["_law_cell_here"] M__law_facts) (ok__law_rule : DefOk P w K mg base 3 "_law_rule" ["_law_cell_here"] M__law_rule) (ok__law_safe : DefOk P w K mg base 2 "_law_safe" ["_law_rule_here"] M__law_safe) (ok__law_told : DefOk P w K mg base 3 "_law_told" ["_law_rules", "_law_told_here"] M__law_told) (ok__law_widths : DefOk P w K mg base 1 "_law_widths" ["_law_rules", "_law_told_here"] M__law_widths) (ok_is_safe : DefOk P w K mg base 5 "is_safe" ["rule"] M_is_safe) : FnOk P w K mg base CX0 6 f fd ["_law_script"] (spD K M_law) :=
 def_runF F sc_law fun f cdv A outer s H E hr => by
  have nd : (["_law_script", "_law_rules", "_law_k", "_law_told_here", "_law_number", "_law_found", "_law_handed", "_law_facts_here"] : List Str).Nodup := sc_law.nd
  have hu := hu_of2 hr
  exact (psd_cons (psd_setR 1 nd pr_dnew)
  (psd_cons (psd_for 2 nd rfl PassesOwn.never (pid_range T.m_range (pd_op od_add (PD.pb pd_int) (PD.pb (pd_op od_mod (PD.pb (PR.pd (pr_call ok__law_cell (hr.mono (by decide)) (pad_cons (pd_var 0) (pad_cons pd_int pad_nil))))) (PD.pb pd_int))))) (psd_cons (psd_dput 1 (nlL (naL (by decide) _) hu) (pd_op od_add (PD.pb (pd_op od_add (pb_var 2) (PD.pb pd_int))) (PD.pb (pd_op od_mod (PD.pb (pd_op od_fdiv (PD.pb (PR.pd (pr_call ok__law_cell (hr.mono (by decide)) (pad_cons (pd_var 0) (pad_cons pd_int pad_nil))))) (PD.pb pd_int))) (PD.pb pd_int)))) (PR.pd (pr_call ok__law_rule (hr.mono (by decide)) (pad_cons (PR.pd (pr_call ok__law_cell (hr.mono (by decide)) (pad_cons (pd_var 0) (pad_cons (pd_op od_add (PD.pb pd_int) (pb_var 2)) pad_nil)))) pad_nil))))
  psd_nil))
  (psd_cons (psd_set 3 nd (PR.pd (pr_call ok__law_facts (hr.mono (by decide)) (pad_cons (PR.pd (pr_call ok__law_cell (hr.mono (by decide)) (pad_cons (pd_var 0) (pad_cons pd_int pad_nil)))) pad_nil))))
  (psd_cons (psd_pub 1 (psd_forDK 4 1 nd rfl PassesOwn.never (psd_cons (psd_set 5 nd (PR.pd (pr_call ok_is_safe (hr.mono (by decide)) (pad_cons (pd_ix (nlL (naL (by decide) _) hu) (pb_var 1) (pb_var 4)) pad_nil))))
  (psd_cons (psd_if (PDW.pdt (pdw_or (pdt_not (pdt_val (pd_is "bool" T.t_bool T.m_isinstance T.m_bool boot_bool (pb_var 5)))) (pdw_or1 (pdt_cmp (od_neE hu) (pb_var 5) (PD.pb (PR.pd (pr_call ok__law_safe (hr.mono (by decide)) (pad_cons (pd_ix (nlL (naL (by decide) _) hu) (pb_var 1) (pb_var 4)) pad_nil)))))))) (psd_cons (psd_ret (PD.pr pd_bl))
  psd_nil) psd_nil)
  psd_nil))))
  (psd_cons (psd_set 6 nd (PR.pd (pr_callTy cn_dict T.m_dict boot_dict (pab_cons (pb_var 1) pab_nil))))
  (psd_cons (psd_set 7 nd (PR.pd (pr_callTy cn_list T.m_list boot_list (pab_cons (pb_var 3) pab_nil))))
  (psd_cons (psd_set 5 nd (PR.pd (pr_call ok__law_told (hr.mono (by decide)) (pad_cons (pd_var 6) (pad_cons (pd_var 7) pad_nil)))))
  (psd_cons (psd_pub 1 (psd_if (PDW.pdt (pdw_or (pdt_cmp (od_neE hu) (pb_var 6) (pb_var 1)) (pdw_or (pdt_cmp (od_neE hu) (pb_var 7) (pb_var 3)) (pdw_or1 (pdt_cmp (od_neE hu) (pb_var 5) (PD.pb (PR.pd (pr_call ok__law_widths (hr.mono (by decide)) (pad_cons (pd_var 1) (pad_cons (pd_var 3) pad_nil)))))))))) (psd_cons (psd_ret (PD.pr pd_bl))
  psd_nil) psd_nil))
  (psd_cons (psd_ret (PD.pr (pd_and (pd_cmp (od_eqO hu) (PD.pb (PR.pd (pr_call ok__law_told (hr.mono (by decide)) (pad_cons (PR.pd pr_dnew) (pad_cons (PR.pd (pr_lst pad_nil)) pad_nil))))) (PD.pb (PR.pd pr_dnew))) (pd_one (pd_cmp (od_eqO hu) (PD.pb (PR.pd (pr_call ok__law_told (hr.mono (by decide)) (pad_cons (PR.pd pr_dnew) (pad_cons (pd_var 3) pad_nil))))) (PD.pb (PR.pd (pr_call ok__law_widths (hr.mono (by decide)) (pad_cons (PR.pd pr_dnew) (pad_cons (pd_var 3) pad_nil))))))))))
  psd_nil)))))))))
abbrev PW := Str × Int
noncomputable def look (m : List PW) (p : Str) : Option Int := (m.find? fun q => decide (q.1 = p)).map (·.2)
noncomputable def noteP (m : List PW) (q : PW) : Option (List PW) := match look m q.1 with | some w => if w = q.2 then some m else none | none => some (m ++ [q])
noncomputable def noteAll : List PW -> List PW -> Option (List PW)
 | m, [] => some m
 | m, q :: qs => (noteP m q).bind fun m' => noteAll m' qs
noncomputable def Agree (L : List PW) : Prop := ∀ p w w', (p, w) ∈ L -> (p, w') ∈ L -> w = w'
theorem look_mem {m : List PW} {p : Str} {w : Int} (h : look m p = some w) : (p, w) ∈ m := by
 unfold look at h
 obtain ⟨q, e1, rfl⟩ := omE h
 have h1 := List.find?_some e1
 have h2 := List.mem_of_find?_eq_some e1
 have : q.1 = p := by simpa using h1
 rw [<- this]
 exact h2
theorem look_none {m : List PW} {p : Str} (h : look m p = none) (w : Int) : (p, w) ∉ m := by
 unfold look at h
 rw [Option.map_eq_none_iff] at h
 intro hm
 have := List.find?_eq_none.mp h _ hm
 simp at this
theorem look_of {m : List PW} (a : Agree m) {p : Str} {w : Int} (h : (p, w) ∈ m) : look m p = some w := by
 cases e : look m p with
 | none => exact absurd h (look_none e w)
 | some w' => rw [a p w' w (look_mem e) h]
theorem noteAll_spec : ∀ (L m : List PW), (m.map (·.1)).Nodup -> Agree m ->
  (Agree (m ++ L) /\ ∃ m', noteAll m L = some m' /\ (m'.map (·.1)).Nodup /\ ∀ q, q ∈ m' ↔ q ∈ m \/ q ∈ L) \/ (¬ Agree (m ++ L) /\ noteAll m L = none)
 | [], m, nd, a => .inl ⟨by simpa using a, m, rfl, nd, by simp⟩
 | q :: L, m, nd, a => by
  unfold noteAll noteP
  cases e : look m q.1 with
  | some w =>
   have hm := look_mem e
   by_cases hw : w = q.2
   ·subst hw
    simp only [if_pos, Option.bind_some]
    have hq : q ∈ m := hm
    rcases noteAll_spec L m nd a with ⟨h1, m', h2, h3, h4⟩ | ⟨h1, h2⟩
    ·left
     refine ⟨fun p w w' h h' => h1 p w w' ?_ ?_, m', by simpa using h2, h3, fun x => ?_⟩
     ·rcases List.mem_append.mp h with h | h
      ·exact List.mem_append_left _ h
      ·rcases List.mem_cons.mp h with h | h
       ·rw [h]; exact List.mem_append_left _ hq
       ·exact List.mem_append_right _ h
     ·rcases List.mem_append.mp h' with h | h
      ·exact List.mem_append_left _ h
      ·rcases List.mem_cons.mp h with h | h
       ·rw [h]; exact List.mem_append_left _ hq
       ·exact List.mem_append_right _ h
     ·rw [h4 x]
      constructor
      ·rintro (h | h)
       ·exact .inl h
       ·exact .inr (List.mem_cons_of_mem _ h)
      ·rintro (h | h)
       ·exact .inl h
       ·rcases List.mem_cons.mp h with h | h
        ·rw [h]; exact .inl hq
        ·exact .inr h
    ·right
     refine ⟨fun h => h1 fun p w w' g g' => h p w w' ?_ ?_, by simpa using h2⟩
     ·rcases List.mem_append.mp g with g | g
      ·exact List.mem_append_left _ g
      ·exact List.mem_append_right _ (List.mem_cons_of_mem _ g)
     ·rcases List.mem_append.mp g' with g | g
      ·exact List.mem_append_left _ g
      ·exact List.mem_append_right _ (List.mem_cons_of_mem _ g)
   ·right
    refine ⟨fun h => hw (h q.1 w q.2 (List.mem_append_left _ hm) (List.mem_append_right _ (by simp))), by simp [hw]⟩
  | none =>
   have hn := look_none e
   have nd' : ((m ++ [q]).map (·.1)).Nodup := by
    rw [List.map_append, List.nodup_append]
    refine ⟨nd, by simp, fun x hx y hy => ?_⟩
    obtain ⟨z, hz, rfl⟩ := List.mem_map.mp hx
    have hy : y = q.1 := by simpa using hy
    subst hy
    intro h
    exact hn z.2 (by rw [<- h]; exact hz)
   have a' : Agree (m ++ [q]) := fun p w w' h h' => by
    rcases List.mem_append.mp h with g | g <;> rcases List.mem_append.mp h' with g' | g'
    ·exact a p w w' g g'
    ·have : (p, w') = q := by simpa using g'
     subst this
     exact absurd g (hn w)
    ·have : (p, w) = q := by simpa using g
     subst this
     exact absurd g' (hn w')
    ·have h1 : (p, w) = q := by simpa using g
     have h2 : (p, w') = q := by simpa using g'
     rw [<- h1] at h2
     cases h2; rfl
   have key : m ++ q :: L = (m ++ [q]) ++ L := by simp
   rw [key]
   simp only [Option.bind_some]
   rcases noteAll_spec L (m ++ [q]) nd' a' with ⟨h1, m', h2, h3, h4⟩ | ⟨h1, h2⟩
   ·exact .inl ⟨h1, m', h2, h3, fun x => by rw [h4 x]; simp [or_assoc]⟩
   ·exact .inr ⟨h1, h2⟩
theorem nodup_len {α : Type} [DecidableEq α] : ∀ (xs ys : List α), xs.Nodup -> (∀ x ∈ xs, x ∈ ys) -> xs.length <= ys.length
 | [], _, _, _ => Nat.zero_le _
 | x :: xs, ys, nd, h => by
  have hx := h x (by simp)
  obtain ⟨n1, n2⟩ := List.nodup_cons.mp nd
  have := nodup_len xs (ys.erase x) n2 fun y hy => (List.mem_erase_of_ne (fun z => n1 (by rw [<- z]; exact hy))).mpr (h y (List.mem_cons_of_mem _ hy))
  rw [List.length_erase_of_mem hx] at this
  have hp : 0 < ys.length := List.length_pos_of_mem hx
  simp only [List.length_cons]
  omega
theorem nodup_of_map {α β : Type} (f : α -> β) : ∀ {xs : List α}, (xs.map f).Nodup -> xs.Nodup
 | [], _ => List.nodup_nil
 | x :: xs, h => by
  rw [List.map_cons, List.nodup_cons] at h
  exact List.nodup_cons.mpr ⟨fun hx => h.1 (List.mem_map.mpr ⟨x, hx, rfl⟩), nodup_of_map f h.2⟩
theorem note_two {L L' : List PW} (h : ∀ q, q ∈ L ↔ q ∈ L') : (noteAll [] L = none /\ noteAll [] L' = none) \/ ∃ m m', noteAll [] L = some m /\ noteAll [] L' = some m' /\ (m.map (·.1)).Nodup /\ (m'.map (·.1)).Nodup /\ m.length = m'.length /\ ∀ q, q ∈ m ↔ q ∈ m' := by
 have ag : Agree L ↔ Agree L' := ⟨fun a p w w' x y => a p w w' ((h _).mpr x) ((h _).mpr y), fun a p w w' x y => a p w w' ((h _).mp x) ((h _).mp y)⟩
 have a0 : Agree [] := fun _ _ _ x => nomatch x
 rcases noteAll_spec L [] (by simp) a0 with ⟨h1, m, h2, h3, h4⟩ | ⟨h1, h2⟩
 ·rcases noteAll_spec L' [] (by simp) a0 with ⟨g1, m', g2, g3, g4⟩ | ⟨g1, g2⟩
  ·have hm : ∀ q, q ∈ m ↔ q ∈ m' := fun q => by rw [h4 q, g4 q]; simp [h q]
   have n1 : m.Nodup := nodup_of_map _ h3
   have n2 : m'.Nodup := nodup_of_map _ g3
   exact .inr ⟨m, m', h2, g2, h3, g3, Nat.le_antisymm (nodup_len m m' n1 fun q hq => (hm q).mp hq) (nodup_len m' m n2 fun q hq => (hm q).mpr hq), hm⟩
  ·exact absurd (ag.mp (by simpa using h1)) (by simpa using g1)
 ·rcases noteAll_spec L' [] (by simp) a0 with ⟨g1, m', g2, g3, g4⟩ | ⟨g1, g2⟩
  ·exact absurd (ag.mpr (by simpa using g1)) (by simpa using h1)
  ·exact .inl ⟨h2, g2⟩
noncomputable def kks (m : List PW) : List Key := m.map fun q => Sum.inr q.1
noncomputable def vvs (m : List PW) : List D := m.map fun q => .int q.2
theorem valD_look (p : Str) : ∀ m : List PW, valD (kks m) (vvs m) (.inr p) = (look m p).map .int
 | [] => rfl
 | q :: m => by
  have ih := valD_look p m
  unfold valD look kks vvs at *
  simp only [List.map_cons, List.zip_cons_cons, List.find?_cons]
  by_cases h : q.1 = p
  ·simp [h]
  ·have h2 : ¬ (Sum.inr q.1 : Key) = Sum.inr p := fun z => h (Sum.inr.inj z)
   simp only [h, h2, decide_false]
   exact ih
theorem kks_mem {m : List PW} {p : Str} (h : look m p = none) : (Sum.inr p : Key) ∉ kks m := fun z => by
 obtain ⟨q, hq, e⟩ := List.mem_map.mp z
 have : q.1 = p := Sum.inr.inj e
 exact look_none h q.2 (by rw [<- this]; exact hq)
theorem putVals_new {k : Key} {x : D} : ∀ {ks : List Key} {ds : List D}, ks.length = ds.length -> k ∉ ks -> putVals ks ds k x = ds ++ [x]
 | [], [], _, _ => rfl
 | k' :: ks, d :: ds, hl, h => by
  have h1 : k' ≠ k := fun z => h (by simp [z])
  have h2 : k ∉ ks := fun z => h (List.mem_cons_of_mem _ z)
  unfold putVals
  simp [h1, putVals_new (x := x) (by simpa using hl) h2]
noncomputable def enW (m : List PW) (o : Option Addr) (p : Str) (w : Int) : En := [some (.pv (.dic (kks m) (vvs m)) o), some (.sh (.str p)), some (.sh (.int w))]
theorem setd_look {m : List PW} {o : Option Addr} {p : Str} {w : Int} (hl : m.length <= 1000) : xSetd 0 (fVar 1) (fVar 2) (enW m o p w) = some (match look m p with | some y => (.int y, enW m o p w) | none => (.int w, enW (m ++ [(p, w)]) o p w)) := by
 have hl' : (vvs m).length < sizeLine := by unfold vvs; rw [List.length_map]; exact nlL hl (by decide)
 unfold xSetd enW
 simp only [List.getElem?_cons_zero, fVar, List.getElem?_cons_succ, Option.bind_some, keyD]
 rw [if_pos hl', valD_look]
 cases e : look m p with
 | some y => rfl
 | none =>
  have hk := kks_mem e
  simp only [Option.map_none]
  have h1 : putKeys (kks m) (.inr p) = kks (m ++ [(p, w)]) := by unfold putKeys; rw [if_neg hk]; simp [kks]
  have h2 : putVals (kks m) (vvs m) (.inr p) (.int w) = vvs (m ++ [(p, w)]) := by rw [putVals_new (by simp [kks, vvs]) hk]; simp [vvs]
  rw [h1, h2]
  rfl
theorem ne_int (a b : Int) : neE (.int a) (.int b) = some (.bl (!decide (a = b))) := by
 have : neE (.int a) (.int b) = some (.bl (!decide (V.int a = V.int b))) := rfl
 rw [this]
 by_cases h : a = b
 ·simp [h]
 ·have : ¬ V.int a = V.int b := fun z => h (V.int.inj z)
  simp [h, this]
noncomputable def Fmt (p : Str) : Prop := p.length <= sizeLine /\ (Str.empty ++ p).length <= sizeLine /\ (Str.empty ++ p ++ (" has two numbers of places" : Str)).length <= sizeLine
theorem nw_run {m : List PW} {o : Option Addr} {p : Str} {w : Int} (hl : m.length <= 1000) (hp : Fmt p) :
  fb_note_width (enW m o p w) = match noteP m (p, w) with | some m' => some (.nx (enW m' o p w)) | none => some (.ex "Unlike" (enW m o p w)) := by
 unfold fb_note_width
 show (match (sIfX (xCmp neE (xSetd 0 (fVar 1) (fVar 2)) (fVarB 2)) _ sNil (enW m o p w)) with | some (.nx δ') => sNil δ' | o => o) = _
 unfold sIfX xCmp
 rw [setd_look hl]
 have hb : ∀ m', fVarB 2 (enW m' o p w) = some (.int w) := fun m' => rfl
 unfold noteP
 cases e : look m p with
 | some y =>
  simp only [Option.bind_some, hb, ne_int]
  by_cases hw : y = w
  ·subst hw
   simp only [decide_true, Bool.not_true, Bool.false_eq_true, if_false, if_true]
   rfl
  ·simp only [hw, decide_false, Bool.not_false, if_true, if_false]
   have hr : sRaise "Unlike" (fCons (fFmt (fVar 1) " has two numbers of places") fNil) (enW m o p w) = some (.ex "Unlike" (enW m o p w)) := by
    have hf : fFmt (fVar 1) " has two numbers of places" (enW m o p w) = some (.str (Str.empty ++ p ++ (" has two numbers of places" : Str))) := by
     unfold fFmt
     show (if _ then _ else _) = _
     exact if_pos hp
    unfold sRaise fCons
    simp only [hf, Option.bind_some, fNil]
    exact if_pos (show 1 <= sizeLine by decide)
   unfold sSeq
   rw [hr]
 | none =>
  simp only [Option.bind_some, hb, ne_int, decide_true, Bool.not_true, Bool.false_eq_true, if_false]
  rfl
theorem fmt_p : Fmt "p" := ⟨by decide +kernel, by decide +kernel, by decide +kernel⟩
theorem fmt_q : Fmt "q" := ⟨by decide +kernel, by decide +kernel, by decide +kernel⟩
theorem fmt_r : Fmt "r" := ⟨by decide +kernel, by decide +kernel, by decide +kernel⟩
theorem fmt_told : Fmt "told" := ⟨by decide +kernel, by decide +kernel, by decide +kernel⟩
theorem M_nw (m : List PW) (p : Str) (w : Int) (a b c : Addr) : M_note_width (mkS [.o (.dic (kks m) (vvs m)), .v (.str p), .v (.int w)] [a, b, c]) = (match fb_note_width (enW m (some a) p w) with | some (.rt r δ) => some (r, δ.take 3) | some (.nx δ) => some (.sh .non, δ.take 3) | _ => none) := by
 unfold M_note_width runM
 exact if_pos rfl
theorem Mx_nw (m : List PW) (p : Str) (w : Int) (a b c : Addr) : Mx_note_width (mkS [.o (.dic (kks m) (vvs m)), .v (.str p), .v (.int w)] [a, b, c]) = (match fb_note_width (enW m (some a) p w) with | some (.ex c _) => some c | _ => none) := by
 unfold Mx_note_width runE
 exact if_pos rfl
theorem nw_norm {m m' : List PW} {p : Str} {w : Int} (hl : m.length <= 1000) (hp : Fmt p) (e : noteP m (p, w) = some m') : outM M_note_width [.o (.dic (kks m) (vvs m)), .v (.str p), .v (.int w)] = some (.sh .non, [some (.dic (kks m') (vvs m')), none, none]) := by
 refine outM_eq fun as ha => ?_
 match as, ha with
 | [a, b, c], _ =>
  refine ⟨[some (.pv (.dic (kks m') (vvs m')) (some a)), some (.sh (.str p)), some (.sh (.int w))], ?_, ?_⟩
  ·have := nw_run (o := some a) (m := m) (w := w) hl hp
   rw [e] at this
   rw [M_nw, this]
   rfl
  ·exact ⟨a, [b, c], _, _, _, rfl, rfl, rfl, b, [c], _, _, _, rfl, rfl, rfl, c, [], _, _, _, rfl, rfl, rfl, rfl⟩
theorem nw_exc {m : List PW} {p : Str} {w : Int} (hl : m.length <= 1000) (hp : Fmt p) (e : noteP m (p, w) = none) : outE Mx_note_width [.o (.dic (kks m) (vvs m)), .v (.str p), .v (.int w)] = some "Unlike" := by
 refine outE_eq fun as ha => ?_
 match as, ha with
 | [a, b, c], _ =>
  have := nw_run (o := some a) (m := m) (w := w) hl hp
  rw [e] at this
  rw [Mx_nw, this]
theorem nw_exc_none {m : List PW} {p : Str} {w : Int} (hl : m.length <= 1000) (hp : Fmt p) (e : noteP m (p, w) = none) : outM M_note_width [.o (.dic (kks m) (vvs m)), .v (.str p), .v (.int w)] = none := by
 unfold outM
 rw [dif_neg]
 rintro ⟨r, hr⟩
 obtain ⟨res, h1, _⟩ := hr [0, 0, 0] rfl
 have := nw_run (o := some 0) (m := m) (w := w) hl hp
 rw [e] at this
 rw [M_nw, this] at h1
 cases h1
noncomputable def env6 (r t : D) (m : List PW) (o : Option Addr) (x3 x4 x5 : Option Sl) : En := [some (.sh r), some (.sh t), some (.pv (.dic (kks m) (vvs m)) o), x3, x4, x5]
noncomputable def noteS (f g : FE) : FS := sOr (sDrop (xCallM M_note_width [.own 2, .val f, .val g])) (sDropE Mx_note_width [.own 2, .val f, .val g])
noncomputable def bare6 : En := [none, none, none, none, none, none]
theorem st_note {r t : D} {m : List PW} {o : Option Addr} {x3 x4 x5 : Option Sl} {f g : FE} {p : Str} {w : Int} (hl : m.length <= 1000) (hp : Fmt p) (hf : f (env6 r t m o x3 x4 x5) = some (.str p)) (hg : g (env6 r t m o x3 x4 x5) = some (.int w)) :
  noteS f g (env6 r t m o x3 x4 x5) = match noteP m (p, w) with | some m' => some (.nx (env6 r t m' o x3 x4 x5)) | none => some (.ex "Unlike" bare6) := by
 have hag : agOf [.own 2, .val f, .val g] (env6 r t m o x3 x4 x5) = some [.o (.dic (kks m) (vvs m)), .v (.str p), .v (.int w)] := by
  unfold agOf agOf agOf agOf
  rw [hf, hg]
  rfl
 unfold noteS sOr sDrop sDropE xCallM
 simp only [hag, Option.bind_some]
 cases e : noteP m (p, w) with
 | some m' =>
  rw [nw_norm hl hp e]
  simp only [Option.bind_some, Option.map_some, Option.some_or]
  congr 2
 | none =>
  rw [nw_exc_none hl hp e, nw_exc hl hp e]
  rfl
noncomputable def LitP (l : D) (q : List PW) : Prop := (∃ k p ts, l = .tup [.str k, .str p, .tup ts] /\ (k = "yes" \/ k = "not") /\ q = [(p, (ts.length : Int))] /\ Fmt p) \/ (∃ k a b, l = .tup [.str k, a, b] /\ (k = "under" \/ k = "unlike") /\ q = [])
theorem has_pred {l : D} {q : List PW} (h : LitP l q) : M_has_predicate [l] = some (.sh (.bl (!q.isEmpty))) := by
 rcases h with ⟨k, p, ts, rfl, rfl | rfl, rfl, _⟩ | ⟨k, a, b, rfl, rfl | rfl, rfl⟩ <;> rfl
theorem noteAll_one (m : List PW) (q : PW) : noteAll m [q] = noteP m q := by
 unfold noteAll
 cases noteP m q <;> rfl
theorem noteAll_app : ∀ (L L' m : List PW), noteAll m (L ++ L') = (noteAll m L).bind fun m' => noteAll m' L'
 | [], L', m => rfl
 | q :: L, L', m => by
  show (noteP m q).bind _ = ((noteP m q).bind _).bind _
  cases noteP m q with
  | none => rfl
  | some m1 => exact noteAll_app L L' m1
theorem noteAll_len : ∀ (L m m' : List PW), noteAll m L = some m' -> m'.length <= m.length + L.length
 | [], m, m', h => by cases h; simp
 | q :: L, m, m', h => by
  unfold noteAll at h
  obtain ⟨m1, h1, h2⟩ := obE h
  have h3 := noteAll_len L m1 m' h2
  have h4 : m1.length <= m.length + 1 := by
   unfold noteP at h1
   split at h1
   ·split at h1
    ·cases h1; omega
    ·cases h1
   ·cases h1; simp
  simp only [List.length_cons]
  omega
noncomputable def litF : FS := sSeq (sIf (fB (fPub (fCallR M_has_predicate (fCons (fVar 4) fNil)))) (sSeq (noteS (f2 ixA (fVarB 4) (fC (.int 1))) (fCallB lenD (fCons (f2 ixA (fVarB 4) (fC (.int 2))) fNil))) sNil) sNil) sNil
theorem lit_step {r t l : D} {m : List PW} {o : Option Addr} {x3 x5 : Option Sl} {q : List PW} (hl : m.length <= 1000) (h : LitP l q) :
  litF (env6 r t m o x3 (some (.sh l)) x5) = match noteAll m q with | some m' => some (.nx (env6 r t m' o x3 (some (.sh l)) x5)) | none => some (.ex "Unlike" bare6) := by
 have hp : fB (fPub (fCallR M_has_predicate (fCons (fVar 4) fNil))) (env6 r t m o x3 (some (.sh l)) x5) = some (!q.isEmpty) := by
  show (match ((M_has_predicate [l]).map Rs.d) with | some (.bl b) => some b | _ => none) = _
  rw [has_pred h]
  rfl
 unfold litF sSeq sIf
 rw [hp]
 rcases h with ⟨k, p, ts, rfl, _, rfl, hf⟩ | ⟨k, a, b, rfl, _, rfl⟩
 ·simp only [Option.bind_some, List.isEmpty_cons, Bool.not_false, if_true]
  rw [st_note (p := p) (w := (ts.length : Int)) hl hf rfl rfl, noteAll_one]
  cases noteP m (p, (ts.length : Int)) <;> rfl
 ·rfl
theorem lits_run {r t : D} {o : Option Addr} {x3 x5 : Option Sl} : ∀ (ls : List (D × List PW)) (m : List PW) (x4 : Option Sl), (∀ l ∈ ls, LitP l.1 l.2) -> m.length + (ls.map (·.2)).flatten.length <= 1000 ->
  (noteAll m (ls.map (·.2)).flatten = none -> forL 4 litF (ls.map (·.1)) (env6 r t m o x3 x4 x5) = some (.ex "Unlike" bare6)) /\
  ∀ m', noteAll m (ls.map (·.2)).flatten = some m' -> ∃ x4', forL 4 litF (ls.map (·.1)) (env6 r t m o x3 x4 x5) = some (.nx (env6 r t m' o x3 x4' x5))
 | [], m, x4, _, _ => ⟨(fun h => by cases h), (fun m' h => by cases h; exact ⟨x4, rfl⟩)⟩
 | l :: ls, m, x4, hl, hn => by
  simp only [List.map_cons, List.flatten_cons, List.length_append] at hn ⊢
  have st := lit_step (r := r) (t := t) (o := o) (x3 := x3) (x5 := x5) (m := m) (by omega) (hl l (by simp))
  have e0 : (env6 r t m o x3 x4 x5).set 4 (some (.sh l.1)) = env6 r t m o x3 (some (.sh l.1)) x5 := rfl
  rw [noteAll_app]
  unfold forL
  rw [e0, st]
  cases e : noteAll m l.2 with
  | none => exact ⟨(fun _ => rfl), (fun m' h => by cases h)⟩
  | some m1 =>
   have h1 := noteAll_len _ _ _ e
   exact lits_run ls m1 (some (.sh l.1)) (fun l' h' => hl l' (List.mem_cons_of_mem _ h')) (by omega)
noncomputable def RuleP (rd : D) (q : List PW) : Prop := ∃ (h : Str) (ts : List D) (ls : List (D × List PW)), rd = .tup [.str h, .tup ts, .tup (ls.map (·.1))] /\ Fmt h /\ (∀ l ∈ ls, LitP l.1 l.2) /\ q = (h, (ts.length : Int)) :: (ls.map (·.2)).flatten
noncomputable def ruleF : FS := sSeq (noteS (f2 ixA (fVarB 3) (fC (.int 0))) (fCallB lenD (fCons (f2 ixA (fVarB 3) (fC (.int 1))) fNil))) (sSeq (sFor 4 (oSeq (f2 ixA (fVarB 3) (fC (.int 2)))) litF) sNil)
theorem rule_step {r t rd : D} {m : List PW} {o : Option Addr} {x4 x5 : Option Sl} {q : List PW} (h : RuleP rd q) (hl : m.length + q.length <= 1000) :
  (noteAll m q = none -> ruleF (env6 r t m o (some (.sh rd)) x4 x5) = some (.ex "Unlike" bare6)) /\
  ∀ m', noteAll m q = some m' -> ∃ x4', ruleF (env6 r t m o (some (.sh rd)) x4 x5) = some (.nx (env6 r t m' o (some (.sh rd)) x4' x5)) := by
 obtain ⟨hd, ts, ls, rfl, hf, hls, rfl⟩ := h
 simp only [List.length_cons] at hl
 unfold ruleF
 unfold sSeq
 rw [st_note (p := hd) (w := (ts.length : Int)) (by omega) hf rfl rfl]
 unfold noteAll
 cases e : noteP m (hd, (ts.length : Int)) with
 | none => exact ⟨(fun _ => rfl), (fun m' h => by cases h)⟩
 | some m1 =>
  have h1 : m1.length <= m.length + 1 := by have := noteAll_len [(hd, (ts.length : Int))] m m1 (by rw [noteAll_one]; exact e); simpa using this
  obtain ⟨k1, k2⟩ := lits_run (r := r) (t := t) (o := o) (x3 := some (.sh (.tup [.str hd, .tup ts, .tup (ls.map (·.1))]))) (x5 := x5) ls m1 x4 hls (by omega)
  have eF : sFor 4 (oSeq (f2 ixA (fVarB 3) (fC (.int 2)))) litF (env6 r t m1 o (some (.sh (.tup [.str hd, .tup ts, .tup (ls.map (·.1))]))) x4 x5) = forL 4 litF (ls.map (·.1)) (env6 r t m1 o (some (.sh (.tup [.str hd, .tup ts, .tup (ls.map (·.1))]))) x4 x5) := rfl
  simp only [Option.bind_some]
  refine ⟨fun h => ?_, fun m' h => ?_⟩
  ·rw [eF, k1 h]
  ·obtain ⟨x4', h2⟩ := k2 m' h
   exact ⟨x4', by rw [eF, h2]; rfl⟩
theorem rules_run {r t : D} {o : Option Addr} {x5 : Option Sl} : ∀ (rs : List (D × List PW)) (m : List PW) (x3 x4 : Option Sl), (∀ x ∈ rs, RuleP x.1 x.2) -> m.length + (rs.map (·.2)).flatten.length <= 1000 ->
  (noteAll m (rs.map (·.2)).flatten = none -> forL 3 ruleF (rs.map (·.1)) (env6 r t m o x3 x4 x5) = some (.ex "Unlike" bare6)) /\
  ∀ m', noteAll m (rs.map (·.2)).flatten = some m' -> ∃ x3' x4', forL 3 ruleF (rs.map (·.1)) (env6 r t m o x3 x4 x5) = some (.nx (env6 r t m' o x3' x4' x5))
 | [], m, x3, x4, _, _ => ⟨(fun h => by cases h), (fun m' h => by cases h; exact ⟨x3, x4, rfl⟩)⟩
 | l :: ls, m, x3, x4, hl, hn => by
  simp only [List.map_cons, List.flatten_cons, List.length_append] at hn ⊢
  obtain ⟨s1, s2⟩ := rule_step (r := r) (t := t) (o := o) (x4 := x4) (x5 := x5) (m := m) (hl l (by simp)) (by omega)
  have e0 : (env6 r t m o x3 x4 x5).set 3 (some (.sh l.1)) = env6 r t m o (some (.sh l.1)) x4 x5 := rfl
  rw [noteAll_app]
  unfold forL
  rw [e0]
  cases e : noteAll m l.2 with
  | none => rw [s1 e]; exact ⟨(fun _ => rfl), (fun m' h => by cases h)⟩
  | some m1 =>
   have h1 := noteAll_len _ _ _ e
   obtain ⟨x4', s3⟩ := s2 m1 e
   rw [s3]
   exact rules_run ls m1 (some (.sh l.1)) x4' (fun l' h' => hl l' (List.mem_cons_of_mem _ h')) (by omega)
noncomputable def FactP (fd : D) (q : PW) : Prop := ∃ (h : Str) (ts : List D), fd = .tup [.str h, .tup ts] /\ Fmt h /\ q = (h, (ts.length : Int))
noncomputable def factF : FS := sSeq (noteS (f2 ixA (fVarB 5) (fC (.int 0))) (fCallB lenD (fCons (f2 ixA (fVarB 5) (fC (.int 1))) fNil))) sNil
theorem facts_run {r t : D} {o : Option Addr} {x3 x4 : Option Sl} : ∀ (fs : List (D × PW)) (m : List PW) (x5 : Option Sl), (∀ x ∈ fs, FactP x.1 x.2) -> m.length + fs.length <= 1000 ->
  (noteAll m (fs.map (·.2)) = none -> forL 5 factF (fs.map (·.1)) (env6 r t m o x3 x4 x5) = some (.ex "Unlike" bare6)) /\
  ∀ m', noteAll m (fs.map (·.2)) = some m' -> ∃ x5', forL 5 factF (fs.map (·.1)) (env6 r t m o x3 x4 x5) = some (.nx (env6 r t m' o x3 x4 x5'))
 | [], m, x5, _, _ => ⟨(fun h => by cases h), (fun m' h => by cases h; exact ⟨x5, rfl⟩)⟩
 | l :: ls, m, x5, hl, hn => by
  simp only [List.map_cons, List.length_cons] at hn ⊢
  obtain ⟨hd, ts, h1, h2, h3⟩ := hl l (by simp)
  have e0 : (env6 r t m o x3 x4 x5).set 5 (some (.sh l.1)) = env6 r t m o x3 x4 (some (.sh l.1)) := rfl
  have st : factF (env6 r t m o x3 x4 (some (.sh l.1))) = match noteP m l.2 with | some m' => some (.nx (env6 r t m' o x3 x4 (some (.sh l.1)))) | none => some (.ex "Unlike" bare6) := by
   unfold factF sSeq
   rw [h1, h3, st_note (p := hd) (w := (ts.length : Int)) (by omega) h2 rfl rfl]
   cases noteP m (hd, (ts.length : Int)) <;> rfl
  unfold forL noteAll
  rw [e0, st]
  cases e : noteP m l.2 with
  | none => exact ⟨(fun _ => rfl), (fun m' h => by cases h)⟩
  | some m1 =>
   have h4 : m1.length <= m.length + 1 := by have := noteAll_len [l.2] m m1 (by rw [noteAll_one]; exact e); simpa using this
   exact facts_run ls m1 (some (.sh l.1)) (fun l' h' => hl l' (List.mem_cons_of_mem _ h')) (by omega)
theorem fb_widths : fb_widths_of = sSeq (sSetR 2 fDicR) (sSeq (sForD true 3 0 ruleF) (sSeq (sFor 5 (oSeq (fVar 1)) factF) (sSeq (sRetV 2) sNil))) := rfl
theorem widths_two (ks : List Key) (rs : List (D × List PW)) (fs : List (D × PW)) (h1 : ∀ x ∈ rs, RuleP x.1 x.2) (h2 : ∀ x ∈ fs, FactP x.1 x.2) (hn : (rs.map (·.2)).flatten.length + fs.length <= 1000) :
  (noteAll [] ((rs.map (·.2)).flatten ++ fs.map (·.2)) = none -> Mx_widths_of [.sh (.dic ks (rs.map (·.1))), .sh (.lst (fs.map (·.1)))] = some ("Unlike" : Str) /\ M_widths_of [.dic ks (rs.map (·.1)), .lst (fs.map (·.1))] = none) /\
  ∀ m, noteAll [] ((rs.map (·.2)).flatten ++ fs.map (·.2)) = some m -> M_widths_of [.dic ks (rs.map (·.1)), .lst (fs.map (·.1))] = some (.fr (.dic (kks m) (vvs m))) := by
 have key : (noteAll [] ((rs.map (·.2)).flatten ++ fs.map (·.2)) = none -> fb_widths_of [some (.sh (.dic ks (rs.map (·.1)))), some (.sh (.lst (fs.map (·.1)))), none, none, none, none] = some (.ex "Unlike" bare6)) /\
   ∀ m, noteAll [] ((rs.map (·.2)).flatten ++ fs.map (·.2)) = some m -> ∃ δ, fb_widths_of [some (.sh (.dic ks (rs.map (·.1)))), some (.sh (.lst (fs.map (·.1)))), none, none, none, none] = some (.rt (.fr (.dic (kks m) (vvs m))) δ) := by
  rw [fb_widths, noteAll_app]
  obtain ⟨k1, k2⟩ := rules_run (r := .dic ks (rs.map (·.1))) (t := .lst (fs.map (·.1))) (o := none) (x5 := none) rs [] none none h1 (by simpa using Nat.le_trans (Nat.le_add_right _ _) hn)
  unfold sSeq
  have e1 : sSetR 2 fDicR [some (.sh (.dic ks (rs.map (·.1)))), some (.sh (.lst (fs.map (·.1)))), none, none, none, none] = some (.nx (env6 (.dic ks (rs.map (·.1))) (.lst (fs.map (·.1))) [] none none none none)) := rfl
  have e2 : ∀ m o x3 x4 x5, sForD true 3 0 ruleF (env6 (.dic ks (rs.map (·.1))) (.lst (fs.map (·.1))) m o x3 x4 x5) = forL 3 ruleF (rs.map (·.1)) (env6 (.dic ks (rs.map (·.1))) (.lst (fs.map (·.1))) m o x3 x4 x5) := fun _ _ _ _ _ => rfl
  have e3 : ∀ m o x3 x4 x5, sFor 5 (oSeq (fVar 1)) factF (env6 (.dic ks (rs.map (·.1))) (.lst (fs.map (·.1))) m o x3 x4 x5) = forL 5 factF (fs.map (·.1)) (env6 (.dic ks (rs.map (·.1))) (.lst (fs.map (·.1))) m o x3 x4 x5) := fun _ _ _ _ _ => rfl
  rw [e1]
  dsimp only
  rw [e2]
  cases e : noteAll [] (rs.map (·.2)).flatten with
  | none => rw [k1 e]; exact ⟨(fun _ => rfl), (fun m h => by cases h)⟩
  | some m1 =>
   obtain ⟨x3, x4, s3⟩ := k2 m1 e
   rw [s3]
   dsimp only
   rw [e3]
   have hl := noteAll_len _ _ _ e
   obtain ⟨g1, g2⟩ := facts_run (r := .dic ks (rs.map (·.1))) (t := .lst (fs.map (·.1))) (o := none) (x3 := x3) (x4 := x4) fs m1 none h2 (by rw [List.length_nil, Nat.zero_add] at hl; omega)
   simp only [Option.bind_some]
   refine ⟨fun h => ?_, fun m h => ?_⟩
   ·rw [g1 h]
   ·obtain ⟨x5, s5⟩ := g2 m h
    rw [s5]
    exact ⟨_, rfl⟩
 refine ⟨fun h => ⟨?_, ?_⟩, fun m h => ?_⟩
 ·have := key.1 h
  unfold Mx_widths_of runE
  show (match fb_widths_of [some (.sh (.dic ks (rs.map (·.1)))), some (.sh (.lst (fs.map (·.1)))), none, none, none, none] with | some (.ex c _) => some c | _ => none) = _
  rw [this]
 ·have := key.1 h
  unfold M_widths_of runF
  show (match fb_widths_of [some (.sh (.dic ks (rs.map (·.1)))), some (.sh (.lst (fs.map (·.1)))), none, none, none, none] with | some (.rt d _) => some d | some (.nx _) => some (.sh .non) | _ => none) = _
  rw [this]
 ·obtain ⟨δ, this⟩ := key.2 m h
  unfold M_widths_of runF
  show (match fb_widths_of [some (.sh (.dic ks (rs.map (·.1)))), some (.sh (.lst (fs.map (·.1)))), none, none, none, none] with | some (.rt d _) => some d | some (.nx _) => some (.sh .non) | _ => none) = _
  rw [this]
noncomputable def env8 (r t : D) (x2 x3 x4 : Option Sl) (m : List PW) (o : Option Addr) (x6 x7 : Option Sl) : En := [some (.sh r), some (.sh t), x2, x3, x4, some (.pv (.dic (kks m) (vvs m)) o), x6, x7]
noncomputable def pairF : FS := sSeq (sIfX (xCmp (neE) (xSetd 5 (fVar 6) (fCallB lenD (fCons (fVarB 7) fNil))) (fCallB lenD (fCons (fVarB 7) fNil))) (sSeq (sRet (fSh (fC .non))) sNil) sNil) sNil
theorem setd8 {r t : D} {x2 x3 x4 : Option Sl} {m : List PW} {o : Option Addr} {p : Str} {ts : List D} (hl : m.length <= 1000) :
  xSetd 5 (fVar 6) (fCallB lenD (fCons (fVarB 7) fNil)) (env8 r t x2 x3 x4 m o (some (.sh (.str p))) (some (.sh (.tup ts)))) =
   some (match look m p with | some y => (.int y, env8 r t x2 x3 x4 m o (some (.sh (.str p))) (some (.sh (.tup ts)))) | none => (.int ts.length, env8 r t x2 x3 x4 (m ++ [(p, (ts.length : Int))]) o (some (.sh (.str p))) (some (.sh (.tup ts))))) := by
 have hl' : (vvs m).length < sizeLine := by unfold vvs; rw [List.length_map]; exact nlL hl (by decide)
 have hf : fCallB lenD (fCons (fVarB 7) fNil) (env8 r t x2 x3 x4 m o (some (.sh (.str p))) (some (.sh (.tup ts)))) = some (.int ts.length) := rfl
 unfold xSetd
 show ((fVar 6 (env8 r t x2 x3 x4 m o (some (.sh (.str p))) (some (.sh (.tup ts))))).bind fun kd => (fCallB lenD (fCons (fVarB 7) fNil) (env8 r t x2 x3 x4 m o (some (.sh (.str p))) (some (.sh (.tup ts))))).bind fun d => (keyD kd).bind fun k => if (vvs m).length < sizeLine then some (match valD (kks m) (vvs m) k with
   | some y => (y, env8 r t x2 x3 x4 m o (some (.sh (.str p))) (some (.sh (.tup ts))))
   | none => (d, (env8 r t x2 x3 x4 m o (some (.sh (.str p))) (some (.sh (.tup ts)))).set 5 (some (.pv (.dic (putKeys (kks m) k) (putVals (kks m) (vvs m) k d)) o)))) else none) = _
 rw [hf]
 show (if (vvs m).length < sizeLine then some (match valD (kks m) (vvs m) (.inr p) with
   | some y => (y, env8 r t x2 x3 x4 m o (some (.sh (.str p))) (some (.sh (.tup ts))))
   | none => (.int ts.length, (env8 r t x2 x3 x4 m o (some (.sh (.str p))) (some (.sh (.tup ts)))).set 5 (some (.pv (.dic (putKeys (kks m) (.inr p)) (putVals (kks m) (vvs m) (.inr p) (.int ts.length))) o)))) else none) = _
 rw [if_pos hl', valD_look]
 cases e : look m p with
 | some y => rfl
 | none =>
  have hk := kks_mem e
  have h1 : putKeys (kks m) (.inr p) = kks (m ++ [(p, (ts.length : Int))]) := by unfold putKeys; rw [if_neg hk]; simp [kks]
  have h2 : putVals (kks m) (vvs m) (.inr p) (.int (ts.length : Int)) = vvs (m ++ [(p, (ts.length : Int))]) := by rw [putVals_new (by simp [kks, vvs]) hk]; simp [vvs]
  simp only [Option.map_none]
  rw [h1, h2]
  rfl
theorem pair_step {r t : D} {x2 x3 x4 : Option Sl} {m : List PW} {o : Option Addr} {p : Str} {ts : List D} (hl : m.length <= 1000) :
  pairF (env8 r t x2 x3 x4 m o (some (.sh (.str p))) (some (.sh (.tup ts)))) = match noteP m (p, (ts.length : Int)) with | some m' => some (.nx (env8 r t x2 x3 x4 m' o (some (.sh (.str p))) (some (.sh (.tup ts))))) | none => some (.rt (.sh .non) (env8 r t x2 x3 x4 m o (some (.sh (.str p))) (some (.sh (.tup ts))))) := by
 unfold pairF
 show (match (sIfX (xCmp neE (xSetd 5 (fVar 6) (fCallB lenD (fCons (fVarB 7) fNil))) (fCallB lenD (fCons (fVarB 7) fNil))) _ sNil (env8 r t x2 x3 x4 m o (some (.sh (.str p))) (some (.sh (.tup ts))))) with | some (.nx δ') => sNil δ' | o => o) = _
 unfold sIfX xCmp
 rw [setd8 hl]
 have hb : ∀ m', fCallB lenD (fCons (fVarB 7) fNil) (env8 r t x2 x3 x4 m' o (some (.sh (.str p))) (some (.sh (.tup ts)))) = some (.int ts.length) := fun m' => rfl
 unfold noteP
 cases e : look m p with
 | some y =>
  simp only [Option.bind_some, hb, ne_int]
  by_cases hw : y = (ts.length : Int)
  ·subst hw
   simp only [decide_true, Bool.not_true, Bool.false_eq_true, if_false, if_true]
   rfl
  ·simp only [hw, decide_false, Bool.not_false, if_true, if_false]
   rfl
 | none =>
  simp only [Option.bind_some, hb, ne_int, decide_true, Bool.not_true, Bool.false_eq_true, if_false]
  rfl
theorem pairs_run {r t : D} {x2 x3 x4 : Option Sl} {o : Option Addr} : ∀ (fs : List (D × PW)) (m : List PW) (x6 x7 : Option Sl), (∀ x ∈ fs, FactP x.1 x.2) -> m.length + fs.length <= 1000 -> ∃ ps, pairsD (fs.map (·.1)) = some ps /\
  (noteAll m (fs.map (·.2)) = none -> ∃ δ, forL2 6 7 pairF ps (env8 r t x2 x3 x4 m o x6 x7) = some (.rt (.sh .non) δ)) /\
  ∀ m', noteAll m (fs.map (·.2)) = some m' -> ∃ x6' x7', forL2 6 7 pairF ps (env8 r t x2 x3 x4 m o x6 x7) = some (.nx (env8 r t x2 x3 x4 m' o x6' x7'))
 | [], m, x6, x7, _, _ => ⟨[], rfl, (fun h => by cases h), (fun m' h => by cases h; exact ⟨x6, x7, rfl⟩)⟩
 | l :: ls, m, x6, x7, hl, hn => by
  simp only [List.map_cons, List.length_cons] at hn ⊢
  obtain ⟨hd, ts, h1, h2, h3⟩ := hl l (by simp)
  have st := pair_step (r := r) (t := t) (x2 := x2) (x3 := x3) (x4 := x4) (o := o) (m := m) (p := hd) (ts := ts) (by omega)
  rw [h1, h3]
  unfold noteAll
  cases e : noteP m (hd, (ts.length : Int)) with
  | none =>
   obtain ⟨ps, q1, _, _⟩ := pairs_run (r := r) (t := t) (x2 := x2) (x3 := x3) (x4 := x4) (o := o) ls [] x6 x7 (fun l' h' => hl l' (List.mem_cons_of_mem _ h')) (by simp; omega)
   refine ⟨(.str hd, .tup ts) :: ps, by simp [pairsD, L2.pairD, q1], fun _ => ?_, fun m' h => by cases h⟩
   unfold forL2
   show ∃ δ, (match pairF (env8 r t x2 x3 x4 m o (some (.sh (.str hd))) (some (.sh (.tup ts)))) with | some (.nx δ') => forL2 6 7 pairF ps δ' | some (.ct δ') => forL2 6 7 pairF ps δ' | some (.ex c δ') => some (.ex c δ') | some (.bk δ') => some (.nx δ') | some (.rt d δ') => some (.rt d δ') | none => none) = _
   rw [st, e]
   exact ⟨_, rfl⟩
  | some m1 =>
   have h4 : m1.length <= m.length + 1 := by have := noteAll_len [(hd, (ts.length : Int))] m m1 (by rw [noteAll_one]; exact e); simpa using this
   obtain ⟨ps, q1, q2, q3⟩ := pairs_run (r := r) (t := t) (x2 := x2) (x3 := x3) (x4 := x4) (o := o) ls m1 (some (.sh (.str hd))) (some (.sh (.tup ts))) (fun l' h' => hl l' (List.mem_cons_of_mem _ h')) (by omega)
   refine ⟨(.str hd, .tup ts) :: ps, by simp [pairsD, L2.pairD, q1], ?_⟩
   unfold forL2
   show (_ -> ∃ δ, (match pairF (env8 r t x2 x3 x4 m o (some (.sh (.str hd))) (some (.sh (.tup ts)))) with | some (.nx δ') => forL2 6 7 pairF ps δ' | some (.ct δ') => forL2 6 7 pairF ps δ' | some (.ex c δ') => some (.ex c δ') | some (.bk δ') => some (.nx δ') | some (.rt d δ') => some (.rt d δ') | none => none) = _) /\ ∀ m', _ -> ∃ x6' x7', (match pairF (env8 r t x2 x3 x4 m o (some (.sh (.str hd))) (some (.sh (.tup ts)))) with | some (.nx δ') => forL2 6 7 pairF ps δ' | some (.ct δ') => forL2 6 7 pairF ps δ' | some (.ex c δ') => some (.ex c δ') | some (.bk δ') => some (.nx δ') | some (.rt d δ') => some (.rt d δ') | none => none) = _
   rw [st, e]
   exact ⟨q2, q3⟩
noncomputable def litD (l : D × List PW) : List (D × PW) := match l.1, l.2 with | .tup [_, p, ts], [q] => [(.tup [p, ts], q)] | _, _ => []
theorem litD_snd {l : D × List PW} (h : LitP l.1 l.2) : (litD l).map (·.2) = l.2 /\ ∀ x ∈ litD l, FactP x.1 x.2 := by
 obtain ⟨d, q⟩ := l
 rcases h with ⟨k, p, ts, h1, hk, h2, hf⟩ | ⟨k, a, b, h1, hk, h2⟩
 ·dsimp only at h1 h2; subst h1 h2
  refine ⟨rfl, fun x hx => ?_⟩
  have : x = (.tup [.str p, .tup ts], (p, (ts.length : Int))) := by simpa [litD] using hx
  subst this
  exact ⟨p, ts, rfl, hf, rfl⟩
 ·dsimp only at h1 h2; subst h1 h2
  exact ⟨rfl, fun x hx => by simp [litD] at hx⟩
noncomputable def env8l (r t : D) (fs : List D) (o : Option Addr) (x3 x4 x5 x6 x7 : Option Sl) : En := [some (.sh r), some (.sh t), some (.pv (.lst fs) o), x3, x4, x5, x6, x7]
noncomputable def litG : FS := sSeq (sIf (fB (f2 (inE false) (f2 ixA (fVarB 4) (fC (.int 0))) (fTup (fCons (fC (.str "yes")) (fCons (fC (.str "not")) fNil))))) (sSeq (sApp 2 (fTup (fCons (f2 ixA (fVarB 4) (fC (.int 1))) (fCons (f2 ixA (fVarB 4) (fC (.int 2))) fNil)))) sNil) sNil) sNil
theorem litG_step {r t : D} {fs : List D} {o : Option Addr} {x3 x5 x6 x7 : Option Sl} {l : D × List PW} (h : LitP l.1 l.2) (hl : fs.length <= 1000) :
  litG (env8l r t fs o x3 (some (.sh l.1)) x5 x6 x7) = some (.nx (env8l r t (fs ++ (litD l).map (·.1)) o x3 (some (.sh l.1)) x5 x6 x7)) := by
 have hs : fs.length < sizeLine := nlL hl (by decide)
 obtain ⟨d, q⟩ := l
 rcases h with ⟨k, p, ts, h1, hk, h2, hf⟩ | ⟨k, a, b, h1, hk, h2⟩
 ·dsimp only at h1 h2; subst h1 h2
  have ha : sApp 2 (fTup (fCons (f2 ixA (fVarB 4) (fC (.int 1))) (fCons (f2 ixA (fVarB 4) (fC (.int 2))) fNil))) (env8l r t fs o x3 (some (.sh (.tup [.str k, .str p, .tup ts]))) x5 x6 x7) = some (.nx (env8l r t (fs ++ [.tup [.str p, .tup ts]]) o x3 (some (.sh (.tup [.str k, .str p, .tup ts]))) x5 x6 x7)) := by
   have hf : fTup (fCons (f2 ixA (fVarB 4) (fC (.int 1))) (fCons (f2 ixA (fVarB 4) (fC (.int 2))) fNil)) (env8l r t fs o x3 (some (.sh (.tup [.str k, .str p, .tup ts]))) x5 x6 x7) = some (.tup [.str p, .tup ts]) := rfl
   show ((fTup (fCons (f2 ixA (fVarB 4) (fC (.int 1))) (fCons (f2 ixA (fVarB 4) (fC (.int 2))) fNil)) (env8l r t fs o x3 (some (.sh (.tup [.str k, .str p, .tup ts]))) x5 x6 x7)).bind fun d => if fs.length < sizeLine then some (Out.nx ((env8l r t fs o x3 (some (.sh (.tup [.str k, .str p, .tup ts]))) x5 x6 x7).set 2 (some (.pv (.lst (fs ++ [d])) o)))) else none) = _
   rw [hf, Option.bind_some, if_pos hs]
   rfl
  unfold litG sSeq sIf
  rcases hk with rfl | rfl
  ·show (match (match sApp 2 _ (env8l r t fs o x3 (some (.sh (.tup [.str "yes", .str p, .tup ts]))) x5 x6 x7) with | some (.nx δ') => sNil δ' | o => o) with | some (.nx δ') => sNil δ' | o => o) = _
   rw [ha]
   rfl
  ·show (match (match sApp 2 _ (env8l r t fs o x3 (some (.sh (.tup [.str "not", .str p, .tup ts]))) x5 x6 x7) with | some (.nx δ') => sNil δ' | o => o) with | some (.nx δ') => sNil δ' | o => o) = _
   rw [ha]
   rfl
 ·dsimp only at h1 h2; subst h1 h2
  have : (litD (D.tup [.str k, a, b], [])).map (·.1) = [] := rfl
  rw [this, List.append_nil]
  rcases hk with rfl | rfl <;> rfl
theorem litG_run {r t : D} {o : Option Addr} {x3 x5 x6 x7 : Option Sl} : ∀ (ls : List (D × List PW)) (fs : List D) (x4 : Option Sl), (∀ l ∈ ls, LitP l.1 l.2) -> fs.length + ls.length <= 1000 ->
  ∃ x4', forL 4 litG (ls.map (·.1)) (env8l r t fs o x3 x4 x5 x6 x7) = some (.nx (env8l r t (fs ++ (ls.map litD).flatten.map (·.1)) o x3 x4' x5 x6 x7))
 | [], fs, x4, _, _ => ⟨x4, by simp [forL]⟩
 | l :: ls, fs, x4, hl, hn => by
  simp only [List.map_cons, List.length_cons] at hn ⊢
  have st := litG_step (r := r) (t := t) (o := o) (x3 := x3) (x5 := x5) (x6 := x6) (x7 := x7) (fs := fs) (hl l (by simp)) (by omega)
  have e0 : (env8l r t fs o x3 x4 x5 x6 x7).set 4 (some (.sh l.1)) = env8l r t fs o x3 (some (.sh l.1)) x5 x6 x7 := rfl
  have hd : (litD l).length <= 1 := by unfold litD; split <;> simp
  obtain ⟨x4', ih⟩ := litG_run (r := r) (t := t) (o := o) (x3 := x3) (x5 := x5) (x6 := x6) (x7 := x7) ls (fs ++ (litD l).map (·.1)) (some (.sh l.1)) (fun l' h' => hl l' (List.mem_cons_of_mem _ h')) (by simp; omega)
  refine ⟨x4', ?_⟩
  unfold forL
  rw [e0, st]
  dsimp only
  rw [ih]
  simp [List.append_assoc]
noncomputable def RuleG (rd : D) (q : List PW) (gs : List (D × PW)) : Prop := ∃ (h : Str) (ts : List D) (ls : List (D × List PW)), rd = .tup [.str h, .tup ts, .tup (ls.map (·.1))] /\ Fmt h /\ ls.length <= 10 /\ (∀ l ∈ ls, LitP l.1 l.2) /\ q = (h, (ts.length : Int)) :: (ls.map (·.2)).flatten /\ gs = (.tup [.str h, .tup ts], (h, (ts.length : Int))) :: (ls.map litD).flatten
theorem RuleG.p {rd : D} {q : List PW} {gs : List (D × PW)} (h : RuleG rd q gs) : RuleP rd q := by
 obtain ⟨h, ts, ls, h1, h2, _, h3, h4, _⟩ := h
 exact ⟨h, ts, ls, h1, h2, h3, h4⟩
theorem lits_snd : ∀ (ls : List (D × List PW)), (∀ l ∈ ls, LitP l.1 l.2) -> ((ls.map litD).flatten.map (·.2) = (ls.map (·.2)).flatten) /\ ∀ x ∈ (ls.map litD).flatten, FactP x.1 x.2
 | [], _ => ⟨rfl, fun x hx => by simp at hx⟩
 | l :: ls, h => by
  obtain ⟨a, b⟩ := litD_snd (h l (by simp))
  obtain ⟨c, d⟩ := lits_snd ls fun l' h' => h l' (List.mem_cons_of_mem _ h')
  refine ⟨by simp only [List.map_cons, List.flatten_cons, List.map_append]; rw [a, c], fun x hx => ?_⟩
  simp only [List.map_cons, List.flatten_cons] at hx
  rcases List.mem_append.mp hx with hx | hx
  ·exact b x hx
  ·exact d x hx
theorem RuleG.gs {rd : D} {q : List PW} {gs : List (D × PW)} (h : RuleG rd q gs) : gs.map (·.2) = q /\ (∀ x ∈ gs, FactP x.1 x.2) /\ gs.length <= 11 := by
 obtain ⟨h, ts, ls, h1, h2, hl, h3, rfl, rfl⟩ := h
 obtain ⟨a, b⟩ := lits_snd ls h3
 refine ⟨by simp only [List.map_cons]; rw [a], fun x hx => ?_, ?_⟩
 ·rcases List.mem_cons.mp hx with rfl | hx
  ·exact ⟨h, ts, rfl, h2, rfl⟩
  ·exact b x hx
 ·have : ∀ ls : List (D × List PW), (ls.map litD).flatten.length <= ls.length := by
   intro ls
   induction ls with
   | nil => simp
   | cons l ls ih =>
    have hd : (litD l).length <= 1 := by unfold litD; split <;> simp
    simp only [List.map_cons, List.flatten_cons, List.length_append, List.length_cons]
    omega
  have := this ls
  simp only [List.length_cons]
  omega
noncomputable def ruleGF : FS := sSeq (sApp 2 (fTup (fCons (f2 ixA (f2 ixA (fVarB 0) (fVarB 3)) (fC (.int 0))) (fCons (f2 ixA (f2 ixA (fVarB 0) (fVarB 3)) (fC (.int 1))) fNil)))) (sSeq (sFor 4 (oSeq (f2 ixA (f2 ixA (fVarB 0) (fVarB 3)) (fC (.int 2)))) litG) sNil)
theorem ruleG_step {r t : D} {k : D} {fs : List D} {o : Option Addr} {x4 x5 x6 x7 : Option Sl} {rd : D} {q : List PW} {gs : List (D × PW)} (hk : ixA r k = some rd) (h : RuleG rd q gs) (hl : fs.length + 20 <= 1000) :
  ∃ x4', ruleGF (env8l r t fs o (some (.sh k)) x4 x5 x6 x7) = some (.nx (env8l r t (fs ++ gs.map (·.1)) o (some (.sh k)) x4' x5 x6 x7)) := by
 obtain ⟨hd, ts, ls, rfl, hf, hl10, hls, rfl, rfl⟩ := h
 have hs : fs.length < sizeLine := nlL (show fs.length <= 1000 by omega) (by decide)
 have hx : ∀ fs' x4', f2 ixA (fVarB 0) (fVarB 3) (env8l r t fs' o (some (.sh k)) x4' x5 x6 x7) = some (.tup [.str hd, .tup ts, .tup (ls.map (·.1))]) := fun fs' x4' => hk
 have hi : ∀ (j : Int) (d : D) fs' x4', ixA (.tup [.str hd, .tup ts, .tup (ls.map (·.1))]) (.int j) = some d -> f2 ixA (f2 ixA (fVarB 0) (fVarB 3)) (fC (.int j)) (env8l r t fs' o (some (.sh k)) x4' x5 x6 x7) = some d := fun j d fs' x4' e => by
  show ((f2 ixA (fVarB 0) (fVarB 3) (env8l r t fs' o (some (.sh k)) x4' x5 x6 x7)).bind fun x => (some (D.int j)).bind fun y => ixA x y) = _
  rw [hx]
  exact e
 have ha : sApp 2 (fTup (fCons (f2 ixA (f2 ixA (fVarB 0) (fVarB 3)) (fC (.int 0))) (fCons (f2 ixA (f2 ixA (fVarB 0) (fVarB 3)) (fC (.int 1))) fNil))) (env8l r t fs o (some (.sh k)) x4 x5 x6 x7) = some (.nx (env8l r t (fs ++ [.tup [.str hd, .tup ts]]) o (some (.sh k)) x4 x5 x6 x7)) := by
  have hf : fTup (fCons (f2 ixA (f2 ixA (fVarB 0) (fVarB 3)) (fC (.int 0))) (fCons (f2 ixA (f2 ixA (fVarB 0) (fVarB 3)) (fC (.int 1))) fNil)) (env8l r t fs o (some (.sh k)) x4 x5 x6 x7) = some (.tup [.str hd, .tup ts]) := by
   unfold fTup fCons
   rw [hi 0 (.str hd) _ _ rfl, hi 1 (.tup ts) _ _ rfl]
   rfl
  show ((fTup (fCons (f2 ixA (f2 ixA (fVarB 0) (fVarB 3)) (fC (.int 0))) (fCons (f2 ixA (f2 ixA (fVarB 0) (fVarB 3)) (fC (.int 1))) fNil)) (env8l r t fs o (some (.sh k)) x4 x5 x6 x7)).bind fun d => if fs.length < sizeLine then some (Out.nx ((env8l r t fs o (some (.sh k)) x4 x5 x6 x7).set 2 (some (.pv (.lst (fs ++ [d])) o)))) else none) = _
  rw [hf, Option.bind_some, if_pos hs]
  rfl
 have hF : sFor 4 (oSeq (f2 ixA (f2 ixA (fVarB 0) (fVarB 3)) (fC (.int 2)))) litG (env8l r t (fs ++ [.tup [.str hd, .tup ts]]) o (some (.sh k)) x4 x5 x6 x7) = forL 4 litG (ls.map (·.1)) (env8l r t (fs ++ [.tup [.str hd, .tup ts]]) o (some (.sh k)) x4 x5 x6 x7) := by
  unfold sFor oSeq
  rw [hi 2 (.tup (ls.map (·.1))) _ _ rfl]
  rfl
 obtain ⟨x4', hr⟩ := litG_run (r := r) (t := t) (o := o) (x3 := some (.sh k)) (x5 := x5) (x6 := x6) (x7 := x7) ls (fs ++ [.tup [.str hd, .tup ts]]) x4 hls (by simp; omega)
 refine ⟨x4', ?_⟩
 unfold ruleGF sSeq
 rw [ha]
 dsimp only
 rw [hF, hr]
 simp
structure NR where
 k : Key
 rd : D
 q : List PW
 gs : List (D × PW)
theorem rulesG_run {r t : D} {o : Option Addr} {x5 x6 x7 : Option Sl} : ∀ (zs : List NR) (fs : List D) (x3 x4 : Option Sl), (∀ z ∈ zs, ixA r (kD z.k) = some z.rd /\ RuleG z.rd z.q z.gs) -> fs.length + 11 * zs.length + 20 <= 1000 ->
  ∃ x3' x4', forL 3 ruleGF (zs.map fun z => kD z.k) (env8l r t fs o x3 x4 x5 x6 x7) = some (.nx (env8l r t (fs ++ (zs.map (·.gs)).flatten.map (·.1)) o x3' x4' x5 x6 x7))
 | [], fs, x3, x4, _, _ => ⟨x3, x4, by simp [forL]⟩
 | z :: zs, fs, x3, x4, h, hn => by
  simp only [List.map_cons, List.length_cons] at hn ⊢
  obtain ⟨h1, h2⟩ := h z (by simp)
  obtain ⟨_, _, h3⟩ := h2.gs
  obtain ⟨x4', st⟩ := ruleG_step (t := t) (o := o) (x4 := x4) (x5 := x5) (x6 := x6) (x7 := x7) (fs := fs) h1 h2 (by omega)
  have e0 : (env8l r t fs o x3 x4 x5 x6 x7).set 3 (some (.sh (kD z.k))) = env8l r t fs o (some (.sh (kD z.k))) x4 x5 x6 x7 := rfl
  obtain ⟨x3'', x4'', ih⟩ := rulesG_run (r := r) (t := t) (o := o) (x5 := x5) (x6 := x6) (x7 := x7) zs (fs ++ z.gs.map (·.1)) (some (.sh (kD z.k))) x4' (fun z' h' => h z' (List.mem_cons_of_mem _ h')) (by simp; omega)
  refine ⟨x3'', x4'', ?_⟩
  unfold forL
  rw [e0, st]
  dsimp only
  rw [ih]
  simp [List.append_assoc]
theorem fb_lw : fb__law_widths = sSeq (sSetR 2 (fCallN lstN (fCons (fVarB 1) fNil))) (sSeq (sForD false 3 0 ruleGF) (sSeq (sSetR 5 fDicR) (sSeq (fun δ => (sForP 6 7 (oSeq (fVar 2)) pairF) (pubS 2 δ)) (sSeq (sRetV 5) sNil)))) := rfl
theorem law_widths_two (zs : List NR) (fs : List (D × PW)) (h1 : ∀ z ∈ zs, ixA (.dic (zs.map (·.k)) (zs.map (·.rd))) (kD z.k) = some z.rd /\ RuleG z.rd z.q z.gs) (h2 : ∀ x ∈ fs, FactP x.1 x.2) (hn : fs.length + 11 * zs.length + 20 <= 1000) :
  (noteAll [] (fs.map (·.2) ++ (zs.map (·.q)).flatten) = none -> M__law_widths [.dic (zs.map (·.k)) (zs.map (·.rd)), .lst (fs.map (·.1))] = some (.sh .non)) /\
  ∀ m, noteAll [] (fs.map (·.2) ++ (zs.map (·.q)).flatten) = some m -> M__law_widths [.dic (zs.map (·.k)) (zs.map (·.rd)), .lst (fs.map (·.1))] = some (.fr (.dic (kks m) (vvs m))) := by
 have hgs : ∀ zs : List NR, (∀ z ∈ zs, RuleG z.rd z.q z.gs) -> ((zs.map (·.gs)).flatten.map (·.2) = (zs.map (·.q)).flatten) /\ (∀ x ∈ (zs.map (·.gs)).flatten, FactP x.1 x.2) /\ (zs.map (·.gs)).flatten.length <= 11 * zs.length := by
  intro zs
  induction zs with
  | nil => intro _; exact ⟨rfl, fun x hx => by simp at hx, by simp⟩
  | cons z zs ih =>
   intro h
   obtain ⟨a, b, c⟩ := (h z (by simp)).gs
   obtain ⟨a', b', c'⟩ := ih fun z' h' => h z' (List.mem_cons_of_mem _ h')
   refine ⟨by simp only [List.map_cons, List.flatten_cons, List.map_append]; rw [a, a'], fun x hx => ?_, ?_⟩
   ·simp only [List.map_cons, List.flatten_cons] at hx
    rcases List.mem_append.mp hx with hx | hx
    ·exact b x hx
    ·exact b' x hx
   ·simp only [List.map_cons, List.flatten_cons, List.length_append, List.length_cons]
    omega
 obtain ⟨g1, g2, g3⟩ := hgs zs fun z hz => (h1 z hz).2
 have hall : ∀ x ∈ fs ++ (zs.map (·.gs)).flatten, FactP x.1 x.2 := fun x hx => (List.mem_append.mp hx).elim (h2 x) (g2 x)
 have hq : (fs ++ (zs.map (·.gs)).flatten).map (·.2) = fs.map (·.2) ++ (zs.map (·.q)).flatten := by rw [List.map_append, g1]
 have hd : (fs ++ (zs.map (·.gs)).flatten).map (·.1) = fs.map (·.1) ++ (zs.map (·.gs)).flatten.map (·.1) := by rw [List.map_append]
 obtain ⟨x3, x4, s1⟩ := rulesG_run (r := .dic (zs.map (·.k)) (zs.map (·.rd))) (t := .lst (fs.map (·.1))) (o := none) (x5 := none) (x6 := none) (x7 := none) zs (fs.map (·.1)) none none h1 (by simpa using hn)
 obtain ⟨ps, p1, p2, p3⟩ := pairs_run (r := .dic (zs.map (·.k)) (zs.map (·.rd))) (t := .lst (fs.map (·.1))) (x2 := some (.sh (.lst (fs.map (·.1) ++ (zs.map (·.gs)).flatten.map (·.1))))) (x3 := x3) (x4 := x4) (o := none) (fs ++ (zs.map (·.gs)).flatten) [] none none hall (by simp only [List.length_nil, List.length_append]; omega)
 rw [hq] at p2 p3
 rw [hd] at p1
 have e1 : sSetR 2 (fCallN lstN (fCons (fVarB 1) fNil)) [some (.sh (.dic (zs.map (·.k)) (zs.map (·.rd)))), some (.sh (.lst (fs.map (·.1)))), none, none, none, none, none, none] = some (.nx (env8l (.dic (zs.map (·.k)) (zs.map (·.rd))) (.lst (fs.map (·.1))) (fs.map (·.1)) none none none none none none)) := rfl
 have e2 : sForD false 3 0 ruleGF (env8l (.dic (zs.map (·.k)) (zs.map (·.rd))) (.lst (fs.map (·.1))) (fs.map (·.1)) none none none none none none) = forL 3 ruleGF (zs.map fun z => kD z.k) (env8l (.dic (zs.map (·.k)) (zs.map (·.rd))) (.lst (fs.map (·.1))) (fs.map (·.1)) none none none none none none) := by
  show forL 3 ruleGF ((zs.map (·.k)).map kD) _ = _
  rw [List.map_map]
  rfl
 have fbv : fb__law_widths [some (.sh (.dic (zs.map (·.k)) (zs.map (·.rd)))), some (.sh (.lst (fs.map (·.1)))), none, none, none, none, none, none] = (match (forL2 6 7 pairF ps (env8 (.dic (zs.map (·.k)) (zs.map (·.rd))) (.lst (fs.map (·.1))) (some (.sh (.lst (fs.map (·.1) ++ (zs.map (·.gs)).flatten.map (·.1))))) x3 x4 [] none none none)) with | some (.nx δ') => (sSeq (sRetV 5) sNil) δ' | o => o) := by
  rw [fb_lw]
  unfold sSeq
  rw [e1]
  dsimp only
  rw [e2, s1]
  show (match ((pairsD (fs.map (·.1) ++ (zs.map (·.gs)).flatten.map (·.1))).bind fun ps => forL2 6 7 pairF ps (env8 (.dic (zs.map (·.k)) (zs.map (·.rd))) (.lst (fs.map (·.1))) (some (.sh (.lst (fs.map (·.1) ++ (zs.map (·.gs)).flatten.map (·.1))))) x3 x4 [] none none none)) with | some (.nx δ') => _ | o => o) = _
  rw [p1]
  rfl
 have run : M__law_widths [.dic (zs.map (·.k)) (zs.map (·.rd)), .lst (fs.map (·.1))] = (match fb__law_widths [some (.sh (.dic (zs.map (·.k)) (zs.map (·.rd)))), some (.sh (.lst (fs.map (·.1)))), none, none, none, none, none, none] with | some (.rt d _) => some d | some (.nx _) => some (.sh .non) | _ => none) := by
  unfold M__law_widths runF
  exact if_pos rfl
 refine ⟨fun h => ?_, fun m h => ?_⟩
 ·obtain ⟨δ, q⟩ := p2 h
  rw [run, fbv, q]
 ·obtain ⟨x6, x7, q⟩ := p3 m h
  rw [run, fbv, q]
  rfl
theorem told_run (r t : D) : M__law_told [r, t] = (match fb__law_told [some (.sh r), some (.sh t), none, none, none] with | some (.rt d _) => some d | some (.nx _) => some (.sh .non) | _ => none) := by
 unfold M__law_told runF
 exact if_pos rfl
theorem told_none {r t : D} (h1 : M_widths_of [r, t] = none) (h2 : Mx_widths_of [.sh r, .sh t] = some ("Unlike" : Str)) : M__law_told [r, t] = some (.sh .non) := by
 have hF : sSeq (sOr (sSet 2 (fPub (fCallR M_widths_of (fCons (fVar 0) (fCons (fVar 1) fNil))))) (sCallE Mx_widths_of (fCons (fVar 0) (fCons (fVar 1) fNil)))) sNil [some (.sh r), some (.sh t), some (.sh .non), some (.sh .non), none] = some (.ex "Unlike" [some (.sh r), some (.sh t), some (.sh .non), some (.sh .non), none]) := by
  show (match ((((M_widths_of [r, t]).map Rs.d).map fun d => Out.nx ([some (.sh r), some (.sh t), some (.sh .non), some (.sh .non), none].set 2 (some (.sh d)))).or ((Mx_widths_of [.sh r, .sh t]).map fun c => Out.ex c [some (.sh r), some (.sh t), some (.sh .non), some (.sh .non), none])) with | some (.nx δ') => sNil δ' | o => o) = _
  rw [h1, h2]
  rfl
 have hT : sTry ["Unlike"] 4 (sSeq (sOr (sSet 2 (fPub (fCallR M_widths_of (fCons (fVar 0) (fCons (fVar 1) fNil))))) (sCallE Mx_widths_of (fCons (fVar 0) (fCons (fVar 1) fNil)))) sNil) (sSeq (sCpy 3 4) sNil) [some (.sh r), some (.sh t), some (.sh .non), some (.sh .non), none] = some (.nx [some (.sh r), some (.sh t), some (.sh .non), some (.ob "Unlike"), none]) := by
  unfold sTry
  rw [hF]
  rfl
 rw [told_run]
 have : fb__law_told [some (.sh r), some (.sh t), none, none, none] = some (.rt (.sh .non) [some (.sh r), some (.sh t), some (.sh .non), some (.ob "Unlike"), none]) := by
  unfold fb__law_told
  show (match (sTry ["Unlike"] 4 (sSeq (sOr (sSet 2 (fPub (fCallR M_widths_of (fCons (fVar 0) (fCons (fVar 1) fNil))))) (sCallE Mx_widths_of (fCons (fVar 0) (fCons (fVar 1) fNil)))) sNil) (sSeq (sCpy 3 4) sNil) [some (.sh r), some (.sh t), some (.sh .non), some (.sh .non), none]) with | some (.nx δ') => _ | o => o) = _
  rw [hT]
  rfl
 rw [this]
theorem told_some {r t : D} {x : Rs} (h1 : M_widths_of [r, t] = some x) : M__law_told [r, t] = some (.sh x.d) := by
 have hF : sSeq (sOr (sSet 2 (fPub (fCallR M_widths_of (fCons (fVar 0) (fCons (fVar 1) fNil))))) (sCallE Mx_widths_of (fCons (fVar 0) (fCons (fVar 1) fNil)))) sNil [some (.sh r), some (.sh t), some (.sh .non), some (.sh .non), none] = some (.nx [some (.sh r), some (.sh t), some (.sh x.d), some (.sh .non), none]) := by
  show (match ((((M_widths_of [r, t]).map Rs.d).map fun d => Out.nx ([some (.sh r), some (.sh t), some (.sh .non), some (.sh .non), none].set 2 (some (.sh d)))).or _) with | some (.nx δ') => sNil δ' | o => o) = _
  rw [h1]
  rfl
 have hT : sTry ["Unlike"] 4 (sSeq (sOr (sSet 2 (fPub (fCallR M_widths_of (fCons (fVar 0) (fCons (fVar 1) fNil))))) (sCallE Mx_widths_of (fCons (fVar 0) (fCons (fVar 1) fNil)))) sNil) (sSeq (sCpy 3 4) sNil) [some (.sh r), some (.sh t), some (.sh .non), some (.sh .non), none] = some (.nx [some (.sh r), some (.sh t), some (.sh x.d), some (.sh .non), none]) := by
  unfold sTry
  rw [hF]
 rw [told_run]
 have : fb__law_told [some (.sh r), some (.sh t), none, none, none] = some (.rt (.sh x.d) [some (.sh r), some (.sh t), some (.sh x.d), some (.sh .non), none]) := by
  unfold fb__law_told
  show (match (sTry ["Unlike"] 4 (sSeq (sOr (sSet 2 (fPub (fCallR M_widths_of (fCons (fVar 0) (fCons (fVar 1) fNil))))) (sCallE Mx_widths_of (fCons (fVar 0) (fCons (fVar 1) fNil)))) sNil) (sSeq (sCpy 3 4) sNil) [some (.sh r), some (.sh t), some (.sh .non), some (.sh .non), none]) with | some (.nx δ') => _ | o => o) = _
  rw [hT]
  rfl
 rw [this]
theorem vvs_plain (m : List PW) : (vvs m).all (plainN 8) = true := by
 unfold vvs
 rw [List.all_eq_true]
 intro x hx
 obtain ⟨q, _, rfl⟩ := List.mem_map.mp hx
 rfl
theorem agree_nodup {m : List PW} (h : (m.map (·.1)).Nodup) : Agree m := by
 induction m with
 | nil => exact fun _ _ _ x => nomatch x
 | cons q m ih =>
  rw [List.map_cons, List.nodup_cons] at h
  intro p w w' h1 h2
  rcases List.mem_cons.mp h1 with e1 | h1 <;> rcases List.mem_cons.mp h2 with e2 | h2
  ·rw [<- e1] at e2; cases e2; rfl
  ·exact absurd (List.mem_map.mpr ⟨(p, w'), h2, by rw [<- e1]⟩) h.1
  ·exact absurd (List.mem_map.mpr ⟨(p, w), h1, by rw [<- e2]⟩) h.1
  ·exact ih h.2 p w w' h1 h2
theorem eq_dic {m m' : List PW} (n' : (m'.map (·.1)).Nodup) (hl : m.length = m'.length) (h : ∀ q, q ∈ m ↔ q ∈ m') : eqDic (kks m) (vvs m) (kks m') (vvs m') = true := by
 unfold eqDic
 rw [Bool.and_eq_true]
 refine ⟨by simp [vvs, hl], ?_⟩
 rw [List.all_eq_true]
 intro kv hkv
 have : ∃ q ∈ m, kv = (Sum.inr q.1, D.int q.2) := by
  have hz : (kks m).zip (vvs m) = m.map fun q => ((Sum.inr q.1 : Key), D.int q.2) := by
   unfold kks vvs
   rw [List.zip_map']
  rw [hz] at hkv
  obtain ⟨q, hq, rfl⟩ := List.mem_map.mp hkv
  exact ⟨q, hq, rfl⟩
 obtain ⟨q, hq, rfl⟩ := this
 dsimp only
 rw [valD_look, look_of (agree_nodup n') ((h q).mp hq)]
 simp [eqA, flatD, toV, eqV]
theorem ne_dic {m m' : List PW} (n' : (m'.map (·.1)).Nodup) (hl : m.length = m'.length) (h : ∀ q, q ∈ m ↔ q ∈ m') : neE (.dic (kks m) (vvs m)) (.dic (kks m') (vvs m')) = some (.bl false) /\ eqO false (.dic (kks m) (vvs m)) (.dic (kks m') (vvs m')) = some (.bl true) := by
 have e1 : ∀ neg, eqO neg (.dic (kks m) (vvs m)) (.dic (kks m') (vvs m')) = eqDc neg (.dic (kks m) (vvs m)) (.dic (kks m') (vvs m')) := fun neg => rfl
 have e2 : ∀ neg, eqDc neg (.dic (kks m) (vvs m)) (.dic (kks m') (vvs m')) = some (.bl (if neg then !true else true)) := fun neg => by
  unfold eqDc
  dsimp only
  rw [if_pos ⟨vvs_plain m, vvs_plain m'⟩, eq_dic n' hl h]
 refine ⟨?_, ?_⟩
 ·unfold neE
  rw [e1, e2]
  rfl
 ·rw [e1, e2]
  rfl
inductive Tm where | x | y | z | a | n
noncomputable def tD : Tm -> D | .x => .str "X" | .y => .str "Y" | .z => .str "Z" | .a => .str "a" | .n => .int 3
noncomputable def isV : Tm -> Bool | .x => true | .y => true | .z => true | _ => false
noncomputable def tV : Tm -> List Str | .x => ["X"] | .y => ["Y"] | .z => ["Z"] | _ => []
inductive Gp where | sum | least | count
noncomputable def gD : Gp -> D | .sum => .tup [.str "sum", .str "X"] | .least => .tup [.str "least", .str "Y"] | .count => .tup [.str "count"]
noncomputable def gT : Gp -> List Tm | .sum => [.x] | .least => [.y] | .count => []
inductive Lt where | pr (y : Bool) (p : Str) (ts : List Tm) | cm (u : Bool) (s t : Tm)
noncomputable def lD : Lt -> D | .pr y p ts => .tup [.str (if y = true then "yes" else "not"), .str p, .tup (ts.map tD)] | .cm u s t => .tup [.str (if u = true then "under" else "unlike"), tD s, tD t]
noncomputable def hD (ts : List Tm) (g : Option Gp) : List D := ts.map tD ++ g.toList.map gD
noncomputable def rD (h : Str) (ts : List Tm) (g : Option Gp) (b : List Lt) : D := .tup [.str h, .tup (hD ts g), .tup (b.map lD)]
noncomputable def OkL : Lt -> Prop | .pr _ _ ts => ts.length <= 4 | .cm _ _ _ => True
structure OkB (b : List Lt) : Prop where
 hi : b.length <= 6
 each : ∀ l ∈ b, OkL l
theorem e_var (t : Tm) : M_is_variable [tD t] = some (.sh (.bl (isV t))) := by cases t <;> kernel_rfl
noncomputable def lT : Lt -> List Tm | .pr _ _ ts => ts | .cm _ s t => [s, t]
noncomputable def gTs (g : Option Gp) : List Tm := g.toList.flatMap gT
noncomputable def bV (b : List Lt) : List Str := b.flatMap fun l => (lT l).flatMap tV
noncomputable def hV (ts : List Tm) (g : Option Gp) : List Str := (ts ++ gTs g).flatMap tV
theorem sl_big {n : Nat} (h : n <= 1000) : n <= sizeLine := by rw [sizeLine_eq]; omega
theorem snoc_cases {α : Type} (ts : List α) : ts = [] \/ ∃ us t, ts = us ++ [t] := by
 rcases List.eq_nil_or_concat ts with h | ⟨us, t, h⟩
 ·exact .inl h
 ·exact .inr ⟨us, t, by simpa using h⟩
theorem cut_last (xs : List D) (x : D) : cutD (xs ++ [x]) none (some (-1)) = xs := by
 unfold L2.cutD HT.sIx
 simp
 rw [show (-1 + ((xs.length : Int) + 1)).toNat = xs.length by omega]
 simp
theorem ix_last (xs : List D) (x : D) : ixA (.tup (xs ++ [x])) (.int (-1)) = some x := by
 show atI (xs ++ [x]) (-1) = some x
 unfold atI ixN
 rw [if_neg (by decide), if_pos (by simp; omega)]
 simp
 rw [show (-1 + ((xs.length : Int) + 1)).toNat = xs.length by omega]
 simp
theorem e_isgroup (hd : Str) (ts : List Tm) (g : Option Gp) (b : List Lt) : M_is_group [rD hd ts g b] = some (.sh (.bl g.isSome)) := by
 refine Op.eq ?_
 unfold M_is_group fb_is_group
 walk_at "wrun"; walk_at "wp"
 refine o_ixT (k := 1) rfl ?_
 walk_at "wp"
 cases g with
 | none =>
  simp only [hD, Option.toList, List.map_nil, List.append_nil]
  rcases snoc_cases ts with rfl | ⟨us, t, rfl⟩
  ·simp only [List.map_nil, List.length_nil]
   rw [show decide ((0 : Int) < ((0 : Nat) : Int)) = false by decide]
   walk_at "wp"
   rfl
  ·rw [show decide ((0 : Int) < (((us ++ [t]).map tD).length : Int)) = true by simp]
   walk_at "wp"
   refine o_ixT (k := 1) rfl ?_
   walk_at "wp"
   rw [show hD (us ++ [t]) none = us.map tD ++ [tD t] by simp [hD]]
   refine op_of (ix_last _ _) ?_
   cases t <;> rfl
 | some g =>
  simp only [hD, Option.toList, List.map_cons, List.map_nil]
  rw [show decide ((0 : Int) < ((ts.map tD ++ [gD g]).length : Int)) = true by simp]
  walk_at "wp"
  refine o_ixT (k := 1) rfl ?_
  walk_at "wp"
  rw [show hD ts (some g) = ts.map tD ++ [gD g] by simp [hD]]
  refine op_of (ix_last _ _) ?_
  cases g <;> rfl
theorem filt_v : ∀ ts : List Tm, (ts.filter isV).map tD = (ts.flatMap tV).map D.str
 | [] => rfl
 | t :: ts => by
  rw [List.filter_cons, List.flatMap_cons, List.map_append, <- filt_v ts]
  cases t <;> simp [isV, tV, tD]
theorem tV_len (t : Tm) : (tV t).length <= 1 := by cases t <;> simp [tV]
theorem tVs_len : ∀ ts : List Tm, (ts.flatMap tV).length <= ts.length
 | [] => Nat.le_refl _
 | t :: ts => by have := tVs_len ts; have := tV_len t; simp only [List.flatMap_cons, List.length_append, List.length_cons]; omega
theorem e_haspred (l : Lt) : M_has_predicate [lD l] = some (.sh (.bl (match l with | .pr _ _ _ => true | .cm _ _ _ => false))) := by
 cases l with
 | pr y p ts => cases y <;> rfl
 | cm y p ts => cases y <;> rfl
theorem comp_v {δ : En} {R : List D -> Prop} (ts : List Tm) (h : ts.length <= 100) (k : R ((ts.flatMap tV).map .str)) : (ts.map tD).length <= sizeLine /\ Op (compL (fun x => fB (fPub (fCallR M_is_variable (fCons (fVar 0) fNil))) ((csD 1 [] δ).set 0 (some (.sh x)))) (fun x => fVar 0 ((csD 1 [] δ).set 0 (some (.sh x)))) (ts.map tD)) R := by
 refine ⟨sl_big (by simp; omega), op_compI (p := isV) (hh := tD) (fun t _ => ?_) (fun t _ _ => ?_) ?_⟩
 ·walk_at "wp"
  exact op_of (e_var t) rfl
 ·walk_at "wp"
  rfl
 ·rw [filt_v]
  exact k
theorem e_lv (l : Lt) (h : OkL l) : M_literal_variables [lD l] = some (.fr (.lst (((lT l).flatMap tV).map .str))) := by
 refine Op.eq ?_
 unfold M_literal_variables fb_literal_variables
 walk_at "wrun"; walk_at "wp"
 refine op_of (e_haspred l) ?_
 walk_at "wp"
 cases l with
 | pr y p ts =>
  dsimp only
  walk_at "wp"
  simp only [lD]
  refine o_ixT (k := 2) rfl ?_
  walk_at "wp"
  exact comp_v ts (by unfold OkL at h; omega) rfl
 | cm u s t =>
  dsimp only
  walk_at "wp"
  simp only [lD]
  walk_at "wp"
  rw [show L2.cutD [D.str (if u = true then Str.ofString "under" else Str.ofString "unlike"), tD s, tD t] (some 1) none = [s, t].map tD from rfl]
  exact comp_v [s, t] (by simp) rfl
theorem lT_len (l : Lt) (h : OkL l) : (lT l).length <= 4 := by
 cases l with
 | pr y p ts => exact h
 | cm u s t => simp [lT]
theorem bV_len : ∀ (b : List Lt), (∀ l ∈ b, OkL l) -> (bV b).length <= 4 * b.length
 | [], _ => by simp [bV]
 | l :: b, h => by
  have h1 := bV_len b fun x hx => h x (.tail _ hx)
  have h2 := tVs_len (lT l)
  have h3 := lT_len l (h l (.head _))
  simp only [bV, List.flatMap_cons, List.length_append, List.length_cons] at h1 ⊢
  omega
theorem strs_map : ∀ zs : List Str, strsD (zs.map D.str) = some zs
 | [] => rfl
 | z :: zs => by simp [strsD, strs_map zs]
theorem o_sortSet {f : FE} {δ : En} {Rr : Rs -> Prop} {zs : List Str} (e : f δ = some (.lst (zs.map .str))) (h : zs.length < 64) (k : Rr (.fr (.lst ((sortS zs).map .str)))) : Op (fSortSet f δ) Rr := by
 refine op_of ?_ k
 unfold fSortSet
 rw [e]
 show (strsD (zs.map .str)).bind _ = _
 rw [strs_map]
 show (if zs.length < 64 then _ else _) = _
 rw [if_pos h]
theorem e_hv (hd : Str) (ts : List Tm) (g : Option Gp) (b : List Lt) (h : ts.length <= 3) : M_head_variables [rD hd ts g b] = some (.fr (.lst ((hV ts g).map .str))) := by
 refine Op.eq ?_
 unfold M_head_variables fb_head_variables
 walk_at "wrun"; walk_at "wp"
 refine op_of (e_isgroup hd ts g b) ?_
 walk_at "wp"
 cases g with
 | none =>
  walk_at "wp"
  refine o_ixT (k := 1) rfl ?_
  walk_at "wp"
  rw [show hD ts none = ts.map tD by simp [hD]]
  refine comp_v ts (by omega) ?_
  simp [hV, gTs]
 | some g =>
  walk_at "wp"
  refine o_ixT (k := 1) rfl ?_
  walk_at "wp"
  rw [show hD ts (some g) = ts.map tD ++ [gD g] by simp [hD]]
  refine o_ixT (k := 1) rfl ?_
  walk_at "wp"
  refine op_of (ix_last _ _) ?_
  rw [cut_last]
  walk_at "wp"
  have hg : slA (gD g) (some 1) none = some (.sh (.tup ((gT g).map tD))) := by cases g <;> rfl
  refine op_of hg ?_
  walk_at "wp"
  have hgl : (gT g).length <= 1 := by cases g <;> simp [gT]
  refine op_of (d := .tup ((ts ++ gT g).map tD)) ?_ ?_
  ·rw [show addD (.tup (ts.map tD)) (.tup ((gT g).map tD)) = some (.tup (ts.map tD ++ (gT g).map tD)) from by simp [addD, iAdd, sAdd, tupAdd, lAdd]; exact sl_big (by omega)]
   simp
  ·walk_at "wp"
   refine comp_v (ts ++ gT g) (by simp; omega) ?_
   simp [hV, gTs]
noncomputable def uD : Tm ⊕ Gp -> D | .inl t => tD t | .inr g => gD g
noncomputable def uV : Tm ⊕ Gp -> List Str | .inl t => tV t | .inr g => (gT g).flatMap tV
noncomputable def vF : FS := sSeq (sIf (fB (fIs "tuple" (fVarB 2))) (sSeq (sSet 2 (f2 ixA (fVarB 2) (f1 negD (fC (.int 1))))) sNil) sNil) (sSeq (sIf (fB (f2 (inE false) (fVarB 2) (fTup (fCons (fC (.str "X")) (fCons (fC (.str "Y")) (fCons (fC (.str "Z")) fNil)))))) (sSeq (sApp 1 (fVar 2)) sNil) sNil) sNil)
theorem app_ok {t : Option Sl} {fs : List D} {d : D} (h : fs.length <= 1000) : sApp 1 (fVar 2) [t, some (.pv (.lst fs) none), some (.sh d)] = some (.nx [t, some (.pv (.lst (fs ++ [d])) none), some (.sh d)]) := by
 show (if fs.length < sizeLine then some (Out.nx [t, some (.pv (.lst (fs ++ [d])) none), some (.sh d)]) else none) = _
 exact if_pos (nlL h (by decide))
theorem v_step {t : Option Sl} {fs : List D} (u : Tm ⊕ Gp) (h : fs.length <= 1000) : ∃ x', vF [t, some (.pv (.lst fs) none), some (.sh (uD u))] = some (.nx [t, some (.pv (.lst (fs ++ (uV u).map .str)) none), x']) := by
 have yes : ∀ d : D, sSeq (sApp 1 (fVar 2)) sNil [t, some (.pv (.lst fs) none), some (.sh d)] = some (.nx [t, some (.pv (.lst (fs ++ [d])) none), some (.sh d)]) := fun d => by
  unfold sSeq
  rw [app_ok h]
  rfl
 rcases u with (_ | _ | _ | _ | _) | (_ | _ | _)
 ·exact ⟨_, by show (match sSeq (sApp 1 (fVar 2)) sNil [t, some (.pv (.lst fs) none), some (.sh (.str "X"))] with | some (.nx δ') => sNil δ' | o => o) = _; rw [yes]; rfl⟩
 ·exact ⟨_, by show (match sSeq (sApp 1 (fVar 2)) sNil [t, some (.pv (.lst fs) none), some (.sh (.str "Y"))] with | some (.nx δ') => sNil δ' | o => o) = _; rw [yes]; rfl⟩
 ·exact ⟨_, by show (match sSeq (sApp 1 (fVar 2)) sNil [t, some (.pv (.lst fs) none), some (.sh (.str "Z"))] with | some (.nx δ') => sNil δ' | o => o) = _; rw [yes]; rfl⟩
 ·exact ⟨_, by rw [show fs ++ (uV (.inl .a)).map D.str = fs from List.append_nil fs]; rfl⟩
 ·exact ⟨_, by rw [show fs ++ (uV (.inl .n)).map D.str = fs from List.append_nil fs]; rfl⟩
 ·exact ⟨_, by show (match sSeq (sApp 1 (fVar 2)) sNil [t, some (.pv (.lst fs) none), some (.sh (.str "X"))] with | some (.nx δ') => sNil δ' | o => o) = _; rw [yes]; rfl⟩
 ·exact ⟨_, by show (match sSeq (sApp 1 (fVar 2)) sNil [t, some (.pv (.lst fs) none), some (.sh (.str "Y"))] with | some (.nx δ') => sNil δ' | o => o) = _; rw [yes]; rfl⟩
 ·exact ⟨_, by rw [show fs ++ (uV (.inr .count)).map D.str = fs from List.append_nil fs]; rfl⟩
theorem uV_len (u : Tm ⊕ Gp) : (uV u).length <= 1 := by rcases u with (_ | _ | _ | _ | _) | (_ | _ | _) <;> simp [uV, tV, gT]
theorem v_run {t : Option Sl} : ∀ (us : List (Tm ⊕ Gp)) (fs : List D) (x : Option Sl), fs.length + us.length <= 1000 -> ∃ x', forL 2 vF (us.map uD) [t, some (.pv (.lst fs) none), x] = some (.nx [t, some (.pv (.lst (fs ++ (us.flatMap uV).map .str)) none), x'])
 | [], fs, x, _ => ⟨x, by simp [forL]⟩
 | u :: us, fs, x, h => by
  simp only [List.length_cons] at h
  obtain ⟨x1, st⟩ := v_step (t := t) (fs := fs) u (by omega)
  have := uV_len u
  obtain ⟨x2, ih⟩ := v_run (t := t) us (fs ++ (uV u).map .str) x1 (by simp; omega)
  refine ⟨x2, ?_⟩
  show (match vF [t, some (.pv (.lst fs) none), some (.sh (uD u))] with | some (.nx δ') => forL 2 vF (us.map uD) δ' | some (.ct δ') => forL 2 vF (us.map uD) δ' | some (.ex c δ') => some (.ex c δ') | some (.bk δ') => some (.nx δ') | some (.rt d δ') => some (.rt d δ') | none => none) = _
  rw [st]
  dsimp only
  rw [ih]
  simp [List.append_assoc]
theorem e_lawv (us : List (Tm ⊕ Gp)) (h : us.length <= 900) : M__law_variables [.tup (us.map uD)] = some (.fr (.lst ((us.flatMap uV).map .str))) := by
 obtain ⟨x', r⟩ := v_run (t := some (.sh (.tup (us.map uD)))) us [] none (by simp; omega)
 unfold M__law_variables runF
 show (match fb__law_variables [some (.sh (.tup (us.map uD))), none, none] with | some (.rt d _) => some d | some (.nx _) => some (.sh .non) | _ => none) = _
 have : fb__law_variables [some (.sh (.tup (us.map uD))), none, none] = (match forL 2 vF (us.map uD) [some (.sh (.tup (us.map uD))), some (.pv (.lst []) none), none] with | some (.nx δ') => (sSeq (sRetV 1) sNil) δ' | o => o) := rfl
 rw [this, r]
 rfl
theorem e_lawvT (ts : List Tm) (h : ts.length <= 100) : M__law_variables [.tup (ts.map tD)] = some (.fr (.lst ((ts.flatMap tV).map .str))) := by
 have := e_lawv (ts.map .inl) (by simp; omega)
 simp only [List.map_map, List.flatMap_map] at this
 exact this
theorem e_lawvH (ts : List Tm) (g : Option Gp) (h : ts.length <= 100) : M__law_variables [.tup (hD ts g)] = some (.fr (.lst ((hV ts g).map .str))) := by
 have := e_lawv (ts.map .inl ++ g.toList.map .inr) (by cases g <;> simp <;> omega)
 have e1 : (ts.map Sum.inl ++ g.toList.map Sum.inr).map uD = hD ts g := by simp [hD, List.map_append, Function.comp_def, uD]
 have e2 : (ts.map Sum.inl ++ g.toList.map Sum.inr).flatMap uV = hV ts g := by cases g <;> simp [hV, gTs, uV, List.flatMap_append, List.flatMap_map]
 rw [e1, e2] at this
 exact this
theorem inA_strs (z : Str) (fs : List Str) : inE true (.str z) (.lst (fs.map .str)) = some (.bl (!decide (z ∈ fs))) := by
 show (inAD true (.str z) (.lst (fs.map .str))).or _ = _
 unfold inAD
 dsimp only
 rw [if_pos ⟨rfl, by rw [List.all_map]; exact List.all_eq_true.mpr fun c _ => rfl⟩]
 have : inA (.str z) (fs.map .str) = decide (z ∈ fs) := by
  unfold inA
  rw [List.any_map, Bool.eq_iff_iff, List.any_eq_true, decide_eq_true_iff]
  constructor
  ·rintro ⟨g, hg, e⟩
   have e : eqA (.str g) (.str z) = true := e
   rw [eqA_flat rfl rfl] at e
   simp [toV, eqV] at e
   rw [<- e]; exact hg
  ·intro h
   refine ⟨z, h, ?_⟩
   show eqA (.str z) (.str z) = true
   rw [eqA_flat rfl rfl]; simp [toV, eqV]
 rw [this]
 rfl
noncomputable def isY : Lt -> Bool | .pr y _ _ => y | .cm _ _ _ => false
noncomputable def lv (l : Lt) : List Str := (lT l).flatMap tV
noncomputable def yv (b : List Lt) : List Str := (b.filter isY).flatMap lv
noncomputable def miss (bd vs : List Str) : List Str := vs.filter fun v => !decide (v ∈ bd)
noncomputable def sfA : FS := sIf (fB (f2 (inE false) (f2 ixA (fVarB 2) (fC (.int 0))) (fTup (fCons (fC (.str "yes")) (fCons (fC (.str "not")) fNil))))) (sSeq (sSet 3 (fPub (fCallR M__law_variables (fCons (f2 ixA (fVarB 2) (fC (.int 2))) fNil)))) sNil) (sSeq (sSet 3 (fPub (fCallR M__law_variables (fCons (fPub (fSlA (fVarB 2) (oInt (fC (.int 1))) (fun _ => some none))) fNil)))) sNil)
theorem sfA_run {r b x : Option Sl} (l : Lt) (h : OkL l) : sfA [r, b, some (.sh (lD l)), x] = some (.nx [r, b, some (.sh (lD l)), some (.sh (.lst ((lv l).map .str)))]) := by
 cases l with
 | pr y p ts =>
  have e := e_lawvT ts (by unfold OkL at h; omega)
  have : sfA [r, b, some (.sh (lD (.pr y p ts))), x] = ((M__law_variables [.tup (ts.map tD)]).map Rs.d).map (fun d => Out.nx [r, b, some (.sh (lD (.pr y p ts))), some (.sh d)]) := by
   cases y
   ·show (match (((M__law_variables [.tup (ts.map tD)]).map Rs.d).map fun d => Out.nx [r, b, some (.sh (lD (.pr false p ts))), some (.sh d)]) with | some (.nx δ') => sNil δ' | o => o) = _
    rw [e]; rfl
   ·show (match (((M__law_variables [.tup (ts.map tD)]).map Rs.d).map fun d => Out.nx [r, b, some (.sh (lD (.pr true p ts))), some (.sh d)]) with | some (.nx δ') => sNil δ' | o => o) = _
    rw [e]; rfl
  rw [this, e]
  rfl
 | cm u s t =>
  have e := e_lawvT [s, t] (by simp)
  have : sfA [r, b, some (.sh (lD (.cm u s t))), x] = ((M__law_variables [.tup ([s, t].map tD)]).map Rs.d).map (fun d => Out.nx [r, b, some (.sh (lD (.cm u s t))), some (.sh d)]) := by
   cases u
   ·show (match (((M__law_variables [.tup ([s, t].map tD)]).map Rs.d).map fun d => Out.nx [r, b, some (.sh (lD (.cm false s t))), some (.sh d)]) with | some (.nx δ') => sNil δ' | o => o) = _
    rw [e]; rfl
   ·show (match (((M__law_variables [.tup ([s, t].map tD)]).map Rs.d).map fun d => Out.nx [r, b, some (.sh (lD (.cm true s t))), some (.sh d)]) with | some (.nx δ') => sNil δ' | o => o) = _
    rw [e]; rfl
  rw [this, e]
  rfl
theorem miss_run {δ : En} {bd vs : List Str} {R : List D -> Prop} {j : Nat} (hj : (csD 1 [1] δ)[1]? = some (some (.sh (.lst (bd.map .str))))) (k : R ((miss bd vs).map .str)) :
  Op (compL (fun x => fB (f2 (inE true) (fVarB 0) (fVarB 1)) ((csD 1 [1] δ).set 0 (some (.sh x)))) (fun x => fVar 0 ((csD 1 [1] δ).set 0 (some (.sh x)))) (vs.map .str)) R := by
 refine op_compI (p := fun v => !decide (v ∈ bd)) (hh := .str) (fun v _ => ?_) (fun v _ _ => ?_) k
 ·refine ⟨!decide (v ∈ bd), ?_, rfl⟩
  have h1 : fVarB 1 ((csD 1 [1] δ).set 0 (some (.sh (.str v)))) = some (.lst (bd.map .str)) := by
   unfold fVarB
   rw [List.getElem?_set_ne (by decide), hj]
   rfl
  have h0 : fVarB 0 ((csD 1 [1] δ).set 0 (some (.sh (.str v)))) = some (.str v) := by
   unfold fVarB
   rw [List.getElem?_set_self (by simp)]
   rfl
  unfold fB f2
  rw [h0, h1]
  simp only [Option.bind_some]
  rw [inA_strs]
 ·refine ⟨_, ?_, rfl⟩
  unfold fVar
  rw [List.getElem?_set_self (by simp)]
theorem miss_comp {it : En -> Option (List D)} {δ : En} {bd vs : List Str} (hi : it δ = some (vs.map .str)) (hl : vs.length <= 1000) (h1 : δ[1]? = some (some (.sh (.lst (bd.map .str))))) :
  fComp 1 [1] 0 it (fB (f2 (inE true) (fVarB 0) (fVarB 1))) (fVar 0) δ = some (.fr (.lst ((miss bd vs).map .str))) := by
 obtain ⟨ys, e, rfl⟩ := miss_run (δ := δ) (bd := bd) (vs := vs) (R := fun ys => ys = (miss bd vs).map .str) (j := 0) (by simp [csD, h1]) rfl
 unfold fComp
 rw [hi, Option.bind_some, if_pos (by rw [List.length_map]; exact sl_big hl), e]
 rfl
theorem seq_if {c : En -> Option Bool} {A : FS} {δ : En} {b : Bool} (h : c δ = some b) : sSeq (sIf c A sNil) sNil δ = (match (if b = true then A δ else some (.nx δ)) with | some (.nx δ') => some (.nx δ') | o => o) := by
 show (match ((c δ).bind fun b => if b = true then A δ else sNil δ) with | some (.nx δ') => sNil δ' | o => o) = _
 rw [h]
 rfl
noncomputable def sfB : FS := sIf (fB (f2 (eqO false) (f2 ixA (fVarB 2) (fC (.int 0))) (fC (.str "yes")))) (sSeq (sSet 1 (f2 addD (fVarB 1) (fVarB 3))) sNil) (sSeq (sIf (fB (f2 (neE) (fPub (fComp 1 [1] 0 (oSeq (fVar 3)) (fB (f2 (inE true) (fVarB 0) (fVarB 1))) (fVar 0))) (fPub (fLstR fNil)))) (sSeq (sRet (fSh (fC (.bl false)))) sNil) sNil) sNil)
theorem ne_nil (vs : List Str) : neE (.lst (vs.map .str)) (.lst []) = some (.bl (!vs.isEmpty)) := by
 have e : neE (.lst (vs.map .str)) (.lst []) = ((if (vs.map D.str).all (plainN 8) = true /\ ([] : List D).all (plainN 8) = true then some (D.bl (!eqAs (vs.map .str) [])) else none).or (eqDc true (.lst (vs.map .str)) (.lst []))).or (neI (.lst (vs.map .str)) (.lst [])) := rfl
 rw [e, if_pos ⟨by rw [List.all_map]; exact List.all_eq_true.mpr fun _ _ => rfl, rfl⟩]
 cases vs <;> rfl
theorem eq_nil (vs : List Str) : eqO false (.lst (vs.map .str)) (.lst []) = some (.bl vs.isEmpty) := by
 have e : eqO false (.lst (vs.map .str)) (.lst []) = ((if (vs.map D.str).all (plainN 8) = true /\ ([] : List D).all (plainN 8) = true then some (D.bl (eqAs (vs.map .str) [])) else none).or (eqDc false (.lst (vs.map .str)) (.lst []))) := rfl
 rw [e, if_pos ⟨by rw [List.all_map]; exact List.all_eq_true.mpr fun _ _ => rfl, rfl⟩]
 cases vs <;> rfl
theorem add_strs {xs ys : List Str} (h : xs.length + ys.length <= 1000) : addD (.lst (xs.map .str)) (.lst (ys.map .str)) = some (.lst ((xs ++ ys).map .str)) := by
 simp [addD, iAdd, sAdd, tupAdd, lAdd]
 exact sl_big (by omega)
theorem sfB_run {r : Option Sl} {bd : List Str} (l : Lt) (hl : bd.length + (lv l).length <= 1000) :
  sfB [r, some (.sh (.lst (bd.map .str))), some (.sh (lD l)), some (.sh (.lst ((lv l).map .str)))] =
   if isY l = true then some (.nx [r, some (.sh (.lst ((bd ++ lv l).map .str))), some (.sh (lD l)), some (.sh (.lst ((lv l).map .str)))])
   else if (miss bd (lv l)).isEmpty = true then some (.nx [r, some (.sh (.lst (bd.map .str))), some (.sh (lD l)), some (.sh (.lst ((lv l).map .str)))])
   else some (.rt (.sh (.bl false)) [r, some (.sh (.lst (bd.map .str))), some (.sh (lD l)), some (.sh (.lst ((lv l).map .str)))]) := by
 have hy : fB (f2 (eqO false) (f2 ixA (fVarB 2) (fC (.int 0))) (fC (.str "yes"))) [r, some (.sh (.lst (bd.map .str))), some (.sh (lD l)), some (.sh (.lst ((lv l).map .str)))] = some (isY l) := by
  cases l with
  | pr y p ts => cases y <;> rfl
  | cm u s t => cases u <;> rfl
 have hc := miss_comp (it := oSeq (fVar 3)) (δ := [r, some (.sh (.lst (bd.map .str))), some (.sh (lD l)), some (.sh (.lst ((lv l).map .str)))]) (bd := bd) (vs := lv l) rfl (by omega) rfl
 unfold sfB sIf
 rw [hy, Option.bind_some]
 by_cases h : isY l = true
 ·rw [if_pos h, if_pos h]
  show (match ((addD (.lst (bd.map .str)) (.lst ((lv l).map .str))).map fun d => Out.nx [r, some (.sh d), some (.sh (lD l)), some (.sh (.lst ((lv l).map .str)))]) with | some (.nx δ') => sNil δ' | o => o) = _
  rw [add_strs hl]
  rfl
 ·rw [if_neg h, if_neg h]
  have ht : fB (f2 (neE) (fPub (fComp 1 [1] 0 (oSeq (fVar 3)) (fB (f2 (inE true) (fVarB 0) (fVarB 1))) (fVar 0))) (fPub (fLstR fNil))) [r, some (.sh (.lst (bd.map .str))), some (.sh (lD l)), some (.sh (.lst ((lv l).map .str)))] = some (!(miss bd (lv l)).isEmpty) := by
   show (match (((fComp 1 [1] 0 (oSeq (fVar 3)) (fB (f2 (inE true) (fVarB 0) (fVarB 1))) (fVar 0) [r, some (.sh (.lst (bd.map .str))), some (.sh (lD l)), some (.sh (.lst ((lv l).map .str)))]).map Rs.d).bind fun x => ((fLstR fNil [r, some (.sh (.lst (bd.map .str))), some (.sh (lD l)), some (.sh (.lst ((lv l).map .str)))]).map Rs.d).bind fun y => neE x y) with | some (.bl b) => some b | _ => none) = _
   rw [hc]
   show (match (neE (.lst ((miss bd (lv l)).map .str)) (.lst [])) with | some (.bl b) => some b | _ => none) = _
   rw [ne_nil]
  refine (seq_if ht).trans ?_
  cases hm : (miss bd (lv l)).isEmpty <;> rfl
noncomputable def sfF : FS := sSeq sfA (sSeq sfB sNil)
theorem sf_step {r x : Option Sl} {bd : List Str} (l : Lt) (h : OkL l) (hl : bd.length + (lv l).length <= 1000) : sfF [r, some (.sh (.lst (bd.map .str))), some (.sh (lD l)), x] =
   if isY l = true then some (.nx [r, some (.sh (.lst ((bd ++ lv l).map .str))), some (.sh (lD l)), some (.sh (.lst ((lv l).map .str)))])
   else if (miss bd (lv l)).isEmpty = true then some (.nx [r, some (.sh (.lst (bd.map .str))), some (.sh (lD l)), some (.sh (.lst ((lv l).map .str)))])
   else some (.rt (.sh (.bl false)) [r, some (.sh (.lst (bd.map .str))), some (.sh (lD l)), some (.sh (.lst ((lv l).map .str)))]) := by
 unfold sfF sSeq
 rw [sfA_run l h]
 dsimp only
 rw [sfB_run l hl]
 by_cases h1 : isY l = true
 ·rw [if_pos h1]; rfl
 ·rw [if_neg h1]
  by_cases h2 : (miss bd (lv l)).isEmpty = true
  ·rw [if_pos h2]; rfl
  ·rw [if_neg h2]
noncomputable def ahead : List Str -> List Lt -> Bool
 | _, [] => true
 | bd, l :: ls => if isY l = true then ahead (bd ++ lv l) ls else (miss bd (lv l)).isEmpty && ahead bd ls
theorem lv_len {l : Lt} (h : OkL l) : (lv l).length <= 4 := Nat.le_trans (tVs_len _) (lT_len l h)
theorem sf_run {r : Option Sl} : ∀ (b : List Lt) (bd : List Str) (x2 x3 : Option Sl), (∀ l ∈ b, OkL l) -> bd.length + 4 * b.length <= 1000 ->
  (ahead bd b = false -> ∃ δ, forL 2 sfF (b.map lD) [r, some (.sh (.lst (bd.map .str))), x2, x3] = some (.rt (.sh (.bl false)) δ)) /\
  (ahead bd b = true -> ∃ x2' x3', forL 2 sfF (b.map lD) [r, some (.sh (.lst (bd.map .str))), x2, x3] = some (.nx [r, some (.sh (.lst ((bd ++ yv b).map .str))), x2', x3']))
 | [], bd, x2, x3, _, _ => ⟨(fun h => by cases h), (fun _ => ⟨x2, x3, by simp [forL, yv]⟩)⟩
 | l :: b, bd, x2, x3, h, hn => by
  simp only [List.length_cons] at hn
  have h4 := lv_len (h l (by simp))
  have st := sf_step (r := r) (x := x3) (bd := bd) l (h l (by simp)) (by omega)
  have e : forL 2 sfF ((l :: b).map lD) [r, some (.sh (.lst (bd.map .str))), x2, x3] = (match sfF [r, some (.sh (.lst (bd.map .str))), some (.sh (lD l)), x3] with | some (.nx δ') => forL 2 sfF (b.map lD) δ' | some (.ct δ') => forL 2 sfF (b.map lD) δ' | some (.ex c δ') => some (.ex c δ') | some (.bk δ') => some (.nx δ') | some (.rt d δ') => some (.rt d δ') | none => none) := rfl
  rw [e, st]
  unfold ahead
  by_cases hy : isY l = true
  ·rw [if_pos hy, if_pos hy]
   have := sf_run (r := r) b (bd ++ lv l) (some (.sh (lD l))) (some (.sh (.lst ((lv l).map .str)))) (fun l' h' => h l' (List.mem_cons_of_mem _ h')) (by simp; omega)
   have e2 : yv (l :: b) = lv l ++ yv b := by simp [yv, List.filter_cons, hy]
   rw [e2, <- List.append_assoc]
   exact this
  ·rw [if_neg hy, if_neg hy]
   have e2 : yv (l :: b) = yv b := by simp [yv, List.filter_cons, hy]
   rw [e2]
   cases hm : (miss bd (lv l)).isEmpty with
   | false => exact ⟨(fun _ => ⟨_, rfl⟩), (fun z => by cases z)⟩
   | true =>
    simp only [Bool.true_and, if_true]
    exact sf_run (r := r) b bd (some (.sh (lD l))) (some (.sh (.lst ((lv l).map .str)))) (fun l' h' => h l' (List.mem_cons_of_mem _ h')) (by omega)
theorem e_lsafe (hd : Str) (ts : List Tm) (g : Option Gp) (b : List Lt) (ht : ts.length <= 3) (hb : OkB b) : M__law_safe [rD hd ts g b] = some (.sh (.bl (ahead [] b && (miss (yv b) (hV ts g)).isEmpty))) := by
 have h6 := hb.hi
 obtain ⟨k1, k2⟩ := sf_run (r := some (.sh (rD hd ts g b))) b [] none none hb.each (by simp; omega)
 have hh : (hV ts g).length <= 1000 := by
  have := tVs_len (ts ++ gTs g)
  have : (gTs g).length <= 1 := by cases g with | none => simp [gTs] | some g => cases g <;> simp [gTs, gT]
  unfold hV
  simp only [List.length_append] at *
  omega
 have run : M__law_safe [rD hd ts g b] = (match fb__law_safe [some (.sh (rD hd ts g b)), none, none, none] with | some (.rt d _) => some d | some (.nx _) => some (.sh .non) | _ => none) := by
  unfold M__law_safe runF
  exact if_pos rfl
 have fbv : fb__law_safe [some (.sh (rD hd ts g b)), none, none, none] = (match forL 2 sfF (b.map lD) [some (.sh (rD hd ts g b)), some (.sh (.lst (([] : List Str).map .str))), none, none] with | some (.nx δ') => (sSeq (sRet (fSh (f2 (eqO false) (fPub (fComp 1 [1] 0 (oSeq (fPub (fCallR M__law_variables (fCons (f2 ixA (fVarB 0) (fC (.int 1))) fNil)))) (fB (f2 (inE true) (fVarB 0) (fVarB 1))) (fVar 0))) (fPub (fLstR fNil))))) sNil) δ' | o => o) := rfl
 rw [run, fbv]
 cases ha : ahead [] b with
 | false =>
  obtain ⟨δ, e⟩ := k1 ha
  rw [e]
  rfl
 | true =>
  obtain ⟨x2, x3, e⟩ := k2 ha
  rw [e]
  dsimp only
  have hi : oSeq (fPub (fCallR M__law_variables (fCons (f2 ixA (fVarB 0) (fC (.int 1))) fNil))) [some (.sh (rD hd ts g b)), some (.sh (.lst (([] ++ yv b).map .str))), x2, x3] = some ((hV ts g).map .str) := by
   show (match ((M__law_variables [.tup (hD ts g)]).map Rs.d) with | some (.lst ds) => some ds | some (.tup ds) => some ds | some (.str z) => some (signs z) | _ => none) = _
   rw [e_lawvH ts g (by omega)]
   rfl
  have hc := miss_comp (bd := [] ++ yv b) hi hh rfl
  show (match (match (((((fComp 1 [1] 0 (oSeq (fPub (fCallR M__law_variables (fCons (f2 ixA (fVarB 0) (fC (.int 1))) fNil)))) (fB (f2 (inE true) (fVarB 0) (fVarB 1))) (fVar 0) [some (.sh (rD hd ts g b)), some (.sh (.lst (([] ++ yv b).map .str))), x2, x3]).map Rs.d).bind fun x => ((fLstR fNil [some (.sh (rD hd ts g b)), some (.sh (.lst (([] ++ yv b).map .str))), x2, x3]).map Rs.d).bind fun y => eqO false x y).map Rs.sh).map fun r => Out.rt r [some (.sh (rD hd ts g b)), some (.sh (.lst (([] ++ yv b).map .str))), x2, x3]) with | some (.nx δ') => sNil δ' | o => o) with | some (.rt d _) => some d | some (.nx _) => some (.sh .non) | _ => none) = _
  rw [hc]
  show (match (match (((eqO false (.lst ((miss ([] ++ yv b) (hV ts g)).map .str)) (.lst [])).map Rs.sh).map fun r => Out.rt r [some (.sh (rD hd ts g b)), some (.sh (.lst (([] ++ yv b).map .str))), x2, x3]) with | some (.nx δ') => sNil δ' | o => o) with | some (.rt d _) => some d | some (.nx _) => some (.sh .non) | _ => none) = _
  rw [eq_nil]
  rfl
theorem e_bvl (b : List Lt) (h : OkB b) : M_body_variables [.lst (b.map lD)] = some (.fr (.lst ((sortS (bV b)).map .str))) := by
 refine Op.eq ?_
 unfold M_body_variables fb_body_variables
 have h6 := h.hi
 walk_at "wrun"; walk_at "wp"
 refine ⟨sl_big (by simp), ?_⟩
 walk_at "wp"
 refine so_forL (fun k δ => ∃ x, δ = [some (.sh (.lst (b.map lD))), some (.pv (.lst ((bV (b.take k)).map .str)) none), x]) ⟨_, rfl⟩ ?_ ?_
 ·rintro k a hk δ ⟨x, rfl⟩
  obtain ⟨hk1, e⟩ := List.getElem?_eq_some_iff.mp hk
  simp only [List.length_map] at hk1
  rw [List.getElem_map] at e
  subst e
  have hok := h.each b[k] (List.getElem_mem _)
  dsimp only [List.set]
  walk_at "wp"
  refine op_of (e_lv _ hok) ⟨_, rfl, ?_, ?_⟩
  ·have h1 := bV_len (b.take k) fun l hl => h.each l (List.mem_of_mem_take hl)
   have h2 := tVs_len (lT b[k])
   have h3 := lT_len _ hok
   rw [List.length_take] at h1
   refine sl_big ?_
   simp only [List.length_map]
   omega
  ·walk_at "wp"
   refine ⟨some (.sh (lD b[k])), ?_⟩
   have e2 : bV (b.take (k + 1)) = bV (b.take k) ++ (lT b[k]).flatMap tV := by
    rw [List.take_succ_eq_append_getElem hk1]
    simp only [bV, List.flatMap_append, List.flatMap_cons, List.flatMap_nil, List.append_nil]
   rw [e2, List.map_append]
 ·rintro δ ⟨x, rfl⟩
  have hl := bV_len b h.each
  walk_at "wp"
  rw [List.length_map, List.take_length]
  exact o_sortSet rfl (by omega) rfl
noncomputable def dS (zs : List Str) : Mo := .dic (zs.map Sum.inr) (zs.map fun _ => .bl true)
noncomputable def addS (zs : List Str) (v : Str) : List Str := if v ∈ zs then zs else zs ++ [v]
theorem put_same (v : Str) : ∀ (zs : List Str), v ∈ zs -> putVals (zs.map (Sum.inr : Str -> Key)) (zs.map fun _ => D.bl true) (.inr v) (.bl true) = zs.map fun _ => D.bl true
 | [], h => nomatch h
 | z :: zs, h => by
  unfold putVals
  by_cases e : z = v
  ·simp [e]
  ·have h' : v ∈ zs := by
    rcases List.mem_cons.mp h with h | h
    ·exact absurd h.symm e
    ·exact h
   have e' : ¬ (Sum.inr z : Key) = Sum.inr v := fun q => e (Sum.inr.inj q)
   simp [e, put_same v zs h']
theorem put_S (zs : List Str) (v : Str) : Mo.dic (putKeys (zs.map Sum.inr) (.inr v)) (putVals (zs.map Sum.inr) (zs.map fun _ => D.bl true) (.inr v) (.bl true)) = dS (addS zs v) := by
 unfold dS addS putKeys
 by_cases h : v ∈ zs
 ·have h' : (Sum.inr v : Key) ∈ zs.map Sum.inr := List.mem_map.mpr ⟨v, h, rfl⟩
  rw [if_pos h, if_pos h', put_same v zs h]
 ·have h' : (Sum.inr v : Key) ∉ zs.map Sum.inr := fun q => by obtain ⟨z, hz, e⟩ := List.mem_map.mp q; exact h (Sum.inr.inj e ▸ hz)
  rw [if_neg h, if_neg h', putVals_new (by simp) h']
  simp
theorem addS_mem {zs : List Str} {v w : Str} : w ∈ addS zs v ↔ w ∈ zs \/ w = v := by
 unfold addS
 split
 ·rename_i h
  constructor
  ·exact .inl
  ·rintro (h' | rfl)
   ·exact h'
   ·exact h
 ·simp
theorem val_S (v : Str) : ∀ zs : List Str, (valD (zs.map (Sum.inr : Str -> Key)) (zs.map fun _ => D.bl true) (.inr v)).isSome = decide (v ∈ zs)
 | [] => rfl
 | z :: zs => by
  have ih := val_S v zs
  unfold valD at *
  simp only [List.map_cons, List.zip_cons_cons, List.find?_cons]
  by_cases e : z = v
  ·simp [e]
  ·have e' : ¬ (Sum.inr z : Key) = Sum.inr v := fun q => e (Sum.inr.inj q)
   have e2 : ¬ v = z := fun q => e q.symm
   simp only [e', decide_false, List.mem_cons, e2, false_or]
   exact ih
theorem in_S (v : Str) (zs : List Str) : inE true (.str v) (dS zs).d = some (.bl (!decide (v ∈ zs))) := by
 have : inE true (.str v) (dS zs).d = some (.bl (!(valD (zs.map (Sum.inr : Str -> Key)) (zs.map fun _ => D.bl true) (.inr v)).isSome)) := rfl
 rw [this, val_S]
noncomputable def hF : FS := sSeq (sIf (fB (f2 (eqO false) (f2 ixA (fVarB 2) (fC (.int 0))) (fC (.str "yes")))) (sSeq (sDPutM 1 (fVar 3) (fC (.bl true))) sNil) (sSeq (sIf (fB (f2 (inE true) (fVarB 3) (fVarB 1))) (sSeq (sRet (fSh (fC (.bl false)))) sNil) sNil) sNil)) sNil
theorem h_step {b : Option Sl} {zs : List Str} (l : Lt) (v : Str) (hl : zs.length <= 1000) : hF [b, some (.pv (dS zs) none), some (.sh (lD l)), some (.sh (.str v))] =
  if isY l = true then some (.nx [b, some (.pv (dS (addS zs v)) none), some (.sh (lD l)), some (.sh (.str v))])
  else if v ∈ zs then some (.nx [b, some (.pv (dS zs) none), some (.sh (lD l)), some (.sh (.str v))]) else some (.rt (.sh (.bl false)) [b, some (.pv (dS zs) none), some (.sh (lD l)), some (.sh (.str v))]) := by
 have hy : fB (f2 (eqO false) (f2 ixA (fVarB 2) (fC (.int 0))) (fC (.str "yes"))) [b, some (.pv (dS zs) none), some (.sh (lD l)), some (.sh (.str v))] = some (isY l) := by
  cases l with
  | pr y p ts => cases y <;> rfl
  | cm u s t => cases u <;> rfl
 have hp : sDPutM 1 (fVar 3) (fC (.bl true)) [b, some (.pv (dS zs) none), some (.sh (lD l)), some (.sh (.str v))] = some (.nx [b, some (.pv (dS (addS zs v)) none), some (.sh (lD l)), some (.sh (.str v))]) := by
  show (if (zs.map fun _ => D.bl true).length < sizeLine then some (Out.nx [b, some (.pv (.dic (putKeys (zs.map Sum.inr) (.inr v)) (putVals (zs.map Sum.inr) (zs.map fun _ => D.bl true) (.inr v) (.bl true))) none), some (.sh (lD l)), some (.sh (.str v))]) else none) = _
  rw [if_pos (by rw [List.length_map]; exact nlL hl (by decide)), put_S]
 have hi : fB (f2 (inE true) (fVarB 3) (fVarB 1)) [b, some (.pv (dS zs) none), some (.sh (lD l)), some (.sh (.str v))] = some (!decide (v ∈ zs)) := by
  show (match inE true (.str v) (dS zs).d with | some (.bl b) => some b | _ => none) = _
  rw [in_S]
 show (match ((fB (f2 (eqO false) (f2 ixA (fVarB 2) (fC (.int 0))) (fC (.str "yes"))) [b, some (.pv (dS zs) none), some (.sh (lD l)), some (.sh (.str v))]).bind fun c => if c = true then sSeq (sDPutM 1 (fVar 3) (fC (.bl true))) sNil [b, some (.pv (dS zs) none), some (.sh (lD l)), some (.sh (.str v))] else sSeq (sIf (fB (f2 (inE true) (fVarB 3) (fVarB 1))) (sSeq (sRet (fSh (fC (.bl false)))) sNil) sNil) sNil [b, some (.pv (dS zs) none), some (.sh (lD l)), some (.sh (.str v))]) with | some (.nx δ') => sNil δ' | o => o) = _
 rw [hy, Option.bind_some]
 by_cases h : isY l = true
 ·rw [if_pos h, if_pos h]
  show (match (match sDPutM 1 (fVar 3) (fC (.bl true)) [b, some (.pv (dS zs) none), some (.sh (lD l)), some (.sh (.str v))] with | some (.nx δ') => sNil δ' | o => o) with | some (.nx δ') => sNil δ' | o => o) = _
  rw [hp]
  rfl
 ·rw [if_neg h, if_neg h, seq_if hi]
  by_cases hv : v ∈ zs
  ·rw [if_pos hv]; simp [hv]
  ·rw [if_neg hv]; simp [hv]
theorem h_run {b : Option Sl} (l : Lt) : ∀ (vs zs : List Str) (x : Option Sl), zs.length + vs.length <= 1000 ->
  (isY l = true -> ∃ zs' x', forL 3 hF (vs.map .str) [b, some (.pv (dS zs) none), some (.sh (lD l)), x] = some (.nx [b, some (.pv (dS zs') none), some (.sh (lD l)), x']) /\ zs'.length <= zs.length + vs.length /\ ∀ w, w ∈ zs' ↔ w ∈ zs \/ w ∈ vs) /\
  (isY l = false -> (∀ v ∈ vs, v ∈ zs) -> ∃ x', forL 3 hF (vs.map .str) [b, some (.pv (dS zs) none), some (.sh (lD l)), x] = some (.nx [b, some (.pv (dS zs) none), some (.sh (lD l)), x'])) /\
  (isY l = false -> (¬ ∀ v ∈ vs, v ∈ zs) -> ∃ δ, forL 3 hF (vs.map .str) [b, some (.pv (dS zs) none), some (.sh (lD l)), x] = some (.rt (.sh (.bl false)) δ))
 | [], zs, x, _ => ⟨(fun _ => ⟨zs, x, rfl, by simp, by simp⟩), (fun _ _ => ⟨x, rfl⟩), (fun _ h => absurd (fun v hv => nomatch hv) h)⟩
 | v :: vs, zs, x, hl => by
  simp only [List.length_cons] at hl
  have st := h_step (b := b) (zs := zs) l v (by omega)
  have e : forL 3 hF ((v :: vs).map .str) [b, some (.pv (dS zs) none), some (.sh (lD l)), x] = (match hF [b, some (.pv (dS zs) none), some (.sh (lD l)), some (.sh (.str v))] with | some (.nx δ') => forL 3 hF (vs.map .str) δ' | some (.ct δ') => forL 3 hF (vs.map .str) δ' | some (.ex c δ') => some (.ex c δ') | some (.bk δ') => some (.nx δ') | some (.rt d δ') => some (.rt d δ') | none => none) := rfl
  rw [e, st]
  refine ⟨fun hy => ?_, fun hy ha => ?_, fun hy ha => ?_⟩
  ·rw [if_pos hy]
   have hla : (addS zs v).length <= zs.length + 1 := by unfold addS; split <;> simp
   obtain ⟨zs', x', h1, h2, h3⟩ := (h_run (b := b) l vs (addS zs v) (some (.sh (.str v))) (by omega)).1 hy
   refine ⟨zs', x', h1, by simp only [List.length_cons]; omega, fun w => ?_⟩
   rw [h3, addS_mem, List.mem_cons, or_assoc]
  ·have hn : ¬ isY l = true := by rw [hy]; exact Bool.false_ne_true
   rw [if_neg hn, if_pos (ha v (by simp))]
   exact (h_run (b := b) l vs zs (some (.sh (.str v))) (by omega)).2.1 hy fun w hw => ha w (List.mem_cons_of_mem _ hw)
  ·have hn : ¬ isY l = true := by rw [hy]; exact Bool.false_ne_true
   rw [if_neg hn]
   by_cases hv : v ∈ zs
   ·rw [if_pos hv]
    refine (h_run (b := b) l vs zs (some (.sh (.str v))) (by omega)).2.2 hy fun q => ha fun w hw => ?_
    rcases List.mem_cons.mp hw with rfl | hw
    ·exact hv
    ·exact q w hw
   ·rw [if_neg hv]
    exact ⟨_, rfl⟩
theorem miss_iff {bd vs : List Str} : (miss bd vs).isEmpty = true ↔ ∀ v ∈ vs, v ∈ bd := by
 unfold miss
 rw [List.isEmpty_iff, List.filter_eq_nil_iff]
 constructor
 ·intro h v hv
  have := h v hv
  simpa using this
 ·intro h v hv
  simpa using h v hv
noncomputable def gF : FS := sSeq (sFor 3 (oSeq (fPub (fCallR M_literal_variables (fCons (fVar 2) fNil)))) hF) sNil
theorem g_run {r : Option Sl} : ∀ (b : List Lt) (bd zs : List Str) (x2 x3 : Option Sl), (∀ l ∈ b, OkL l) -> (∀ w, w ∈ zs ↔ w ∈ bd) -> zs.length + 4 * b.length <= 1000 ->
  (ahead bd b = false -> ∃ δ, forL 2 gF (b.map lD) [r, some (.pv (dS zs) none), x2, x3] = some (.rt (.sh (.bl false)) δ)) /\
  (ahead bd b = true -> ∃ δ, forL 2 gF (b.map lD) [r, some (.pv (dS zs) none), x2, x3] = some (.nx δ))
 | [], bd, zs, x2, x3, _, _, _ => ⟨(fun h => by cases h), (fun _ => ⟨_, rfl⟩)⟩
 | l :: b, bd, zs, x2, x3, h, hz, hn => by
  simp only [List.length_cons] at hn
  have h4 := lv_len (h l (by simp))
  obtain ⟨r1, r2, r3⟩ := h_run (b := r) l (lv l) zs x3 (by omega)
  have eg : gF [r, some (.pv (dS zs) none), some (.sh (lD l)), x3] = (match forL 3 hF ((lv l).map .str) [r, some (.pv (dS zs) none), some (.sh (lD l)), x3] with | some (.nx δ') => sNil δ' | o => o) := by
   show (match ((oSeq (fPub (fCallR M_literal_variables (fCons (fVar 2) fNil))) [r, some (.pv (dS zs) none), some (.sh (lD l)), x3]).bind fun xs => forL 3 hF xs [r, some (.pv (dS zs) none), some (.sh (lD l)), x3]) with | some (.nx δ') => sNil δ' | o => o) = _
   have hi : oSeq (fPub (fCallR M_literal_variables (fCons (fVar 2) fNil))) [r, some (.pv (dS zs) none), some (.sh (lD l)), x3] = some ((lv l).map .str) := by
    show (match ((M_literal_variables [lD l]).map Rs.d) with | some (.lst ds) => some ds | some (.tup ds) => some ds | some (.str z) => some (signs z) | _ => none) = _
    rw [e_lv l (h l (by simp))]
    rfl
   rw [hi]
   rfl
  have e : forL 2 gF ((l :: b).map lD) [r, some (.pv (dS zs) none), x2, x3] = (match gF [r, some (.pv (dS zs) none), some (.sh (lD l)), x3] with | some (.nx δ') => forL 2 gF (b.map lD) δ' | some (.ct δ') => forL 2 gF (b.map lD) δ' | some (.ex c δ') => some (.ex c δ') | some (.bk δ') => some (.nx δ') | some (.rt d δ') => some (.rt d δ') | none => none) := rfl
  rw [e, eg]
  unfold ahead
  by_cases hy : isY l = true
  ·rw [if_pos hy]
   obtain ⟨zs', x', q1, q2, q3⟩ := r1 hy
   rw [q1]
   exact g_run (r := r) b (bd ++ lv l) zs' (some (.sh (lD l))) x' (fun l' h' => h l' (List.mem_cons_of_mem _ h')) (fun w => by rw [q3, hz, List.mem_append]) (by omega)
  ·rw [if_neg hy]
   have hy' : isY l = false := by simpa using hy
   cases hm : (miss bd (lv l)).isEmpty with
   | false =>
    have : ¬ ∀ v ∈ lv l, v ∈ zs := fun q => by
     have := miss_iff.mpr fun v hv => (hz v).mp (q v hv)
     rw [hm] at this
     cases this
    obtain ⟨δ, q⟩ := r3 hy' this
    rw [q]
    exact ⟨(fun _ => ⟨_, rfl⟩), (fun z => by cases z)⟩
   | true =>
    obtain ⟨x', q⟩ := r2 hy' fun v hv => (hz v).mpr (miss_iff.mp hm v hv)
    rw [q]
    simp only [Bool.true_and]
    exact g_run (r := r) b bd zs (some (.sh (lD l))) x' (fun l' h' => h l' (List.mem_cons_of_mem _ h')) hz (by omega)
theorem e_aba (b : List Lt) (hb : OkB b) : M_are_bound_ahead [.tup (b.map lD)] = some (.sh (.bl (ahead [] b))) := by
 have h6 := hb.hi
 obtain ⟨k1, k2⟩ := g_run (r := some (.sh (.tup (b.map lD)))) b [] [] none none hb.each (fun _ => Iff.rfl) (by simp; omega)
 have run : M_are_bound_ahead [.tup (b.map lD)] = (match fb_are_bound_ahead [some (.sh (.tup (b.map lD))), none, none, none] with | some (.rt d _) => some d | some (.nx _) => some (.sh .non) | _ => none) := by
  unfold M_are_bound_ahead runF
  exact if_pos rfl
 have fbv : fb_are_bound_ahead [some (.sh (.tup (b.map lD))), none, none, none] = (match forL 2 gF (b.map lD) [some (.sh (.tup (b.map lD))), some (.pv (dS []) none), none, none] with | some (.nx δ') => (sSeq (sRet (fSh (fC (.bl true)))) sNil) δ' | o => o) := rfl
 rw [run, fbv]
 cases ha : ahead [] b with
 | false => obtain ⟨δ, e⟩ := k1 ha; rw [e]
 | true => obtain ⟨δ, e⟩ := k2 ha; rw [e]; rfl
theorem in_strsF (z : Str) (fs : List Str) : inE false (.str z) (.lst (fs.map .str)) = some (.bl (decide (z ∈ fs))) := by
 show (inAD false (.str z) (.lst (fs.map .str))).or _ = _
 unfold inAD
 dsimp only
 rw [if_pos ⟨rfl, by rw [List.all_map]; exact List.all_eq_true.mpr fun c _ => rfl⟩]
 have : inA (.str z) (fs.map .str) = decide (z ∈ fs) := by
  unfold inA
  rw [List.any_map, Bool.eq_iff_iff, List.any_eq_true, decide_eq_true_iff]
  constructor
  ·rintro ⟨g, hg, e⟩
   have e : eqA (.str g) (.str z) = true := e
   rw [eqA_flat rfl rfl] at e
   simp [toV, eqV] at e
   rw [<- e]; exact hg
  ·intro h
   refine ⟨z, h, ?_⟩
   show eqA (.str z) (.str z) = true
   rw [eqA_flat rfl rfl]; simp [toV, eqV]
 rw [this]
 rfl
theorem yes_comp {it : En -> Option (List D)} {δ : En} {b : List Lt} (hi : it δ = some (b.map lD)) (hl : b.length <= 1000) :
  fComp 1 [] 0 it (fB (f2 (eqO false) (f2 ixA (fVarB 0) (fC (.int 0))) (fC (.str "yes")))) (fVar 0) δ = some (.fr (.lst ((b.filter isY).map lD))) := by
 have h : Op (compL (fun x => fB (f2 (eqO false) (f2 ixA (fVarB 0) (fC (.int 0))) (fC (.str "yes"))) ((csD 1 [] δ).set 0 (some (.sh x)))) (fun x => fVar 0 ((csD 1 [] δ).set 0 (some (.sh x)))) (b.map lD)) (fun ys => ys = (b.filter isY).map lD) := by
  refine op_compI (p := isY) (hh := lD) (fun l _ => ⟨isY l, ?_, rfl⟩) (fun l _ _ => ⟨_, rfl, rfl⟩) rfl
  cases l with
  | pr y p ts => cases y <;> rfl
  | cm u s t => cases u <;> rfl
 obtain ⟨ys, e, rfl⟩ := h
 unfold fComp
 rw [hi, Option.bind_some, if_pos (by rw [List.length_map]; exact sl_big hl), e]
 rfl
theorem in_comp {it : En -> Option (List D)} {δ : En} {bd vs : List Str} (hi : it δ = some (vs.map .str)) (hl : vs.length <= 1000) (h1 : δ[1]? = some (some (.sh (.lst (bd.map .str))))) :
  fComp 1 [1] 0 it bYes (f2 (inE false) (fVarB 0) (fVarB 1)) δ = some (.fr (.lst (vs.map fun v => .bl (decide (v ∈ bd))))) := by
 have key : ∀ vs : List Str, compL (fun x => bYes ((csD 1 [1] δ).set 0 (some (.sh x)))) (fun x => f2 (inE false) (fVarB 0) (fVarB 1) ((csD 1 [1] δ).set 0 (some (.sh x)))) (vs.map .str) = some (vs.map fun v => .bl (decide (v ∈ bd))) := by
  intro vs
  induction vs with
  | nil => rfl
  | cons v vs ih =>
   have hj : (csD 1 [1] δ)[1]? = some (some (.sh (.lst (bd.map .str)))) := by simp [csD, h1]
   have h1' : fVarB 1 ((csD 1 [1] δ).set 0 (some (.sh (.str v)))) = some (.lst (bd.map .str)) := by
    unfold fVarB
    rw [List.getElem?_set_ne (by decide), hj]
    rfl
   have h0 : fVarB 0 ((csD 1 [1] δ).set 0 (some (.sh (.str v)))) = some (.str v) := by
    unfold fVarB
    rw [List.getElem?_set_self (by simp)]
    rfl
   have hv : f2 (inE false) (fVarB 0) (fVarB 1) ((csD 1 [1] δ).set 0 (some (.sh (.str v)))) = some (.bl (decide (v ∈ bd))) := by
    unfold f2
    rw [h0, h1', Option.bind_some, Option.bind_some, in_strsF]
   show ((some true).bind fun c => if c = true then (f2 (inE false) (fVarB 0) (fVarB 1) ((csD 1 [1] δ).set 0 (some (.sh (.str v))))).bind fun y => (compL _ _ (vs.map .str)).bind fun ys => some (y :: ys) else _) = _
   rw [hv, ih]
   rfl
 unfold fComp
 rw [hi, Option.bind_some, if_pos (by rw [List.length_map]; exact sl_big hl), key]
 rfl
theorem bools_map (bd : List Str) : ∀ vs : List Str, bools (vs.map fun v => D.bl (decide (v ∈ bd))) = some (vs.map fun v => decide (v ∈ bd))
 | [] => rfl
 | v :: vs => by
  have ih := bools_map bd vs
  simp only [List.map_cons]
  unfold bools
  rw [ih]
  rfl
theorem all_bools (bd vs : List Str) : allD [.lst (vs.map fun v => .bl (decide (v ∈ bd)))] = some (.bl (vs.all fun v => decide (v ∈ bd))) := by
 show ((bools (vs.map fun v => D.bl (decide (v ∈ bd)))).map fun bs => D.bl (bs.all id)) = _
 rw [bools_map]
 simp [List.all_map, Function.comp_def]
theorem hV_len (ts : List Tm) (g : Option Gp) (ht : ts.length <= 3) : (hV ts g).length <= 1000 := by
 have := tVs_len (ts ++ gTs g)
 have : (gTs g).length <= 1 := by cases g with | none => simp [gTs] | some g => cases g <;> simp [gTs, gT]
 unfold hV
 simp only [List.length_append] at *
 omega
theorem okB_filter {b : List Lt} (hb : OkB b) : OkB (b.filter isY) := ⟨Nat.le_trans (List.length_filter_le _ _) hb.hi, fun l hl => hb.each l (List.mem_filter.mp hl).1⟩
theorem all_miss (zs vs : List Str) (bd : List Str) (h : ∀ w, w ∈ zs ↔ w ∈ bd) : (vs.all fun v => decide (v ∈ zs)) = (miss bd vs).isEmpty := by
 rw [Bool.eq_iff_iff, miss_iff, List.all_eq_true]
 constructor
 ·intro q v hv; exact (h v).mp (by simpa using q v hv)
 ·intro q v hv; simpa using (h v).mpr (q v hv)
theorem e_is_safe (hd : Str) (ts : List Tm) (g : Option Gp) (b : List Lt) (ht : ts.length <= 3) (hb : OkB b) : M_is_safe [rD hd ts g b] = some (.sh (.bl (ahead [] b && (miss (yv b) (hV ts g)).isEmpty))) := by
 have h6 := hb.hi
 have c1 := yes_comp (it := oSeq (f2 ixA (fVarB 0) (fC (.int 2)))) (δ := [some (.sh (rD hd ts g b)), none]) (b := b) rfl (by omega)
 have e1 : sSet 1 (fPub (fCallR M_body_variables (fCons (fPub (fComp 1 [] 0 (oSeq (f2 ixA (fVarB 0) (fC (.int 2)))) (fB (f2 (eqO false) (f2 ixA (fVarB 0) (fC (.int 0))) (fC (.str "yes")))) (fVar 0))) fNil))) [some (.sh (rD hd ts g b)), none] = some (.nx [some (.sh (rD hd ts g b)), some (.sh (.lst ((sortS (yv b)).map .str)))]) := by
  show ((((((fComp 1 [] 0 (oSeq (f2 ixA (fVarB 0) (fC (.int 2)))) (fB (f2 (eqO false) (f2 ixA (fVarB 0) (fC (.int 0))) (fC (.str "yes")))) (fVar 0) [some (.sh (rD hd ts g b)), none]).map Rs.d).bind fun d => (some []).bind fun ds => some (d :: ds)).bind M_body_variables).map Rs.d).map fun d => Out.nx [some (.sh (rD hd ts g b)), some (.sh d)]) = _
  rw [c1]
  show (((M_body_variables [.lst ((b.filter isY).map lD)]).map Rs.d).map fun d => Out.nx [some (.sh (rD hd ts g b)), some (.sh d)]) = _
  rw [e_bvl _ (okB_filter hb)]
  rfl
 have hi : oSeq (fPub (fCallR M_head_variables (fCons (fVar 0) fNil))) [some (.sh (rD hd ts g b)), some (.sh (.lst ((sortS (yv b)).map .str)))] = some ((hV ts g).map .str) := by
  show (match ((M_head_variables [rD hd ts g b]).map Rs.d) with | some (.lst ds) => some ds | some (.tup ds) => some ds | some (.str z) => some (signs z) | _ => none) = _
  rw [e_hv hd ts g b ht]
  rfl
 have c2 := in_comp (bd := sortS (yv b)) hi (hV_len ts g ht) rfl
 have e2 : bNot (fB (fCallB allD (fCons (fPub (fComp 1 [1] 0 (oSeq (fPub (fCallR M_head_variables (fCons (fVar 0) fNil)))) bYes (f2 (inE false) (fVarB 0) (fVarB 1)))) fNil))) [some (.sh (rD hd ts g b)), some (.sh (.lst ((sortS (yv b)).map .str)))] = some (!(miss (yv b) (hV ts g)).isEmpty) := by
  show ((match ((((fComp 1 [1] 0 (oSeq (fPub (fCallR M_head_variables (fCons (fVar 0) fNil)))) bYes (f2 (inE false) (fVarB 0) (fVarB 1)) [some (.sh (rD hd ts g b)), some (.sh (.lst ((sortS (yv b)).map .str)))]).map Rs.d).bind fun d => (some []).bind fun ds => some (d :: ds)).bind allD) with | some (.bl b) => some b | _ => none).map (!·)) = _
  rw [c2]
  show ((match allD [.lst ((hV ts g).map fun v => .bl (decide (v ∈ sortS (yv b))))] with | some (.bl b) => some b | _ => none).map (!·)) = _
  rw [all_bools, all_miss _ _ (yv b) fun w => sortS_mem]
  rfl
 have run : M_is_safe [rD hd ts g b] = (match fb_is_safe [some (.sh (rD hd ts g b)), none] with | some (.rt d _) => some d | some (.nx _) => some (.sh .non) | _ => none) := by
  unfold M_is_safe runF
  exact if_pos rfl
 have fbv : fb_is_safe [some (.sh (rD hd ts g b)), none] = (if (!(miss (yv b) (hV ts g)).isEmpty) = true then some (.rt (.sh (.bl false)) [some (.sh (rD hd ts g b)), some (.sh (.lst ((sortS (yv b)).map .str)))]) else (M_are_bound_ahead [.tup (b.map lD)]).map fun r => .rt r [some (.sh (rD hd ts g b)), some (.sh (.lst ((sortS (yv b)).map .str)))]) := by
  show (match sSet 1 (fPub (fCallR M_body_variables (fCons (fPub (fComp 1 [] 0 (oSeq (f2 ixA (fVarB 0) (fC (.int 2)))) (fB (f2 (eqO false) (f2 ixA (fVarB 0) (fC (.int 0))) (fC (.str "yes")))) (fVar 0))) fNil))) [some (.sh (rD hd ts g b)), none] with | some (.nx δ') => (sSeq (sIf (bNot (fB (fCallB allD (fCons (fPub (fComp 1 [1] 0 (oSeq (fPub (fCallR M_head_variables (fCons (fVar 0) fNil)))) bYes (f2 (inE false) (fVarB 0) (fVarB 1)))) fNil)))) (sSeq (sRet (fSh (fC (.bl false)))) sNil) sNil) (sSeq (sRet (fCallR M_are_bound_ahead (fCons (f2 ixA (fVarB 0) (fC (.int 2))) fNil))) sNil)) δ' | o => o) = _
  rw [e1]
  dsimp only
  show (match ((bNot (fB (fCallB allD (fCons (fPub (fComp 1 [1] 0 (oSeq (fPub (fCallR M_head_variables (fCons (fVar 0) fNil)))) bYes (f2 (inE false) (fVarB 0) (fVarB 1)))) fNil))) [some (.sh (rD hd ts g b)), some (.sh (.lst ((sortS (yv b)).map .str)))]).bind fun c => if c = true then (sSeq (sRet (fSh (fC (.bl false)))) sNil) [some (.sh (rD hd ts g b)), some (.sh (.lst ((sortS (yv b)).map .str)))] else sNil [some (.sh (rD hd ts g b)), some (.sh (.lst ((sortS (yv b)).map .str)))]) with | some (.nx δ') => (sSeq (sRet (fCallR M_are_bound_ahead (fCons (f2 ixA (fVarB 0) (fC (.int 2))) fNil))) sNil) δ' | o => o) = _
  rw [e2]
  cases (miss (yv b) (hV ts g)).isEmpty
  ·rfl
  ·show (match ((M_are_bound_ahead [.tup (b.map lD)]).map fun r => Out.rt r [some (.sh (rD hd ts g b)), some (.sh (.lst ((sortS (yv b)).map .str)))]) with | some (.nx δ') => sNil δ' | o => o) = ((M_are_bound_ahead [.tup (b.map lD)]).map fun r => Out.rt r [some (.sh (rD hd ts g b)), some (.sh (.lst ((sortS (yv b)).map .str)))])
   rw [e_aba b hb]
   rfl
 rw [run, fbv, e_aba b hb]
 cases (miss (yv b) (hV ts g)).isEmpty
 ·simp
 ·simp
theorem tm_at (c : Int) : ∃ t : Tm, ixA (.lst [.str "X", .str "Y", .str "Z", .str "X", .str "a", .int 3]) (.int (c % 6)) = some (tD t) := by
 have h : c % 6 = 0 \/ c % 6 = 1 \/ c % 6 = 2 \/ c % 6 = 3 \/ c % 6 = 4 \/ c % 6 = 5 := by omega
 rcases h with h | h | h | h | h | h <;> rw [h]
 ·exact ⟨.x, rfl⟩
 ·exact ⟨.y, rfl⟩
 ·exact ⟨.z, rfl⟩
 ·exact ⟨.x, rfl⟩
 ·exact ⟨.a, rfl⟩
 ·exact ⟨.n, rfl⟩
noncomputable def tF : FS := sSeq (sSet 2 (f2 addD (fVarB 2) (fTup (fCons (f2 ixA (fPub (fLstR (fCons (fC (.str "X")) (fCons (fC (.str "Y")) (fCons (fC (.str "Z")) (fCons (fC (.str "X")) (fCons (fC (.str "a")) (fCons (fC (.int 3)) fNil)))))))) (f2 modD (fVarB 0) (fC (.int 6)))) fNil)))) (sSeq (sSet 0 (f2 fdivD (fVarB 0) (fC (.int 6)))) sNil)
theorem add_tup {xs ys : List D} (h : xs.length + ys.length <= 1000) : addD (.tup xs) (.tup ys) = some (.tup (xs ++ ys)) := by
 simp [addD, iAdd, sAdd, tupAdd, lAdd]
 exact sl_big (by omega)
theorem t_step {m x : Option Sl} {c : Int} {ts : List Tm} (h : ts.length <= 900) : ∃ t, tF [some (.sh (.int c)), m, some (.sh (.tup (ts.map tD))), x] = some (.nx [some (.sh (.int (c / 6))), m, some (.sh (.tup ((ts ++ [t]).map tD))), x]) := by
 obtain ⟨t, ht⟩ := tm_at c
 refine ⟨t, ?_⟩
 show (match (((ixA (.lst [.str "X", .str "Y", .str "Z", .str "X", .str "a", .int 3]) (.int (c % 6))).bind fun d => (some []).bind fun ds => some (d :: ds)).bind (fun ds => if ds.length <= sizeLine then some (D.tup ds) else none) |>.bind fun y => addD (.tup (ts.map tD)) y).map (fun d => Out.nx [some (.sh (.int c)), m, some (.sh d), x]) with | some (.nx δ') => (sSeq (sSet 0 (f2 fdivD (fVarB 0) (fC (.int 6)))) sNil) δ' | o => o) = _
 rw [ht]
 show (match (addD (.tup (ts.map tD)) (.tup [tD t])).map (fun d => Out.nx [some (.sh (.int c)), m, some (.sh d), x]) with | some (.nx δ') => (sSeq (sSet 0 (f2 fdivD (fVarB 0) (fC (.int 6)))) sNil) δ' | o => o) = _
 rw [add_tup (by simp; omega)]
 rw [List.map_append]
 rfl
theorem t_run {m : Option Sl} : ∀ (ks : List D) (c : Int) (ts : List Tm) (x : Option Sl), ts.length + ks.length <= 900 -> ∃ (us : List Tm) (c' : Int) (x' : Option Sl), us.length = ks.length /\ forL 3 tF ks [some (.sh (.int c)), m, some (.sh (.tup (ts.map tD))), x] = some (.nx [some (.sh (.int c')), m, some (.sh (.tup ((ts ++ us).map tD))), x'])
 | [], c, ts, x, _ => ⟨[], c, x, rfl, by simp [forL]⟩
 | k :: ks, c, ts, x, h => by
  simp only [List.length_cons] at h
  obtain ⟨t, st⟩ := t_step (m := m) (x := some (.sh k)) (c := c) (ts := ts) (by omega)
  obtain ⟨us, c', x', h1, ih⟩ := t_run (m := m) ks (c / 6) (ts ++ [t]) (some (.sh k)) (by simp; omega)
  refine ⟨t :: us, c', x', by simp [h1], ?_⟩
  show (match tF [some (.sh (.int c)), m, some (.sh (.tup (ts.map tD))), some (.sh k)] with | some (.nx δ') => forL 3 tF ks δ' | some (.ct δ') => forL 3 tF ks δ' | some (.ex c δ') => some (.ex c δ') | some (.bk δ') => some (.nx δ') | some (.rt d δ') => some (.rt d δ') | none => none) = _
  rw [st]
  dsimp only
  rw [ih]
  simp
theorem terms_run (c j : Int) : M__law_terms [.int c, .int j] = (match (match ((if -(2 ^ 62) <= j /\ j < 2 ^ 62 then some (rngD 0 j.toNat) else none).bind fun xs => forL 3 tF xs [some (.sh (.int c)), some (.sh (.int j)), some (.sh (.tup (([] : List Tm).map tD))), none]) with | some (.nx δ') => (sSeq (sRetV 2) sNil) δ' | o => o) with | some (.rt d _) => some d | some (.nx _) => some (.sh .non) | _ => none) := by
 unfold M__law_terms runF
 rfl
theorem e_terms (c j : Int) (n : Nat) (hj : j = n) (h : n <= 5) : ∃ us : List Tm, us.length = n /\ M__law_terms [.int c, .int j] = some (.sh (.tup (us.map tD))) := by
 obtain ⟨us, c', x', h1, r⟩ := t_run (m := some (.sh (.int j))) (rngD 0 n) c [] none (by simp [rngD]; omega)
 refine ⟨us, by rw [h1]; simp [rngD], ?_⟩
 have hn : j.toNat = n := by omega
 rw [terms_run, if_pos (by constructor <;> omega), Option.bind_some, hn, r]
 rfl
theorem e_lit_cm (c : Int) (u : Bool) (h : c % 5 = if u then 3 else 4) : ∃ s t, M__law_literal [.int c] = some (.sh (lD (.cm u s t))) := by
 obtain ⟨us2, hu2, hr2⟩ := e_terms (c / 5) 2 2 rfl (by omega)
 match us2, hu2 with
 | [s, t], _ =>
  refine ⟨s, t, Op.eq ?_⟩
  unfold M__law_literal fb__law_literal
  walk_at "wrun"; walk_at "wp"
  refine ⟨by decide, ?_⟩
  walk_at "wp"
  rw [h]
  cases u
  ·refine op_of (d := .str "unlike") rfl ?_
   walk_at "wp"
   refine ⟨by decide, op_of (d := D.bl true) rfl ?_⟩
   walk_at "wp"
   refine op_of hr2 ?_
   walk_at "wp"
   refine op_of (d := tD s) rfl ?_
   walk_at "wp"
   refine op_of (d := tD t) rfl ?_
   walk_at "wp"
   exact ⟨sl_big (by simp), rfl⟩
  ·refine op_of (d := .str "under") rfl ?_
   walk_at "wp"
   refine ⟨by decide, op_of (d := D.bl true) rfl ?_⟩
   walk_at "wp"
   refine op_of hr2 ?_
   walk_at "wp"
   refine op_of (d := tD s) rfl ?_
   walk_at "wp"
   refine op_of (d := tD t) rfl ?_
   walk_at "wp"
   exact ⟨sl_big (by simp), rfl⟩
theorem callR_eq {M : List D -> Option Rs} {ga : En -> Option (List D)} {δ : En} {ds : List D} (h : ga δ = some ds) : fPub (fCallR M ga) δ = (M ds).map Rs.d := by
 unfold fPub fCallR
 rw [h]
 rfl
theorem fTup3 {f g h : FE} {δ : En} {x y z : D} (e1 : f δ = some x) (e2 : g δ = some y) (e3 : h δ = some z) : fTup (fCons f (fCons g (fCons h fNil))) δ = some (.tup [x, y, z]) := by
 unfold fTup fCons
 rw [e1, e2, e3]
 rfl
theorem seq_nx {F G : FS} {δ δ' : En} (h : F δ = some (.nx δ')) : sSeq F G δ = G δ' := by unfold sSeq; rw [h]
theorem seq_rt {F G : FS} {δ δ' : En} {d : Rs} (h : F δ = some (.rt d δ')) : sSeq F G δ = some (.rt d δ') := by unfold sSeq; rw [h]
theorem if_no {c : En -> Option Bool} {F G : FS} {δ : En} (h : c δ = some false) : sIf c F G δ = G δ := by unfold sIf; rw [h]; rfl
theorem if_yes {c : En -> Option Bool} {F G : FS} {δ : En} (h : c δ = some true) : sIf c F G δ = F δ := by unfold sIf; rw [h]; rfl
theorem fB_of {f : FE} {δ : En} {b : Bool} (h : f δ = some (.bl b)) : fB f δ = some b := by unfold fB; rw [h]
theorem f2_of {o : D -> D -> Option D} {f g : FE} {δ : En} {x y z : D} (h1 : f δ = some x) (h2 : g δ = some y) (h3 : o x y = some z) : f2 o f g δ = some z := by unfold f2; rw [h1, Option.bind_some, h2, Option.bind_some, h3]
theorem set_of {i : Nat} {f : FE} {δ : En} {d : D} (h : f δ = some d) : sSet i f δ = some (.nx (δ.set i (some (.sh d)))) := by unfold sSet; rw [h]; rfl
noncomputable def OkN (p : Str) : Prop := p = "p" \/ p = "q" \/ p = "r"
noncomputable def OkP : Lt -> Prop | .pr _ p _ => OkN p | .cm _ _ _ => True
theorem OkN.fmt {p : Str} (h : OkN p) : Fmt p := by
 rcases h with rfl | rfl | rfl
 ·exact fmt_p
 ·exact fmt_q
 ·exact fmt_r
noncomputable def pqr : D := .lst [.str "p", .str "q", .str "r"]
theorem hd_at (c : Int) : ∃ (p : Str) (n : Nat), OkN p /\ n <= 2 /\ ixA pqr (.int (c % 3)) = some (.str p) /\ idxD pqr (.str p) = some (.int (n : Int)) := by
 have h : c % 3 = 0 \/ c % 3 = 1 \/ c % 3 = 2 := by omega
 rcases h with h | h | h <;> rw [h]
 ·exact ⟨"p", 0, .inl rfl, by omega, rfl, by kernel_rfl⟩
 ·exact ⟨"q", 1, .inr (.inl rfl), by omega, rfl, by kernel_rfl⟩
 ·exact ⟨"r", 2, .inr (.inr rfl), by omega, rfl, by kernel_rfl⟩
theorem eq_int (a b : Int) : eqO false (.int a) (.int b) = some (.bl (decide (a = b))) := by
 have : eqO false (.int a) (.int b) = some (.bl (decide (V.int a = V.int b))) := rfl
 rw [this]
 by_cases h : a = b
 ·simp [h]
 ·have : ¬ V.int a = V.int b := fun z => h (V.int.inj z)
  simp [h, this]
noncomputable def litIf : FS := sIf (fB (f2 (inE false) (fVarB 1) (fTup (fCons (fC (.str "under")) (fCons (fC (.str "unlike")) fNil))))) (sSeq (sSet 2 (fPub (fCallR M__law_terms (fCons (fVar 0) (fCons (fC (.int 2)) fNil)))))
  (sSeq (sRet (fSh (fTup (fCons (fVar 1) (fCons (f2 ixA (fVarB 2) (fC (.int 0))) (fCons (f2 ixA (fVarB 2) (fC (.int 1))) fNil))))))
  sNil)) sNil
noncomputable def litI2 : FS := sIf (fB (f2 (eqO false) (f2 modD (f2 fdivD (fVarB 0) (fC (.int 3))) (fC (.int 32))) (fC (.int 17)))) (sSeq (sSet 4 (fC (.int 3)))
  sNil) sNil
noncomputable def litEnd : FS := sSeq (sRet (fSh (fTup (fCons (fVar 1) (fCons (fVar 3) (fCons (fPub (fCallR M__law_terms (fCons (f2 fdivD (fVarB 0) (fC (.int 96))) (fCons (fVar 4) fNil)))) fNil))))))
  sNil
noncomputable def litS1 : FS := sSet 1 (f2 ixA (fPub (fLstR (fCons (fC (.str "yes")) (fCons (fC (.str "yes")) (fCons (fC (.str "not")) (fCons (fC (.str "under")) (fCons (fC (.str "unlike")) fNil))))))) (f2 modD (fVarB 0) (fC (.int 5))))
noncomputable def litS3 : FS := sSet 3 (f2 ixA (fPub (fLstR (fCons (fC (.str "p")) (fCons (fC (.str "q")) (fCons (fC (.str "r")) fNil))))) (f2 modD (fVarB 0) (fC (.int 3))))
noncomputable def litS4 : FS := sSet 4 (f2 idxD (fPub (fLstR (fCons (fC (.str "p")) (fCons (fC (.str "q")) (fCons (fC (.str "r")) fNil))))) (fVar 3))
theorem fb_lit : fb__law_literal = sSeq litS1 (sSeq (sSet 0 (f2 fdivD (fVarB 0) (fC (.int 5)))) (sSeq litIf (sSeq litS3 (sSeq litS4 (sSeq litI2 litEnd))))) := rfl
theorem lit_go (c : Int) : M__law_literal [.int c] = (match fb__law_literal [some (.sh (.int c)), none, none, none, none] with | some (.rt d _) => some d | some (.nx _) => some (.sh .non) | _ => none) := by
 unfold M__law_literal runF
 exact if_pos rfl
theorem lit_run (c : Int) (k p : Str) (n : Nat) (hk : ixA (.lst [.str "yes", .str "yes", .str "not", .str "under", .str "unlike"]) (.int (c % 5)) = some (.str k)) (hin : inE false (.str k) (.tup [.str "under", .str "unlike"]) = some (.bl false))
  (hn : n <= 2) (hp : ixA pqr (.int (c / 5 % 3)) = some (.str p)) (hi : idxD pqr (.str p) = some (.int (n : Int))) : ∃ us : List Tm, us.length <= 4 /\ M__law_literal [.int c] = some (.sh (.tup [.str k, .str p, .tup (us.map tD)])) := by
 have e1 : litS1 [some (.sh (.int c)), none, none, none, none] = some (.nx [some (.sh (.int c)), some (.sh (.str k)), none, none, none]) := by
  show (ixA (.lst [.str "yes", .str "yes", .str "not", .str "under", .str "unlike"]) (.int (c % 5))).map (fun d => Out.nx [some (.sh (.int c)), some (.sh d), none, none, none]) = _
  rw [hk]; rfl
 have e2 : litIf [some (.sh (.int (c / 5))), some (.sh (.str k)), none, none, none] = some (.nx [some (.sh (.int (c / 5))), some (.sh (.str k)), none, none, none]) := by
  unfold litIf
  rw [if_no (fB_of (f2_of (x := .str k) (y := .tup [.str "under", .str "unlike"]) rfl rfl hin))]
  rfl
 have e3 : litS3 [some (.sh (.int (c / 5))), some (.sh (.str k)), none, none, none] = some (.nx [some (.sh (.int (c / 5))), some (.sh (.str k)), none, some (.sh (.str p)), none]) := by
  show (ixA pqr (.int (c / 5 % 3))).map (fun d => Out.nx [some (.sh (.int (c / 5))), some (.sh (.str k)), none, some (.sh d), none]) = _
  rw [hp]; rfl
 have e4 : litS4 [some (.sh (.int (c / 5))), some (.sh (.str k)), none, some (.sh (.str p)), none] = some (.nx [some (.sh (.int (c / 5))), some (.sh (.str k)), none, some (.sh (.str p)), some (.sh (.int (n : Int)))]) := by
  show (idxD pqr (.str p)).map (fun d => Out.nx [some (.sh (.int (c / 5))), some (.sh (.str k)), none, some (.sh (.str p)), some (.sh d)]) = _
  rw [hi]; rfl
 have e5 : ∃ m : Nat, m <= 3 /\ litI2 [some (.sh (.int (c / 5))), some (.sh (.str k)), none, some (.sh (.str p)), some (.sh (.int (n : Int)))] = some (.nx [some (.sh (.int (c / 5))), some (.sh (.str k)), none, some (.sh (.str p)), some (.sh (.int (m : Int)))]) := by
  have ec : fB (f2 (eqO false) (f2 modD (f2 fdivD (fVarB 0) (fC (.int 3))) (fC (.int 32))) (fC (.int 17))) [some (.sh (.int (c / 5))), some (.sh (.str k)), none, some (.sh (.str p)), some (.sh (.int (n : Int)))] = some (decide (c / 5 / 3 % 32 = 17)) := fB_of (f2_of (x := .int (c / 5 / 3 % 32)) (y := .int 17) rfl rfl (eq_int _ _))
  unfold litI2
  by_cases h : c / 5 / 3 % 32 = 17
  ·refine ⟨3, by omega, ?_⟩
   rw [if_yes (by rw [ec, decide_eq_true h])]
   rfl
  ·refine ⟨n, by omega, ?_⟩
   rw [if_no (by rw [ec, decide_eq_false h])]
   rfl
 obtain ⟨m, hm, e5⟩ := e5
 obtain ⟨us, hu, ht⟩ := e_terms (c / 5 / 96) m m rfl (by omega)
 refine ⟨us, by omega, ?_⟩
 have e6 : litEnd [some (.sh (.int (c / 5))), some (.sh (.str k)), none, some (.sh (.str p)), some (.sh (.int (m : Int)))] = some (.rt (.sh (.tup [.str k, .str p, .tup (us.map tD)])) [some (.sh (.int (c / 5))), some (.sh (.str k)), none, some (.sh (.str p)), some (.sh (.int (m : Int)))]) := by
  have a : (fPub (fCallR M__law_terms (fCons (f2 fdivD (fVarB 0) (fC (.int 96))) (fCons (fVar 4) fNil)))) [some (.sh (.int (c / 5))), some (.sh (.str k)), none, some (.sh (.str p)), some (.sh (.int (m : Int)))] = some (.tup (us.map tD)) := by
   rw [callR_eq (ds := [.int (c / 5 / 96), .int (m : Int)]) rfl, ht]
   rfl
  have b : fTup (fCons (fVar 1) (fCons (fVar 3) (fCons (fPub (fCallR M__law_terms (fCons (f2 fdivD (fVarB 0) (fC (.int 96))) (fCons (fVar 4) fNil)))) fNil))) [some (.sh (.int (c / 5))), some (.sh (.str k)), none, some (.sh (.str p)), some (.sh (.int (m : Int)))] = some (.tup [.str k, .str p, .tup (us.map tD)]) := by
   exact fTup3 rfl rfl a
  have b2 : sRet (fSh (fTup (fCons (fVar 1) (fCons (fVar 3) (fCons (fPub (fCallR M__law_terms (fCons (f2 fdivD (fVarB 0) (fC (.int 96))) (fCons (fVar 4) fNil)))) fNil))))) [some (.sh (.int (c / 5))), some (.sh (.str k)), none, some (.sh (.str p)), some (.sh (.int (m : Int)))] = some (.rt (.sh (.tup [.str k, .str p, .tup (us.map tD)])) [some (.sh (.int (c / 5))), some (.sh (.str k)), none, some (.sh (.str p)), some (.sh (.int (m : Int)))]) := by
   unfold sRet fSh
   rw [b]
   rfl
  unfold litEnd
  rw [seq_rt b2]
 rw [lit_go, fb_lit, seq_nx e1, seq_nx (δ' := [some (.sh (.int (c / 5))), some (.sh (.str k)), none, none, none]) rfl, seq_nx e2, seq_nx e3, seq_nx e4, seq_nx e5, e6]
theorem e_lit (c : Int) : ∃ l, OkL l /\ OkP l /\ M__law_literal [.int c] = some (.sh (lD l)) := by
 obtain ⟨p, n, h1, h2, h3, h4⟩ := hd_at (c / 5)
 have h : c % 5 = 0 \/ c % 5 = 1 \/ c % 5 = 2 \/ c % 5 = 3 \/ c % 5 = 4 := by omega
 rcases h with h | h | h | h | h
 ·obtain ⟨us, hu, e⟩ := lit_run c "yes" p n (by rw [h]; rfl) (by kernel_rfl) h2 h3 h4
  exact ⟨.pr true p us, hu, h1, e⟩
 ·obtain ⟨us, hu, e⟩ := lit_run c "yes" p n (by rw [h]; rfl) (by kernel_rfl) h2 h3 h4
  exact ⟨.pr true p us, hu, h1, e⟩
 ·obtain ⟨us, hu, e⟩ := lit_run c "not" p n (by rw [h]; rfl) (by kernel_rfl) h2 h3 h4
  exact ⟨.pr false p us, hu, h1, e⟩
 ·obtain ⟨s, t, h6⟩ := e_lit_cm c true h
  exact ⟨.cm _ s t, trivial, trivial, h6⟩
 ·obtain ⟨s, t, h6⟩ := e_lit_cm c false h
  exact ⟨.cm _ s t, trivial, trivial, h6⟩
theorem fTup1 {f : FE} {δ : En} {x : D} (e1 : f δ = some x) : fTup (fCons f fNil) δ = some (.tup [x]) := by
 unfold fTup fCons
 rw [e1]
 rfl
noncomputable def bF : FS := sSeq (sSet 4 (f2 addD (fVarB 4) (fTup (fCons (fPub (fCallR M__law_literal (fCons (fVar 0) fNil))) fNil)))) (sSeq (sSet 0 (f2 fdivD (fVarB 0) (f2 mulD (fC (.int 480)) (fC (.int 216))))) sNil)
theorem b_step {w m t x : Option Sl} {c : Int} {ls : List Lt} (h : ls.length <= 900) : ∃ l, OkL l /\ OkP l /\ bF [some (.sh (.int c)), w, m, t, some (.sh (.tup (ls.map lD))), x] = some (.nx [some (.sh (.int (c / 103680))), w, m, t, some (.sh (.tup ((ls ++ [l]).map lD))), x]) := by
 obtain ⟨l, h1, h2, hl⟩ := e_lit c
 refine ⟨l, h1, h2, ?_⟩
 have a : fPub (fCallR M__law_literal (fCons (fVar 0) fNil)) [some (.sh (.int c)), w, m, t, some (.sh (.tup (ls.map lD))), x] = some (lD l) := by
  rw [callR_eq (ds := [.int c]) rfl, hl]
  rfl
 have b : f2 addD (fVarB 4) (fTup (fCons (fPub (fCallR M__law_literal (fCons (fVar 0) fNil))) fNil)) [some (.sh (.int c)), w, m, t, some (.sh (.tup (ls.map lD))), x] = some (.tup ((ls ++ [l]).map lD)) := by
  refine f2_of (x := .tup (ls.map lD)) (y := .tup [lD l]) rfl (fTup1 a) ?_
  rw [add_tup (by simp; omega), List.map_append]
  rfl
 unfold bF
 rw [seq_nx (set_of b)]
 rfl
theorem b_run {w m t : Option Sl} : ∀ (ks : List D) (c : Int) (ls : List Lt) (x : Option Sl), ls.length + ks.length <= 900 -> ∃ (us : List Lt) (c' : Int) (x' : Option Sl), us.length = ks.length /\ (∀ l ∈ us, OkL l /\ OkP l) /\ forL 5 bF ks [some (.sh (.int c)), w, m, t, some (.sh (.tup (ls.map lD))), x] = some (.nx [some (.sh (.int c')), w, m, t, some (.sh (.tup ((ls ++ us).map lD))), x'])
 | [], c, ls, x, _ => ⟨[], c, x, rfl, (fun _ h => nomatch h), by simp [forL]⟩
 | k :: ks, c, ls, x, h => by
  simp only [List.length_cons] at h
  obtain ⟨l, o1, o2, st⟩ := b_step (w := w) (m := m) (t := t) (x := some (.sh k)) (c := c) (ls := ls) (by omega)
  obtain ⟨us, c', x', h1, h2, ih⟩ := b_run (w := w) (m := m) (t := t) ks (c / 103680) (ls ++ [l]) (some (.sh k)) (by simp; omega)
  refine ⟨l :: us, c', x', by simp [h1], fun l' hl' => ?_, ?_⟩
  ·rcases List.mem_cons.mp hl' with rfl | hl'
   ·exact ⟨o1, o2⟩
   ·exact h2 l' hl'
  ·show (match bF [some (.sh (.int c)), w, m, t, some (.sh (.tup (ls.map lD))), some (.sh k)] with | some (.nx δ') => forL 5 bF ks δ' | some (.ct δ') => forL 5 bF ks δ' | some (.ex c δ') => some (.ex c δ') | some (.bk δ') => some (.nx δ') | some (.rt d δ') => some (.rt d δ') | none => none) = _
   rw [st]
   dsimp only
   rw [ih]
   simp
noncomputable def rS3 : FS := sSet 3 (fPub (fCallR M__law_terms (fCons (f2 fdivD (fVarB 0) (fC (.int 40))) (fCons (f2 addD (fC (.int 1)) (f2 modD (f2 fdivD (fVarB 0) (fC (.int 20))) (fC (.int 2)))) fNil))))
noncomputable def rIf : FS := sIf (fB (f2 (gtD) (fVarB 1) (fC (.int 1)))) (sSeq (sSet 3 (f2 addD (fPub (fSlA (fVarB 3) (fun _ => some none) (oInt (f1 negD (fC (.int 1)))))) (fTup (fCons (f2 ixA (fPub (fLstR (fCons (fTup (fCons (fC (.str "sum")) (fCons (fC (.str "X")) fNil))) (fCons (fTup (fCons (fC (.str "least")) (fCons (fC (.str "Y")) fNil))) (fCons (fTup (fCons (fC (.str "count")) fNil)) fNil))))) (f2 subD (fVarB 1) (fC (.int 2)))) fNil))))
  sNil) sNil
noncomputable def rEnd : FS := sSeq (sRet (fSh (fTup (fCons (f2 ixA (fPub (fLstR (fCons (fC (.str "q")) (fCons (fC (.str "r")) fNil)))) (f2 subD (fCallB lenD (fCons (fVarB 3) fNil)) (fC (.int 1)))) (fCons (fVar 3) (fCons (fVar 4) fNil))))))
  sNil
noncomputable def rRest : FS := sSeq (sSet 0 (f2 fdivD (fVarB 0) (fC (.int 1440)))) (sSeq (sSet 4 (fTup fNil)) (sSeq (sFor 5 (oRng (fVar 2)) bF) rEnd))
theorem fb_rule : fb__law_rule = sSeq (sSet 1 (f2 modD (fVarB 0) (fC (.int 5)))) (sSeq (sSet 2 (f2 addD (fC (.int 1)) (f2 modD (f2 fdivD (fVarB 0) (fC (.int 5))) (fC (.int 4))))) (sSeq rS3 (sSeq rIf rRest))) := rfl
theorem rule_go (c : Int) : M__law_rule [.int c] = (match fb__law_rule [some (.sh (.int c)), none, none, none, none, none] with | some (.rt d _) => some d | some (.nx _) => some (.sh .non) | _ => none) := by
 unfold M__law_rule runF
 exact if_pos rfl
theorem r_if {c m : Option Sl} (w : Int) (us : List Tm) (hw : w = 0 \/ w = 1 \/ w = 2 \/ w = 3 \/ w = 4) (hu : us.length = 1 \/ us.length = 2) : ∃ ts g, (hD ts g).length = us.length /\ ts.length <= 3 /\ rIf [c, some (.sh (.int w)), m, some (.sh (.tup (us.map tD))), none, none] = some (.nx [c, some (.sh (.int w)), m, some (.sh (.tup (hD ts g))), none, none]) := by
 rcases hw with rfl | rfl | rfl | rfl | rfl
 ·exact ⟨us, none, by simp [hD], by omega, by simp only [hD, Option.toList, List.map_nil, List.append_nil]; rfl⟩
 ·exact ⟨us, none, by simp [hD], by omega, by simp only [hD, Option.toList, List.map_nil, List.append_nil]; rfl⟩
 all_goals
  match us, hu with
  | [s], _ => first | exact ⟨[], some .sum, rfl, by simp, rfl⟩ | exact ⟨[], some .least, rfl, by simp, rfl⟩ | exact ⟨[], some .count, rfl, by simp, rfl⟩
  | [s, t], _ => first | exact ⟨[s], some .sum, rfl, by simp, rfl⟩ | exact ⟨[s], some .least, rfl, by simp, rfl⟩ | exact ⟨[s], some .count, rfl, by simp, rfl⟩
  | [], hu => exact absurd hu (by simp)
  | _ :: _ :: _ :: _, hu => exact absurd hu (by simp)
theorem r_end {c w m x : Option Sl} {hs bs : List D} (hh : hs.length = 1 \/ hs.length = 2) : ∃ hd : Str, Fmt hd /\ rEnd [c, w, m, some (.sh (.tup hs)), some (.sh (.tup bs)), x] = some (.rt (.sh (.tup [.str hd, .tup hs, .tup bs])) [c, w, m, some (.sh (.tup hs)), some (.sh (.tup bs)), x]) := by
 match hs, hh with
 | [s], _ => exact ⟨"q", fmt_q, rfl⟩
 | [s, t], _ => exact ⟨"r", fmt_r, rfl⟩
 | [], hu => exact absurd hu (by simp)
 | _ :: _ :: _ :: _, hu => exact absurd hu (by simp)
theorem e_rule (c : Int) : ∃ hd ts g b, ts.length <= 3 /\ OkB b /\ (∀ l ∈ b, OkP l) /\ Fmt hd /\ M__law_rule [.int c] = some (.sh (rD hd ts g b)) := by
 have hw : c % 5 = 0 \/ c % 5 = 1 \/ c % 5 = 2 \/ c % 5 = 3 \/ c % 5 = 4 := by omega
 obtain ⟨n, hn, hn'⟩ : ∃ n : Nat, 1 + c / 20 % 2 = n /\ (n = 1 \/ n = 2) := by
  rcases (show c / 20 % 2 = 0 \/ c / 20 % 2 = 1 by omega) with h | h <;> rw [h]
  ·exact ⟨1, rfl, .inl rfl⟩
  ·exact ⟨2, rfl, .inr rfl⟩
 obtain ⟨k, hk, hk'⟩ : ∃ k : Nat, 1 + c / 5 % 4 = k /\ k <= 4 := ⟨(1 + c / 5 % 4).toNat, by omega, by omega⟩
 obtain ⟨us, hu, e1⟩ := e_terms (c / 40) (1 + c / 20 % 2) n hn (by omega)
 obtain ⟨ts, g, h1, h2, e2⟩ := r_if (c := some (.sh (.int c))) (m := some (.sh (.int (1 + c / 5 % 4)))) (c % 5) us hw (by omega)
 obtain ⟨ls, c', x', h3, h4, e3⟩ := b_run (w := some (.sh (.int (c % 5)))) (m := some (.sh (.int (1 + c / 5 % 4)))) (t := some (.sh (.tup (hD ts g)))) (rngD 0 k) (c / 1440) [] none (by simp [rngD]; omega)
 obtain ⟨hd, h5, e4⟩ := r_end (c := some (.sh (.int c'))) (w := some (.sh (.int (c % 5)))) (m := some (.sh (.int (1 + c / 5 % 4)))) (x := x') (hs := hD ts g) (bs := ([] ++ ls).map lD) (by omega)
 have hlen : ls.length = k := by rw [h3]; simp [rngD]
 refine ⟨hd, ts, g, ls, h2, ⟨by omega, fun l hl => (h4 l hl).1⟩, fun l hl => (h4 l hl).2, h5, ?_⟩
 have s3 : rS3 [some (.sh (.int c)), some (.sh (.int (c % 5))), some (.sh (.int (1 + c / 5 % 4))), none, none, none] = some (.nx [some (.sh (.int c)), some (.sh (.int (c % 5))), some (.sh (.int (1 + c / 5 % 4))), some (.sh (.tup (us.map tD))), none, none]) := by
  unfold rS3 sSet
  rw [callR_eq (ds := [.int (c / 40), .int (1 + c / 20 % 2)]) rfl, e1]
  rfl
 have sR : rRest [some (.sh (.int c)), some (.sh (.int (c % 5))), some (.sh (.int (1 + c / 5 % 4))), some (.sh (.tup (hD ts g))), none, none] = some (.rt (.sh (.tup [.str hd, .tup (hD ts g), .tup (([] ++ ls).map lD)])) [some (.sh (.int c')), some (.sh (.int (c % 5))), some (.sh (.int (1 + c / 5 % 4))), some (.sh (.tup (hD ts g))), some (.sh (.tup (([] ++ ls).map lD))), x']) := by
  have ef : sFor 5 (oRng (fVar 2)) bF [some (.sh (.int (c / 1440))), some (.sh (.int (c % 5))), some (.sh (.int (1 + c / 5 % 4))), some (.sh (.tup (hD ts g))), some (.sh (.tup (([] : List Lt).map lD))), none] = some (.nx [some (.sh (.int c')), some (.sh (.int (c % 5))), some (.sh (.int (1 + c / 5 % 4))), some (.sh (.tup (hD ts g))), some (.sh (.tup (([] ++ ls).map lD))), x']) := by
   have er : oRng (fVar 2) [some (.sh (.int (c / 1440))), some (.sh (.int (c % 5))), some (.sh (.int (1 + c / 5 % 4))), some (.sh (.tup (hD ts g))), some (.sh (.tup (([] : List Lt).map lD))), none] = some (rngD 0 k) := by
    show (if -(2 ^ 62) <= (1 + c / 5 % 4) /\ (1 + c / 5 % 4) < 2 ^ 62 then some (rngD 0 (1 + c / 5 % 4).toNat) else none) = _
    rw [if_pos (by constructor <;> omega), show (1 + c / 5 % 4).toNat = k by omega]
   unfold sFor
   rw [er]
   exact e3
  unfold rRest
  rw [seq_nx (δ' := [some (.sh (.int (c / 1440))), some (.sh (.int (c % 5))), some (.sh (.int (1 + c / 5 % 4))), some (.sh (.tup (hD ts g))), none, none]) rfl, seq_nx (δ' := [some (.sh (.int (c / 1440))), some (.sh (.int (c % 5))), some (.sh (.int (1 + c / 5 % 4))), some (.sh (.tup (hD ts g))), some (.sh (.tup (([] : List Lt).map lD))), none]) rfl, seq_nx ef]
  exact e4
 rw [rule_go, fb_rule, seq_nx (δ' := [some (.sh (.int c)), some (.sh (.int (c % 5))), none, none, none, none]) rfl, seq_nx (δ' := [some (.sh (.int c)), some (.sh (.int (c % 5))), some (.sh (.int (1 + c / 5 % 4))), none, none, none]) rfl, seq_nx s3, seq_nx e2, sR]
 rfl
noncomputable def FF (x : D × PW) : Prop := FactP x.1 x.2 /\ plainN 8 x.1 = true
noncomputable def fS3 : FS := sSet 3 (f2 ixA (fPub (fLstR (fCons (fC (.int 0)) (fCons (fC (.int 1)) (fCons (fC (.int 2)) (fCons (fC (.int 1)) fNil)))))) (f2 modD (fVarB 0) (fC (.int 4))))
noncomputable def fIf3 : FS := sIf (fB (f2 (eqO false) (f2 modD (f2 fdivD (fVarB 0) (fC (.int 4))) (fC (.int 32))) (fC (.int 17)))) (sSeq (sSet 3 (fC (.int 3)))
  sNil) sNil
noncomputable def fS4 : FS := sSet 4 (fTup (fCons (f2 ixA (fPub (fLstR (fCons (fC (.str "p")) (fCons (fC (.str "q")) (fCons (fC (.str "r")) (fCons (fC (.str "told")) fNil)))))) (f2 modD (fVarB 0) (fC (.int 4)))) (fCons (fPub (fSlA (fTup (fCons (fC (.str "a")) (fCons (fC (.int 3)) (fCons (fC (.str "b")) fNil)))) (fun _ => some none) (oInt (fVar 3)))) fNil)))
noncomputable def fApp4 : FS := sIf (fB (f2 (inE true) (fVarB 4) (fVarB 1))) (sSeq (sApp 1 (fVar 4))
  sNil) sNil
noncomputable def fBody : FS := sSeq (sSet 0 (f2 fdivD (fVarB 0) (fC (.int 9)))) (sSeq fS3 (sSeq fIf3 (sSeq fS4 (sSeq fApp4 (sSeq (sSet 0 (f2 fdivD (fVarB 0) (fC (.int 128)))) sNil)))))
theorem fb_facts : fb__law_facts = sSeq (sSetR 1 (fLstR fNil)) (sSeq (sFor 2 (oRng (f2 modD (fVarB 0) (fC (.int 9)))) fBody) (sSeq (sRetV 1) sNil)) := rfl
theorem facts_go (c : Int) : M__law_facts [.int c] = (match fb__law_facts [some (.sh (.int c)), none, none, none, none] with | some (.rt d _) => some d | some (.nx _) => some (.sh .non) | _ => none) := by
 unfold M__law_facts runF
 exact if_pos rfl
theorem f_fact {L k m x : Option Sl} (c : Int) : ∃ z n, FF z /\ ∀ G : FS, (sSeq fS3 (sSeq fIf3 (sSeq fS4 G))) [some (.sh (.int c)), L, k, m, x] = G [some (.sh (.int c)), L, k, some (.sh n), some (.sh z.1)] := by
 have h : c % 4 = 0 \/ c % 4 = 1 \/ c % 4 = 2 \/ c % 4 = 3 := by omega
 obtain ⟨p, j, hp, hj, e1, e2⟩ : ∃ (p : Str) (j : Int), Fmt p /\ (j = 0 \/ j = 1 \/ j = 2) /\ ixA (.lst [.int 0, .int 1, .int 2, .int 1]) (.int (c % 4)) = some (.int j) /\ ixA (.lst [.str "p", .str "q", .str "r", .str "told"]) (.int (c % 4)) = some (.str p) := by
  rcases h with h | h | h | h <;> rw [h]
  ·exact ⟨"p", 0, fmt_p, by omega, rfl, rfl⟩
  ·exact ⟨"q", 1, fmt_q, by omega, rfl, rfl⟩
  ·exact ⟨"r", 2, fmt_r, by omega, rfl, rfl⟩
  ·exact ⟨"told", 1, fmt_told, by omega, rfl, rfl⟩
 have s3 : fS3 [some (.sh (.int c)), L, k, m, x] = some (.nx [some (.sh (.int c)), L, k, some (.sh (.int j)), x]) := by
  show (ixA (.lst [.int 0, .int 1, .int 2, .int 1]) (.int (c % 4))).map (fun d => Out.nx [some (.sh (.int c)), L, k, some (.sh d), x]) = _
  rw [e1]; rfl
 have sI : ∃ i : Int, (i = 0 \/ i = 1 \/ i = 2 \/ i = 3) /\ fIf3 [some (.sh (.int c)), L, k, some (.sh (.int j)), x] = some (.nx [some (.sh (.int c)), L, k, some (.sh (.int i)), x]) := by
  have : fIf3 [some (.sh (.int c)), L, k, some (.sh (.int j)), x] = ((match eqO false (.int (c / 4 % 32)) (.int 17) with | some (.bl b) => some b | _ => none).bind fun b => if b = true then some (.nx [some (.sh (.int c)), L, k, some (.sh (.int 3)), x]) else some (.nx [some (.sh (.int c)), L, k, some (.sh (.int j)), x])) := rfl
  rw [this, eq_int]
  by_cases h : c / 4 % 32 = 17
  ·exact ⟨3, by omega, by simp [h]⟩
  ·exact ⟨j, by omega, by simp [h]⟩
 obtain ⟨i, hi, sI⟩ := sI
 have s4 : ∃ ts : List D, ts.all (plainN 6) = true /\ fS4 [some (.sh (.int c)), L, k, some (.sh (.int i)), x] = some (.nx [some (.sh (.int c)), L, k, some (.sh (.int i)), some (.sh (.tup [.str p, .tup ts]))]) := by
  have : fS4 [some (.sh (.int c)), L, k, some (.sh (.int i)), x] = ((((ixA (.lst [.str "p", .str "q", .str "r", .str "told"]) (.int (c % 4))).bind fun d => some [d, .tup (cutD [.str "a", .int 3, .str "b"] none (some i))]).bind (fun ds => if ds.length <= sizeLine then some (D.tup ds) else none)).map fun d => Out.nx [some (.sh (.int c)), L, k, some (.sh (.int i)), some (.sh d)]) := by
   show ((((ixA (.lst [.str "p", .str "q", .str "r", .str "told"]) (.int (c % 4))).bind fun d => _).bind _).map _) = _
   rfl
  rw [this, e2]
  rcases hi with rfl | rfl | rfl | rfl
  ·exact ⟨[], rfl, rfl⟩
  ·exact ⟨[.str "a"], rfl, rfl⟩
  ·exact ⟨[.str "a", .int 3], rfl, rfl⟩
  ·exact ⟨[.str "a", .int 3, .str "b"], rfl, rfl⟩
 obtain ⟨ts, ht, s4⟩ := s4
 refine ⟨(.tup [.str p, .tup ts], (p, (ts.length : Int))), .int i, ⟨⟨p, ts, rfl, hp, rfl⟩, ?_⟩, ?_⟩
 ·show ([D.str p, .tup ts].all (plainN 7)) = true
  simp only [List.all_cons, List.all_nil, Bool.and_true, Bool.and_eq_true]
  exact ⟨rfl, ht⟩
 ·intro G
  rw [seq_nx s3, seq_nx sI, seq_nx s4]
theorem f_app {c k m : Option Sl} {o : Option Addr} (zs : List (D × PW)) (z : D × PW) (hz : ∀ x ∈ zs, FF x) (h : FF z) (hl : zs.length <= 900) : ∃ zs' : List (D × PW), (∀ x ∈ zs', FF x) /\ zs'.length <= zs.length + 1 /\ fApp4 [c, some (.pv (.lst (zs.map (·.1))) o), k, m, some (.sh z.1)] = some (.nx [c, some (.pv (.lst (zs'.map (·.1))) o), k, m, some (.sh z.1)]) := by
 have hs : (zs.map (·.1)).length < sizeLine := nlL (show (zs.map (·.1)).length <= 900 by simpa using hl) (by decide)
 have hin : inE true z.1 (.lst (zs.map (·.1))) = some (.bl (!inA z.1 (zs.map (·.1)))) := by
  show (inAD true z.1 (.lst (zs.map (·.1)))).or _ = _
  unfold inAD
  dsimp only
  rw [if_pos ⟨h.2, by rw [List.all_map, List.all_eq_true]; exact fun x hx => (hz x hx).2⟩]
  rfl
 have ec : fB (f2 (inE true) (fVarB 4) (fVarB 1)) [c, some (.pv (.lst (zs.map (·.1))) o), k, m, some (.sh z.1)] = some (!inA z.1 (zs.map (·.1))) := fB_of (f2_of (x := z.1) (y := .lst (zs.map (·.1))) rfl rfl hin)
 unfold fApp4
 cases e : inA z.1 (zs.map (·.1)) with
 | true =>
  refine ⟨zs, hz, by omega, ?_⟩
  rw [if_no (by rw [ec, e]; rfl)]
  rfl
 | false =>
  refine ⟨zs ++ [z], fun x hx => ?_, by simp, ?_⟩
  ·rcases List.mem_append.mp hx with hx | hx
   ·exact hz x hx
   ·rw [List.mem_singleton.mp hx]; exact h
  ·rw [if_yes (by rw [ec, e]; rfl)]
   have sa : sApp 1 (fVar 4) [c, some (.pv (.lst (zs.map (·.1))) o), k, m, some (.sh z.1)] = some (.nx [c, some (.pv (.lst ((zs ++ [z]).map (·.1))) o), k, m, some (.sh z.1)]) := by
    rw [List.map_append]
    show (if (zs.map (·.1)).length < sizeLine then some (Out.nx [c, some (.pv (.lst (zs.map (·.1) ++ [z.1])) o), k, m, some (.sh z.1)]) else none) = _
    rw [if_pos hs]
    rfl
   rw [seq_nx sa]
   rfl
theorem f_run {o : Option Addr} : ∀ (ks : List D) (c : Int) (zs : List (D × PW)) (x2 x3 x4 : Option Sl), (∀ x ∈ zs, FF x) -> zs.length + ks.length <= 900 -> ∃ (zs' : List (D × PW)) (c' : Int) (y2 y3 y4 : Option Sl), (∀ x ∈ zs', FF x) /\ zs'.length <= zs.length + ks.length /\ forL 2 fBody ks [some (.sh (.int c)), some (.pv (.lst (zs.map (·.1))) o), x2, x3, x4] = some (.nx [some (.sh (.int c')), some (.pv (.lst (zs'.map (·.1))) o), y2, y3, y4])
 | [], c, zs, x2, x3, x4, hz, _ => ⟨zs, c, x2, x3, x4, hz, by omega, rfl⟩
 | k :: ks, c, zs, x2, x3, x4, hz, hl => by
  simp only [List.length_cons] at hl
  obtain ⟨z, n, h1, s1⟩ := f_fact (L := some (.pv (.lst (zs.map (·.1))) o)) (k := some (.sh k)) (m := x3) (x := x4) (c / 9)
  obtain ⟨zs1, h2, h3, s2⟩ := f_app (c := some (.sh (.int (c / 9)))) (k := some (.sh k)) (m := some (.sh n)) (o := o) zs z hz h1 (by omega)
  obtain ⟨zs', c', y2, y3, y4, h4, h5, ih⟩ := f_run (o := o) ks (c / 9 / 128) zs1 (some (.sh k)) (some (.sh n)) (some (.sh z.1)) h2 (by omega)
  refine ⟨zs', c', y2, y3, y4, h4, by simp only [List.length_cons]; omega, ?_⟩
  have st : fBody [some (.sh (.int c)), some (.pv (.lst (zs.map (·.1))) o), some (.sh k), x3, x4] = some (.nx [some (.sh (.int (c / 9 / 128))), some (.pv (.lst (zs1.map (·.1))) o), some (.sh k), some (.sh n), some (.sh z.1)]) := by
   unfold fBody
   rw [seq_nx (δ' := [some (.sh (.int (c / 9))), some (.pv (.lst (zs.map (·.1))) o), some (.sh k), x3, x4]) rfl, s1, seq_nx s2]
   rfl
  show (match fBody [some (.sh (.int c)), some (.pv (.lst (zs.map (·.1))) o), some (.sh k), x3, x4] with | some (.nx δ') => forL 2 fBody ks δ' | some (.ct δ') => forL 2 fBody ks δ' | some (.ex c δ') => some (.ex c δ') | some (.bk δ') => some (.nx δ') | some (.rt d δ') => some (.rt d δ') | none => none) = _
  rw [st]
  exact ih
theorem e_facts (c : Int) : ∃ fs : List (D × PW), (∀ x ∈ fs, FF x) /\ fs.length <= 8 /\ M__law_facts [.int c] = some (.fr (.lst (fs.map (·.1)))) := by
 obtain ⟨fs, c', y2, y3, y4, h1, h2, e⟩ := f_run (o := none) (rngD 0 (c % 9).toNat) c [] none none none (fun _ h => nomatch h) (by simp [rngD]; omega)
 refine ⟨fs, h1, ?_, ?_⟩
 ·have : (rngD 0 (c % 9).toNat).length = (c % 9).toNat := by simp [rngD]
  rw [this] at h2
  simp only [List.length_nil] at h2
  omega
 ·rw [facts_go, fb_facts]
  have : (sSeq (sSetR 1 (fLstR fNil)) (sSeq (sFor 2 (oRng (f2 modD (fVarB 0) (fC (.int 9)))) fBody) (sSeq (sRetV 1) sNil))) [some (.sh (.int c)), none, none, none, none] = (match ((if -(2 ^ 62) <= c % 9 /\ c % 9 < 2 ^ 62 then some (rngD 0 (c % 9).toNat) else none).bind fun xs => forL 2 fBody xs [some (.sh (.int c)), some (.pv (.lst (([] : List (D × PW)).map (·.1))) none), none, none, none]) with | some (.nx δ') => (sSeq (sRetV 1) sNil) δ' | o => o) := rfl
  rw [this, if_pos (by constructor <;> omega), Option.bind_some, e]
  rfl
theorem o_ltI {i j : Int} {R : D -> Prop} (k : R (.bl (decide (i < j)))) : Op (ltE (.int i) (.int j)) R := op_of (by simp [ltE, plainN, ltA]) k
theorem o_cond {p : Prop} [Decidable p] {A B : Prop} (h1 : p -> A) (h2 : ¬ p -> B) : if decide p = true then A else B := by
 by_cases h : p
 ·rw [if_pos (by simpa using h)]; exact h1 h
 ·rw [if_neg (by simpa using h)]; exact h2 h
theorem rng_ix {n k : Nat} {x : D} (h : (rngD 0 n)[k]? = some x) : k < n /\ x = .int k := by
 obtain ⟨h1, h2⟩ := List.getElem?_eq_some_iff.mp h
 refine ⟨by simpa [rngD] using h1, ?_⟩
 rw [<- h2]; simp [rngD]
theorem e_cell (ns : List Int) (k : Nat) (hn : ns.length <= 63) (hk : k <= 63) : Op (M__law_cell [.lst (ns.map D.int), .int k]) fun r => ∃ c : Int, r = .sh (.int c) := by
 have mem : ∀ x ∈ ns.map D.int, ∃ i : Int, x = .int i := fun x hx => let ⟨i, _, e⟩ := List.mem_map.mp hx; ⟨i, e.symm⟩
 unfold M__law_cell fb__law_cell
 walk_at "wrun"
 walk_at "wpn"
 refine so_mid (fun δ => δ = [some (.sh (.lst (ns.map D.int))), some (.sh (.int k)), none]) ?_ ?_
 ·walk_at "wp"
  refine o_ltI ?_
  walk_at "wp"
  refine o_cond (fun h => ?_) fun h => ?_
  ·walk_at "wp"
   refine o_ixLm (by omega) h fun x hx => ?_
   obtain ⟨i, rfl⟩ := mem x hx
   walk_at "wp"
   exact ⟨i, rfl⟩
  ·walk_at "wp"
   rfl
 ·rintro δ rfl
  walk_at "wpn"
  refine so_mid (fun δ => ∃ m : Int, δ = [some (.sh (.lst (ns.map D.int))), some (.sh (.int k)), some (.sh (.int m))] /\ 0 <= m /\ m < 2 ^ 40) ?_ ?_
  ·walk_at "wp"
   refine o_cond (fun h => ?_) fun h => ?_
   ·walk_at "wp"
    try refine o_mod h ?_
    refine o_ixLm (Int.emod_nonneg _ (by omega)) (Int.emod_lt_of_pos _ h) fun x hx => ?_
    obtain ⟨i, rfl⟩ := mem x hx
    walk_at "wp"
    exact ⟨_, rfl, Int.emod_nonneg _ (by decide), Int.lt_trans (Int.emod_lt_of_pos _ (by decide)) (by decide)⟩
   ·walk_at "wp"
    exact ⟨_, rfl, by omega, by omega⟩
  ·rintro δ ⟨m, rfl, h0, h1⟩
   walk_at "wp"
   try refine o_mul (Or.inl ⟨by omega, by omega⟩) ?_
   walk_at "wp"
   exact ⟨_, rfl⟩
theorem eqAs_self : ∀ {xs : List D}, (∀ x ∈ xs, eqA x x = true) -> eqAs xs xs = true
 | [], _ => by simp [eqAs]
 | x :: xs, h => by
  unfold eqAs
  simp only [Bool.and_eq_true]
  exact ⟨h x (by simp), eqAs_self fun y hy => h y (List.mem_cons_of_mem _ hy)⟩
theorem eqA_self : ∀ (n : Nat) (d : D), plainN n d = true -> eqA d d = true
 | n, .dic _ _, h => by cases n <;> cases h
 | 0, .tup _, h => by cases h
 | 0, .lst _, h => by cases h
 | n + 1, .tup xs, h => by
  unfold eqA
  exact eqAs_self fun x hx => eqA_self n x (List.all_eq_true.mp h x hx)
 | n + 1, .lst xs, h => by
  unfold eqA
  exact eqAs_self fun x hx => eqA_self n x (List.all_eq_true.mp h x hx)
 | _, .non, _ => by simp [eqA, flatD, toV, eqV]
 | _, .bl _, _ => by simp [eqA, flatD, toV, eqV]
 | _, .int _, _ => by simp [eqA, flatD, toV, eqV]
 | _, .str _, _ => by simp [eqA, flatD, toV, eqV]
theorem plain_t (n : Nat) (t : Tm) : plainN n (tD t) = true := by cases t <;> cases n <;> rfl
theorem plain_g (n : Nat) (g : Gp) : plainN (n + 1) (gD g) = true := by cases g <;> cases n <;> rfl
theorem plain_ts (n : Nat) (ts : List Tm) : plainN (n + 1) (.tup (ts.map tD)) = true := by
 show ((ts.map tD).all (plainN n)) = true
 rw [List.all_eq_true]
 intro x hx
 obtain ⟨t, _, rfl⟩ := List.mem_map.mp hx
 exact plain_t n t
theorem plain_l (l : Lt) : plainN 6 (lD l) = true := by
 cases l with
 | pr y p ts =>
  show ([D.str (if y = true then "yes" else "not"), .str p, .tup (ts.map tD)].all (plainN 5)) = true
  simp only [List.all_cons, List.all_nil, Bool.and_true, Bool.and_eq_true]
  exact ⟨rfl, rfl, plain_ts 4 ts⟩
 | cm u s t =>
  show ([D.str (if u = true then "under" else "unlike"), tD s, tD t].all (plainN 5)) = true
  simp only [List.all_cons, List.all_nil, Bool.and_true, Bool.and_eq_true]
  exact ⟨rfl, plain_t 5 s, plain_t 5 t⟩
theorem plain_r (hd : Str) (ts : List Tm) (g : Option Gp) (b : List Lt) : plainN 8 (rD hd ts g b) = true := by
 show ([D.str hd, .tup (hD ts g), .tup (b.map lD)].all (plainN 7)) = true
 simp only [List.all_cons, List.all_nil, Bool.and_true, Bool.and_eq_true]
 refine ⟨rfl, ?_, ?_⟩
 ·show ((ts.map tD ++ g.toList.map gD).all (plainN 6)) = true
  rw [List.all_eq_true]
  intro x hx
  rcases List.mem_append.mp hx with hx | hx
  ·obtain ⟨t, _, rfl⟩ := List.mem_map.mp hx; exact plain_t 6 t
  ·obtain ⟨t, _, rfl⟩ := List.mem_map.mp hx; exact plain_g 5 t
 ·show ((b.map lD).all (plainN 6)) = true
  rw [List.all_eq_true]
  intro x hx
  obtain ⟨l, _, rfl⟩ := List.mem_map.mp hx
  exact plain_l l
structure RR (z : NR) : Prop where
 shape : ∃ hd ts g b, z.rd = rD hd ts g b /\ ts.length <= 3 /\ OkB b
 pairs : RuleG z.rd z.q z.gs
 plain : plainN 8 z.rd = true
noncomputable def lq : Lt -> List PW | .pr _ p ts => [(p, ((ts.map tD).length : Int))] | .cm _ _ _ => []
theorem lit_pairs (l : Lt) (h : OkP l) : LitP (lD l) (lq l) := by
 cases l with
 | pr y p ts =>
  refine .inl ⟨if y = true then "yes" else "not", p, ts.map tD, rfl, ?_, rfl, OkN.fmt h⟩
  cases y
  ·exact .inr rfl
  ·exact .inl rfl
 | cm u s t =>
  refine .inr ⟨if u = true then "under" else "unlike", tD s, tD t, rfl, ?_, rfl⟩
  cases u
  ·exact .inr rfl
  ·exact .inl rfl
theorem mk_rule (k : Key) (c : Int) : ∃ z : NR, z.k = k /\ RR z /\ M__law_rule [.int c] = some (.sh z.rd) := by
 obtain ⟨hd, ts, g, b, h1, h2, h3, h4, e⟩ := e_rule c
 have h6 := h2.hi
 refine ⟨⟨k, rD hd ts g b, _, _⟩, rfl, ⟨⟨hd, ts, g, b, rfl, h1, h2⟩, ⟨hd, hD ts g, b.map fun l => (lD l, lq l), ?_, h4, ?_, ?_, rfl, rfl⟩, plain_r hd ts g b⟩, e⟩
 ·have : (b.map fun l => (lD l, lq l)).map (·.1) = b.map lD := by rw [List.map_map]; rfl
  rw [this]
  rfl
 ·rw [List.length_map]; omega
 ·intro x hx
  obtain ⟨l, hl, rfl⟩ := List.mem_map.mp hx
  exact lit_pairs l (h3 l hl)
theorem val_zs : ∀ {zs : List NR} {z : NR}, (zs.map (·.k)).Nodup -> z ∈ zs -> valD (zs.map (·.k)) (zs.map (·.rd)) z.k = some z.rd
 | y :: zs, z, hn, hz => by
  rw [List.map_cons, List.nodup_cons] at hn
  unfold valD
  simp only [List.map_cons, List.zip_cons_cons, List.find?_cons]
  rcases List.mem_cons.mp hz with rfl | hz
  ·simp
  ·have : ¬ y.k = z.k := fun e => hn.1 (by rw [e]; exact List.mem_map.mpr ⟨z, hz, rfl⟩)
   simp only [this, decide_false]
   exact val_zs hn.2 hz
theorem ix_zs {zs : List NR} {z : NR} (hn : (zs.map (·.k)).Nodup) (hz : z ∈ zs) : ixA (.dic (zs.map (·.k)) (zs.map (·.rd))) (kD z.k) = some z.rd := by
 have : keyD (kD z.k) = some z.k := by cases z.k <;> rfl
 show ((keyD (kD z.k)).bind fun k => valD (zs.map (·.k)) (zs.map (·.rd)) k) = _
 rw [this]
 exact val_zs hn hz
theorem ne_rules {zs : List NR} (hn : (zs.map (·.k)).Nodup) (hp : ∀ z ∈ zs, plainN 8 z.rd = true) : neE (.dic (zs.map (·.k)) (zs.map (·.rd))) (.dic (zs.map (·.k)) (zs.map (·.rd))) = some (.bl false) := by
 have pl : (zs.map (·.rd)).all (plainN 8) = true := by rw [List.all_map, List.all_eq_true]; exact hp
 have e1 : eqO true (.dic (zs.map (·.k)) (zs.map (·.rd))) (.dic (zs.map (·.k)) (zs.map (·.rd))) = eqDc true (.dic (zs.map (·.k)) (zs.map (·.rd))) (.dic (zs.map (·.k)) (zs.map (·.rd))) := rfl
 have e2 : eqDic (zs.map (·.k)) (zs.map (·.rd)) (zs.map (·.k)) (zs.map (·.rd)) = true := by
  unfold eqDic
  rw [Bool.and_eq_true]
  refine ⟨by simp, ?_⟩
  rw [List.all_eq_true]
  intro kv hkv
  rw [List.zip_map'] at hkv
  obtain ⟨z, hz, rfl⟩ := List.mem_map.mp hkv
  dsimp only
  rw [val_zs hn hz]
  exact eqA_self 8 _ (hp z hz)
 unfold neE
 rw [e1]
 unfold eqDc
 dsimp only
 rw [if_pos ⟨pl, pl⟩, e2]
 rfl
theorem ne_facts {xs : List D} (hp : xs.all (plainN 8) = true) : neE (.lst xs) (.lst xs) = some (.bl false) := by
 have e1 : eqO true (.lst xs) (.lst xs) = (eqSeq true (.lst xs) (.lst xs)).or (eqDc true (.lst xs) (.lst xs)) := rfl
 unfold neE
 rw [e1]
 unfold eqSeq
 dsimp only
 rw [if_pos ⟨hp, hp⟩, eqAs_self fun x hx => eqA_self 8 x (List.all_eq_true.mp hp x hx)]
 rfl
theorem both (zs : List NR) (fs : List (D × PW)) (hn : (zs.map (·.k)).Nodup) (hz : ∀ z ∈ zs, RR z) (hf : ∀ x ∈ fs, FF x) (h6 : zs.length <= 6) (h8 : fs.length <= 8) :
  ∃ d r, M__law_told [.dic (zs.map (·.k)) (zs.map (·.rd)), .lst (fs.map (·.1))] = some (.sh d) /\ M__law_widths [.dic (zs.map (·.k)) (zs.map (·.rd)), .lst (fs.map (·.1))] = some r /\ neE d r.d = some (.bl false) /\ eqO false d r.d = some (.bl true) := by
 have hq : ∀ zs : List NR, (∀ z ∈ zs, RR z) -> (zs.map (·.q)).flatten.length <= 11 * zs.length := by
  intro zs
  induction zs with
  | nil => intro _; simp
  | cons z zs ih =>
   intro h
   obtain ⟨a, _, c⟩ := (h z (by simp)).pairs.gs
   have := ih fun z' h' => h z' (List.mem_cons_of_mem _ h')
   have hl : z.q.length = z.gs.length := by rw [<- a]; simp
   simp only [List.map_cons, List.flatten_cons, List.length_append, List.length_cons]
   omega
 have q1 := hq zs hz
 have m1 : (zs.map fun z => (z.rd, z.q)).map (·.1) = zs.map (·.rd) := by rw [List.map_map]; rfl
 have m2 : (zs.map fun z => (z.rd, z.q)).map (·.2) = zs.map (·.q) := by rw [List.map_map]; rfl
 obtain ⟨a1, a2⟩ := widths_two (zs.map (·.k)) (zs.map fun z => (z.rd, z.q)) fs (fun x hx => by obtain ⟨z, hz', rfl⟩ := List.mem_map.mp hx; exact (hz z hz').pairs.p) (fun x hx => (hf x hx).1) (by rw [m2]; omega)
 rw [m1, m2] at a1 a2
 obtain ⟨b1, b2⟩ := law_widths_two zs fs (fun z hz' => ⟨ix_zs hn hz', (hz z hz').pairs⟩) (fun x hx => (hf x hx).1) (by omega)
 rcases note_two (L := (zs.map (·.q)).flatten ++ fs.map (·.2)) (L' := fs.map (·.2) ++ (zs.map (·.q)).flatten) (fun q => by simp only [List.mem_append]; exact Or.comm) with ⟨n1, n2⟩ | ⟨m, m', n1, n2, _, d2, l, i⟩
 ·obtain ⟨c1, c2⟩ := a1 n1
  exact ⟨.non, .sh .non, told_none c2 c1, b1 n2, by kernel_rfl, by kernel_rfl⟩
 ·obtain ⟨e1, e2⟩ := ne_dic d2 l i
  exact ⟨_, _, told_some (a2 m n1), b2 m' n2, e1, e2⟩
theorem so_nx {o : Option Out} {N : En -> Prop} (h : So o N fun _ _ => False) : ∃ δ, o = some (.nx δ) /\ N δ := by
 obtain ⟨u, e, k⟩ := h
 cases u with
 | nx δ => exact ⟨δ, e, k⟩
 | _ => exact k.elim
theorem cons1 {f : FE} {δ : En} {x : D} (h : f δ = some x) : fCons f fNil δ = some [x] := by unfold fCons; rw [h]; rfl
theorem or_no {c c' : En -> Option Bool} {δ : En} {b : Bool} (h : c δ = some false) (h' : c' δ = some b) : bOr c c' δ = some b := by unfold bOr; rw [h]; exact h'
noncomputable def dKey : FE := f2 addD (f2 addD (fVarB 2) (fC (.int 1))) (f2 modD (f2 fdivD (fPub (fCallR M__law_cell (fCons (fVar 0) (fCons (fC (.int 0)) fNil)))) (fC (.int 6))) (fC (.int 1000)))
noncomputable def dVal : FE := fPub (fCallR M__law_rule (fCons (fPub (fCallR M__law_cell (fCons (fVar 0) (fCons (f2 addD (fC (.int 2)) (fVarB 2)) fNil)))) fNil))
noncomputable def dF : FS := sSeq (sDPutM 1 dKey dVal) sNil
noncomputable def dRng : En -> Option (List D) := oRng (f2 addD (fC (.int 1)) (f2 modD (fPub (fCallR M__law_cell (fCons (fVar 0) (fCons (fC (.int 0)) fNil)))) (fC (.int 6))))
noncomputable def lS3 : FS := sSet 3 (fPub (fCallR M__law_facts (fCons (fPub (fCallR M__law_cell (fCons (fVar 0) (fCons (fC (.int 1)) fNil)))) fNil)))
noncomputable def sIfF : FS := sIf (bOr (bNot (fB (fIs "bool" (fVarB 5)))) (fB (f2 (neE) (fVarB 5) (fPub (fCallR M__law_safe (fCons (f2 ixA (fVarB 1) (fVarB 4)) fNil)))))) (sSeq (sRet (fSh (fC (.bl false))))
  sNil) sNil
noncomputable def sF : FS := sSeq (sSet 5 (fPub (fCallR M_is_safe (fCons (f2 ixA (fVarB 1) (fVarB 4)) fNil)))) (sSeq sIfF sNil)
noncomputable def lS5 : FS := sSet 5 (fPub (fCallR M__law_told (fCons (fVar 6) (fCons (fVar 7) fNil))))
noncomputable def lIf : FS := sIf (bOr (fB (f2 (neE) (fVarB 6) (fVarB 1))) (bOr (fB (f2 (neE) (fVarB 7) (fVarB 3))) (fB (f2 (neE) (fVarB 5) (fPub (fCallR M__law_widths (fCons (fVar 1) (fCons (fVar 3) fNil)))))))) (sSeq (sRet (fSh (fC (.bl false))))
  sNil) sNil
noncomputable def lE1 : FE := f2 (eqO false) (fPub (fCallR M__law_told (fCons (fPub fDicR) (fCons (fPub (fLstR fNil)) fNil)))) (fPub fDicR)
noncomputable def lE2 : FE := f2 (eqO false) (fPub (fCallR M__law_told (fCons (fPub fDicR) (fCons (fVar 3) fNil)))) (fPub (fCallR M__law_widths (fCons (fPub fDicR) (fCons (fVar 3) fNil))))
theorem fb_lawE : fb_law = sSeq (sSetR 1 fDicR) (sSeq (sFor 2 dRng dF) (sSeq lS3 (sSeq (fun δ => (sForD false 4 1 sF) (pubS 1 δ)) (sSeq (sSet 6 (fPub (fCallN dicN (fCons (fVarB 1) fNil)))) (sSeq (sSet 7 (fPub (fCallN lstN (fCons (fVarB 3) fNil)))) (sSeq lS5 (sSeq (fun δ => lIf (pubS 1 δ)) (sSeq (sRet (fSh (fAnd lE1 lE2))) sNil)))))))) := rfl
theorem law_go (s : D) : M_law [s] = (match fb_law [some (.sh s), none, none, none, none, none, none, none] with | some (.rt d _) => some d | some (.nx _) => some (.sh .non) | _ => none) := by
 unfold M_law runF
 exact if_pos rfl
structure RowsN (b : Int) (zs : List NR) : Prop where
 key : ∀ (i : Nat) (z : NR), zs[i]? = some z -> z.k = .inl ((i : Int) + 1 + b)
 each : ∀ z ∈ zs, RR z
theorem RowsN.nodup {b : Int} {zs : List NR} (h : RowsN b zs) : (zs.map (·.k)).Nodup := by
 refine List.pairwise_iff_getElem.mpr fun i j hi hj hij e => ?_
 rw [List.length_map] at hi hj
 rw [List.getElem_map, List.getElem_map] at e
 have h1 := h.key i _ (List.getElem?_eq_getElem hi)
 have h2 := h.key j _ (List.getElem?_eq_getElem hj)
 rw [h1, h2] at e
 have := Sum.inl.inj e
 omega
theorem RowsN.snoc {b : Int} {zs : List NR} (h : RowsN b zs) {z : NR} (hk : z.k = .inl ((zs.length : Int) + 1 + b)) (hz : RR z) : RowsN b (zs ++ [z]) := by
 refine ⟨fun i y hy => ?_, fun y hy => ?_⟩
 ·by_cases hi : i < zs.length
  ·rw [List.getElem?_append_left hi] at hy
   exact h.key i y hy
  ·rw [List.getElem?_append_right (by omega)] at hy
   have : i - zs.length = 0 := by
    by_cases h0 : i - zs.length = 0
    ·exact h0
    ·rw [List.getElem?_eq_none (by simp; omega)] at hy; cases hy
   rw [this] at hy
   cases hy
   rw [hk]
   have : i = zs.length := by omega
   rw [this]
 ·rcases List.mem_append.mp hy with hy | hy
  ·exact h.each y hy
  ·rw [List.mem_singleton.mp hy]; exact hz
noncomputable def E1 (s : D) (zs : List NR) (x : Option Sl) : En := [some (.sh s), some (.pv (.dic (zs.map (·.k)) (zs.map (·.rd))) none), x, none, none, none, none, none]
theorem d_step (ns : List Int) (h : ns.length <= 63) (c0 : Int) (hc : M__law_cell [.lst (ns.map D.int), .int 0] = some (.sh (.int c0))) (zs : List NR) (hz : RowsN (c0 / 6 % 1000) zs) (h6 : zs.length < 6) : ∃ z, RowsN (c0 / 6 % 1000) (zs ++ [z]) /\ dF (E1 (.lst (ns.map D.int)) zs (some (.sh (.int (zs.length : Int))))) = some (.nx (E1 (.lst (ns.map D.int)) (zs ++ [z]) (some (.sh (.int (zs.length : Int)))))) := by
 obtain ⟨r, er, c, rfl⟩ := e_cell ns (2 + zs.length) h (by omega)
 obtain ⟨z, hk, hR, e⟩ := mk_rule (.inl ((zs.length : Int) + 1 + c0 / 6 % 1000)) c
 refine ⟨z, hz.snoc hk hR, ?_⟩
 have a1 : dVal (E1 (.lst (ns.map D.int)) zs (some (.sh (.int (zs.length : Int))))) = some z.rd := by
  have b1 : (fPub (fCallR M__law_cell (fCons (fVar 0) (fCons (f2 addD (fC (.int 2)) (fVarB 2)) fNil)))) (E1 (.lst (ns.map D.int)) zs (some (.sh (.int (zs.length : Int))))) = some (.int c) := by
   rw [callR_eq (ds := [.lst (ns.map D.int), .int (2 + (zs.length : Int))]) rfl, show (2 + (zs.length : Int)) = ((2 + zs.length : Nat) : Int) by simp, er]
   rfl
  unfold dVal
  rw [callR_eq (cons1 b1), e]
  rfl
 have a2 : dKey (E1 (.lst (ns.map D.int)) zs (some (.sh (.int (zs.length : Int))))) = some (.int ((zs.length : Int) + 1 + c0 / 6 % 1000)) := by
  have b1 : (fPub (fCallR M__law_cell (fCons (fVar 0) (fCons (fC (.int 0)) fNil)))) (E1 (.lst (ns.map D.int)) zs (some (.sh (.int (zs.length : Int))))) = some (.int c0) := by
   rw [callR_eq (ds := [.lst (ns.map D.int), .int 0]) rfl, hc]
   rfl
  exact f2_of (x := .int ((zs.length : Int) + 1)) (y := .int (c0 / 6 % 1000)) rfl (f2_of (f2_of b1 rfl rfl) rfl rfl) rfl
 have hs : (zs.map (·.rd)).length < sizeLine := nlL (show (zs.map (·.rd)).length <= 900 by rw [List.length_map]; omega) (by decide)
 have hnk : (Sum.inl ((zs.length : Int) + 1 + c0 / 6 % 1000) : Key) ∉ zs.map (·.k) := by
  intro hm
  obtain ⟨y, hy, ey⟩ := List.mem_map.mp hm
  obtain ⟨i, hi⟩ := List.getElem?_of_mem hy
  have h1 := hz.key i y hi
  have h2 := (List.getElem?_eq_some_iff.mp hi).1
  rw [h1] at ey
  have := Sum.inl.inj ey
  omega
 have hpk : putKeys (zs.map (·.k)) (.inl ((zs.length : Int) + 1 + c0 / 6 % 1000)) = (zs ++ [z]).map (·.k) := by unfold putKeys; rw [if_neg hnk]; simp [hk]
 have hpv : putVals (zs.map (·.k)) (zs.map (·.rd)) (.inl ((zs.length : Int) + 1 + c0 / 6 % 1000)) z.rd = (zs ++ [z]).map (·.rd) := by rw [putVals_new (by simp) hnk]; simp
 have st : sDPutM 1 dKey dVal (E1 (.lst (ns.map D.int)) zs (some (.sh (.int (zs.length : Int))))) = some (.nx (E1 (.lst (ns.map D.int)) (zs ++ [z]) (some (.sh (.int (zs.length : Int)))))) := by
  show ((dVal (E1 (.lst (ns.map D.int)) zs (some (.sh (.int (zs.length : Int)))))).bind fun d => (dKey (E1 (.lst (ns.map D.int)) zs (some (.sh (.int (zs.length : Int)))))).bind fun kd => (keyD kd).bind fun k => if (zs.map (·.rd)).length < sizeLine then some (Out.nx [some (.sh (.lst (ns.map D.int))), some (.pv (.dic (putKeys (zs.map (·.k)) k) (putVals (zs.map (·.k)) (zs.map (·.rd)) k d)) none), (some (.sh (.int (zs.length : Int)))), none, none, none, none, none]) else none) = _
  rw [a1, a2]
  show (if (zs.map (·.rd)).length < sizeLine then some (Out.nx [some (.sh (.lst (ns.map D.int))), some (.pv (.dic (putKeys (zs.map (·.k)) (.inl ((zs.length : Int) + 1 + c0 / 6 % 1000))) (putVals (zs.map (·.k)) (zs.map (·.rd)) (.inl ((zs.length : Int) + 1 + c0 / 6 % 1000)) z.rd)) none), (some (.sh (.int (zs.length : Int)))), none, none, none, none, none]) else none) = _
  rw [if_pos hs, hpk, hpv]
  rfl
 unfold dF
 rw [seq_nx st]
 rfl
noncomputable def E8 (s : D) (zs : List NR) (x2 : Option Sl) (fs : List D) (x4 x5 x6 x7 : Option Sl) : En := [some (.sh s), some (.sh (.dic (zs.map (·.k)) (zs.map (·.rd)))), x2, some (.sh (.lst fs)), x4, x5, x6, x7]
theorem s_step {s : D} {zs : List NR} {x2 x5 x6 x7 : Option Sl} {fs : List D} (z : NR) (hk : ixA (.dic (zs.map (·.k)) (zs.map (·.rd))) (kD z.k) = some z.rd) (hR : RR z) : ∃ y5, sF (E8 s zs x2 fs (some (.sh (kD z.k))) x5 x6 x7) = some (.nx (E8 s zs x2 fs (some (.sh (kD z.k))) y5 x6 x7)) := by
 obtain ⟨⟨hd, ts, g, b, e, ht, hb⟩, _, _⟩ := hR
 have f1 := e_is_safe hd ts g b ht hb
 have f2 := e_lsafe hd ts g b ht hb
 rw [<- e] at f1 f2
 generalize (ahead [] b && (miss (yv b) (hV ts g)).isEmpty) = v at f1 f2
 refine ⟨some (.sh (.bl v)), ?_⟩
 have a1 : (fPub (fCallR M_is_safe (fCons (L2.f2 ixA (fVarB 1) (fVarB 4)) fNil))) (E8 s zs x2 fs (some (.sh (kD z.k))) x5 x6 x7) = some (.bl v) := by
  rw [callR_eq (cons1 (f2_of rfl rfl hk)), f1]
  rfl
 have a2 : (fPub (fCallR M__law_safe (fCons (L2.f2 ixA (fVarB 1) (fVarB 4)) fNil))) (E8 s zs x2 fs (some (.sh (kD z.k))) (some (.sh (.bl v))) x6 x7) = some (.bl v) := by
  rw [callR_eq (cons1 (f2_of rfl rfl hk)), f2]
  rfl
 have a3 : (fB (L2.f2 (neE) (fVarB 5) (fPub (fCallR M__law_safe (fCons (L2.f2 ixA (fVarB 1) (fVarB 4)) fNil))))) (E8 s zs x2 fs (some (.sh (kD z.k))) (some (.sh (.bl v))) x6 x7) = some false := by
  refine fB_of (f2_of (x := .bl v) rfl a2 ?_)
  cases v <;> rfl
 have st : sSet 5 (fPub (fCallR M_is_safe (fCons (L2.f2 ixA (fVarB 1) (fVarB 4)) fNil))) (E8 s zs x2 fs (some (.sh (kD z.k))) x5 x6 x7) = some (.nx (E8 s zs x2 fs (some (.sh (kD z.k))) (some (.sh (.bl v))) x6 x7)) := by
  rw [set_of a1]
  rfl
 have sI : sIfF (E8 s zs x2 fs (some (.sh (kD z.k))) (some (.sh (.bl v))) x6 x7) = some (.nx (E8 s zs x2 fs (some (.sh (kD z.k))) (some (.sh (.bl v))) x6 x7)) := by
  unfold sIfF
  rw [if_no (or_no (b := false) (by rfl) a3)]
  rfl
 unfold sF
 rw [seq_nx st, seq_nx sI]
 rfl
theorem s_run {s : D} {zs : List NR} {x2 x6 x7 : Option Sl} {fs : List D} : ∀ (ys : List NR) (x4 x5 : Option Sl), (∀ z ∈ ys, ixA (.dic (zs.map (·.k)) (zs.map (·.rd))) (kD z.k) = some z.rd /\ RR z) -> ∃ y4 y5, forL 4 sF (ys.map fun (z : NR) => kD z.k) (E8 s zs x2 fs x4 x5 x6 x7) = some (.nx (E8 s zs x2 fs y4 y5 x6 x7))
 | [], x4, x5, _ => ⟨x4, x5, rfl⟩
 | z :: ys, x4, x5, h => by
  obtain ⟨y5, st⟩ := s_step (s := s) (x2 := x2) (x5 := x5) (x6 := x6) (x7 := x7) (fs := fs) z (h z (by simp)).1 (h z (by simp)).2
  obtain ⟨z4, z5, ih⟩ := s_run (s := s) (x2 := x2) (x6 := x6) (x7 := x7) (fs := fs) ys (some (.sh (kD z.k))) y5 fun z' h' => h z' (List.mem_cons_of_mem _ h')
  refine ⟨z4, z5, ?_⟩
  show (match sF (E8 s zs x2 fs (some (.sh (kD z.k))) x5 x6 x7) with | some (.nx δ') => forL 4 sF (ys.map fun (z : NR) => kD z.k) δ' | some (.ct δ') => forL 4 sF (ys.map fun (z : NR) => kD z.k) δ' | some (.ex c δ') => some (.ex c δ') | some (.bk δ') => some (.nx δ') | some (.rt d δ') => some (.rt d δ') | none => none) = _
  rw [st]
  exact ih
theorem law_true (ns : List Int) (h : ns.length <= 63) : M_law [.lst (ns.map D.int)] = some (.sh (.bl true)) := by
 obtain ⟨r0, er0, c0, rfl⟩ := e_cell ns 0 h (by decide)
 obtain ⟨r1, er1, c1, rfl⟩ := e_cell ns 1 h (by decide)
 have hc0 : M__law_cell [.lst (ns.map D.int), .int 0] = some (.sh (.int c0)) := er0
 have hc1 : M__law_cell [.lst (ns.map D.int), .int 1] = some (.sh (.int c1)) := er1
 obtain ⟨n, hn, hn6⟩ : ∃ n : Nat, 1 + c0 % 6 = n /\ n <= 6 := ⟨(1 + c0 % 6).toNat, by omega, by omega⟩
 -- the rules
 have s1 : ∃ zs x, RowsN (c0 / 6 % 1000) zs /\ zs.length = n /\ sFor 2 dRng dF (E1 (.lst (ns.map D.int)) [] none) = some (.nx (E1 (.lst (ns.map D.int)) zs x)) := by
  have hr : dRng (E1 (.lst (ns.map D.int)) [] none) = some (rngD 0 n) := by
   have b1 : (fPub (fCallR M__law_cell (fCons (fVar 0) (fCons (fC (.int 0)) fNil)))) (E1 (.lst (ns.map D.int)) [] none) = some (.int c0) := by
    rw [callR_eq (ds := [.lst (ns.map D.int), .int 0]) rfl, hc0]
    rfl
   have b2 : f2 addD (fC (.int 1)) (f2 modD (fPub (fCallR M__law_cell (fCons (fVar 0) (fCons (fC (.int 0)) fNil)))) (fC (.int 6))) (E1 (.lst (ns.map D.int)) [] none) = some (.int (1 + c0 % 6)) := f2_of (x := .int 1) (y := .int (c0 % 6)) rfl (f2_of b1 rfl rfl) rfl
   unfold dRng oRng
   rw [b2]
   dsimp only
   rw [if_pos (by constructor <;> omega), show (1 + c0 % 6).toNat = n by omega]
  have hf : sFor 2 dRng dF (E1 (.lst (ns.map D.int)) [] none) = forL 2 dF (rngD 0 n) (E1 (.lst (ns.map D.int)) [] none) := by
   unfold sFor
   rw [hr]
   rfl
  rw [hf]
  obtain ⟨δ, e, zs, x, h1, h2, rfl⟩ := so_nx (o := forL 2 dF (rngD 0 n) (E1 (.lst (ns.map D.int)) [] none)) (N := fun δ => ∃ zs x, RowsN (c0 / 6 % 1000) zs /\ zs.length = n /\ δ = E1 (.lst (ns.map D.int)) zs x) (by
   refine so_forL (fun k δ => ∃ zs x, RowsN (c0 / 6 % 1000) zs /\ zs.length = k /\ δ = E1 (.lst (ns.map D.int)) zs x) ⟨[], none, ⟨fun i z hz => by simp at hz, fun _ hz => nomatch hz⟩, rfl, rfl⟩ ?_ ?_
   ·rintro k x hx δ ⟨zs, y, h1, h2, rfl⟩
    obtain ⟨hk, rfl⟩ := rng_ix hx
    obtain ⟨z, h3, e⟩ := d_step ns h c0 hc0 zs h1 (by omega)
    rw [<- h2]
    exact ⟨_, e, zs ++ [z], _, h3, by simp, rfl⟩
   ·rintro δ ⟨zs, y, h1, h2, rfl⟩
    exact ⟨zs, y, h1, by rw [h2]; simp [rngD], rfl⟩)
  exact ⟨zs, x, h1, h2, e⟩
 obtain ⟨zs, x2, hz, hlen, s1⟩ := s1
 -- the facts
 obtain ⟨fs, hf, hf8, ef⟩ := e_facts c1
 have s2 : lS3 (E1 (.lst (ns.map D.int)) zs x2) = some (.nx [some (.sh (.lst (ns.map D.int))), some (.pv (.dic (zs.map (·.k)) (zs.map (·.rd))) none), x2, some (.sh (.lst (fs.map (·.1)))), none, none, none, none]) := by
  have b1 : (fPub (fCallR M__law_cell (fCons (fVar 0) (fCons (fC (.int 1)) fNil)))) (E1 (.lst (ns.map D.int)) zs x2) = some (.int c1) := by
   rw [callR_eq (ds := [.lst (ns.map D.int), .int 1]) rfl, hc1]
   rfl
  have b2 : fPub (fCallR M__law_facts (fCons (fPub (fCallR M__law_cell (fCons (fVar 0) (fCons (fC (.int 1)) fNil)))) fNil)) (E1 (.lst (ns.map D.int)) zs x2) = some (.lst (fs.map (·.1))) := by
   rw [callR_eq (cons1 b1), ef]
   rfl
  unfold lS3
  rw [set_of b2]
  rfl
 -- all rules: safe or not
 have nd := hz.nodup
 obtain ⟨y4, y5, s3⟩ := s_run (s := .lst (ns.map D.int)) (zs := zs) (x2 := x2) (x6 := none) (x7 := none) (fs := fs.map (·.1)) zs none none fun z hz' => ⟨ix_zs nd hz', hz.each z hz'⟩
 have s3' : (fun δ => (sForD false 4 1 sF) (pubS 1 δ)) [some (.sh (.lst (ns.map D.int))), some (.pv (.dic (zs.map (·.k)) (zs.map (·.rd))) none), x2, some (.sh (.lst (fs.map (·.1)))), none, none, none, none] = some (.nx (E8 (.lst (ns.map D.int)) zs x2 (fs.map (·.1)) y4 y5 none none)) := by
  show forL 4 sF ((zs.map (·.k)).map kD) (E8 (.lst (ns.map D.int)) zs x2 (fs.map (·.1)) none none none none) = _
  rw [List.map_map]
  exact s3
 -- widths
 obtain ⟨d, r, t1, t2, t3, t4⟩ := both zs fs nd hz.each hf (by omega) hf8
 obtain ⟨d', r', u1, u2, u3, u4⟩ := both [] fs (by simp) (fun _ h => nomatch h) hf (by simp) hf8
 obtain ⟨d'', r'', v1, v2, v3, v4⟩ := both [] [] (by simp) (fun _ h => nomatch h) (fun _ h => nomatch h) (by simp) (by simp)
 have w1 : M__law_told [.dic [] [], .lst []] = some (.sh (.dic [] [])) := by
  have := (widths_two [] [] [] (fun _ h => nomatch h) (fun _ h => nomatch h) (by simp)).2 [] rfl
  exact told_some this
 have pf : (fs.map (·.1)).all (plainN 8) = true := by rw [List.all_map, List.all_eq_true]; exact fun x hx => (hf x hx).2
 have n1 := ne_rules nd fun z hz' => (hz.each z hz').plain
 have n2 := ne_facts pf
 let E (x5 : Option Sl) : En := E8 (.lst (ns.map D.int)) zs x2 (fs.map (·.1)) y4 x5 (some (.sh (.dic (zs.map (·.k)) (zs.map (·.rd))))) (some (.sh (.lst (fs.map (·.1)))))
 have s5 : lS5 (E y5) = some (.nx (E (some (.sh d)))) := by
  unfold lS5
  rw [set_of (d := d) (by rw [callR_eq (ds := [.dic (zs.map (·.k)) (zs.map (·.rd)), .lst (fs.map (·.1))]) rfl, t1]; rfl)]
  rfl
 have s6 : lIf (E (some (.sh d))) = some (.nx (E (some (.sh d)))) := by
  have b1 : fB (f2 neE (fVarB 6) (fVarB 1)) (E (some (.sh d))) = some false := fB_of (f2_of rfl rfl n1)
  have b2 : fB (f2 neE (fVarB 7) (fVarB 3)) (E (some (.sh d))) = some false := fB_of (f2_of rfl rfl n2)
  have b0 : fPub (fCallR M__law_widths (fCons (fVar 1) (fCons (fVar 3) fNil))) (E (some (.sh d))) = some r.d := by
   rw [callR_eq (ds := [.dic (zs.map (·.k)) (zs.map (·.rd)), .lst (fs.map (·.1))]) rfl, t2]
   rfl
  have b3 : fB (f2 (neE) (fVarB 5) (fPub (fCallR M__law_widths (fCons (fVar 1) (fCons (fVar 3) fNil))))) (E (some (.sh d))) = some false := fB_of (f2_of (x := d) rfl b0 t3)
  unfold lIf
  rw [if_no (or_no b1 (or_no b2 b3))]
  rfl
 have s7 : (fAnd lE1 lE2) (E (some (.sh d))) = some (.bl true) := by
  have b1 : lE1 (E (some (.sh d))) = some (.bl true) := by
   refine f2_of (x := .dic [] []) (y := .dic [] []) ?_ rfl (by kernel_rfl)
   rw [callR_eq (ds := [.dic [] [], .lst []]) rfl, w1]
   rfl
  have b2 : lE2 (E (some (.sh d))) = some (.bl true) := by
   refine f2_of (x := d') (y := r'.d) ?_ ?_ u4
   ·rw [callR_eq (ds := [.dic [] [], .lst (fs.map (·.1))]) rfl, show M__law_told [.dic [] [], .lst (fs.map (·.1))] = some (.sh d') from u1]
    rfl
   ·rw [callR_eq (ds := [.dic [] [], .lst (fs.map (·.1))]) rfl, show M__law_widths [.dic [] [], .lst (fs.map (·.1))] = some r' from u2]
    rfl
  unfold fAnd
  rw [b1]
  exact b2
 rw [law_go, fb_lawE]
 have s0 : sSetR 1 fDicR [some (.sh (.lst (ns.map D.int))), none, none, none, none, none, none, none] = some (.nx (E1 (.lst (ns.map D.int)) [] none)) := rfl
 have s8 : (fun δ => lIf (pubS 1 δ)) (E (some (.sh d))) = some (.nx (E (some (.sh d)))) := s6
 have s9 : sRet (fSh (fAnd lE1 lE2)) (E (some (.sh d))) = some (.rt (.sh (.bl true)) (E (some (.sh d)))) := by
  unfold sRet fSh
  rw [s7]
  rfl
 rw [seq_nx s0, seq_nx s1, seq_nx s2, seq_nx (F := fun δ => (sForD false 4 1 sF) (pubS 1 δ)) s3', seq_nx (δ' := E8 (.lst (ns.map D.int)) zs x2 (fs.map (·.1)) y4 y5 (some (.sh (.dic (zs.map (·.k)) (zs.map (·.rd))))) none) rfl, seq_nx (δ' := E y5) rfl, seq_nx s5, seq_nx (F := fun δ => lIf (pubS 1 δ)) s8, seq_rt s9]
theorem all_ok {P : Program} {w : World} {K : PySem.W.Frag} {mg : Str -> Option Value} {base : Heap} (T : Txt K mg) {f : Addr} {fd : FuncData} (F : Fun K "law" "law" (top 35) f fd) : FnOk P w K mg base CX0 6 f fd ["_law_script"] (spD K M_law) := by
 have ok_is_small := mk_is_small (P := P) (w := w) (base := base) T
 have ok_is_big := mk_is_big (P := P) (w := w) (base := base) T
 have ok_is_figure := mk_is_figure (P := P) (w := w) (base := base) T
 have ok_is_short_text := mk_is_short_text (P := P) (w := w) (base := base) T
 have ok_is_variable := mk_is_variable (P := P) (w := w) (base := base) T ok_is_big ok_is_figure ok_is_short_text ok_is_small
 have ok_is_group := mk_is_group (P := P) (w := w) (base := base) T
 have ok_has_predicate := mk_has_predicate (P := P) (w := w) (base := base) T
 have ok_literal_variables := mk_literal_variables (P := P) (w := w) (base := base) T ok_has_predicate ok_is_variable
 have ok_head_variables := mk_head_variables (P := P) (w := w) (base := base) T ok_is_group ok_is_variable
 have ok_body_variables := mk_body_variables (P := P) (w := w) (base := base) T ok_literal_variables
 have ok_are_bound_ahead := mk_are_bound_ahead (P := P) (w := w) (base := base) T ok_literal_variables
 have ok_is_safe := mk_is_safe (P := P) (w := w) (base := base) T ok_are_bound_ahead ok_body_variables ok_head_variables
 have ok_note_width := mk_note_width (P := P) (w := w) (base := base) T
 have okE_note_width := mkE_note_width (P := P) (w := w) (base := base) T
 have ok_widths_of := mk_widths_of (P := P) (w := w) (base := base) T ok_has_predicate ok_note_width okE_note_width
 have okE_widths_of := mkE_widths_of (P := P) (w := w) (base := base) T ok_has_predicate ok_note_width okE_note_width
 have ok__law_cell := mk__law_cell (P := P) (w := w) (base := base) T
 have ok__law_terms := mk__law_terms (P := P) (w := w) (base := base) T
 have ok__law_literal := mk__law_literal (P := P) (w := w) (base := base) T ok__law_terms
 have ok__law_rule := mk__law_rule (P := P) (w := w) (base := base) T ok__law_literal ok__law_terms
 have ok__law_facts := mk__law_facts (P := P) (w := w) (base := base) T
 have ok__law_variables := mk__law_variables (P := P) (w := w) (base := base) T
 have ok__law_safe := mk__law_safe (P := P) (w := w) (base := base) T ok__law_variables
 have ok__law_widths := mk__law_widths (P := P) (w := w) (base := base) T
 have ok__law_told := mk__law_told (P := P) (w := w) (base := base) T ok_widths_of okE_widths_of
 exact mk_law T F ok__law_cell ok__law_facts ok__law_rule ok__law_safe ok__law_told ok__law_widths ok_is_safe
theorem walk {l : PySem.W.OpenLaw} {q : Program} {loose : List Str} {XP : (Str -> Option Value) -> Heap -> Prop} {YP : World -> Heap -> Prop} {d : DefRec} {K : Params -> PySem.W.Frag} (hn : l.most = some 63) (hdf : d.params.defaults = []) (hnm : d.name = "law")
  (hY : ∀ (w : World) (h : Heap), YP w h -> (K w.params).In h)
  (F : ∀ (w : World) (mg : Str -> Option Value) (h : Heap), (K w.params).In h -> h.Ns mainGlobals mg -> Txt (K w.params) mg) :
  PySem.W.WalkO q loose XP YP l.row.toRowW d [] (fun f vs => PySem.call f vs) :=
 L2.walk_ofK (n := 63) (k := 6) (x := "_law_script") (CX := CX0) (sp := fun K => spD K M_law) hn (by decide) hdf ⟨rfl, by decide, by decide⟩ hY
  (fun w mg fa h KX G hm => law_at (by rw [<- hnm]; exact hm) (F w mg h KX G).d_law (fun _ _ _ _ _ _ _ => rfl) fun f fd base Fn => all_ok (F w mg h KX G) Fn)
  (fun K H a ns hl _ hS => law_sp hS (law_true ns hl)) fun _ _ _ _ z => z
end K04
open PySem PySem.W PyProof.Rows L2
set_option maxRecDepth 100000 in
set_option maxHeartbeats 0 in
theorem PySem.Challenge.cw_reason_k04_safe_and_widths_holds : PySem.Challenge.rw_reason_k04_safe_and_widths.Holds := by
 w_on; o_law; k_head; (case hw => w_witness2)
 k_fill
 refine K04.walk (l := PySem.Challenge.rw_reason_k04_safe_and_widths) rfl rfl rfl (fun w h Y => PySem.W.kIn_of Y) ?F
 case F =>
  intro w mg h KX G
  refine' K04.Txt.mk (defAt_mk KX G ?a1 ?l1 ?c1 ?k1) (defAt_mk KX G ?a2 ?l2 ?c2 ?k2) (defAt_mk KX G ?a3 ?l3 ?c3 ?k3) (defAt_mk KX G ?a4 ?l4 ?c4 ?k4) (defAt_mk KX G ?a5 ?l5 ?c5 ?k5) (defAt_mk KX G ?a6 ?l6 ?c6 ?k6) (defAt_mk KX G ?a7 ?l7 ?c7 ?k7) (defAt_mk KX G ?a8 ?l8 ?c8 ?k8) (defAt_mk KX G ?a9 ?l9 ?c9 ?k9) (defAt_mk KX G ?a10 ?l10 ?c10 ?k10) (defAt_mk KX G ?a11 ?l11 ?c11 ?k11) (defAt_mk KX G ?a12 ?l12 ?c12 ?k12) (defAt_mk KX G ?a13 ?l13 ?c13 ?k13) (defAt_mk KX G ?a14 ?l14 ?c14 ?k14) (defAt_mk KX G ?a15 ?l15 ?c15 ?k15) (defAt_mk KX G ?a16 ?l16 ?c16 ?k16) (defAt_mk KX G ?a17 ?l17 ?c17 ?k17) (defAt_mk KX G ?a18 ?l18 ?c18 ?k18) (defAt_mk KX G ?a19 ?l19 ?c19 ?k19) (defAt_mk KX G ?a20 ?l20 ?c20 ?k20) (defAt_mk KX G ?a21 ?l21 ?c21 ?k21) (defAt_mk KX G ?a22 ?l22 ?c22 ?k22) (defAt_mk KX G ?a23 ?l23 ?c23 ?k23) (defAt_mk KX G ?a24 ?l24 ?c24 ?k24) (PySem.W.mg_none_of KX G ?z25) (PySem.W.mg_none_of KX G ?z26) (PySem.W.mg_none_of KX G ?z27) (PySem.W.mg_none_of KX G ?z28) (PySem.W.mg_none_of KX G ?z29) (PySem.W.mg_none_of KX G ?z30) (PySem.W.mg_none_of KX G ?z31) (PySem.W.mg_none_of KX G ?z32) (PySem.W.mg_none_of KX G ?z33) (PySem.W.mg_none_of KX G ?z34) (PySem.W.mg_none_of KX G ?z35) tyOk_bool tyOk_dict tyOk_list tyOk_str tyOk_tuple (globAt_int KX G ?g36) (raiseC_mk ?y901 (excC_mk ?y902 ?y903 ?y904 ?y905 ?y906 ?y907) ?y908) (isOb1_mk ?y909 ?y910 ?y911) (isObT_mk (nsAll_cons ?y916 (nsAll_cons ?y915 (nsAll_cons ?y914 (nsAll_cons ?y913 (nsAll_cons ?y912 nsAll_nil))))) (by decide) ?y917 ?y918) (catch_cons ?y919 ?y920 (excC_mk ?y921 ?y922 ?y923 ?y924 ?y925 ?y926) ?y927 catch_nil)
  (case a1 => k_is); (case l1 => k_is); (case c1 => k_is); (case k1 => k_is)
  (case a2 => k_is); (case l2 => k_is); (case c2 => k_is); (case k2 => k_is)
  (case a3 => k_is); (case l3 => k_is); (case c3 => k_is); (case k3 => k_is)
  (case a4 => k_is); (case l4 => k_is); (case c4 => k_is); (case k4 => k_is)
  (case a5 => k_is); (case l5 => k_is); (case c5 => k_is); (case k5 => k_is)
  (case a6 => k_is); (case l6 => k_is); (case c6 => k_is); (case k6 => k_is)
  (case a7 => k_is); (case l7 => k_is); (case c7 => k_is); (case k7 => k_is)
  (case a8 => k_is); (case l8 => k_is); (case c8 => k_is); (case k8 => k_is)
  (case a9 => k_is); (case l9 => k_is); (case c9 => k_is); (case k9 => k_is)
  (case a10 => k_is); (case l10 => k_is); (case c10 => k_is); (case k10 => k_is)
  (case a11 => k_is); (case l11 => k_is); (case c11 => k_is); (case k11 => k_is)
  (case a12 => k_is); (case l12 => k_is); (case c12 => k_is); (case k12 => k_is)
  (case a13 => k_is); (case l13 => k_is); (case c13 => k_is); (case k13 => k_is)
  (case a14 => k_is); (case l14 => k_is); (case c14 => k_is); (case k14 => k_is)
  (case a15 => k_is); (case l15 => k_is); (case c15 => k_is); (case k15 => k_is)
  (case a16 => k_is); (case l16 => k_is); (case c16 => k_is); (case k16 => k_is)
  (case a17 => k_is); (case l17 => k_is); (case c17 => k_is); (case k17 => k_is)
  (case a18 => k_is); (case l18 => k_is); (case c18 => k_is); (case k18 => k_is)
  (case a19 => k_is); (case l19 => k_is); (case c19 => k_is); (case k19 => k_is)
  (case a20 => k_is); (case l20 => k_is); (case c20 => k_is); (case k20 => k_is)
  (case a21 => k_is); (case l21 => k_is); (case c21 => k_is); (case k21 => k_is)
  (case a22 => k_is); (case l22 => k_is); (case c22 => k_is); (case k22 => k_is)
  (case a23 => k_is); (case l23 => k_is); (case c23 => k_is); (case k23 => k_is)
  (case a24 => k_is); (case l24 => k_is); (case c24 => k_is); (case k24 => k_is)
  (case z25 => k_is)
  (case z26 => k_is)
  (case z27 => k_is)
  (case z28 => k_is)
  (case z29 => k_is)
  (case z30 => k_is)
  (case z31 => k_is)
  (case z32 => k_is)
  (case z33 => k_is)
  (case z34 => k_is)
  (case z35 => k_is)
  (case g36 => k_is)
  (case y901 => k_is)
  (case y902 => k_is)
  (case y903 => k_is)
  (case y904 => rfl)
  (case y905 => k_is)
  (case y906 => k_is)
  (case y907 => rfl)
  (case y908 => first | with_unfolding_all rfl | decide +kernel)
  (case y909 => k_is)
  (case y910 => k_is)
  (case y911 => rfl)
  (case y912 => k_is)
  (case y913 => k_is)
  (case y914 => k_is)
  (case y915 => k_is)
  (case y916 => k_is)
  (case y917 => k_is)
  (case y918 => rfl)
  (case y919 => k_is)
  (case y920 => k_is)
  (case y921 => k_is)
  (case y922 => k_is)
  (case y923 => rfl)
  (case y924 => k_is)
  (case y925 => k_is)
  (case y926 => rfl)
  (case y927 => rfl)
