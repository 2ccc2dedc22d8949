import PyProof.Rows.All
import Wide.All
import OpenK.AllK
import Wide.FinOn
import Lean
import PyProof.EqAt
import PyProof.EqKinds
import PyProof.TupleCall
import PyProof.NeKinds
import KE.KEqDict
import KE.KDictLaws
import PyProof.JoinWalk
import PyProof.ZipIter
import KE.KSortTup
import PyProof.Rows.IntRules
import PyProof.Rows.StrRules
import PyProof.SetKind
import PyProof.Rows.SetFrom
import PyProof.CollectWalk
import PyProof.FactsAll.set_1
import PyProof.TupleIter
import PyProof.CollectStr
import PyProof.SetRoads
import PyProof.DictKinds
import PyProof.Rows.SortStr
import PyProof.ListMulRoad
import PyProof.WalkInts
import PyProof.ListRange
import PyProof.DictWalks
import PyProof.FactsAll.subtypes_4
import PySem.Challenge.RW_reason_k05_layers_or_ring
set_option Elab.async false
set_option linter.all false
set_option maxRecDepth 100000
namespace L2
open PySem PySem.Spec PyProof.Rows
abbrev Key := Sum Int Str
def keyIs : Key → Value → Bool
  | .inl k, v => Value.isInt k v
  | .inr x, v => Value.isStrOf x v
def keyH (w : World) : Key → Int
  | .inl k => hashInt k
  | .inr x => hashStr w x
theorem keyIs_shape : ∀ {k : Key} {v : Value}, keyIs k v = true → (∃ i t, k = Sum.inl i ∧ v = Value.int i t) ∨ (∃ x t, k = Sum.inr x ∧ v = Value.str x t)
  | .inl i, v, h => by
    obtain ⟨t, e⟩ := Value.isInt_shape (k := i) (v := v) h
    exact .inl ⟨i, t, rfl, e⟩
  | .inr x, v, h => by
    obtain ⟨t, e⟩ := Value.isStrOf_shape (x := x) (v := v) h
    exact .inr ⟨x, t, rfl, e⟩
theorem keyIs_int (i : Int) (t : Tok) : keyIs (.inl i) (.int i t) = true := by simp [keyIs, Value.isInt]
theorem keyIs_str (x : Str) (t : Tok) : keyIs (.inr x) (.str x t) = true := by simp [keyIs, Value.isStrOf]
theorem key_ll (a b : Int) : decide ((Sum.inl a : Key) = Sum.inl b) = (a == b) := by
  by_cases e : a = b
  · subst e; simp
  · have h : ¬ (Sum.inl a : Key) = Sum.inl b := fun q => e (Sum.inl.inj q)
    rw [decide_eq_false h]
    exact (beq_eq_false_iff_ne.mpr e).symm
theorem key_rr (a b : Str) : decide ((Sum.inr a : Key) = Sum.inr b) = decide (a = b) := by
  by_cases e : a = b
  · subst e; simp
  · have h : ¬ (Sum.inr a : Key) = Sum.inr b := fun q => e (Sum.inr.inj q)
    rw [decide_eq_false h, decide_eq_false e]
theorem key_lr (a : Int) (b : Str) : decide ((Sum.inl a : Key) = Sum.inr b) = false := decide_eq_false (fun q => nomatch q)
theorem key_rl (a : Str) (b : Int) : decide ((Sum.inr a : Key) = Sum.inl b) = false := decide_eq_false (fun q => nomatch q)
def mixKind (prog : Program) (w : World) : PySem.KeyKind prog w Key where
  is := keyIs
  hash := keyH w
  inj := fun v a b ha hb => by
    rcases keyIs_shape ha with ⟨i, t, rfl, rfl⟩ | ⟨x, t, rfl, rfl⟩
    · rcases keyIs_shape hb with ⟨j, u, rfl, e⟩ | ⟨y, u, rfl, e⟩
      · injection e with e1 _; rw [e1]
      · exact nomatch e
    · rcases keyIs_shape hb with ⟨j, u, rfl, e⟩ | ⟨y, u, rfl, e⟩
      · exact nomatch e
      · injection e with e1 _; rw [e1]
  byValue := fun k v h => by
    rcases keyIs_shape h with ⟨i, t, rfl, rfl⟩ | ⟨x, t, rfl, rfl⟩ <;> rfl
  pyHash := fun hv h => by
    rcases keyIs_shape hv with ⟨i, t, rfl, rfl⟩ | ⟨x, t, rfl, rfl⟩
    · exact wpAny_pyHash_int h
    · exact wpAny_pyHash_str h
  eqBool := fun hu hv h => by
    rcases keyIs_shape hu with ⟨i, t, rfl, rfl⟩ | ⟨x, t, rfl, rfl⟩
    · rcases keyIs_shape hv with ⟨j, u, rfl, rfl⟩ | ⟨y, u, rfl, rfl⟩
      · rw [key_ll] at h; exact wpAny_eqBool_int h
      · rw [key_lr] at h; exact SeqAt.EqAt.int_str i t y u _ _ _ _ h
    · rcases keyIs_shape hv with ⟨j, u, rfl, rfl⟩ | ⟨y, u, rfl, rfl⟩
      · rw [key_rl] at h; exact SeqAt.EqAt.str_int x t j u _ _ _ _ h
      · rw [key_rr] at h; exact wpAny_eqBool_str h
  «strs» := fun k x t v h => by
    rcases keyIs_shape h with ⟨i, u, rfl, e⟩ | ⟨y, u, rfl, e⟩
    · exact nomatch e
    · injection e with e1 _
      subst e1
      cases v <;> rfl
theorem mixKind_int (prog : Program) (w : World) (i : Int) (t : Tok) : (mixKind prog w).is (.inl i) (.int i t) = true := keyIs_int i t
theorem mixKind_str (prog : Program) (w : World) (x : Str) (t : Tok) : (mixKind prog w).is (.inr x) (.str x t) = true := keyIs_str x t
end L2
namespace L2
open PySem PySem.Spec PyProof.Rows
inductive V where
  | non | bl (b : Bool) | int (i : Int) | str (x : Str) | byt (b : Array UInt8) | flt (b : UInt64) | ref (a : Addr) | ty (n : String)
  deriving DecidableEq
def RelV : V → Value → Prop
  | .non, u => u = Value.none
  | .bl b, u => u = Value.bool b
  | .int i, u => ∃ t, u = Value.int i t
  | .str x, u => ∃ t, u = Value.str x t
  | .byt b, u => ∃ t, u = Value.bytes b t
  | .flt b, u => ∃ t, u = Value.float b t
  | .ref a, u => u = Value.ref a
  | .ty n, u => u = Value.type n
abbrev Vals : List V → List Value → Prop := Paired RelV
theorem Vals.length {xs : List V} {us : List Value} (r : Vals xs us) : xs.length = us.length := Paired.length r
theorem Vals.get : ∀ {xs : List V} {us : List Value} {i : Nat} {x : V}, Vals xs us → xs[i]? = some x → ∃ u, us[i]? = some u ∧ RelV x u
  | _, _, _, _, .nil, e => by simp at e
  | _, _, 0, _, .cons r _, e => by simp at e; subst e; exact ⟨_, rfl, r⟩
  | _, _, i + 1, x, .cons _ t, e => by
    obtain ⟨u, h1, h2⟩ := Vals.get (i := i) (x := x) t (by simpa using e)
    exact ⟨u, by simpa using h1, h2⟩
theorem Vals.append : ∀ {xs ys : List V} {us ws : List Value}, Vals xs us → Vals ys ws → Vals (xs ++ ys) (us ++ ws)
  | _, _, _, _, .nil, s => s
  | _, _, _, _, .cons r t, s => .cons r (Vals.append t s)
def RelO : Option V → Option Value → Prop
  | some v, some u => RelV v u
  | none, none => True
  | _, _ => False
def KV {κ : Type} : List (κ × V) → List (κ × Value) → Prop := Paired fun (p : κ × V) (q : κ × Value) => p.1 = q.1 ∧ RelV p.2 q.2
def kV : Key → V
  | .inl i => .int i
  | .inr x => .str x
inductive HO where
  /-- a list -/
  | lst (xs : List V)
  /-- a tuple (never changes) -/
  | tup (xs : List V)
  /-- a dict whose keys are ints and texts; one whose keys are tuples of ints and texts (the empty one is both) -/
  | dK (kvs : List (Key × V)) | dT (kvs : List (List Key × V))
  /-- a set of ints: its members, its size -/
  | set (S : Int → Bool) (n : Nat)
  /-- an instance of the class at C, its dict at dx, its attributes -/
  | ins (C dx : Addr) (fs : List (Str × V))
  /-- the dict of the instance at x -/
  | own (x : Addr)
  /-- the dict of an exception -/
  | xd (fs : List (Str × V))
  /-- a bound method, f of x -/
  | met (f x : Addr)
  /-- a range object lo, lo + 1, .. below hi -/
  | rng (lo hi : Int)
  /-- a thing that is known to the object (the script; a dict while a loop walks it): read, never written while it is so -/
  | frz (o : Obj) (u : HO)
  /-- a code object's table -/
  | tbl (ps : Array Value)
  /-- any other thing, by what is true of its one object (a def of one's own: SetO a S n := HO.ext fun h => ..) -/
  | ext (φ : Heap → Prop)
abbrev Hp := Addr → Option HO
def upd (H : Hp) (a : Addr) (o : HO) : Hp := fun b => if b = a then some o else H b
theorem upd_same {H : Hp} {a : Addr} {o : HO} : upd H a o a = some o := by unfold upd; rw [if_pos rfl]
theorem upd_ne {H : Hp} {a b : Addr} {o : HO} (h : b ≠ a) : upd H a o b = H b := by unfold upd; rw [if_neg h]
theorem ne_of {H : Hp} {a b : Addr} {o u : HO} (h : H a = some o) (h' : H b = some u) (d : o ≠ u) : a ≠ b := by
  intro e; subst e; rw [h] at h'; exact d (Option.some.inj h')
theorem ne_of_none {H : Hp} {a b : Addr} {o : HO} (h : H a = some o) (h' : H b = none) : a ≠ b := by
  intro e; subst e; rw [h] at h'; cases h'
section
variable (P : Program) (w : World)
def ObjOk (H : Hp) (h : Heap) (a : Addr) : HO → Prop
  | .lst xs => xs.length ≤ sizeLine ∧ ∃ (its : List Value) (n : Nat), Vals xs its ∧ h.get? a = some { cls := .type "list", data := .seq its.toArray n }
  | .tup xs => xs.length ≤ sizeLine ∧ ∃ its : List Value, Vals xs its ∧ IsTup h a its.toArray
  | .dK kvs => kvs.length ≤ sizeLine ∧ (a == sysModules) = false ∧ ∃ vs, KV kvs vs ∧ h.DictOf (mixKind P w) a vs
  | .dT kvs => kvs.length ≤ sizeLine ∧ (a == sysModules) = false ∧ ∃ xs : List (List Key × Addr × Value),
      Paired (fun (p : List Key × V) (q : List Key × Addr × Value) => p.1 = q.1 ∧ H q.2.1 = some (.tup (p.1.map kV)) ∧ RelV p.2 q.2.2) kvs xs ∧
      ∃ o es ep, h.get? a = some o ∧ o.ExactDict ∧ o.data = .dict es ep ∧ es.toList = xs.map (entryOfKey (tupleKind (mixKind P w))) ∧ (xs.map (·.1)).Nodup
  | .set S n => h.SetOf (intKind P w) a S n
  | .ins C dx fs => H dx = some (.own a) ∧ fs.length ≤ 1000 ∧ dx ≠ a ∧ h.get? a = some (PySem.W.instObj C dx) ∧
      ∃ mA, h.Ns1 dx mA ∧ (∀ f, RelO (fs.lookup f) (mA f)) ∧ PySem.Within mA (fs.map (·.1))
  | .own _ => ∃ o, h.get? a = some o
  | .xd fs => ∃ mA, h.Ns1 a mA ∧ ∀ f, RelO (fs.lookup f) (mA f)
  | .rng lo hi => ∃ t u v, h.get? a = some { cls := .type "range", data := .fields #[.int lo t, .int hi u, .int 1 v] }
  | .frz o u => h.get? a = some o ∧ ObjOk H h a u
  | .tbl ps => h.get? a = some { cls := .none, data := .fields ps }
  | .met f x => h.get? a = some (PySem.W.methodObj (.ref f) (.ref x))
  | .ext φ => φ h ∧ (∃ o, h.get? a = some o) ∧ ∀ h1 h2 : Heap, φ h1 → (∀ o, h1.get? a = some o → h2.get? a = some o) → φ h2
def HOk (H : Hp) (h : Heap) : Prop := ∀ a o, H a = some o → ObjOk P w H h a o
end
section
variable {P : Program} {w : World} {H H' : Hp} {h h' : Heap} {a : Addr} {o : HO}
theorem ObjOk.lt (x : ObjOk P w H h a o) : a < h.objs.size := by
  cases o with
  | lst xs => obtain ⟨_, _, _, _, e⟩ := x; exact Heap.lt_size e
  | tup xs => obtain ⟨_, _, _, p⟩ := x; exact p.lt
  | dK kvs => obtain ⟨_, _, _, _, o, _, _, e, _⟩ := x; exact Heap.lt_size e
  | dT kvs => obtain ⟨_, _, _, _, o, _, _, e, _⟩ := x; exact Heap.lt_size e
  | set S n => obtain ⟨o, _, _, _, e, _⟩ := x; exact Heap.lt_size e
  | ins C dx fs => obtain ⟨_, _, _, e, _⟩ := x; exact Heap.lt_size e
  | own y => obtain ⟨_, e⟩ := x; exact Heap.lt_size e
  | xd fs => obtain ⟨_, ⟨_, _, _, e, _⟩, _⟩ := x; exact Heap.lt_size e
  | rng lo hi => obtain ⟨_, _, _, e⟩ := x; exact Heap.lt_size e
  | frz ob u => obtain ⟨e, _⟩ := x; exact Heap.lt_size e
  | tbl ps => exact Heap.lt_size (show h.get? a = some _ from x)
  | met f y => exact Heap.lt_size (show h.get? a = some _ from x)
  | ext φ => obtain ⟨_, ⟨_, e⟩, _⟩ := x; exact Heap.lt_size e
theorem Paired.mapP {α β : Type} {F G : α → β → Prop} : ∀ {l₁ : List α} {l₂ : List β}, Paired F l₁ l₂ → (∀ a b, F a b → G a b) → Paired G l₁ l₂
  | _, _, .nil, _ => .nil
  | _, _, .cons r t, f => .cons (f _ _ r) (Paired.mapP t f)
theorem ObjOk.stay (x : ObjOk P w H h a o) (k : ∀ b u, (b = a ∨ H b = some (.own a)) → h.get? b = some u → h'.get? b = some u)
    (ho : ∀ b, H b = some (.own a) → H' b = some (.own a)) (ht : ∀ b xs, H b = some (.tup xs) → H' b = some (.tup xs)) : ObjOk P w H' h' a o := by
  induction o with
  | lst xs => obtain ⟨z, its, n, r, e⟩ := x; exact ⟨z, its, n, r, k _ _ (.inl rfl) e⟩
  | tup xs => obtain ⟨z, its, r, ob, e, c⟩ := x; exact ⟨z, its, r, ob, k _ _ (.inl rfl) e, c⟩
  | dK kvs => obtain ⟨z, y, vs, r, ob, es, ep, e, c⟩ := x; exact ⟨z, y, vs, r, ob, es, ep, k _ _ (.inl rfl) e, c⟩
  | dT kvs =>
    obtain ⟨z, y, xs, r, ob, es, ep, e, c⟩ := x
    exact ⟨z, y, xs, Paired.mapP r fun p q z => ⟨z.1, ht _ _ z.2.1, z.2.2⟩, ob, es, ep, k _ _ (.inl rfl) e, c⟩
  | set S n => obtain ⟨ob, es, ep, t, e, c⟩ := x; exact ⟨ob, es, ep, t, k _ _ (.inl rfl) e, c⟩
  | ins C dx fs =>
    obtain ⟨d, z, ne, e, mA, ⟨od, es, ep, e2, c⟩, r⟩ := x
    exact ⟨ho _ d, z, ne, k _ _ (.inl rfl) e, mA, ⟨od, es, ep, k _ _ (.inr d) e2, c⟩, r⟩
  | own y => obtain ⟨ob, e⟩ := x; exact ⟨ob, k _ _ (.inl rfl) e⟩
  | xd fs => obtain ⟨mA, ⟨od, es, ep, e, c⟩, r⟩ := x; exact ⟨mA, ⟨od, es, ep, k _ _ (.inl rfl) e, c⟩, r⟩
  | rng lo hi => obtain ⟨t, u, v, e⟩ := x; exact ⟨t, u, v, k _ _ (.inl rfl) e⟩
  | frz ob u ih => obtain ⟨e, q⟩ := x; exact ⟨k _ _ (.inl rfl) e, ih q⟩
  | tbl ps =>
    have e : h.get? a = some { cls := .none, data := .fields ps } := x
    show h'.get? a = some { cls := .none, data := .fields ps }
    exact k a _ (.inl rfl) e
  | met f y =>
    have e : h.get? a = some (PySem.W.methodObj (.ref f) (.ref y)) := x
    show h'.get? a = some (PySem.W.methodObj (.ref f) (.ref y))
    exact k a _ (.inl rfl) e
  | ext φ => obtain ⟨p, ⟨o, e⟩, st⟩ := x; exact ⟨st _ _ p fun o q => k _ _ (.inl rfl) q, ⟨o, k _ _ (.inl rfl) e⟩, st⟩
theorem HOk.lt (x : HOk P w H h) (e : H a = some o) : a < h.objs.size := (x a o e).lt
theorem HOk.fresh (x : HOk P w H h) (e : h.objs.size ≤ a) : H a = none := by
  cases q : H a with
  | none => rfl
  | some u => exact absurd (Nat.lt_of_lt_of_le (x.lt q) e) (Nat.lt_irrefl _)
theorem HOk.kept (x : HOk P w H h) (k : ∀ b u, h.get? b = some u → h'.get? b = some u) : HOk P w H h' := fun a o e =>
  (x a o e).stay (fun b u _ q => k b u q) (fun _ q => q) fun _ _ q => q
theorem HOk.laid (x : HOk P w H h) (k : ∀ b u, h.get? b = some u → h'.get? b = some u) (hp : h.objs.size ≤ a) (new : ObjOk P w (upd H a o) h' a o) : HOk P w (upd H a o) h' := fun b u e => by
  have hn := x.fresh hp
  by_cases hb : b = a
  · subst hb; rw [upd_same] at e; cases e; exact new
  · rw [upd_ne hb] at e
    exact (x b u e).stay (fun c v _ q => k c v q) (fun c q => by rw [upd_ne (ne_of_none q hn)]; exact q) fun c xs q => by rw [upd_ne (ne_of_none q hn)]; exact q
end
def Rd (H : Hp) (a : Addr) (u : HO) : Prop := H a = some u ∨ ∃ o, H a = some (.frz o u)
theorem Rd.ok {P : Program} {w : World} {H : Hp} {h : Heap} {a : Addr} {u : HO} (r : Rd H a u) (x : HOk P w H h) : ObjOk P w H h a u := by
  rcases r with r | ⟨o, r⟩
  · exact x a u r
  · obtain ⟨_, q⟩ := x a _ r
    exact q
def Mut : Option HO → Prop
  | some (.lst _) => True
  | some (.dK _) => True
  | some (.dT _) => True
  | some (.set _ _) => True
  | some (.ins _ _ _) => True
  | some (.ext _) => True
  | _ => False
section
variable {P : Program} {w : World} {H : Hp} {h h' : Heap} {x e : Addr} {o' : HO}
theorem HOk.write (ok : HOk P w H h) (mu : Mut (H x)) (he : e = x ∨ H e = some (.own x)) (k : ∀ b u, b ≠ e → h.get? b = some u → h'.get? b = some u) (heo : ∃ u, h'.get? e = some u)
    (new : ObjOk P w (upd H x o') h' x o') : HOk P w (upd H x o') h' := fun b u q => by
  have nown : ∀ c y, H c = some (.own y) → c ≠ x := fun c y r z => by subst z; rw [r] at mu; exact mu
  have ntup : ∀ c xs, H c = some (.tup xs) → c ≠ x := fun c xs r z => by subst z; rw [r] at mu; exact mu
  by_cases hb : b = x
  · subst hb; rw [upd_same] at q; cases q; exact new
  · rw [upd_ne hb] at q
    by_cases hbe : b = e
    · have q' : H b = some (.own x) := by
        rcases he with z | z
        · exact absurd (hbe.trans z) hb
        · rw [hbe]; exact z
      rw [q] at q'; cases q'
      obtain ⟨v, hv⟩ := heo
      exact ⟨v, by rw [hbe]; exact hv⟩
    · refine (ok b u q).stay (fun c v hc r => k c v ?_ r) (fun c r => by rw [upd_ne (nown c b r)]; exact r) fun c xs r => by rw [upd_ne (ntup c xs r)]; exact r
      rcases hc with rfl | hc
      · exact hbe
      · rintro rfl
        rcases he with z | z
        · exact nown c b hc z
        · rw [hc] at z; cases z; exact hb rfl
end
structure Un (fs ex : List Addr) (H H' : Hp) (h h' : Heap) : Prop where
  keep : ∀ b o, h.get? b = some o → H b = none → b ∉ fs → b ∉ ex → h'.get? b = some o
  slot : ∀ b o, h.get? b = some o → H b = none → b ∈ fs → b ∉ ex → ∃ sl, h'.get? b = some { o with slots := sl }
  free : ∀ b o, h.get? b = some o → H b = none → b ∉ ex → H' b = none
  there : ∀ b o, h.get? b = some o → b ∉ ex → ∃ o', h'.get? b = some o'
  tups : ∀ b xs, H b = some (.tup xs) → H' b = some (.tup xs)
  frzs : ∀ b o u, H b = some (.frz o u) → H' b = some (.frz o u)
  tbls : ∀ b ps, H b = some (.tbl ps) → ∃ more, H' b = some (.tbl (ps ++ more))
section
variable {fs fs' ex ex' : List Addr} {H H1 H2 : Hp} {h h1 h2 h' : Heap} {a x e : Addr} {o : HO}
theorem Un.any (u : Un fs ex H H1 h h1) {b : Addr} {ob : Obj} (q : h.get? b = some ob) (n : H b = none) (hx : b ∉ ex) : ∃ sl, h1.get? b = some { ob with slots := sl } := by
  by_cases hb : b ∈ fs
  · exact u.slot b ob q n hb hx
  · exact ⟨ob.slots, u.keep b ob q n hb hx⟩
theorem Un.kept (k : ∀ b u, h.get? b = some u → h'.get? b = some u) : Un fs ex H H h h' :=
  ⟨fun b ob q _ _ _ => k b ob q, fun b ob q _ _ _ => ⟨ob.slots, k b ob q⟩, fun _ _ _ n _ => n, fun b ob q _ => ⟨ob, k b ob q⟩, fun _ _ q => q, fun _ _ _ q => q, fun _ ps q => ⟨#[], by rw [q]; simp⟩⟩
theorem Un.refl : Un fs ex H H h h := Un.kept fun _ _ q => q
theorem Un.laid (k : ∀ b u, h.get? b = some u → h'.get? b = some u) (hp : h.objs.size ≤ a) (hn : H a = none) : Un fs ex H (upd H a o) h h' where
  keep := fun b u q _ _ _ => k b u q
  slot := fun b u q _ _ _ => ⟨u.slots, k b u q⟩
  free := fun b u q n _ => by rw [upd_ne (Nat.ne_of_lt (Nat.lt_of_lt_of_le (Heap.lt_size q) hp))]; exact n
  there := fun b u q _ => ⟨u, k b u q⟩
  tups := fun b xs q => by rw [upd_ne (ne_of_none q hn)]; exact q
  frzs := fun b u xs q => by rw [upd_ne (ne_of_none q hn)]; exact q
  tbls := fun b ps q => ⟨#[], by rw [upd_ne (ne_of_none q hn), q]; simp⟩
theorem Un.write (mu : Mut (H x)) (he : e = x ∨ H e = some (.own x)) (k : ∀ b u, b ≠ e → h.get? b = some u → h'.get? b = some u) (heo : ∃ u, h'.get? e = some u) : Un fs ex H (upd H x o) h h' := by
  have hx : ∀ b, H b = none → b ≠ x := fun b n z => by subst z; rw [n] at mu; exact mu
  have hb : ∀ b, H b = none → b ≠ e := fun b n z => by
    subst z
    rcases he with r | r
    · exact hx b n r
    · rw [n] at r; cases r
  have hm : ∀ b u, H b = some u → ¬ Mut (some u) → b ≠ x := fun b u q nm z => by subst z; rw [q] at mu; exact nm mu
  refine ⟨fun b u q n _ _ => k b u (hb b n) q, fun b u q n _ _ => ⟨u.slots, k b u (hb b n) q⟩, fun b u q n _ => by rw [upd_ne (hx b n)]; exact n, fun b u q _ => ?_,
    fun b xs q => by rw [upd_ne (hm b _ q fun z => z)]; exact q, fun b u xs q => by rw [upd_ne (hm b _ q fun z => z)]; exact q, fun b ps q => ⟨#[], by rw [upd_ne (hm b _ q fun z => z), q]; simp⟩⟩
  by_cases hbe : b = e
  · subst hbe; exact heo
  · exact ⟨u, k b u hbe q⟩
end
def trk (h : Heap) (H : Hp) : List Addr := (List.range h.objs.size).filter fun a => (H a).isSome
def hidT (h : Heap) (H : Hp) : Heap := PySem.W.hideAll h (trk h H)
theorem hidT_size (h : Heap) (H : Hp) : (hidT h H).objs.size = h.objs.size := PySem.W.hideAll_size _ _
theorem hidT_get {h : Heap} {H : Hp} {b : Addr} {o : Obj} (e : h.get? b = some o) (n : H b = none) : (hidT h H).get? b = some o :=
  PySem.W.hideAll_get _ e fun hm => by
    have q : (H b).isSome = true := (List.mem_filter.mp hm).2
    rw [n] at q; simp at q
theorem of_hidT {h : Heap} {H : Hp} {b : Addr} {o : Obj} (e : (hidT h H).get? b = some o) : h.get? b = some o ∧ H b = none := by
  have e' : h.get? b = some o := PySem.W.of_hideAll (trk h H) e
  refine ⟨e', ?_⟩
  cases q : H b with
  | none => rfl
  | some x =>
    have hm : b ∈ trk h H := List.mem_filter.mpr ⟨List.mem_range.mpr (Heap.lt_size e'), by simp [q]⟩
    have z : (hidT h H).get? b = none := PySem.W.hideAll_none (trk h H) hm
    rw [z] at e; cases e
def allNews (g h : Heap) (L : Addr) : List (Addr × Obj) := (List.range h.objs.size).filterMap fun a => if a = L ∨ (g.get? a).isSome = true then none else (h.get? a).map fun o => (a, o)
def rest (g h : Heap) (L d : Addr) : List (Addr × Obj) := (allNews g h L).filter fun p => decide (p.1 ≠ d)
end L2
namespace L2
open PySem PySem.Spec PyProof.Rows
structure Mod (K : PySem.W.Frag) (mg : Str → Option Value) (base : Heap) : Prop where
  kin : K.In base
  glob : base.Ns mainGlobals mg
  blt : ∃ mb, base.Ns builtinsNs mb ∧ ∀ x : Str, x ≠ "__name__" → mb x = bootBuiltins x
  nolimit : base.NoLimit
structure Cx where
  prog : Program
  w : World
  K : PySem.W.Frag
  mg : Str → Option Value
  base : Heap
  A : Around
  N : List Str
  s₀ : Shared
  H₀ : Hp
  env : Env
  outer : List Env
  stack : List Env
  ex : List Addr
  fn : Str → Bool
  calm : Bool
  pn : List (Addr × Obj)
  xe : Value → Shared → Prop
def frs (l : List Env) : List Addr := l.filterMap (·.frame)
abbrev Cx.fs (X : Cx) : List Addr := frs X.outer
def Vis (sc : Scope) (x : Str) : Prop := sc.names.lookup x = some .local ∨ sc.names.lookup x = some .cell ∨ sc.names.lookup x = some .free
def Loc (sc : Scope) (x : Str) : Prop := sc.names.lookup x = some .local ∨ sc.names.lookup x = some .cell
def Look (env : Env) (h : Heap) (m : Str → Option Value) (x : Str) (u : Value) : Prop :=
  (env.kindOf x = some .local ∧ m x = some u) ∨ ((env.kindOf x = some .cell ∨ env.kindOf x = some .free) ∧ ∃ c, env.cells.lookup x = some c ∧ h.IsCell c (some u))
structure Cx.Ok (X : Cx) : Prop where
  mod : Mod X.K X.mg X.base
  kind : X.env.scope.kind = .function
  glob : X.env.globals = mainGlobals
  blt : X.env.builtins = builtinsNs
  above : X.s₀.heap.objs.size ≤ X.env.locals
  inj : ∀ x y c, X.env.cells.lookup x = some c → X.env.cells.lookup y = some c → x = y
  has : ∀ x, (X.env.kindOf x = some .cell ∨ X.env.kindOf x = some .free) → ∃ c, X.env.cells.lookup x = some c
  cab : ∀ x c, X.fn x = true → X.env.cells.lookup x = some c → X.s₀.heap.objs.size ≤ c
  hd : X.calm = true → X.A.handled = none
  frames : X.A.frames = some X.stack
  stk : X.stack = X.outer ∨ (X.stack = X.env :: X.outer ∧ X.env.frame = some X.env.locals)
  exf : ∀ b ∈ X.ex, b ≠ X.env.locals ∧ ∀ x c, X.env.cells.lookup x = some c → c ≠ b
  bs : ∀ b o, X.base.get? b = some o → X.s₀.heap.get? b = some o ∧ X.H₀ b = none
  bsz : X.base.objs.size ≤ X.s₀.heap.objs.size
  noex : ∀ b o, X.base.get? b = some o → b ∉ X.ex
  exfs : ∀ b ∈ X.ex, b ∉ X.fs
  funs : X.s₀.heap.FunFrames X.base X.outer
  frf : ∀ b ∈ X.fs, X.H₀ b = none
structure Inv (X : Cx) (pins : List (Addr × Obj)) (σ : List (Option V)) (H : Hp) (s : Shared) : Prop where
  ok : X.Ok
  os : s.os = X.s₀.os
  bare : AllBare s.gens
  base : Un X.fs X.ex X.H₀ H X.s₀.heap s.heap
  loc : ∃ m, s.heap.Ns X.env.locals m ∧ ∀ (i : Nat) (x : Str) (v : V), X.N[i]? = some x → σ[i]? = some (some v) → Vis X.env.scope x → ∃ u, RelV v u ∧ Look X.env s.heap m x u
  cell : ∀ x c, X.env.cells.lookup x = some c → ∃ v, s.heap.IsCell c v
  free : H X.env.locals = none
  freeC : ∀ x c, X.env.cells.lookup x = some c → H c = none
  pin : ∀ p ∈ X.pn ++ pins, s.heap.get? p.1 = some p.2 ∧ H p.1 = none ∧ p.1 ≠ X.env.locals ∧ p.1 ∉ X.fs ∧ ∀ v, p.2.data ≠ .cell v
  hok : HOk X.prog X.w H s.heap
  len : σ.length = X.N.length
section
variable {X : Cx} {pins : List (Addr × Obj)} {σ : List (Option V)} {H H' : Hp} {s : Shared} {h' : Heap}
theorem Cx.Ok.nofr (ok : X.Ok) {b : Addr} {o : Obj} (e : X.base.get? b = some o) : b ∉ X.fs := fun hb => by
  have := (ok.funs.mem hb).1
  rw [e] at this; cases this
theorem Inv.bs (I : Inv X pins σ H s) : ∀ b o, X.base.get? b = some o → s.heap.get? b = some o ∧ H b = none := fun b o e =>
  ⟨I.base.keep b o (I.ok.bs b o e).1 (I.ok.bs b o e).2 (I.ok.nofr e) (I.ok.noex b o e), I.base.free b o (I.ok.bs b o e).1 (I.ok.bs b o e).2 (I.ok.noex b o e)⟩
theorem Inv.bk (I : Inv X pins σ H s) : ∀ b o, X.base.get? b = some o → s.heap.get? b = some o := fun b o e => (I.bs b o e).1
theorem Inv.mod (I : Inv X pins σ H s) : Mod X.K X.mg X.base := I.ok.mod
theorem Inv.kIn (I : Inv X pins σ H s) : X.K.In s.heap := I.ok.mod.kin.keeps I.bk
theorem Inv.fr (I : Inv X pins σ H s) : ∃ m, Fr X.base X.env.locals s.heap m :=
  let ⟨m, hn, _⟩ := I.loc
  ⟨m, hn, I.bk, Nat.le_trans I.ok.bsz I.ok.above⟩
theorem Inv.lt (I : Inv X pins σ H s) : X.env.locals < s.heap.objs.size := let ⟨_, hn, _⟩ := I.loc; hn.lt
theorem Inv.sz (I : Inv X pins σ H s) : X.s₀.heap.objs.size ≤ s.heap.objs.size := Nat.le_trans I.ok.above (Nat.le_of_lt I.lt)
theorem Inv.nofs (I : Inv X pins σ H s) {a : Addr} (h : s.heap.objs.size ≤ a) : a ∉ X.fs := fun hb => by
  obtain ⟨_, o, ho, _⟩ := I.ok.funs.mem hb
  exact absurd (Nat.lt_of_lt_of_le (Heap.lt_size ho) (Nat.le_trans I.sz h)) (Nat.lt_irrefl _)
theorem Inv.cne (I : Inv X pins σ H s) : ∀ x c, X.env.cells.lookup x = some c → c ≠ X.env.locals := fun x c e z => by
  obtain ⟨v, o, ho, hd⟩ := I.cell x c e
  obtain ⟨m, ⟨o', es, ep, ho', hd', _⟩, _⟩ := I.loc
  rw [z, ho'] at ho; cases ho; rw [hd'] at hd; cases hd
theorem Inv.funs (I : Inv X pins σ H s) : s.heap.FunFrames X.base X.outer := by
  have all : ∀ (l : List Env), (∀ b ∈ frs l, b ∈ X.fs) → X.s₀.heap.FunFrames X.base l → s.heap.FunFrames X.base l := by
    intro l
    induction l with
    | nil => intro _ _; trivial
    | cons env r ih =>
      intro hs hl
      obtain ⟨hk, ⟨L, o, hf, hn, ho, hd⟩, hr⟩ := hl
      have hL : L ∈ X.fs := hs L (by unfold frs; rw [List.filterMap_cons, hf]; exact List.mem_cons_self)
      obtain ⟨sl, e⟩ := I.base.slot L o ho (I.ok.frf L hL) hL fun z => I.ok.exfs L z hL
      exact ⟨hk, ⟨L, _, hf, hn, e, hd⟩, ih (fun b hb => hs b (by unfold frs; rw [List.filterMap_cons, hf]; exact List.mem_cons_of_mem _ hb)) hr⟩
  exact all X.outer (fun _ hb => hb) I.ok.funs
theorem Inv.stack (I : Inv X pins σ H s) : s.heap.FunFrames X.base X.stack := by
  rcases I.ok.stk with e | ⟨e, hf⟩
  · rw [e]; exact I.funs
  · rw [e]
    obtain ⟨m, hn, _⟩ := I.loc
    refine .cons (by rw [I.ok.kind]; decide) hf hn ?_ I.funs
    exact Heap.get?_none_of_le (Nat.le_trans I.ok.bsz I.ok.above)
theorem Inv.stkSub (I : Inv X pins σ H s) : ∀ b ∈ frs X.stack, b ∈ X.env.locals :: X.fs := fun b hb => by
  rcases I.ok.stk with e | ⟨e, hf⟩
  · rw [e] at hb; exact List.mem_cons_of_mem _ hb
  · rw [e] at hb
    unfold frs at hb
    rw [List.filterMap_cons, hf] at hb
    exact hb
theorem Inv.stkFree (I : Inv X pins σ H s) : ∀ b ∈ frs X.stack, H b = none := fun b hb => by
  rcases List.mem_cons.mp (I.stkSub b hb) with e | hb
  · rw [e]; exact I.free
  · obtain ⟨_, o, ho, _⟩ := I.ok.funs.mem hb
    exact I.base.free b o ho (I.ok.frf b hb) fun z => I.ok.exfs b z hb
theorem Inv.step {g' : Array GenState} {t' : Nat} {d' : Drawn} {ch : List Addr} (I : Inv X pins σ H s)
    (hch : ∀ b ∈ ch, (b ∈ X.ex ∨ X.s₀.heap.objs.size ≤ b) ∧ b ≠ X.env.locals ∧ (∀ x c, X.env.cells.lookup x = some c → c ≠ b) ∧ ∀ p ∈ X.pn ++ pins, p.1 ≠ b)
    (keep : ∀ b o, b ≠ X.env.locals → b ∉ X.fs → b ∉ ch → s.heap.get? b = some o → H b = none → h'.get? b = some o)
    (slot : ∀ b o, b ≠ X.env.locals → b ∈ X.fs → b ∉ ch → s.heap.get? b = some o → H b = none → ∃ sl, h'.get? b = some { o with slots := sl }) (free : ∀ b o, b ∉ ch → s.heap.get? b = some o → H b = none → H' b = none)
    (there : ∀ b o, b ∉ ch → s.heap.get? b = some o → ∃ o', h'.get? b = some o')
    (tups : ∀ b xs, H b = some (.tup xs) → H' b = some (.tup xs)) (frzs : ∀ b o u, H b = some (.frz o u) → H' b = some (.frz o u)) (tbls : ∀ b ps, H b = some (.tbl ps) → ∃ more, H' b = some (.tbl (ps ++ more)))
    (ns : ∀ m, s.heap.Ns X.env.locals m → h'.Ns X.env.locals m) (hok : HOk X.prog X.w H' h') (hg : AllBare g') :
    Inv X pins σ H' { s with heap := h', gens := g', drawn := d', toks := t' } := by
  have neL : ∀ b o, X.s₀.heap.get? b = some o → b ≠ X.env.locals := fun b o e => Nat.ne_of_lt (Nat.lt_of_lt_of_le (Heap.lt_size e) I.ok.above)
  have neC : ∀ b o, X.s₀.heap.get? b = some o → b ∉ X.ex → b ∉ ch := fun b o e hx hb => by
    rcases (hch b hb).1 with z | z
    · exact hx z
    · exact absurd (Nat.lt_of_lt_of_le (Heap.lt_size e) z) (Nat.lt_irrefl _)
  have cellK : ∀ x c, X.env.cells.lookup x = some c → ∀ v, s.heap.IsCell c v → h'.IsCell c v := fun x c e v ⟨o, ho, hd⟩ => by
    have nch : c ∉ ch := fun z => (hch c z).2.2.1 x c e rfl
    by_cases hc : c ∈ X.fs
    · obtain ⟨sl, q⟩ := slot c o (I.cne x c e) hc nch ho (I.freeC x c e)
      exact ⟨_, q, hd⟩
    · exact ⟨o, keep c o (I.cne x c e) hc nch ho (I.freeC x c e), hd⟩
  refine ⟨I.ok, I.os, hg, ⟨fun b o e n hb hx => ?_, fun b o e n hb hx => ?_, fun b o e n hx => ?_, fun b o e hx => ?_, fun b xs e => tups b xs (I.base.tups b xs e), fun b o xs e => frzs b o xs (I.base.frzs b o xs e), fun b ps e => ?_⟩, ?_, fun x c e => ?_, ?_, fun x c e => ?_, fun p hp => ?_, hok, I.len⟩
  · exact keep b o (neL b o e) hb (neC b o e hx) (I.base.keep b o e n hb hx) (I.base.free b o e n hx)
  · obtain ⟨sl, e1⟩ := I.base.slot b o e n hb hx
    obtain ⟨sl', e2⟩ := slot b _ (neL b o e) hb (neC b o e hx) e1 (I.base.free b o e n hx)
    exact ⟨sl', e2⟩
  · obtain ⟨o', e1⟩ := I.base.there b o e hx
    exact free b o' (neC b o e hx) e1 (I.base.free b o e n hx)
  · obtain ⟨o', e1⟩ := I.base.there b o e hx
    exact there b o' (neC b o e hx) e1
  · obtain ⟨m1, e1⟩ := I.base.tbls b ps e
    obtain ⟨m2, e2⟩ := tbls b _ e1
    exact ⟨m1 ++ m2, by rw [e2, Array.append_assoc]⟩
  · obtain ⟨m, hn, hl⟩ := I.loc
    refine ⟨m, ns m hn, fun i x v e1 e2 e3 => ?_⟩
    obtain ⟨u, r, l⟩ := hl i x v e1 e2 e3
    refine ⟨u, r, ?_⟩
    rcases l with l | ⟨k, c, e, z⟩
    · exact .inl l
    · exact .inr ⟨k, c, e, cellK x c e _ z⟩
  · obtain ⟨v, z⟩ := I.cell x c e
    exact ⟨v, cellK x c e v z⟩
  · obtain ⟨m, ⟨o, _, _, ho, _⟩, _⟩ := I.loc
    exact free _ o (fun z => (hch _ z).2.1 rfl) ho I.free
  · obtain ⟨v, o, ho, hd⟩ := I.cell x c e
    exact free c o (fun z => (hch c z).2.2.1 x c e rfl) ho (I.freeC x c e)
  · obtain ⟨e, n, ne, nf, d⟩ := I.pin p hp
    have nch : p.1 ∉ ch := fun z => (hch p.1 z).2.2.2 p hp rfl
    exact ⟨keep p.1 p.2 ne nf nch e n, free p.1 p.2 nch e n, ne, nf, d⟩
theorem Inv.un {t' : Nat} (I : Inv X pins σ H s) (u : Un X.fs [] H H' s.heap h') (hok : HOk X.prog X.w H' h') : Inv X pins σ H' { s with heap := h', toks := t' } := by
  obtain ⟨m, ⟨o, es, ep, ho, r⟩, _⟩ := id I.loc
  obtain ⟨sl, hL⟩ := u.any ho I.free (by simp)
  exact I.step (g' := s.gens) (d' := s.drawn) (ch := []) (fun _ z => nomatch z) (fun b o _ hb _ e n => u.keep b o e n hb (by simp)) (fun b o _ hb _ e n => u.slot b o e n hb (by simp)) (fun b o _ e n => u.free b o e n (by simp)) (fun b o _ e => u.there b o e (by simp)) u.tups u.frzs u.tbls (fun m' hm => by
    obtain ⟨o', es', ep', ho', r'⟩ := hm
    rw [ho] at ho'; cases ho'
    exact ⟨_, es', ep', hL, r'⟩) hok I.bare
theorem Inv.call {g' : Array GenState} {t' : Nat} {d' : Drawn} {ch : List Addr} (I : Inv X pins σ H s) (u : Un (frs X.stack) ch H H' s.heap h') (hok : HOk X.prog X.w H' h') (hg : AllBare g')
    (hch : ∀ b ∈ ch, (b ∈ X.ex ∨ X.s₀.heap.objs.size ≤ b) ∧ b ≠ X.env.locals ∧ (∀ x c, X.env.cells.lookup x = some c → c ≠ b) ∧ ∀ p ∈ X.pn ++ pins, p.1 ≠ b) :
    Inv X pins σ H' { s with heap := h', gens := g', drawn := d', toks := t' } := by
  obtain ⟨m, ⟨o, es, ep, ho, r⟩, _⟩ := id I.loc
  obtain ⟨sl, hL⟩ := u.any ho I.free fun z => (hch _ z).2.1 rfl
  exact I.step (ch := ch) hch (fun b o hL hb hc e n => u.keep b o e n (fun z => (List.mem_cons.mp (I.stkSub b z)).elim hL hb) hc) (fun b o _ _ hc e n => u.any e n hc) (fun b o hc e n => u.free b o e n hc) (fun b o hc e => u.there b o e hc) u.tups u.frzs u.tbls (fun m' hm => by
    obtain ⟨o', es', ep', ho', r'⟩ := hm
    rw [ho] at ho'; cases ho'
    exact ⟨_, es', ep', hL, r'⟩) hok hg
theorem Inv.turned {t' : Nat} {it : Addr} (I : Inv X pins σ H s) (k : ∀ b o, b ≠ it → s.heap.get? b = some o → h'.get? b = some o) (hn : H it = none) (hL : it ≠ X.env.locals)
    (h1 : it ∈ X.ex ∨ X.s₀.heap.objs.size ≤ it) (h2 : ∀ x c, X.env.cells.lookup x = some c → c ≠ it) (h3 : ∀ p ∈ X.pn ++ pins, p.1 ≠ it) : Inv X pins σ H { s with heap := h', toks := t' } := by
  have nit : ∀ b u, H b = some u → b ≠ it := fun b u e z => by rw [z, hn] at e; cases e
  refine I.step (g' := s.gens) (d' := s.drawn) (ch := [it]) (fun b hb => ?_) (fun b o _ _ hc e _ => k b o (fun z => hc (by simp [z])) e) (fun b o _ _ hc e _ => ⟨o.slots, k b o (fun z => hc (by simp [z])) e⟩) (fun _ _ _ _ n => n)
    (fun b o hc e => ⟨o, k b o (fun z => hc (by simp [z])) e⟩) (fun _ _ e => e) (fun _ _ _ e => e) (fun b ps e => ⟨#[], by rw [e]; simp⟩) (fun m hm => ?_) (fun b u e => ?_) I.bare
  · have e : b = it := by simpa using hb
    subst e
    exact ⟨h1, hL, h2, h3⟩
  · obtain ⟨o, es, ep, ho, r⟩ := hm
    exact ⟨o, es, ep, k _ o (Ne.symm hL) ho, r⟩
  · refine (I.hok b u e).stay (fun c v hc q => k c v ?_ q) (fun _ q => q) fun _ _ q => q
    rcases hc with z | z
    · rw [z]; exact nit b u e
    · exact nit c _ z
theorem Inv.tok (I : Inv X pins σ H s) (t : Nat) : Inv X pins σ H { s with toks := t } := I.un (h' := s.heap) (t' := t) Un.refl I.hok
theorem Inv.kept {t' : Nat} (I : Inv X pins σ H s) (k : ∀ b u, s.heap.get? b = some u → h'.get? b = some u) : Inv X pins σ H { s with heap := h', toks := t' } := I.un (Un.kept k) (I.hok.kept k)
theorem Inv.laid {a : Addr} {o : HO} {t' : Nat} (I : Inv X pins σ H s) (k : ∀ b u, s.heap.get? b = some u → h'.get? b = some u) (hp : s.heap.objs.size ≤ a) (new : ObjOk X.prog X.w (upd H a o) h' a o) :
    Inv X pins σ (upd H a o) { s with heap := h', toks := t' } := I.un (Un.laid k hp (I.hok.fresh hp)) (I.hok.laid k hp new)
theorem Inv.write {x e : Addr} {o : HO} {t' : Nat} (I : Inv X pins σ H s) (mu : Mut (H x)) (he : e = x ∨ H e = some (.own x)) (k : ∀ b u, b ≠ e → s.heap.get? b = some u → h'.get? b = some u) (heo : ∃ u, h'.get? e = some u)
    (new : ObjOk X.prog X.w (upd H x o) h' x o) : Inv X pins σ (upd H x o) { s with heap := h', toks := t' } := I.un (Un.write mu he k heo) (I.hok.write mu he k heo new)
theorem Inv.weak {σ' : List (Option V)} (I : Inv X pins σ H s) (hl : σ'.length = σ.length) (w : ∀ (i : Nat) v, σ'[i]? = some (some v) → σ[i]? = some (some v)) : Inv X pins σ' H s :=
  ⟨I.ok, I.os, I.bare, I.base, let ⟨m, hn, hl'⟩ := I.loc; ⟨m, hn, fun i x v e1 e2 e3 => hl' i x v e1 (w i v e2) e3⟩, I.cell, I.free, I.freeC, I.pin, I.hok, hl.trans I.len⟩
theorem Inv.pins_of {pins' : List (Addr × Obj)} (I : Inv X pins σ H s) (h : ∀ p ∈ pins', s.heap.get? p.1 = some p.2 ∧ H p.1 = none ∧ p.1 ≠ X.env.locals ∧ p.1 ∉ X.fs ∧ ∀ v, p.2.data ≠ .cell v) : Inv X pins' σ H s :=
  ⟨I.ok, I.os, I.bare, I.base, I.loc, I.cell, I.free, I.freeC, fun p hp => (List.mem_append.mp hp).elim (fun z => I.pin p (List.mem_append_left _ z)) (h p), I.hok, I.len⟩
theorem nodup_ix {N : List Str} (hN : N.Nodup) {i j : Nat} {x : Str} (a : N[i]? = some x) (b : N[j]? = some x) : i = j := by
  obtain ⟨h1, e1⟩ := List.getElem?_eq_some_iff.mp a
  obtain ⟨h2, e2⟩ := List.getElem?_eq_some_iff.mp b
  exact (List.getElem_inj hN).mp (e1.trans e2.symm)
theorem store_ok2 {M : Model} {A : Around} {E : Value → Shared → Prop} {i : Nat} {x : Str} {v : V} {u : Value} {Q : Unit → Shared → Prop} (I : Inv X pins σ H s) (hN : X.N.Nodup) (hi : X.N[i]? = some x) (hx : Loc X.env.scope x) (r : RelV v u)
    (h : ∀ s', Inv X pins (σ.set i (some v)) H s' → (∃ a, Heap.SameBut a s.heap s'.heap ∧ (a = X.env.locals ∨ X.env.cells.lookup x = some a)) → Q () s') (hf : X.fn x = true ∨ X.env.scope.names.lookup x = some .local := by first | exact .inl rfl | exact .inr rfl | assumption) : wpAny M A (storeName X.env x u) Q E s := by
  obtain ⟨m, hn, hl⟩ := id I.loc
  have hcls : (X.env.scope.kind == .class || (X.env.scope.kind == .module && X.env.locals != X.env.globals)) = false := by rw [I.ok.kind]; rfl
  have hiσ : i < σ.length := by rw [I.len]; exact (List.getElem?_eq_some_iff.mp hi).1
  have cne := I.cne
  have tracked : ∀ {a : Addr} {h' : Heap}, (∃ o, s.heap.get? a = some o ∧ H a = none) → Heap.SameBut a s.heap h' → HOk X.prog X.w H h' := fun {a h'} ha hs b ob e => by
    obtain ⟨_, _, hfree⟩ := ha
    refine (I.hok b ob e).stay (fun c w' hc q => (hs.2 c ?_).trans q) (fun _ q => q) fun _ _ q => q
    rintro rfl
    rcases hc with rfl | hc
    · rw [hfree] at e; cases e
    · rw [hfree] at hc; cases hc
  rcases hx with hk | hk
  · refine wpAny_storeName_local hk hn (fun h' hn' hs => ?_) hcls
    obtain ⟨oL, _, _, hoL, _⟩ := id hn
    refine h _ ⟨I.ok, I.os, I.bare, ⟨fun b o e n hb hx => ?_, fun b o e n hb hx => ?_, I.base.free, fun b o e hx => ?_, I.base.tups, I.base.frzs, I.base.tbls⟩, ⟨_, hn', fun j y v' e1 e2 e3 => ?_⟩, fun y c e => ?_, I.free, I.freeC, fun p hp => ?_, tracked ⟨oL, hoL, I.free⟩ hs, by simpa using I.len⟩ ⟨_, hs, .inl rfl⟩
    · exact (hs.2 b (Nat.ne_of_lt (Nat.lt_of_lt_of_le (Heap.lt_size e) I.ok.above))).trans (I.base.keep b o e n hb hx)
    · obtain ⟨sl, e1⟩ := I.base.slot b o e n hb hx
      exact ⟨sl, (hs.2 b (Nat.ne_of_lt (Nat.lt_of_lt_of_le (Heap.lt_size e) I.ok.above))).trans e1⟩
    · obtain ⟨o', e1⟩ := I.base.there b o e hx
      exact ⟨o', (hs.2 b (Nat.ne_of_lt (Nat.lt_of_lt_of_le (Heap.lt_size e) I.ok.above))).trans e1⟩
    · by_cases hj : j = i
      · subst hj
        rw [hi] at e1; cases e1
        rw [List.getElem?_set_self hiσ] at e2
        cases e2
        exact ⟨u, r, .inl ⟨hk, by simp⟩⟩
      · rw [List.getElem?_set_ne (Ne.symm hj)] at e2
        obtain ⟨u', r', q⟩ := hl j y v' e1 e2 e3
        refine ⟨u', r', ?_⟩
        rcases q with ⟨k, e⟩ | ⟨k, c, e, z⟩
        · refine .inl ⟨k, ?_⟩
          have : y ≠ x := fun e => hj (nodup_ix hN e1 (e ▸ hi))
          simp [this, e]
        · exact .inr ⟨k, c, e, z.sameBut hs (cne y c e)⟩
    · obtain ⟨w', z⟩ := I.cell y c e
      exact ⟨w', z.sameBut hs (cne y c e)⟩
    · obtain ⟨e, n, ne, nf, d⟩ := I.pin p hp
      exact ⟨(hs.2 p.1 ne).trans e, n, ne, nf, d⟩
  · have hfn : X.fn x = true := by
      rcases hf with z | z
      · exact z
      · rw [z] at hk; cases hk
    obtain ⟨c, hc⟩ := I.ok.has x (.inl hk)
    obtain ⟨w', z⟩ := I.cell x c hc
    refine wpAny_storeName_cell I.ok.kind hk hc z (fun h' hc' hs => ?_)
    obtain ⟨oc, hoc, hocd⟩ := id z
    refine h { s with heap := h' } ⟨I.ok, I.os, I.bare, ⟨fun b o e n hb hx => ?_, fun b o e n hb hx => ?_, I.base.free, fun b o e hx => ?_, I.base.tups, I.base.frzs, I.base.tbls⟩, ⟨m, hn.sameBut hs (Ne.symm (cne x c hc)), fun j y v' e1 e2 e3 => ?_⟩, fun y c' e => ?_, I.free, I.freeC, fun p hp => ?_, tracked ⟨oc, hoc, I.freeC x c hc⟩ hs, by simpa using I.len⟩ ⟨c, hs, .inr hc⟩
    · exact (hs.2 b (Nat.ne_of_lt (Nat.lt_of_lt_of_le (Heap.lt_size e) (I.ok.cab x c hfn hc)))).trans (I.base.keep b o e n hb hx)
    · obtain ⟨sl, e1⟩ := I.base.slot b o e n hb hx
      exact ⟨sl, (hs.2 b (Nat.ne_of_lt (Nat.lt_of_lt_of_le (Heap.lt_size e) (I.ok.cab x c hfn hc)))).trans e1⟩
    · obtain ⟨o', e1⟩ := I.base.there b o e hx
      exact ⟨o', (hs.2 b (Nat.ne_of_lt (Nat.lt_of_lt_of_le (Heap.lt_size e) (I.ok.cab x c hfn hc)))).trans e1⟩
    · by_cases hj : j = i
      · subst hj
        rw [hi] at e1; cases e1
        rw [List.getElem?_set_self hiσ] at e2
        cases e2
        exact ⟨u, r, .inr ⟨.inl hk, c, hc, hc'⟩⟩
      · rw [List.getElem?_set_ne (Ne.symm hj)] at e2
        obtain ⟨u', r', q⟩ := hl j y v' e1 e2 e3
        refine ⟨u', r', ?_⟩
        rcases q with q | ⟨k, c', e, z'⟩
        · exact .inl q
        · refine .inr ⟨k, c', e, z'.sameBut hs ?_⟩
          rintro rfl
          exact hj (nodup_ix hN e1 (I.ok.inj _ _ _ e hc ▸ hi))
    · by_cases hcc : c' = c
      · subst hcc; exact ⟨_, hc'⟩
      · obtain ⟨w2, z2⟩ := I.cell y c' e
        exact ⟨w2, z2.sameBut hs hcc⟩
    · obtain ⟨e, n, ne, nf, d⟩ := I.pin p hp
      refine ⟨(hs.2 p.1 ?_).trans e, n, ne, nf, d⟩
      intro q
      rw [q, hoc] at e
      have q' : oc = p.2 := Option.some.inj e
      exact d w' (by rw [← q']; exact hocd)
theorem store_ok {M : Model} {A : Around} {E : Value → Shared → Prop} {i : Nat} {x : Str} {v : V} {u : Value} {Q : Unit → Shared → Prop} (I : Inv X pins σ H s) (hN : X.N.Nodup) (hi : X.N[i]? = some x) (hx : Loc X.env.scope x) (r : RelV v u)
    (h : ∀ s', Inv X pins (σ.set i (some v)) H s' → Q () s') (hf : X.fn x = true ∨ X.env.scope.names.lookup x = some .local := by first | exact .inl rfl | exact .inr rfl | assumption) : wpAny M A (storeName X.env x u) Q E s :=
  store_ok2 I hN hi hx r (fun s' I' _ => h s' I') hf
theorem Inv.call' {s' : Shared} {ch : List Addr} (I : Inv X pins σ H s) (ho : s'.os = s.os) (u : Un (frs X.stack) ch H H' s.heap s'.heap) (hok : HOk X.prog X.w H' s'.heap) (hg : AllBare s'.gens)
    (hch : ∀ b ∈ ch, (b ∈ X.ex ∨ X.s₀.heap.objs.size ≤ b) ∧ b ≠ X.env.locals ∧ (∀ x c, X.env.cells.lookup x = some c → c ≠ b) ∧ ∀ p ∈ X.pn ++ pins, p.1 ≠ b) : Inv X pins σ H' s' := by
  obtain ⟨h', g', d', t', o'⟩ := s'
  have e : o' = s.os := ho
  subst e
  exact I.call (g' := g') (t' := t') (d' := d') u hok hg hch
end
abbrev XK := Value → Option Addr → Hp → Prop
abbrev St := List (Option V)
abbrev VK := V → Hp → Prop
abbrev TE := St → Hp → VK → Prop
abbrev TT := St → Hp → (Bool → Hp → Prop) → Prop
abbrev TA := St → Hp → (List V → Hp → Prop) → Prop
structure Ends where
  nx : St → Hp → Prop
  rt : VK
  bk : St → Hp → Prop := fun _ _ => False
  ct : St → Hp → Prop := fun _ _ => False
abbrev TS := Ends → St → Hp → Prop
def EP (X : Cx) (pins : List (Addr × Obj)) (σ : St) (Q : VK) (u : Value) (s' : Shared) : Prop := ∃ v H', Inv X pins σ H' s' ∧ RelV v u ∧ Q v H'
def TP (X : Cx) (pins : List (Addr × Obj)) (σ : St) (Q : Bool → Hp → Prop) (b : Bool) (s' : Shared) : Prop := ∃ H', Inv X pins σ H' s' ∧ Q b H'
def AP (X : Cx) (pins : List (Addr × Obj)) (σ : St) (Q : List V → Hp → Prop) (us : List Value) (s' : Shared) : Prop := ∃ vs H', Inv X pins σ H' s' ∧ Vals vs us ∧ Q vs H'
def SP (X : Cx) (pins : List (Addr × Obj)) (D : Ends) (f : Flow) (s' : Shared) : Prop :=
  match f with
  | .next => ∃ σ' H', Inv X pins σ' H' s' ∧ D.nx σ' H'
  | .brk => ∃ σ' H', Inv X pins σ' H' s' ∧ D.bk σ' H'
  | .cont => ∃ σ' H', Inv X pins σ' H' s' ∧ D.ct σ' H'
  | .ret u => ∃ v σ' H', Inv X pins σ' H' s' ∧ RelV v u ∧ D.rt v H'
def PE (X : Cx) (e : Expr) (t : TE) : Prop :=
  ∀ (pins : List (Addr × Obj)) (s : Shared) (σ : St) (H : Hp) (Q : VK), Inv X pins σ H s → t σ H Q → wpAny (model X.prog X.w) X.A (eval e X.env) (EP X pins σ Q) X.xe s
def PT (X : Cx) (e : Expr) (t : TT) : Prop :=
  ∀ (pins : List (Addr × Obj)) (s : Shared) (σ : St) (H : Hp) (Q : Bool → Hp → Prop), Inv X pins σ H s → t σ H Q → wpAny (model X.prog X.w) X.A (isTrue e X.env (eval e X.env)) (TP X pins σ Q) X.xe s
def PW (X : Cx) (e : Expr) (t : TT) : Prop :=
  ∀ (whole : Sem Value) (pins : List (Addr × Obj)) (s : Shared) (σ : St) (H : Hp) (Q : Bool → Hp → Prop), Inv X pins σ H s → t σ H Q → wpAny (model X.prog X.w) X.A (isTrue e X.env whole) (TP X pins σ Q) X.xe s
theorem PW.pt {X : Cx} {e : Expr} {t : TT} (h : PW X e t) : PT X e t := h _
def PA (X : Cx) (es : List Expr) (t : TA) : Prop :=
  ∀ (pos : Pos) (pins : List (Addr × Obj)) (s : Shared) (σ : St) (H : Hp) (Q : List V → Hp → Prop), Inv X pins σ H s → t σ H Q → wpAny (model X.prog X.w) X.A (spliced (backTo pos (starEach es X.env))) (AP X pins σ Q) X.xe s
def PS (X : Cx) (st : Stmt) (t : TS) : Prop :=
  ∀ (pins : List (Addr × Obj)) (s : Shared) (σ : St) (H : Hp) (D : Ends), Inv X pins σ H s → t D σ H → wpAny (model X.prog X.w) X.A (exec st X.env) (SP X pins D) X.xe s
def PSs (X : Cx) (st : List Stmt) (t : TS) : Prop :=
  ∀ (pins : List (Addr × Obj)) (s : Shared) (σ : St) (H : Hp) (D : Ends), Inv X pins σ H s → t D σ H → wpAny (model X.prog X.w) X.A (execs st X.env) (SP X pins D) X.xe s
theorem thn {α : Type} {t : Sem α} {Q Q' : α → Shared → Prop} {M : Model} {A : Around} {E : Value → Shared → Prop} {s : Shared} (h : wpAny M A t Q E s) (hQ : ∀ a s, Q a s → Q' a s) : wpAny M A t Q' E s := wpAny_mono h hQ fun _ _ x => x
end L2
namespace L2
open PySem PySem.Spec PyProof.Rows
section
variable {X : Cx}
theorem bin {a b : Expr} {ta tb : TE} (ha : PE X a ta) (hb : PE X b tb) {pins : List (Addr × Obj)} {s : Shared} {σ : St} {H : Hp} {R : V → V → Hp → Prop} (I : Inv X pins σ H s) (h : ta σ H fun x H1 => tb σ H1 fun y H2 => R x y H2)
    {α : Type} {Q : α → Shared → Prop} {f : Value → Value → Sem α}
    (hf : ∀ v u s2 x y H2, Inv X pins σ H2 s2 → RelV x v → RelV y u → R x y H2 → wpAny (model X.prog X.w) X.A (f v u) Q X.xe s2) :
    wpAny (model X.prog X.w) X.A (eval a X.env) (fun v s₁ => wpAny (model X.prog X.w) X.A (eval b X.env) (fun u s₂ => wpAny (model X.prog X.w) X.A (f v u) Q X.xe s₂) X.xe s₁) X.xe s := by
  refine thn (ha pins s σ H _ I h) fun v s1 ⟨x, H1, I1, r1, q1⟩ => ?_
  refine thn (hb pins s1 σ H1 _ I1 q1) fun u s2 ⟨y, H2, I2, r2, q2⟩ => ?_
  exact hf v u s2 x y H2 I2 r1 r2 q2
def tVar (i : Nat) : TE := fun σ H Q => ∃ v, σ[i]? = some (some v) ∧ Q v H
def tC (v : V) : TE := fun _ H Q => Q v H
theorem pe_var {i : Nat} {x : Str} {pos : Pos} (hN : X.N[i]? = some x) (hv : Vis X.env.scope x) (hd : (x == ("__debug__" : Str)) = false := by decide) (hcd : (x == ("__classdict__" : Str)) = false := by decide) : PE X (.Name x pos) (tVar i) := by
  intro pins s σ H Q I h
  obtain ⟨v, e, h⟩ := h
  obtain ⟨m, hn, hl⟩ := I.loc
  obtain ⟨u, r, l⟩ := hl i x v hN e hv
  have fin : EP X pins σ Q u s := ⟨v, H, I, r, h⟩
  rcases l with ⟨hk, hm⟩ | ⟨hk, c, hc, hcell⟩
  · exact wpAny_Name (wpAny_loadName_local I.ok.kind hk hn hm fin) hd
  · rcases hk with hk | hk
    · exact wpAny_Name (wpAny_loadName_cell I.ok.kind hk hc hcell fin) hd
    · exact wpAny_Name (wpAny_loadName_free I.ok.kind hk hc hcell fin hcd) hd
theorem pe_int {i j pos} : PE X (.Constant (.int i) j pos) (tC (.int i)) := fun _ _ _ H _ I h => wpAny_Constant_int ⟨.int i, H, I.tok _, ⟨_, rfl⟩, h⟩
theorem pe_bl {b j pos} : PE X (.Constant (.bool b) j pos) (tC (.bl b)) := fun _ _ _ H _ I h => Constant_bool ⟨.bl b, H, I, rfl, h⟩
theorem pe_non {j pos} : PE X (.Constant .none j pos) (tC .non) := fun _ _ _ H _ I h => Constant_none ⟨.non, H, I, rfl, h⟩
theorem pe_str {x j pos} : PE X (.Constant (.str x) j pos) (tC (.str x)) := fun _ _ _ H _ I h => Calls.Constant_str ⟨.str x, H, I.tok _, ⟨_, rfl⟩, h⟩
def Gl (X : Cx) (x : Str) : Prop := X.env.kindOf x = some .globalImplicit
theorem ld_glob {E : Value → Shared → Prop} {pins : List (Addr × Obj)} {s : Shared} {σ : St} {H : Hp} {x : Str} {u : Value} {pos : Pos} {Q : Value → Shared → Prop} (I : Inv X pins σ H s) (hg : Gl X x) (hm : X.mg x = some u) (h : Q u s)
    (hd : (x == ("__debug__" : Str)) = false := by decide) : wpAny (model X.prog X.w) X.A (eval (.Name x pos) X.env) Q E s :=
  Calls.Name_function_global I.ok.kind hg (Calls.loadGlobal_global (by rw [I.ok.glob]; exact I.mod.glob.keeps I.bk) hm h) hd
theorem ld_blt {E : Value → Shared → Prop} {pins : List (Addr × Obj)} {s : Shared} {σ : St} {H : Hp} {x : Str} {u : Value} {pos : Pos} {Q : Value → Shared → Prop} (I : Inv X pins σ H s) (hg : Gl X x) (hm : X.mg x = none) (hv : bootBuiltins x = some u) (h : Q u s)
    (hn : x ≠ "__name__" := by decide) (hd : (x == ("__debug__" : Str)) = false := by decide) : wpAny (model X.prog X.w) X.A (eval (.Name x pos) X.env) Q E s := by
  obtain ⟨mb, h1, h2⟩ := I.mod.blt
  exact Calls.Name_function_global I.ok.kind hg (Calls.loadGlobal_builtin (by rw [I.ok.glob]; exact I.mod.glob.keeps I.bk) hm (by rw [I.ok.blt]; exact h1.keeps I.bk) ((h2 x hn).trans hv) h) hd
theorem pe_bltn {x : Str} {v : V} {u : Value} {pos : Pos} (hg : Gl X x) (hm : X.mg x = none) (hv : bootBuiltins x = some u) (r : RelV v u) (hn : x ≠ "__name__" := by decide) (hd : (x == ("__debug__" : Str)) = false := by decide) : PE X (.Name x pos) (tC v) :=
  fun _ _ _ H _ I h => ld_blt I hg hm hv ⟨v, H, I, r, h⟩ hn hd
variable {a b : Expr} {ta tb : TE} {pos : Pos}
def PC (X : Cx) (op : CmpOp) (a b : Expr) (t : TE) : Prop :=
  ∀ (pins : List (Addr × Obj)) (s : Shared) (σ : St) (H : Hp) (Q : VK), Inv X pins σ H s → t σ H Q →
    wpAny (model X.prog X.w) X.A (eval a X.env) (fun v s₁ => wpAny (model X.prog X.w) X.A (eval b X.env) (fun u s₂ => wpAny (model X.prog X.w) X.A (compareOp op v u) (EP X pins σ Q) X.xe s₂) X.xe s₁) X.xe s
theorem nobehind (b : Expr) {op : CmpOp} (h : op ≠ .In) (h2 : op ≠ .NotIn) : behindInMarks op b = false := by
  have e1 : (op == CmpOp.In) = false := by cases op <;> first | rfl | exact absurd rfl h
  have e2 : (op == CmpOp.NotIn) = false := by cases op <;> first | rfl | exact absurd rfl h2
  cases b <;> simp [behindInMarks, e1, e2]
def tB (t : TE) : TT := fun σ H Q => t σ H fun x H1 => ∃ c, x = .bl c ∧ Q c H1
theorem pt_cmp {op : CmpOp} {t : TE} (h : PC X op a b t) (h1 : behindInMarks op b = false := by first | exact nobehind _ (by decide) (by decide) | rfl) : PT X (.Compare a [op] [b] pos) (tB t) := by
  intro pins s σ H Q I hw
  refine wpAny_isTrue_Compare1 (thn (h pins s σ H _ I hw) fun v s1 h1 => thn h1 fun u s2 h2 => thn h2 fun c s3 ⟨x, H1, I1, r1, q1⟩ => ?_) h1
  obtain ⟨d, rfl, q⟩ := q1
  cases r1
  exact wpAny_truthy_bool ⟨H1, I1, q⟩
theorem pt_val {e : Expr} {t : TE} (h : PE X e t) (he : ∀ whole, isTrue e X.env whole = (do let v ← whole; standAt e.pos; holding [v] (truthy v)) := by intro _; rfl) : PT X e (tB t) := by
  intro pins s σ H Q I hw
  refine isTrue_plain (thn (h pins s σ H _ I hw) fun v s1 ⟨x, H1, I1, r1, q1⟩ => ?_) (he _)
  obtain ⟨d, rfl, q⟩ := q1
  cases r1
  exact wpAny_truthy_bool ⟨H1, I1, q⟩
variable {tA tB' : TT} {rest : List Expr}
def tAnd (t u : TT) : TT := fun σ H Q => t σ H fun c H1 => if c = true then u σ H1 Q else Q false H1
def tOr (t u : TT) : TT := fun σ H Q => t σ H fun c H1 => if c = true then Q true H1 else u σ H1 Q
def tNot (t : TT) : TT := fun σ H Q => t σ H fun c H1 => Q (!c) H1
theorem pw_and1 (ha : PT X a tA) : PW X (.BoolOp .And [a] pos) tA := by
  intro wh pins s σ H Q I h
  refine isTrue_and (thn (ha pins s σ H Q I h) fun c s1 e => ?_)
  cases c with
  | true => exact isTrue_and_nil e
  | false => exact e
theorem pw_or1 (ha : PT X a tA) : PW X (.BoolOp .Or [a] pos) tA := by
  intro wh pins s σ H Q I h
  refine isTrue_or (thn (ha pins s σ H Q I h) fun c s1 e => ?_)
  cases c with
  | false => exact isTrue_or_nil e
  | true => exact e
theorem pw_and (ha : PT X a tA) (hb : PW X (.BoolOp .And (b :: rest) pos) tB') : PW X (.BoolOp .And (a :: b :: rest) pos) (tAnd tA tB') := by
  intro wh pins s σ H Q I h
  refine isTrue_and (thn (ha pins s σ H _ I h) fun c s1 ⟨H1, I1, q1⟩ => ?_)
  cases c with
  | true => exact hb wh pins s1 σ H1 Q I1 q1
  | false => exact ⟨H1, I1, q1⟩
theorem pw_or (ha : PT X a tA) (hb : PW X (.BoolOp .Or (b :: rest) pos) tB') : PW X (.BoolOp .Or (a :: b :: rest) pos) (tOr tA tB') := by
  intro wh pins s σ H Q I h
  refine isTrue_or (thn (ha pins s σ H _ I h) fun c s1 ⟨H1, I1, q1⟩ => ?_)
  cases c with
  | true => exact ⟨H1, I1, q1⟩
  | false => exact hb wh pins s1 σ H1 Q I1 q1
theorem pt_not (ha : PT X a tA) : PT X (.UnaryOp .Not a pos) (tNot tA) := by
  intro pins s σ H Q I h
  exact isTrue_not (ha pins s σ H (fun c H1 => Q (!c) H1) I h)
def tAndV (ta tb : TE) : TE := fun σ H Q => ta σ H fun x H1 => ∃ c, x = .bl c ∧ if c = true then tb σ H1 Q else Q (.bl false) H1
def tOrV (ta tb : TE) : TE := fun σ H Q => ta σ H fun x H1 => ∃ c, x = .bl c ∧ if c = true then Q (.bl true) H1 else tb σ H1 Q
theorem pe_one {op} {t : TE} (h : PE X a t) : PE X (.BoolOp op [a] pos) t := fun pins s σ H Q I hw => BoolOp_one (h pins s σ H Q I hw)
theorem pe_and (ha : PE X a ta) (hb : PE X (.BoolOp .And (b :: rest) pos) tb) : PE X (.BoolOp .And (a :: b :: rest) pos) (tAndV ta tb) := by
  intro pins s σ H Q I h
  refine BoolOp_and (thn (ha pins s σ H _ I h) fun v s1 ⟨x, H1, I1, r1, q1⟩ => ?_)
  obtain ⟨c, rfl, q1⟩ := q1
  cases r1
  refine wpAny_truthy_bool ?_
  cases c with
  | true => exact hb pins s1 σ H1 Q I1 q1
  | false => exact ⟨.bl false, H1, I1, rfl, q1⟩
theorem pe_or (ha : PE X a ta) (hb : PE X (.BoolOp .Or (b :: rest) pos) tb) : PE X (.BoolOp .Or (a :: b :: rest) pos) (tOrV ta tb) := by
  intro pins s σ H Q I h
  refine BoolOp_or (thn (ha pins s σ H _ I h) fun v s1 ⟨x, H1, I1, r1, q1⟩ => ?_)
  obtain ⟨c, rfl, q1⟩ := q1
  cases r1
  refine wpAny_truthy_bool ?_
  cases c with
  | false => exact hb pins s1 σ H1 Q I1 q1
  | true => exact ⟨.bl true, H1, I1, rfl, q1⟩
def tIf (t : TT) (ta tb : TE) : TE := fun σ H Q => t σ H fun c H1 => if c = true then ta σ H1 Q else tb σ H1 Q
theorem pe_ifExp {c : Expr} (hc : PT X c tA) (ha : PE X a ta) (hb : PE X b tb) : PE X (.IfExp c a b pos) (tIf tA ta tb) := by
  intro pins s σ H Q I h
  refine wpAny_IfExp (thn (hc pins s σ H _ I h) fun d s1 ⟨H1, I1, q1⟩ => ?_)
  cases d with
  | true => exact ha pins s1 σ H1 Q I1 q1
  | false => exact hb pins s1 σ H1 Q I1 q1
end
end L2
namespace L2
open PySem PySem.Spec PyProof.Rows
def SqL (K : PySem.W.Frag) (H : Hp) (a : Addr) (xs : List V) : Prop :=
  Rd H a (.lst xs) ∨
    ∃ (o : Obj) (its : Array Value) (n : Nat), K.lookup a = some o ∧ o.cls = .type "list" ∧ o.dict = none ∧ o.data = .seq its n ∧ its.size ≤ sizeLine ∧ Vals xs its.toList
def SqT (K : PySem.W.Frag) (H : Hp) (a : Addr) (xs : List V) : Prop :=
  Rd H a (.tup xs) ∨
    ∃ (o : Obj) (its : Array Value) (n : Nat), K.lookup a = some o ∧ o.cls = .type "tuple" ∧ o.data = .seq its n ∧ its.size ≤ sizeLine ∧ Vals xs its.toList
def absV : Value → Option V
  | .none => some .non
  | .bool b => some (.bl b)
  | .int i _ => some (.int i)
  | .str x _ => some (.str x)
  | .bytes b _ => some (.byt b)
  | .float b _ => some (.flt b)
  | .ref a => some (.ref a)
  | .type n => some (.ty n)
  | _ => none
theorem RelV.abs {x : V} {u : Value} (r : RelV x u) : absV u = some x := by
  cases x with
  | non => cases r; rfl
  | bl _ => cases r; rfl
  | int _ => obtain ⟨t, rfl⟩ := r; rfl
  | str _ => obtain ⟨t, rfl⟩ := r; rfl
  | byt _ => obtain ⟨t, rfl⟩ := r; rfl
  | flt _ => obtain ⟨t, rfl⟩ := r; rfl
  | ref _ => cases r; rfl
  | ty _ => cases r; rfl
theorem RelV.inj {x y : V} {u : Value} (r : RelV x u) (q : RelV y u) : x = y := Option.some.inj (r.abs.symm.trans q.abs)
theorem Vals.inj : ∀ {xs ys : List V} {us : List Value}, Vals xs us → Vals ys us → xs = ys
  | _, _, _, .nil, .nil => rfl
  | _, _, _, .cons r t, .cons r' t' => by rw [r.inj r', Vals.inj t t']
section
variable {X : Cx} {pins : List (Addr × Obj)} {σ : St} {H : Hp} {s : Shared} {a : Addr} {xs ys : List V}
theorem SqL.of {K : PySem.W.Frag} (h : H a = some (.lst xs)) : SqL K H a xs := .inl (.inl h)
theorem SqT.of {K : PySem.W.Frag} (h : H a = some (.tup xs)) : SqT K H a xs := .inl (.inl h)
theorem Inv.list (I : Inv X pins σ H s) (h : SqL X.K H a xs) : ∃ its : List Value, Vals xs its ∧ PlainL s.heap a its.toArray ∧ xs.length ≤ sizeLine := by
  rcases h with h | ⟨o, its, n, hk, hc, hd, hs, hz, r⟩
  · obtain ⟨z, its, n, r, e⟩ := h.ok I.hok
    exact ⟨its, r, ⟨_, n, e, rfl, rfl, rfl⟩, z⟩
  · refine ⟨its.toList, r, ⟨o, n, I.kIn a o hk, hc, hd, by simpa using hs⟩, ?_⟩
    have e := r.length
    simp only [Array.length_toList] at e
    omega
theorem Inv.tuple (I : Inv X pins σ H s) (h : SqT X.K H a xs) : ∃ its : List Value, Vals xs its ∧ IsTup s.heap a its.toArray ∧ xs.length ≤ sizeLine := by
  rcases h with h | ⟨o, its, n, hk, hc, hs, hz, r⟩
  · obtain ⟨z, its, r, p⟩ := h.ok I.hok
    exact ⟨its, r, p, z⟩
  · refine ⟨its.toList, r, ⟨o, I.kIn a o hk, hc, n, by simpa using hs⟩, ?_⟩
    have e := r.length
    simp only [Array.length_toList] at e
    omega
theorem Inv.list_inj (I : Inv X pins σ H s) (h : SqL X.K H a xs) (h' : SqL X.K H a ys) : xs = ys := by
  obtain ⟨its, r, ⟨o, n, e, _, _, d⟩, _⟩ := I.list h
  obtain ⟨its', r', ⟨o', n', e', _, _, d'⟩, _⟩ := I.list h'
  rw [e] at e'; cases e'
  rw [d] at d'
  injection d' with d1 _
  have : its = its' := by simpa using congrArg Array.toList d1
  subst this
  exact r.inj r'
theorem Inv.tuple_inj (I : Inv X pins σ H s) (h : SqT X.K H a xs) (h' : SqT X.K H a ys) : xs = ys := by
  obtain ⟨its, r, ⟨o, e, _, n, d⟩, _⟩ := I.tuple h
  obtain ⟨its', r', ⟨o', e', _, n', d'⟩, _⟩ := I.tuple h'
  rw [e] at e'; cases e'
  rw [d] at d'
  injection d' with d1 _
  have : its = its' := by simpa using congrArg Array.toList d1
  subst this
  exact r.inj r'
end
abbrev Cx.wish (X : Cx) (E : Value → Shared → Prop) : Cx := { X with xe := E }
abbrev Cx.nox (X : Cx) : Cx := X.wish fun _ _ => False
theorem Cx.Ok.wish {X : Cx} (ok : X.Ok) (E : Value → Shared → Prop) : (X.wish E).Ok :=
  ⟨ok.mod, ok.kind, ok.glob, ok.blt, ok.above, ok.inj, ok.has, ok.cab, ok.hd, ok.frames, ok.stk, ok.exf, ok.bs, ok.bsz, ok.noex, ok.exfs, ok.funs, ok.frf⟩
theorem Cx.Ok.unwish {X : Cx} {E : Value → Shared → Prop} (ok : (X.wish E).Ok) : X.Ok :=
  ⟨ok.mod, ok.kind, ok.glob, ok.blt, ok.above, ok.inj, ok.has, ok.cab, ok.hd, ok.frames, ok.stk, ok.exf, ok.bs, ok.bsz, ok.noex, ok.exfs, ok.funs, ok.frf⟩
section
variable {X : Cx} {pins : List (Addr × Obj)} {σ : St} {H : Hp} {s : Shared} {E : Value → Shared → Prop}
theorem Inv.wish (I : Inv X pins σ H s) (E : Value → Shared → Prop) : Inv (X.wish E) pins σ H s := ⟨I.ok.wish E, I.os, I.bare, I.base, I.loc, I.cell, I.free, I.freeC, I.pin, I.hok, I.len⟩
theorem Inv.unwish (I : Inv (X.wish E) pins σ H s) : Inv X pins σ H s := ⟨I.ok.unwish, I.os, I.bare, I.base, I.loc, I.cell, I.free, I.freeC, I.pin, I.hok, I.len⟩
theorem SP.unwish {D : Ends} {f : Flow} {s' : Shared} (h : SP (X.wish E) pins D f s') : SP X pins D f s' := by
  cases f with
  | next => obtain ⟨σ', H', I, q⟩ := h; exact ⟨σ', H', I.unwish, q⟩
  | brk => obtain ⟨σ', H', I, q⟩ := h; exact ⟨σ', H', I.unwish, q⟩
  | cont => obtain ⟨σ', H', I, q⟩ := h; exact ⟨σ', H', I.unwish, q⟩
  | ret u => obtain ⟨v, σ', H', I, r, q⟩ := h; exact ⟨v, σ', H', I.unwish, r, q⟩
theorem PSs.nox {st : List Stmt} {t : TS} (h : PSs X.nox st t) : PSs X st t := fun pins s σ H D I hw =>
  wpAny_mono (h pins s σ H D (I.wish _) hw) (fun _ _ q => q.unwish) fun _ _ z => False.elim z
end
section
variable {X : Cx} {st : Stmt} {rest : List Stmt} {t u : TS} {e : Expr} {te : TE} {pos : Pos}
def tNext : TS := fun D σ H => D.nx σ H
def tSeq (t u : TS) : TS := fun D σ H => t { D with nx := u D } σ H
theorem pss_nil : PSs X [] tNext := fun _ _ σ H _ I h => wpAny_execs_nil ⟨σ, H, I, h⟩
theorem pss_cons (h1 : PS X st t) (h2 : PSs X rest u) : PSs X (st :: rest) (tSeq t u) := by
  intro pins s σ H D I h
  refine wpAny_execs_cons (thn (h1 pins s σ H { D with nx := u D } I h) fun f s1 q => ?_)
  cases f with
  | next =>
    obtain ⟨σ', H', I', q⟩ := q
    exact h2 pins s1 σ' H' D I' q
  | ret v => exact q
  | brk => exact q
  | cont => exact q
theorem Inv.quiet {pins : List (Addr × Obj)} {σ : St} {H : Hp} {s : Shared} (I : Inv X pins σ H s) : interactive X.env = false := by simp [interactive, I.ok.kind]
def tDrop (te : TE) : TS := fun D σ H => te σ H fun _ H1 => D.nx σ H1
theorem ps_expr (he : PE X e te) (hs : swapsWith e none pos.line X.env = pure false := by rfl) : PS X (.Expr e pos) (tDrop te) := by
  intro pins s σ H D I h
  exact wpAny_Expr_any (thn (he pins s σ H _ I h) fun v s1 ⟨x, H1, I1, r1, q1⟩ => ⟨σ, H1, I1, q1⟩) I.quiet hs
def tRet (te : TE) : TS := fun D σ H => te σ H D.rt
theorem ps_ret (he : PE X e te) : PS X (.Return (some e) pos) (tRet te) := by
  intro pins s σ H D I h
  exact wpAny_Return_some (thn (he pins s σ H _ I h) fun v s1 ⟨x, H1, I1, r1, q1⟩ => ⟨x, σ, H1, I1, r1, q1⟩)
def tIfS (c : TT) (t u : TS) : TS := fun D σ H => c σ H fun b H1 => if b = true then t D σ H1 else u D σ H1
theorem ps_if {c : Expr} {a b : List Stmt} {tc : TT} (hc : PT X c tc) (ha : PSs X a t) (hb : PSs X b u) : PS X (.If c a b pos) (tIfS tc t u) := by
  intro pins s σ H D I h
  refine wpAny_If (thn (hc pins s σ H _ I h) fun d s1 ⟨H1, I1, q1⟩ => ?_)
  cases d with
  | true => exact ha pins s1 σ H1 D I1 q1
  | false => exact hb pins s1 σ H1 D I1 q1
end
abbrev TG := V → St → Hp → (St → Hp → Prop) → Prop
abbrev TGs := List V → St → Hp → (St → Hp → Prop) → Prop
def PG (X : Cx) (target : Expr) (t : TG) : Prop :=
  ∀ (pins : List (Addr × Obj)) (s : Shared) (σ : St) (H : Hp) (v : V) (u : Value) (Q : St → Hp → Prop), Inv X pins σ H s → RelV v u → t v σ H Q →
    wpAny (model X.prog X.w) X.A (assign target X.env u) (fun _ s' => ∃ σ' H', Inv X pins σ' H' s' ∧ Q σ' H') X.xe s
def PGs (X : Cx) (ts : List Expr) (t : TGs) : Prop :=
  ∀ (pins : List (Addr × Obj)) (s : Shared) (σ : St) (H : Hp) (vs : List V) (us : List Value) (Q : St → Hp → Prop), Inv X pins σ H s → Vals vs us → t vs σ H Q →
    wpAny (model X.prog X.w) X.A (assignInOrder ((assignEach ts X.env).map (·.2)) us) (fun _ s' => ∃ σ' H', Inv X pins σ' H' s' ∧ Q σ' H') X.xe s
section
variable {X : Cx} {pos : Pos}
def gName (i : Nat) : TG := fun v σ H Q => Q (σ.set i (some v)) H
theorem pg_name {i : Nat} {x : Str} (hN : X.N.Nodup) (hi : X.N[i]? = some x) (hx : Loc X.env.scope x) (hf : X.fn x = true ∨ X.env.scope.names.lookup x = some .local := by first | exact .inl rfl | exact .inr rfl | assumption) : PG X (.Name x pos) (gName i) := by
  intro pins s σ H v u Q I r h
  exact wpAny_assign_Name (store_ok I hN hi hx r (fun s' I' => ⟨_, H, I', h⟩) hf)
def gNil : TGs := fun vs σ H Q => vs = [] ∧ Q σ H
def gCons (t : TG) (u : TGs) : TGs := fun vs σ H Q => ∃ v r, vs = v :: r ∧ t v σ H fun σ' H' => u r σ' H' Q
theorem pgs_nil : PGs X [] gNil := by
  intro pins s σ H vs us Q I r h
  obtain ⟨e, h⟩ := h
  subst e
  cases r
  exact assignInOrder_nil ⟨σ, H, I, h⟩
theorem pgs_cons {e : Expr} {es : List Expr} {t : TG} {u : TGs} (h1 : PG X e t) (h2 : PGs X es u)
    (hs : (assignEach (e :: es) X.env).map (·.2) = assign e X.env :: (assignEach es X.env).map (·.2) := by rfl) : PGs X (e :: es) (gCons t u) := by
  intro pins s σ H vs us Q I r h
  obtain ⟨v, vr, e1, h⟩ := h
  subst e1
  cases r with
  | cons r rr =>
    rw [hs]
    refine assignInOrder_cons (thn (h1 pins s σ H _ _ _ I r h) fun _ s1 ⟨σ1, H1, I1, q1⟩ => ?_)
    exact h2 pins s1 σ1 H1 _ _ Q I1 rr q1
def gTup (K : PySem.W.Frag) (n : Nat) (t : TGs) : TG := fun v σ H Q => ∃ a xs, v = .ref a ∧ SqT K H a xs ∧ xs.length = n ∧ t xs σ H Q
theorem pg_tup {es : List Expr} {k : Nat} {t : TGs} {n : Nat} (hc : X.calm = true) (h : PGs X es t)
    (hn : (assignEach es X.env).length = n := by rfl) (hst : (assignEach es X.env).findIdx? (·.1) = none := by rfl) : PG X (.Tuple es k pos) (gTup X.K n t) := by
  intro pins s σ H v u Q I r hw
  obtain ⟨a, xs, e1, hq, hl, hw⟩ := hw
  subst e1
  cases r
  obtain ⟨its, rv, ht, hz⟩ := I.tuple hq
  refine assign_Tuple_tuple (I.ok.hd hc) ht (by simp [hn, ← hl, rv.length]) hst fun h' hx => ?_
  have I1 : Inv X pins σ H { s with heap := h' } := I.kept (t' := s.toks) fun b o e => hx b o (Nat.ne_of_lt (Heap.lt_size e)) e
  exact h pins _ σ H xs _ Q I1 (by simpa using rv) hw
def tAsg (te : TE) (g : TG) : TS := fun D σ H => te σ H fun x H1 => g x σ H1 D.nx
theorem ps_asg {tg e : Expr} {te : TE} {g : TG} (he : PE X e te) (hg : PG X tg g) (hs : swapsWithSole [tg] e pos.line X.env = pure false := by rfl) (hw : swappedStores [tg] e X.env = pure none := by rfl)
    (h1 : (assignEach [tg] X.env).map (·.2) = [assign tg X.env] := by rfl) : PS X (.Assign [tg] e pos) (tAsg te g) := by
  intro pins s σ H D I h
  refine wpAny_Assign_stores (thn (he pins s σ H _ I h) fun v s1 ⟨x, H1, I1, r1, q1⟩ => ?_) hs hw
  rw [h1]
  exact thn (hg pins s1 σ H1 x v _ I1 r1 q1) fun _ s2 q => q
theorem ps_set {i : Nat} {x : Str} {e : Expr} {te : TE} {pos' : Pos} (hN : X.N.Nodup) (hi : X.N[i]? = some x) (hx : Loc X.env.scope x) (he : PE X e te) (hs : swapsWith e (some (.Name x pos')) pos.line X.env = pure false := by rfl) (hf : X.fn x = true ∨ X.env.scope.names.lookup x = some .local := by first | exact .inl rfl | exact .inr rfl | assumption) :
    PS X (.Assign [.Name x pos'] e pos) (tAsg te (gName i)) := by
  intro pins s σ H D I h
  refine wpAny_Assign_Name (thn (he pins s σ H _ I h) fun v s1 ⟨y, H1, I1, r1, q1⟩ => ?_) hs
  exact store_ok I1 hN hi hx r1 (fun s2 I2 => ⟨_, H1, I2, q1⟩) hf
end
section
variable {X : Cx} {pos : Pos}
def tWhile (c : TT) (tb : TS) : TS := fun D σ H => ∃ W : Nat → St → Hp → Prop, (∃ m, W m σ H) ∧ ∀ m σ H, W m σ H →
  c σ H fun b H1 => if b = true then ∃ N : St → Hp → Prop, (∀ σ' H', N σ' H' → ∃ m', m' < m ∧ W m' σ' H') ∧ tb { D with nx := N, ct := N, bk := D.nx } σ H1 else D.nx σ H1
theorem ps_while {c : Expr} {body : List Stmt} {tc : TT} {tb : TS} (hp : PassesOwn (model X.prog X.w) X.A X.env X.xe) (hc : PT X c tc) (hb : PSs X body tb) : PS X (.While c body [] pos) (tWhile tc tb) := by
  intro pins s σ H D I h
  obtain ⟨W, ⟨m0, w0⟩, turn⟩ := h
  refine wpAny_While (codeAny_whileLoop (fun n s' => ∃ σ' H', Inv X pins σ' H' s' ∧ W n σ' H') ?_ m0 ⟨σ, H, I, w0⟩)
  rintro n s1 ⟨σ1, H1, I1, w1⟩
  refine wpAny_passesOwn hp (thn (hc pins s1 σ1 H1 _ I1 (turn n σ1 H1 w1)) fun b s2 ⟨H2, I2, q2⟩ => ?_)
  cases b with
  | true =>
    obtain ⟨N, hN, q2⟩ := q2
    rw [if_pos rfl]
    refine wpAny_passesOwn hp (thn (hb pins s2 σ1 H2 _ I2 q2) fun f s3 q3 => ?_)
    cases f with
    | next =>
      obtain ⟨σ3, H3, I3, n3⟩ := q3
      obtain ⟨m', hm, w3⟩ := hN σ3 H3 n3
      exact ⟨m', hm, σ3, H3, I3, w3⟩
    | cont =>
      obtain ⟨σ3, H3, I3, n3⟩ := q3
      obtain ⟨m', hm, w3⟩ := hN σ3 H3 n3
      exact ⟨m', hm, σ3, H3, I3, w3⟩
    | brk => exact q3
    | ret v => exact q3
  | false =>
    rw [if_neg Bool.false_ne_true]
    exact wpAny_execs_nil ⟨σ1, H2, I2, q2⟩
end
structure It where
  go : Nat → Hp → Prop
  yld : Nat → Hp → V → Hp → Prop
  stop : Nat → Hp → Prop
def FpOk (X : Cx) (pins : List (Addr × Obj)) (H : Hp) (b : Addr) : Prop :=
  H b = none ∧ b ≠ X.env.locals ∧ b ∉ X.fs ∧ (b ∈ X.ex ∨ X.s₀.heap.objs.size ≤ b) ∧ (∀ x c, X.env.cells.lookup x = some c → c ≠ b) ∧ ∀ p ∈ X.pn ++ pins, p.1 ≠ b
theorem Inv.fpOk {X : Cx} {pins : List (Addr × Obj)} {σ : St} {H H' : Hp} {s : Shared} {b : Addr} (I : Inv X pins σ H s) (hb : s.heap.objs.size ≤ b) (hn : H' b = none) : FpOk X pins H' b := by
  refine ⟨hn, Nat.ne_of_gt (Nat.lt_of_lt_of_le I.lt hb), I.nofs hb, .inr (Nat.le_trans I.sz hb), fun x c e z => ?_, fun p hp z => ?_⟩
  · obtain ⟨v, q⟩ := I.cell x c e
    exact absurd (Nat.lt_of_lt_of_le q.lt (by rw [z]; exact hb)) (Nat.lt_irrefl _)
  · exact absurd (Nat.lt_of_lt_of_le (Heap.lt_size (I.pin p hp).1) (by rw [z]; exact hb)) (Nat.lt_irrefl _)
structure Turn (P : Program) (w : World) (K : PySem.W.Frag) (tg : Expr) (J : It) (fp : List Addr) (it : Addr) (tn : Nat → Heap → Prop) : Prop where
  mem : it ∈ fp
  obj : ∀ i h, tn i h → ∀ b ∈ fp, ∃ o, h.get? b = some o ∧ ∀ v, o.data ≠ .cell v
  keep : ∀ i h h', tn i h → (∀ b ∈ fp, ∀ o, h.get? b = some o → h'.get? b = some o) → tn i h'
  item : ∀ (X : Cx), X.prog = P → X.w = w → X.K = K → X.calm = true → ∀ (i : Nat) (pins : List (Addr × Obj)) (s : Shared) (σ : St) (H : Hp) (E : Value → Shared → Prop), Inv X pins σ H s → (∀ b ∈ fp, FpOk X pins H b) → tn i s.heap → J.go i H →
    wpAny (model P w) X.A (pyNext (.ref it)) (fun r s1 => ∃ u, r = some u ∧
      wpAny (model P w) X.A (letOwnedTupleGo tg (.ref it) u) (fun _ s2 => ∃ x H', Inv X pins σ H' s2 ∧ RelV x u ∧ J.yld i H x H' ∧ tn (i + 1) s2.heap ∧ ∀ b ∈ fp, H' b = none) E s1) E s
  done : ∀ (X : Cx), X.prog = P → X.w = w → X.K = K → X.calm = true → ∀ (i : Nat) (pins : List (Addr × Obj)) (s : Shared) (σ : St) (H : Hp) (E : Value → Shared → Prop), Inv X pins σ H s → (∀ b ∈ fp, FpOk X pins H b) → tn i s.heap → J.stop i H →
    wpAny (model P w) X.A (pyNext (.ref it)) (fun r s1 => r = none ∧ Inv X pins σ H s1) E s
  self : ∀ (A : Around) (i : Nat) (s : Shared) (Q : Value → Shared → Prop) (E : Value → Shared → Prop), tn i s.heap → Q (.ref it) s → wpAny (model P w) A (pyIter (.ref it)) Q E s
abbrev TI := St → Hp → (It → Hp → Prop) → Prop
def PIE (X : Cx) (pins : List (Addr × Obj)) (σ : St) (tg : Expr) (R : It → Hp → Prop) (itv : Value) (s2 : Shared) : Prop :=
  ∃ (it : Addr) (fp : List Addr) (tn : Nat → Heap → Prop) (J : It) (H' : Hp), itv = .ref it ∧ Inv X pins σ H' s2 ∧ Turn X.prog X.w X.K tg J fp it tn ∧ tn 0 s2.heap ∧ (∀ b ∈ fp, FpOk X pins H' b) ∧ R J H'
def PI (X : Cx) (tg iter : Expr) (wi : TI) : Prop :=
  ∀ (pins : List (Addr × Obj)) (s : Shared) (σ : St) (H : Hp) (R : It → Hp → Prop), Inv X pins σ H s → wi σ H R →
    wpAny (model X.prog X.w) X.A (eval iter X.env) (fun v s1 => wpAny (model X.prog X.w) X.A (pyIter v) (PIE X pins σ tg R) X.xe s1) X.xe s
theorem go_of {M : Model} {A : Around} {E : Value → Shared → Prop} {s : Shared} {tg : Expr} {it : Addr} {u : Value} {o : Obj} {n : String} {vs : Array Value} {Q : Unit → Shared → Prop} (ho : s.heap.get? it = some o) (hc : o.cls = .type n) (hd : o.data = .fields vs)
    (hn : ["enumerate", "zip", "dict_itemiterator", "dict_reverseitemiterator", "odict_iterator", "itertools.zip_longest", "itertools.pairwise"].contains n = false) (hQ : Q () s) : wpAny M A (letOwnedTupleGo tg (.ref it) u) Q E s := by
  unfold letOwnedTupleGo
  cases tg <;> first
    | exact wpAny_pure hQ
    | (cases u <;> first
        | exact wpAny_pure hQ
        | (refine wpAny_bind (wpAny_load ho ?_)
           rw [hc, hd]
           show wpAny M A (if (["enumerate", "zip", "dict_itemiterator", "dict_reverseitemiterator", "odict_iterator", "itertools.zip_longest", "itertools.pairwise"].contains n && vs[0]? == some (rawInt _)) = true then _ else _) Q E s
           rw [if_neg (by intro h; rw [hn, Bool.false_and] at h; cases h)]
           exact wpAny_pure hQ))
def Itl (K : PySem.W.Frag) (a : Addr) : It :=
  ⟨fun i H => ∃ xs x, SqL K H a xs ∧ xs[i]? = some x, fun i H x H' => H' = H ∧ ∀ xs, SqL K H a xs → xs[i]? = some x, fun i H => ∃ xs, SqL K H a xs ∧ xs.length ≤ i⟩
def Itt (K : PySem.W.Frag) (a : Addr) : It :=
  ⟨fun i H => ∃ xs x, SqT K H a xs ∧ xs[i]? = some x, fun i H x H' => H' = H ∧ ∀ xs, SqT K H a xs → xs[i]? = some x, fun i H => ∃ xs, SqT K H a xs ∧ xs.length ≤ i⟩
def Itr (lo : Int) (n : Nat) : It := ⟨fun i _ => i < n, fun i H x H' => H' = H ∧ x = .int (lo + i), fun i _ => n ≤ i⟩
theorem turn_list {P : Program} {w : World} {K : PySem.W.Frag} {tg : Expr} (a it : Addr) : Turn P w K tg (Itl K a) [it] it (fun i h => h.IsListIter it a i) where
  mem := by simp
  obj := fun i h st b hb => by
    have e : b = it := by simpa using hb
    subst e
    obtain ⟨o, e, c, d⟩ := st
    exact ⟨o, e, fun v z => by rw [d] at z; cases z⟩
  keep := fun i h h' st k => st.at fun o e => k it (by simp) o e
  item := by
    intro X hP hw hK hc i pins s σ H E I hf st hg
    subst hP hw hK
    obtain ⟨xs, x, hq, hx⟩ := hg
    obtain ⟨its, rv, p, hz⟩ := I.list hq
    obtain ⟨u, hu, ru⟩ := rv.get hx
    obtain ⟨f0, f1, f2, f3, f4, f5⟩ := hf it (by simp)
    refine wpAny_pyNext_list_item st p.isList (x := u) (by simpa using hu) fun h' st' sb => ?_
    have I1 : Inv X pins σ H { s with heap := h' } := I.turned (t' := s.toks) (fun b o hb e => (sb.2 b hb).trans e) f0 f1 f3 f4 f5
    obtain ⟨o, e, c, d⟩ := id st'
    exact ⟨u, rfl, go_of (s := { s with heap := h' }) e c d (by decide) ⟨x, H, I1, ru, ⟨rfl, fun ys hy => by rw [I.list_inj hy hq]; exact hx⟩, st', fun b hb => (hf b hb).1⟩⟩
  done := by
    intro X hP hw hK hc i pins s σ H E I hf st hg
    subst hP hw hK
    obtain ⟨xs, hq, hx⟩ := hg
    obtain ⟨its, rv, p, hz⟩ := I.list hq
    obtain ⟨f0, f1, f2, f3, f4, f5⟩ := hf it (by simp)
    have hl := rv.length
    exact wpAny_pyNext_list_end (I.ok.hd hc) st p.isList (by simp; omega) fun h' eb => ⟨rfl, I.turned (t' := s.toks) (fun b o hb e => eb b o hb e) f0 f1 f3 f4 f5⟩
  self := fun _ _ _ _ _ st h => wpAny_pyIter_listiter st h
theorem turn_tuple {P : Program} {w : World} {K : PySem.W.Frag} {tg : Expr} (a it : Addr) : Turn P w K tg (Itt K a) [it] it (fun i h => h.IsTupleIter it a i) where
  mem := by simp
  obj := fun i h st b hb => by
    have e : b = it := by simpa using hb
    subst e
    obtain ⟨o, e, c, d⟩ := st
    exact ⟨o, e, fun v z => by rw [d] at z; cases z⟩
  keep := fun i h h' st k => st.at fun o e => k it (by simp) o e
  item := by
    intro X hP hw hK hc i pins s σ H E I hf st hg
    subst hP hw hK
    obtain ⟨xs, x, hq, hx⟩ := hg
    obtain ⟨its, rv, p, hz⟩ := I.tuple hq
    obtain ⟨u, hu, ru⟩ := rv.get hx
    obtain ⟨f0, f1, f2, f3, f4, f5⟩ := hf it (by simp)
    refine wpAny_pyNext_tuple_item st (show s.heap.IsTuple a its.toArray from p) (x := u) (by simpa using hu) fun h' st' sb => ?_
    have I1 : Inv X pins σ H { s with heap := h' } := I.turned (t' := s.toks) (fun b o hb e => (sb.2 b hb).trans e) f0 f1 f3 f4 f5
    obtain ⟨o, e, c, d⟩ := id st'
    exact ⟨u, rfl, go_of (s := { s with heap := h' }) e c d (by decide) ⟨x, H, I1, ru, ⟨rfl, fun ys hy => by rw [I.tuple_inj hy hq]; exact hx⟩, st', fun b hb => (hf b hb).1⟩⟩
  done := by
    intro X hP hw hK hc i pins s σ H E I hf st hg
    subst hP hw hK
    obtain ⟨xs, hq, hx⟩ := hg
    obtain ⟨its, rv, p, hz⟩ := I.tuple hq
    obtain ⟨f0, f1, f2, f3, f4, f5⟩ := hf it (by simp)
    have hl := rv.length
    exact wpAny_pyNext_tuple_end (I.ok.hd hc) st (show s.heap.IsTuple a its.toArray from p) (by simp; omega) fun h' eb => ⟨rfl, I.turned (t' := s.toks) (fun b o hb e => eb b o hb e) f0 f1 f3 f4 f5⟩
  self := fun _ _ _ _ _ st h => wpAny_pyIter_tupleiter st h
theorem turn_range {P : Program} {w : World} {K : PySem.W.Frag} {tg : Expr} (it : Addr) (lo : Int) (n : Nat) : Turn P w K tg (Itr lo n) [it] it (fun i h => IsRangeIter h it (lo + (i : Nat) * 1) ((n : Int) - (i : Nat)) 1) where
  mem := by simp
  obj := fun i h st b hb => by
    have e : b = it := by simpa using hb
    subst e
    exact ⟨_, st, fun v z => by
      have z' : Data.fields _ = Data.cell v := z
      cases z'⟩
  keep := fun i h h' st k => k it (by simp) _ st
  item := by
    intro X hP hw hK hc i pins s σ H E I hf st hg
    subst hP hw hK
    obtain ⟨f0, f1, f2, f3, f4, f5⟩ := hf it (by simp)
    have W := Walks.range (prog := X.prog) (w := X.w) (I.ok.hd hc) it lo 1 n
    refine W.item i s _ _ hg st fun v h' tk hv st' kk => ?_
    obtain ⟨t, rfl⟩ := hv
    have I1 : Inv X pins σ H { s with heap := h', toks := tk } := I.turned (fun b o hb e => kk b o (by simpa using hb) e) f0 f1 f3 f4 f5
    refine ⟨_, rfl, go_of (s := { s with heap := h', toks := tk }) (n := "range_iterator") st' rfl rfl (by decide) ⟨.int (lo + i), H, I1, ⟨t, ?_⟩, ⟨rfl, rfl⟩, st', fun b hb => (hf b hb).1⟩⟩
    rw [Int.mul_one]
  done := by
    intro X hP hw hK hc i pins s σ H E I hf st hg
    subst hP hw hK
    obtain ⟨f0, f1, f2, f3, f4, f5⟩ := hf it (by simp)
    exact wpAny_pyNext_range_end (I.ok.hd hc) st (by have : n ≤ i := hg; omega) fun h' eb => ⟨rfl, I.turned (t' := s.toks) (fun b o hb e => eb b o hb e) f0 f1 f3 f4 f5⟩
  self := fun _ _ _ _ _ st h => wpAny_pyIter_rangeiter st h
end L2
namespace L2
open PySem PySem.Spec PyProof.Rows
section
variable {X : Cx} {tg : Expr}
theorem range_it {pins : List (Addr × Obj)} {σ : St} {H : Hp} {s : Shared} {R : It → Hp → Prop} {E : Value → Shared → Prop} {lo hi : Int} {t u v : Tok} {tk : Nat} (I : Inv X pins σ H s) (h1 : -(2 ^ 62) ≤ lo) (h2 : lo < 2 ^ 62) (h3 : -(2 ^ 62) ≤ hi) (h4 : hi < 2 ^ 62)
    (q : R (Itr lo (hi - lo).toNat) H) : wpAny (model X.prog X.w) X.A (pyIter (.ref s.heap.objs.size)) (PIE X pins σ tg R) E { s with heap := s.heap.push { cls := .type "range", data := .fields #[.int lo t, .int hi u, .int 1 v] }, toks := tk } := by
  refine wpAny_pyIter_range (IsRange.new ..) (small_one h1 h2 h3 h4) ?_
  have I1 : Inv X pins σ H { s with heap := s.heap.push { cls := .type "range", data := .fields #[.int lo t, .int hi u, .int 1 v] }, toks := tk } := I.kept fun b o e => Heap.get?_push_of_some _ e
  refine ⟨(s.heap.push { cls := .type "range", data := .fields #[.int lo t, .int hi u, .int 1 v] }).objs.size, [(s.heap.push { cls := .type "range", data := .fields #[.int lo t, .int hi u, .int 1 v] }).objs.size], _, _, H, rfl,
    I1.kept (t' := tk) fun b o e => Heap.get?_push_of_some _ e, turn_range _ lo (hi - lo).toNat, ?_, fun b hb => ?_, q⟩
  · have e1 : lo + ((0 : Nat) : Int) * 1 = lo := by simp
    have e2 : (((hi - lo).toNat : Nat) : Int) - ((0 : Nat) : Int) = Builtin.Range.rangeSize lo hi 1 := by rw [rangeSize_one]; split <;> omega
    show IsRangeIter _ _ (lo + ((0 : Nat) : Int) * 1) ((((hi - lo).toNat : Nat) : Int) - ((0 : Nat) : Int)) 1
    rw [e1, e2]
    exact Heap.get?_push_size _ rfl
  · have e : b = (s.heap.push { cls := .type "range", data := .fields #[.int lo t, .int hi u, .int 1 v] }).objs.size := by simpa using hb
    subst e
    exact I1.fpOk (Nat.le_refl _) (I1.hok.fresh (Nat.le_refl _))
def iRng1 (ta : TA) : TI := fun σ H R => ta σ H fun vs H1 => ∃ j : Int, vs = [.int j] ∧ -(2 ^ 62) ≤ j ∧ j < 2 ^ 62 ∧ R (Itr 0 j.toNat) H1
theorem pi_range1 {a : Expr} {ta : TA} {p pos : Pos} (hg : Gl X "range") (hm : X.mg "range" = none) (ha : PA X [a] ta) (hs : starEach [a] X.env = [(false, eval a X.env)] := by rfl) : PI X tg (.Call (.Name "range" p) [a] [] pos) (iRng1 ta) := by
  intro pins s σ H R I h
  refine Call_ (ld_blt I hg hm boot_range (PyProof.Rows.callWith_type1 (thn (ha pos pins s σ H _ I h) fun us s1 ⟨vs, H1, I1, r1, q1⟩ => ?_) hs rfl))
  obtain ⟨j, e, q1, q2, q⟩ := q1
  subst e
  cases r1 with
  | cons r rr =>
    cases rr
    obtain ⟨t, rfl⟩ := r
    exact call_range_1 (range_it I1 (by omega) (by omega) q1 q2 (by simpa using q))
def tFor (wi : TI) (g : TG) (tb : TS) : TS := fun D σ H => wi σ H fun J H1 => ∃ W : Nat → Nat → St → Hp → Prop, (∃ m, W 0 m σ H1) ∧ ∀ i m σ H, W i m σ H →
  (J.stop i H ∧ D.nx σ H) ∨ (J.go i H ∧ ∃ N : St → Hp → Prop, (∀ σ' H', N σ' H' → ∃ m', m' < m ∧ W (i + 1) m' σ' H') ∧ ∀ x H', J.yld i H x H' → g x σ H' fun σ2 H2 => tb { D with nx := N, ct := N, bk := D.nx } σ2 H2)
def pinsAt (fp : List Addr) (h : Heap) : List (Addr × Obj) := fp.filterMap fun b => (h.get? b).map fun o => (b, o)
theorem mem_pinsAt {fp : List Addr} {h : Heap} {b : Addr} {o : Obj} (hb : b ∈ fp) (e : h.get? b = some o) : (b, o) ∈ pinsAt fp h := List.mem_filterMap.mpr ⟨b, hb, by rw [e]; rfl⟩
theorem of_pinsAt {fp : List Addr} {h : Heap} {p : Addr × Obj} (hp : p ∈ pinsAt fp h) : p.1 ∈ fp ∧ h.get? p.1 = some p.2 := by
  obtain ⟨b, hb, e⟩ := List.mem_filterMap.mp hp
  cases q : h.get? b with
  | none => rw [q] at e; cases e
  | some o =>
    rw [q] at e
    have e' : (b, o) = p := Option.some.inj e
    subst e'
    exact ⟨hb, q⟩
theorem Inv.pinned {pins : List (Addr × Obj)} {σ : St} {H : Hp} {s : Shared} {fp : List Addr} (I : Inv X pins σ H s) (hf : ∀ b ∈ fp, FpOk X pins H b) (ho : ∀ b ∈ fp, ∃ o, s.heap.get? b = some o ∧ ∀ v, o.data ≠ .cell v) : Inv X (pins ++ pinsAt fp s.heap) σ H s :=
  I.pins_of fun p hp => (List.mem_append.mp hp).elim (fun z => I.pin p (List.mem_append_right _ z)) fun z => by
    obtain ⟨hb, e⟩ := of_pinsAt z
    obtain ⟨f0, f1, f2, _⟩ := hf p.1 hb
    obtain ⟨o, e', d⟩ := ho p.1 hb
    rw [e] at e'; cases e'
    exact ⟨e, f0, f1, f2, d⟩
theorem Inv.unpinned {pins pl : List (Addr × Obj)} {σ : St} {H : Hp} {s : Shared} (I : Inv X (pins ++ pl) σ H s) : Inv X pins σ H s := I.pins_of fun p hp => I.pin p (List.mem_append_right _ (List.mem_append_left _ hp))
theorem ps_for {iter : Expr} {body : List Stmt} {wi : TI} {g : TG} {tb : TS} {pos : Pos} (hp : PassesOwn (model X.prog X.w) X.A X.env X.xe) (hc : X.calm = true) (hi : PI X tg iter wi) (hg : PG X tg g) (hb : PSs X body tb)
    (hs : ∀ x, foldedSetIterable iter X.env x = pure x := by intro _; rfl) : PS X (.For tg iter body [] pos) (tFor wi g tb) := by
  intro pins s σ H D I h
  refine wpAny_For (thn (hi pins s σ H _ I h) fun v s1 h1 => thn h1 fun itv s2 h2 => ?_) hs
  obtain ⟨it, fp, tn, J, H2, e, I2, T, st2, f2, W, ⟨m0, w0⟩, turn⟩ := h2
  subst e
  -- what stays true of the iterator's objects through the loop
  have stat : ∀ {H' : Hp}, (∀ b ∈ fp, H' b = none) → ∀ b ∈ fp, FpOk X pins H' b := fun hn b hb => ⟨hn b hb, (f2 b hb).2⟩
  refine codeAny_forLoop_any (fun n s' => ∃ i σ' H', Inv X pins σ' H' s' ∧ tn i s'.heap ∧ (∀ b ∈ fp, H' b = none) ∧ W i n σ' H') ?_ m0 ⟨0, σ, H2, I2, st2, fun b hb => (f2 b hb).1, w0⟩
  rintro n s3 ⟨i, σ3, H3, I3, st3, fr3, w3⟩
  rcases turn i n σ3 H3 w3 with ⟨stop, qn⟩ | ⟨go, N, hN, step⟩
  · refine wpAny_passesOwn hp (thn (T.done X rfl rfl rfl hc i pins s3 σ3 H3 X.xe I3 (stat fr3) st3 stop) fun r s4 ⟨hr, I4⟩ => ?_)
    subst hr
    exact wpAny_execs_nil ⟨σ3, H3, I4, qn⟩
  · refine wpAny_passesOwn hp (thn (T.item X rfl rfl rfl hc i pins s3 σ3 H3 X.xe I3 (stat fr3) st3 go) fun r s4 ⟨u, hr, h4⟩ => ?_)
    subst hr
    refine wpAny_passesOwn hp (thn h4 fun _ s5 ⟨x, H5, I5, r5, y5, st5, fr5⟩ => ?_)
    have I5' := I5.pinned (stat fr5) (T.obj _ _ st5)
    refine wpAny_passesOwn hp (thn (hg _ s5 σ3 H5 x u _ I5' r5 (step x H5 y5)) fun _ s6 ⟨σ6, H6, I6, q6⟩ => ?_)
    refine wpAny_passesOwn hp (thn (hb _ s6 σ6 H6 _ I6 q6) fun f s7 q7 => ?_)
    have again : ∀ {σ7 : St} {H7 : Hp}, Inv X (pins ++ pinsAt fp s5.heap) σ7 H7 s7 → N σ7 H7 → ∃ m, m < n ∧ ∃ i σ' H', Inv X pins σ' H' s7 ∧ tn i s7.heap ∧ (∀ b ∈ fp, H' b = none) ∧ W i m σ' H' := fun {σ7 H7} I7 n7 => by
      obtain ⟨m', hm, w7⟩ := hN σ7 H7 n7
      refine ⟨m', hm, i + 1, σ7, H7, I7.unpinned, T.keep _ _ _ st5 fun b hb o e => (I7.pin (b, o) (List.mem_append_right _ (List.mem_append_right _ (mem_pinsAt hb e)))).1, fun b hb => ?_, w7⟩
      obtain ⟨o, e, d⟩ := T.obj _ _ st5 b hb
      exact (I7.pin (b, o) (List.mem_append_right _ (List.mem_append_right _ (mem_pinsAt hb e)))).2.1
    cases f with
    | next => obtain ⟨σ7, H7, I7, n7⟩ := q7; exact again I7 n7
    | cont => obtain ⟨σ7, H7, I7, n7⟩ := q7; exact again I7 n7
    | brk => obtain ⟨σ7, H7, I7, q7⟩ := q7; exact ⟨σ7, H7, I7.unpinned, q7⟩
    | ret v => obtain ⟨x7, σ7, H7, I7, r7, q7⟩ := q7; exact ⟨x7, σ7, H7, I7.unpinned, r7, q7⟩
end
end L2
namespace L2
open PySem PySem.Spec PyProof.Rows
abbrev R2 := V → V → Hp → VK → Prop
def OpR (X : Cx) (f : Value → Value → Sem Value) (r : R2) : Prop :=
  ∀ (pins : List (Addr × Obj)) (s : Shared) (σ : St) (H : Hp) (x y : V) (v u : Value) (Q : VK), Inv X pins σ H s → RelV x v → RelV y u → r x y H Q →
    wpAny (model X.prog X.w) X.A (f v u) (EP X pins σ Q) X.xe s
def UnR (X : Cx) (f : Value → Sem Value) (r : V → Hp → VK → Prop) : Prop :=
  ∀ (pins : List (Addr × Obj)) (s : Shared) (σ : St) (H : Hp) (x : V) (v : Value) (Q : VK), Inv X pins σ H s → RelV x v → r x H Q →
    wpAny (model X.prog X.w) X.A (f v) (EP X pins σ Q) X.xe s
def CallR (X : Cx) (f : Value) (r : List V → Hp → VK → Prop) : Prop :=
  ∀ (pins : List (Addr × Obj)) (s : Shared) (σ : St) (H : Hp) (xs : List V) (us : List Value) (Q : VK), Inv X pins σ H s → Vals xs us → r xs H Q →
    wpAny (model X.prog X.w) X.A (call f us) (EP X pins σ Q) X.xe s
def tOp (r : R2) (ta tb : TE) : TE := fun σ H Q => ta σ H fun x H1 => tb σ H1 fun y H2 => r x y H2 Q
def tUn (r : V → Hp → VK → Prop) (ta : TE) : TE := fun σ H Q => ta σ H fun x H1 => r x H1 Q
def rI (C : Int → Int → Prop) (g : Int → Int → V) : R2 := fun x y H Q => ∃ i j, x = .int i ∧ y = .int j ∧ C i j ∧ Q (g i j) H
def rI0 (g : Int → Int → V) : R2 := fun x y H Q => ∃ i j, x = .int i ∧ y = .int j ∧ Q (g i j) H
def rU (g : Int → V) : V → Hp → VK → Prop := fun x H Q => ∃ i, x = .int i ∧ Q (g i) H
section
variable {X : Cx} {a b c : Expr} {ta tb tc : TE} {pos : Pos}
theorem binT (ha : PE X a ta) (hb : PE X b tb) {pins : List (Addr × Obj)} {s : Shared} {σ : St} {H : Hp} {R : V → V → Hp → Prop} (I : Inv X pins σ H s)
    (h : ta σ H fun x H1 => tb σ H1 fun y H2 => R x y H2) {Q : Value → Shared → Prop} {f : Value → Value → Sem Value}
    (hf : ∀ v u s2 x y H2, Inv X pins σ H2 s2 → RelV x v → RelV y u → R x y H2 → wpAny (model X.prog X.w) X.A (f v u) Q X.xe s2) :
    wpAny (model X.prog X.w) X.A (eval a X.env) (fun v s₁ => wpAny (model X.prog X.w) X.A (eval b X.env) (fun u s₂ => wpAny (model X.prog X.w) X.A (f v u) Q X.xe s₂) X.xe s₁) X.xe s := by
  refine thn (ha pins s σ H _ I h) fun v s1 ⟨x, H1, I1, r1, q1⟩ => ?_
  refine thn (hb pins s1 σ H1 _ I1 q1) fun u s2 ⟨y, H2, I2, r2, q2⟩ => ?_
  exact hf v u s2 x y H2 I2 r1 r2 q2
theorem pe_op {op : Operator} {r : R2} (ho : OpR X (binaryOp op) r) (ha : PE X a ta) (hb : PE X b tb) : PE X (.BinOp a op b pos) (tOp r ta tb) := by
  intro pins s σ H Q I h
  exact wpAny_BinOp (binT ha hb I h fun v u s2 x y H2 I2 rx ry q => ho pins s2 σ H2 x y v u Q I2 rx ry q)
theorem pe_un {op : UnaryOp} {r : V → Hp → VK → Prop} (ho : UnR X (unaryOp op) r) (ha : PE X a ta) : PE X (.UnaryOp op a pos) (tUn r ta) := by
  intro pins s σ H Q I h
  exact UnaryOp_ (thn (ha pins s σ H _ I h) fun v s1 ⟨x, H1, I1, r1, q1⟩ => ho pins s1 σ H1 x v Q I1 r1 q1)
theorem opI {f : Value → Value → Sem Value} {C : Int → Int → Prop} {g : Int → Int → Int}
    (rule : ∀ (i j : Int) (t u : Tok) (s : Shared) (Q : Value → Shared → Prop) (E : Value → Shared → Prop), C i j → Q (.int (g i j) s.toks) { s with toks := s.toks + 1 } → wpAny (model X.prog X.w) X.A (f (.int i t) (.int j u)) Q E s) :
    OpR X f (rI C fun i j => .int (g i j)) := by
  intro pins s σ H x y v u Q I rx ry h
  obtain ⟨i, j, rfl, rfl, hc, q⟩ := h
  obtain ⟨t, rfl⟩ := rx
  obtain ⟨t', rfl⟩ := ry
  exact rule i j t t' s _ _ hc ⟨.int (g i j), H, I.tok _, ⟨_, rfl⟩, q⟩
theorem opI0 {f : Value → Value → Sem Value} {g : Int → Int → Int}
    (rule : ∀ (i j : Int) (t u : Tok) (s : Shared) (Q : Value → Shared → Prop) (E : Value → Shared → Prop), Q (.int (g i j) s.toks) { s with toks := s.toks + 1 } → wpAny (model X.prog X.w) X.A (f (.int i t) (.int j u)) Q E s) :
    OpR X f (rI0 fun i j => .int (g i j)) := by
  intro pins s σ H x y v u Q I rx ry h
  obtain ⟨i, j, rfl, rfl, q⟩ := h
  obtain ⟨t, rfl⟩ := rx
  obtain ⟨t', rfl⟩ := ry
  exact rule i j t t' s _ _ ⟨.int (g i j), H, I.tok _, ⟨_, rfl⟩, q⟩
theorem opB0 {f : Value → Value → Sem Value} {g : Int → Int → Bool}
    (rule : ∀ (i j : Int) (t u : Tok) (s : Shared) (Q : Value → Shared → Prop) (E : Value → Shared → Prop), Q (.bool (g i j)) s → wpAny (model X.prog X.w) X.A (f (.int i t) (.int j u)) Q E s) :
    OpR X f (rI0 fun i j => .bl (g i j)) := by
  intro pins s σ H x y v u Q I rx ry h
  obtain ⟨i, j, rfl, rfl, q⟩ := h
  obtain ⟨t, rfl⟩ := rx
  obtain ⟨t', rfl⟩ := ry
  exact rule i j t t' s _ _ ⟨.bl (g i j), H, I, rfl, q⟩
def CDiv (i j : Int) : Prop := 0 < j ∧ j < 1073741824
def CPow (i j : Int) : Prop := 0 ≤ j ∧ j ≤ 1000000 ∧ i.natAbs < 2 ^ 64
def CMul (i j : Int) : Prop := (-(2 ^ 64) < i ∧ i < 2 ^ 64) ∨ (-(2 ^ 64) < j ∧ j < 2 ^ 64)
theorem CMul.ok {i j : Int} (h : CMul i j) : IntMulOk i j := by
  rcases h with ⟨h1, h2⟩ | ⟨h1, h2⟩
  · exact .of_left (intBits_le_64 h1 h2)
  · exact .of_right (intBits_le_64 h1 h2)
theorem op_add : OpR X (binaryOp .Add) (rI0 fun i j => .int (i + j)) := opI0 fun _ _ _ _ _ _ _ q => add_int q
theorem op_mul : OpR X (binaryOp .Mult) (rI CMul fun i j => .int (i * j)) := opI fun _ _ _ _ _ _ _ hc q => mul_int q hc.ok
theorem op_fdiv : OpR X (binaryOp .FloorDiv) (rI CDiv fun i j => .int (i / j)) := opI fun i j _ _ _ _ _ hc q => by
  have h1 : (0 : Int) < j := hc.1
  have h2 : j < 1073741824 := hc.2
  exact floordiv_int (by omega) (by rw [Int.fdiv_eq_ediv_of_nonneg i (by omega)]; exact q) (.inl (PyProof.noPylong_small (by omega)))
theorem op_mod : OpR X (binaryOp .Mod) (rI (fun _ j => 0 < j) fun i j => .int (i % j)) := opI fun i j _ _ _ _ _ hc q => by
  have h1 : (0 : Int) < j := hc
  exact mod_int' (by omega) (by rw [Int.fmod_eq_emod_of_nonneg i (by omega)]; exact q)
theorem unI {f : Value → Sem Value} {g : Int → Int}
    (rule : ∀ (i : Int) (t : Tok) (s : Shared) (Q : Value → Shared → Prop) (E : Value → Shared → Prop), Q (.int (g i) s.toks) { s with toks := s.toks + 1 } → wpAny (model X.prog X.w) X.A (f (.int i t)) Q E s) :
    UnR X f (rU fun i => .int (g i)) := by
  intro pins s σ H x v Q I rx h
  obtain ⟨i, rfl, q⟩ := h
  obtain ⟨t, rfl⟩ := rx
  exact rule i t s _ _ ⟨.int (g i), H, I.tok _, ⟨_, rfl⟩, q⟩
theorem un_neg : UnR X (unaryOp .USub) (rU fun i => .int (-i)) := unI fun _ _ _ _ _ q => neg_int q
end
def scal : V → V → Bool
  | .non, .non => true | .non, .int _ => true | .int _, .non => true | .non, .bl _ => true | .bl _, .non => true | .non, .str _ => true | .str _, .non => true
  | .int _, .int _ => true | .bl _, .bl _ => true | .str _, .str _ => true | .byt _, .byt _ => true
  | .int _, .str _ => true | .str _, .int _ => true | .bl _, .str _ => true | .str _, .bl _ => true
  | _, _ => false
def rEq : R2 := fun x y H Q => scal x y = true ∧ Q (.bl (decide (x = y))) H
def rNe : R2 := fun x y H Q => scal x y = true ∧ Q (.bl (!decide (x = y))) H
theorem dec_int {i j : Int} : decide (V.int i = V.int j) = (i == j) := by
  rw [Bool.eq_iff_iff]
  simp
theorem dec_bl {i j : Bool} : decide (V.bl i = V.bl j) = (i == j) := by
  rw [Bool.eq_iff_iff]
  simp
theorem dec_str {i j : Str} : decide (V.str i = V.str j) = (i == j) := by
  rw [Bool.eq_iff_iff]
  simp
theorem dec_byt {i j : Array UInt8} : decide (V.byt i = V.byt j) = (i.toList == j.toList) := by
  rw [Bool.eq_iff_iff]
  cases i
  cases j
  simp
section
variable {X : Cx} {a b c : Expr} {ta tb tc : TE} {pos : Pos}
theorem fin_bl {pins : List (Addr × Obj)} {σ : St} {H : Hp} {s : Shared} {Q : VK} {k k' : Bool} (I : Inv X pins σ H s) (q : Q (.bl k) H) (e : k = k') : EP X pins σ Q (.bool k') s := by
  subst e
  exact ⟨.bl k, H, I, rfl, q⟩
theorem op_eq : OpR X (compareOp .Eq) rEq := by
  intro pins s σ H x y v u Q I rx ry h
  obtain ⟨hs, q⟩ := h
  cases x with
  | non =>
    cases rx
    cases y with
    | non => cases ry; exact PySem.EqNone.eq_none_none (fin_bl I q (by simp))
    | bl j => cases ry; exact PySem.EqNone.eq_none_bool (fin_bl I q (by simp))
    | int j => obtain ⟨t', rfl⟩ := ry; exact PySem.EqNone.eq_none_int (fin_bl I q (by simp))
    | str j => obtain ⟨t', rfl⟩ := ry; exact PySem.EqNone.eq_none_str (fin_bl I q (by simp))
    | _ => exact absurd (show false = true from hs) Bool.false_ne_true
  | bl i =>
    cases rx
    cases y with
    | non => cases ry; exact PySem.EqNone.eq_bool_none (fin_bl I q (by simp))
    | bl j => cases ry; exact eq_bool (fin_bl I q dec_bl)
    | str j => obtain ⟨t', rfl⟩ := ry; exact PySem.EqMixed.eq_bool_str (fin_bl I q (by simp))
    | _ => exact absurd (show false = true from hs) Bool.false_ne_true
  | int i =>
    obtain ⟨t, rfl⟩ := rx
    cases y with
    | non => cases ry; exact PySem.EqNone.eq_int_none (fin_bl I q (by simp))
    | int j => obtain ⟨t', rfl⟩ := ry; exact eq_int (fin_bl I q dec_int)
    | str j => obtain ⟨t', rfl⟩ := ry; exact PySem.EqMixed.eq_int_str (fin_bl I q (by simp))
    | _ => exact absurd (show false = true from hs) Bool.false_ne_true
  | str i =>
    obtain ⟨t, rfl⟩ := rx
    cases y with
    | non => cases ry; exact PySem.EqNone.eq_str_none (fin_bl I q (by simp))
    | bl j => cases ry; exact PySem.EqMixed.eq_str_bool (fin_bl I q (by simp))
    | int j => obtain ⟨t', rfl⟩ := ry; exact PySem.EqMixed.eq_str_int (fin_bl I q (by simp))
    | str j => obtain ⟨t', rfl⟩ := ry; exact eq_str (fin_bl I q dec_str)
    | _ => exact absurd (show false = true from hs) Bool.false_ne_true
  | byt i =>
    obtain ⟨t, rfl⟩ := rx
    cases y with
    | byt j => obtain ⟨t', rfl⟩ := ry; exact PySem.W.eq_bytes (fin_bl I q dec_byt)
    | _ => exact absurd (show false = true from hs) Bool.false_ne_true
  | _ => cases y <;> exact absurd (show false = true from hs) Bool.false_ne_true
theorem op_ne : OpR X (compareOp .NotEq) rNe := by
  intro pins s σ H x y v u Q I rx ry h
  obtain ⟨hs, q⟩ := h
  cases x with
  | non =>
    cases rx
    cases y with
    | non => cases ry; exact PySem.EqNone.ne_none_none (fin_bl I q (by simp))
    | bl j => cases ry; exact PySem.EqNone.ne_none_bool (fin_bl I q (by simp))
    | int j => obtain ⟨t', rfl⟩ := ry; exact PySem.EqNone.ne_none_int (fin_bl I q (by simp))
    | str j => obtain ⟨t', rfl⟩ := ry; exact PySem.EqNone.ne_none_str (fin_bl I q (by simp))
    | _ => exact absurd (show false = true from hs) Bool.false_ne_true
  | bl i =>
    cases rx
    cases y with
    | non => cases ry; exact PySem.EqNone.ne_bool_none (fin_bl I q (by simp))
    | bl j => cases ry; exact ne_bool (fin_bl I q (congrArg not dec_bl))
    | str j => obtain ⟨t', rfl⟩ := ry; exact PySem.EqMixed.ne_bool_str (fin_bl I q (by simp))
    | _ => exact absurd (show false = true from hs) Bool.false_ne_true
  | int i =>
    obtain ⟨t, rfl⟩ := rx
    cases y with
    | non => cases ry; exact PySem.EqNone.ne_int_none (fin_bl I q (by simp))
    | int j => obtain ⟨t', rfl⟩ := ry; exact ne_int (fin_bl I q (congrArg not dec_int))
    | str j => obtain ⟨t', rfl⟩ := ry; exact PySem.EqMixed.ne_int_str (fin_bl I q (by simp))
    | _ => exact absurd (show false = true from hs) Bool.false_ne_true
  | str i =>
    obtain ⟨t, rfl⟩ := rx
    cases y with
    | non => cases ry; exact PySem.EqNone.ne_str_none (fin_bl I q (by simp))
    | bl j => cases ry; exact PySem.EqMixed.ne_str_bool (fin_bl I q (by simp))
    | int j => obtain ⟨t', rfl⟩ := ry; exact PySem.EqMixed.ne_str_int (fin_bl I q (by simp))
    | str j => obtain ⟨t', rfl⟩ := ry; exact ne_str (fin_bl I q (congrArg not dec_str))
    | _ => exact absurd (show false = true from hs) Bool.false_ne_true
  | byt i =>
    obtain ⟨t, rfl⟩ := rx
    cases y with
    | byt j => obtain ⟨t', rfl⟩ := ry; exact PySem.W.ne_bytes (fin_bl I q (congrArg not dec_byt))
    | _ => exact absurd (show false = true from hs) Bool.false_ne_true
  | _ => cases y <;> exact absurd (show false = true from hs) Bool.false_ne_true
theorem op_gt : OpR X (compareOp .Gt) (rI0 fun i j => .bl (decide (j < i))) := opB0 fun _ _ _ _ _ _ _ q => gt_int q
theorem op_in_str : OpR X (compareOp .In) (fun x y H Q => ∃ i j, x = .str i ∧ y = .str j ∧ Q (.bl (!(Builtin.Str.occurrences j i 0 j.length 1).isEmpty)) H) := by
  intro pins s σ H x y v u Q I rx ry h
  obtain ⟨i, j, rfl, rfl, q⟩ := h
  obtain ⟨t, rfl⟩ := rx
  obtain ⟨t', rfl⟩ := ry
  exact in_str (fin_bl I q rfl)
theorem op_isN : OpR X (compareOp .Is) (fun x y H Q => y = .non ∧ Q (.bl (decide (x = .non))) H) := by
  intro pins s σ H x y v u Q I rx ry h
  obtain ⟨rfl, q⟩ := h
  cases ry
  refine is_none_gen (fin_bl I q ?_)
  cases x <;> first
    | (cases rx; rfl)
    | (obtain ⟨t, rfl⟩ := rx; rfl)
theorem op_notN : OpR X (compareOp .IsNot) (fun x y H Q => y = .non ∧ Q (.bl (!decide (x = .non))) H) := by
  intro pins s σ H x y v u Q I rx ry h
  obtain ⟨rfl, q⟩ := h
  cases ry
  refine isnot_none_gen (fin_bl I q ?_)
  cases x <;> first
    | (cases rx; rfl)
    | (obtain ⟨t, rfl⟩ := rx; rfl)
theorem OpR.or {f : Value → Value → Sem Value} {r r' : R2} (h : OpR X f r) (h' : OpR X f r') : OpR X f (fun x y H Q => r x y H Q ∨ r' x y H Q) := by
  intro pins s σ H x y v u Q I rx ry q
  rcases q with q | q
  · exact h pins s σ H x y v u Q I rx ry q
  · exact h' pins s σ H x y v u Q I rx ry q
theorem nomark (b : Expr) {op : CmpOp} (h : op ≠ .In := by decide) (h2 : op ≠ .NotIn := by decide) : behindInMarks op b = false := by
  have e1 : (op == CmpOp.In) = false := by cases op <;> first | rfl | exact absurd rfl h
  have e2 : (op == CmpOp.NotIn) = false := by cases op <;> first | rfl | exact absurd rfl h2
  cases b <;> simp [behindInMarks, e1, e2]
theorem pe_cmpR {op : CmpOp} {r : R2} (ho : OpR X (compareOp op) r) (ha : PE X a ta) (hb : PE X b tb) (hm : behindInMarks op b = false) : PE X (.Compare a [op] [b] pos) (tOp r ta tb) := by
  intro pins s σ H Q I h
  exact wpAny_Compare1 (binT ha hb I h fun v u s2 x y H2 I2 rx ry q => ho pins s2 σ H2 x y v u Q I2 rx ry q) hm
def tTest (t : TE) : TT := fun σ H Q => t σ H fun x H' => ∃ k, x = .bl k ∧ Q k H'
theorem pt_cmpR {op : CmpOp} {r : R2} (ho : OpR X (compareOp op) r) (ha : PE X a ta) (hb : PE X b tb) (hm : behindInMarks op b = false) : PT X (.Compare a [op] [b] pos) (tTest (tOp r ta tb)) := by
  intro pins s σ H Q I h
  refine wpAny_isTrue_Compare1 (thn (ha pins s σ H _ I h) fun v s1 ⟨x, H1, I1, r1, q1⟩ => thn (hb pins s1 σ H1 _ I1 q1) fun u s2 ⟨y, H2, I2, r2, q2⟩ =>
    thn (ho pins s2 σ H2 x y v u _ I2 r1 r2 q2) fun c s3 ⟨z, H3, I3, r3, k, e, q3⟩ => ?_) hm
  subst e
  cases r3
  exact wpAny_truthy_bool ⟨H3, I3, q3⟩
theorem line63 : (sizeLine : Nat) < 2 ^ 63 := by rw [sizeLine_eq]; decide
theorem op_add_str : OpR X (binaryOp .Add) (fun x y H Q => ∃ i j, x = .str i ∧ y = .str j ∧ i.length + j.length ≤ sizeLine ∧ Q (.str (i ++ j)) H) := by
  intro pins s σ H x y v u Q I rx ry h
  obtain ⟨i, j, rfl, rfl, hz, q⟩ := h
  obtain ⟨t, rfl⟩ := rx
  obtain ⟨t', rfl⟩ := ry
  exact add_str (fun t' tk => ⟨.str (i ++ j), H, I.tok _, ⟨_, rfl⟩, q⟩) hz
theorem vals1 {x : V} {us : List Value} (r : Vals [x] us) : ∃ u, us = [u] ∧ RelV x u := by
  cases r with
  | cons r1 r2 => cases r2; exact ⟨_, rfl, r1⟩
theorem vals2 {x y : V} {us : List Value} (r : Vals [x, y] us) : ∃ u w', us = [u, w'] ∧ RelV x u ∧ RelV y w' := by
  cases r with
  | cons r1 r2 =>
    cases r2 with
    | cons r3 r4 => cases r4; exact ⟨_, _, rfl, r1, r3⟩
theorem call_max2 (hc : X.calm = true) : CallR X (.builtin "max") (fun xs H Q => ∃ i j, xs = [.int i, .int j] ∧ Q (.int (if j > i then j else i)) H) := by
  intro pins s σ H xs us Q I r h
  obtain ⟨i, j, rfl, q⟩ := h
  obtain ⟨u, w', rfl, ⟨t, rfl⟩, ⟨t', rfl⟩⟩ := vals2 r
  refine max_two_ints (I.ok.hd hc) fun h' tk k => ⟨_, H, I.kept k, ?_, q⟩
  by_cases hj : j > i
  · rw [if_pos hj, if_pos hj]; exact ⟨_, rfl⟩
  · rw [if_neg hj, if_neg hj]; exact ⟨_, rfl⟩
theorem call_int1 : CallR X (.type "int") (fun xs H Q => (∃ i, xs = [.int i] ∧ Q (.int i) H) ∨ ∃ k, xs = [.bl k] ∧ Q (.int (if k then 1 else 0)) H) := by
  intro pins s σ H xs us Q I r h
  rcases h with ⟨i, rfl, q⟩ | ⟨k, rfl, q⟩
  · obtain ⟨u, rfl, t, rfl⟩ := vals1 r
    exact call_int_int ⟨.int i, H, I, ⟨_, rfl⟩, q⟩
  · obtain ⟨u, rfl, r1⟩ := vals1 r
    cases r1
    exact call_int_bool ⟨.int (if k then 1 else 0), H, I.tok _, ⟨_, rfl⟩, q⟩
end
end L2
namespace L2
open PySem PySem.Spec PyProof.Rows
structure ObjM (h : Heap) (x dx C : Addr) (mA : Str → Option Value) : Prop where
  obj : h.get? x = some (PySem.W.instObj C dx)
  ns : h.Ns1 dx mA
  ne : dx ≠ x
theorem lookIn_ns {h : Heap} {dx : Addr} {mA : Str → Option Value} (n : h.Ns1 dx mA) : ∃ od, h.get? dx = some od ∧ ∀ name, PySem.W.lookIn name od = some (mA name) := by
  obtain ⟨o, es, ep, ho, hd, hk, _, hm⟩ := n
  refine ⟨o, ho, fun name => ?_⟩
  have e := hm name
  unfold nsFind findBy at e
  rw [← Array.find?_toList] at e
  unfold PySem.W.lookIn
  rw [hd]
  dsimp only
  split
  · rename_i y q
    rw [q] at e
    exact congrArg some e
  · rename_i q
    rw [q] at e
    have a : es.toList.any (·.refKey) = false := by
      rw [List.any_eq_false]
      intro y hy
      obtain ⟨z, t, hkey⟩ := hk y (Array.mem_toList_iff.mp hy)
      simp [DictEntry.refKey, hkey]
    have a' : ¬ es.toList.any (·.refKey) = true := by rw [a]; exact Bool.false_ne_true
    rw [if_neg a']
    exact congrArg some e
theorem ObjM.look {h : Heap} {x dx C : Addr} {mA : Str → Option Value} (I : ObjM h x dx C mA) : ∃ od, PySem.W.InstAt h x (PySem.W.instObj C dx) C (some od) ∧ ∀ name, PySem.W.lookIn name od = some (mA name) :=
  let ⟨od, ho, hl⟩ := lookIn_ns I.ns
  ⟨od, ⟨I.obj, rfl, rfl, ho⟩, hl⟩
section
variable {prog : Program} {w : World} {A : Around} {E : Value → Shared → Prop} {s : Shared} {K : PySem.W.Frag} {x dx C f : Addr} {mA : Str → Option Value} {name : Str} {v : Value}
end
theorem RelO.some_of {v : V} {o : Option Value} (r : RelO (some v) o) : ∃ u, o = some u ∧ RelV v u := by
  cases o with
  | none => exact (show False from r).elim
  | some u => exact ⟨u, rfl, r⟩
theorem RelO.none_of {o : Option Value} (r : RelO none o) : o = none := by
  cases o with
  | none => rfl
  | some u => exact (show False from r).elim
theorem handed_of {v : V} {u : Value} (r : RelV v u) : PySem.W.handedIn u = true := by
  cases v with
  | non => cases (show u = Value.none from r); rfl
  | bl b => cases (show u = Value.bool b from r); rfl
  | int i => obtain ⟨t, e⟩ := (show ∃ t, u = Value.int i t from r); cases e; rfl
  | str x => obtain ⟨t, e⟩ := (show ∃ t, u = Value.str x t from r); cases e; rfl
  | byt b => obtain ⟨t, e⟩ := (show ∃ t, u = Value.bytes b t from r); cases e; rfl
  | flt b => obtain ⟨t, e⟩ := (show ∃ t, u = Value.float b t from r); cases e; rfl
  | ref a => cases (show u = Value.ref a from r); rfl
  | ty n => cases (show u = Value.type n from r); rfl
section
variable {P : Program} {w : World} {H H' : Hp} {h h' : Heap} {a C dx : Addr} {fs fs' : List (Str × V)}
theorem ins_get (hok : HOk P w H h) (e : H a = some (.ins C dx fs)) : ∃ mA, ObjM h a dx C mA ∧ (∀ f, RelO (fs.lookup f) (mA f)) ∧ PySem.Within mA (fs.map (·.1)) ∧ fs.length ≤ 1000 ∧ H dx = some (.own a) := by
  obtain ⟨d, z, ne, ob, mA, n, r, q⟩ := (show ObjOk P w H h a (.ins C dx fs) from hok a _ e)
  exact ⟨mA, ⟨ob, n, ne⟩, r, q, z, d⟩
end
structure Cls (K : PySem.W.Frag) (C : Addr) : Prop where
  pg : PySem.W.plainGet K C Str.empty = true
  hd : PySem.W.hasDictIn K C = true
  po : PySem.W.plainOver K C = true
  sa : PySem.W.findIn K (.ref C) "__setattr__" = some (some (.builtin "object.__setattr__"))
theorem Cls.get {K : PySem.W.Frag} {C : Addr} (c : Cls K C) (f : Str) : PySem.W.plainGet K C f = true := c.pg
section
variable {X : Cx} {pins : List (Addr × Obj)} {σ : St} {H : Hp} {s : Shared} {a C dx : Addr} {fs : List (Str × V)} {f : Str} {v : V} {A : Around} {E : Value → Shared → Prop}
theorem attr_of {prog : Program} {w : World} {env : Env} {e : Expr} {f : Str} {pos : Pos} {s : Shared} {Q : Value → Shared → Prop} (hb : attributeBase e f env (eval e env) = eval e env)
    (h : wpAny (model prog w) A (eval e env) (fun o s₁ => wpAny (model prog w) A (getAttr o f true) Q E s₁) E s) : wpAny (model prog w) A (eval (.Attribute e f pos) env) Q E s :=
  Attribute_any_ h (by rw [arm_eval_Attribute, hb])
end
section
variable {X : Cx} {o e value : Expr} {f : Str} {pos pos' tpos : Pos} {ta tv : TE}
end
section
variable {X : Cx} {pins : List (Addr × Obj)} {σ : St} {H : Hp} {s : Shared} {A : Around} {E : Value → Shared → Prop} {Q : Value → Shared → Prop} {c : Value} {b : Bool}
inductive TyOf (K : PySem.W.Frag) (H : Hp) : V → Value → Prop where
  | non : TyOf K H .non (.type "NoneType")
  | bl (x : Bool) : TyOf K H (.bl x) (.type "bool")
  | int (i : Int) : TyOf K H (.int i) (.type "int")
  | str (x : Str) : TyOf K H (.str x) (.type "str")
  | flt (x : UInt64) : TyOf K H (.flt x) (.type "float")
  | lst {a : Addr} {xs : List V} (e : H a = some (.lst xs)) : TyOf K H (.ref a) (.type "list")
  | frz {a : Addr} {o : Obj} {xs : List V} (e : H a = some (.frz o (.lst xs))) : TyOf K H (.ref a) (.type "list")
  | tup {a : Addr} {xs : List V} (e : H a = some (.tup xs)) : TyOf K H (.ref a) (.type "tuple")
  | dK {a : Addr} {kvs : List (Key × V)} (e : H a = some (.dK kvs)) : TyOf K H (.ref a) (.type "dict")
  | dT {a : Addr} {kvs : List (List Key × V)} (e : H a = some (.dT kvs)) : TyOf K H (.ref a) (.type "dict")
  | ins {a C dx : Addr} {fs : List (Str × V)} (e : H a = some (.ins C dx fs)) (cl : Cls K C) (ha : PySem.W.findIn K (.ref C) "__class__" = some (some (.builtin "object.__class__")))
      (hn : PySem.W.specialIn K (.builtin "object.__class__") "__get__" = some (some (.builtin "getset_descriptor.__get__"))) (htk : PySem.W.takesIn K (.builtin "object.__class__") = some true)
      (hm : PySem.W.mroIn K C (.type "object") = some true) : TyOf K H (.ref a) (.ref C)
theorem isinst_ok {x : V} {u t : Value} (I : Inv X pins σ H s) (rx : RelV x u) (ty : TyOf X.K H x t) (e : PySem.W.kitOne X.K t c = some b) (h : ∀ tk, Q (.bool b) { s with toks := tk }) :
    wpAny (model X.prog X.w) A (call (.builtin "isinstance") [u, c]) Q E s := by
  cases ty with
  | non => cases (show u = Value.none from rx); exact PySem.W.kia_one PySem.W.kitx_none I.kIn True.intro e (fun z => nomatch z) h
  | bl y => cases (show u = Value.bool y from rx); exact PySem.W.kia_one PySem.W.kitx_bool I.kIn True.intro e (fun z => nomatch z) h
  | int i => obtain ⟨t, q⟩ := (show ∃ t, u = Value.int i t from rx); cases q; exact PySem.W.kia_one PySem.W.kitx_int I.kIn True.intro e (fun z => nomatch z) h
  | str y => obtain ⟨t, q⟩ := (show ∃ t, u = Value.str y t from rx); cases q; exact PySem.W.kia_one PySem.W.kitx_str I.kIn True.intro e (fun z => nomatch z) h
  | flt y => obtain ⟨t, q⟩ := (show ∃ t, u = Value.float y t from rx); cases q; exact PySem.W.kia_one PySem.W.kitx_float I.kIn True.intro e (fun z => nomatch z) h
  | @lst a xs ea =>
    cases (show u = Value.ref a from rx)
    obtain ⟨_, _, n, _, h1⟩ := (show ObjOk X.prog X.w H s.heap a (.lst xs) from I.hok a _ ea)
    exact PySem.W.kia_one PySem.W.kitx_list I.kIn ⟨_, h1, rfl⟩ e (fun z => nomatch z) h
  | @frz a ob xs ea =>
    cases (show u = Value.ref a from rx)
    obtain ⟨_, _, _, n, _, h1⟩ := (show ObjOk X.prog X.w H s.heap a (.frz ob (.lst xs)) from I.hok a _ ea)
    exact PySem.W.kia_one PySem.W.kitx_list I.kIn ⟨_, h1, rfl⟩ e (fun z => nomatch z) h
  | @tup a xs ea =>
    cases (show u = Value.ref a from rx)
    obtain ⟨_, _, _, p⟩ := (show ObjOk X.prog X.w H s.heap a (.tup xs) from I.hok a _ ea)
    obtain ⟨o, h1, h2, _⟩ := p
    exact PySem.W.kia_one PySem.W.kitx_tuple I.kIn ⟨o, h1, h2⟩ e (fun z => nomatch z) h
  | @dK a kvs ea =>
    cases (show u = Value.ref a from rx)
    obtain ⟨_, _, vs, _, p⟩ := (show ObjOk X.prog X.w H s.heap a (.dK kvs) from I.hok a _ ea)
    obtain ⟨o, es, ep, h1, h2, _⟩ := p
    exact PySem.W.kia_one PySem.W.kitx_dict I.kIn ⟨o, h1, h2.1⟩ e (fun z => nomatch z) h
  | @dT a kvs ea =>
    cases (show u = Value.ref a from rx)
    obtain ⟨_, _, xs, _, o, es, ep, h1, h2, _⟩ := (show ObjOk X.prog X.w H s.heap a (.dT kvs) from I.hok a _ ea)
    exact PySem.W.kia_one PySem.W.kitx_dict I.kIn ⟨o, h1, h2.1⟩ e (fun z => nomatch z) h
  | @ins a C dx fs ea cl ha hn htk hm =>
    cases (show u = Value.ref a from rx)
    obtain ⟨mA, O, _⟩ := ins_get I.hok ea
    obtain ⟨od, J, _⟩ := O.look
    exact PySem.W.kia_one (PySem.W.kitx_own (cl.get _) cl.hd ha hn htk hm) I.kIn J e (fun z => nomatch z) h
end
end L2
namespace L2
open PySem PySem.Spec PyProof.Rows
structure Room (k : Nat) (A : Around) : Prop where
  hd : A.handled = none
  dp : A.depth + 3 * k + 5 < recursionLimit
  un : A.units + 16 * k + 200 < cLine
theorem Room.mono {j k : Nat} {A : Around} (r : Room k A) (h : j ≤ k) : Room j A := ⟨r.hd, by have := r.dp; omega, by have := r.un; omega⟩
theorem Room.deeper {k : Nat} {A : Around} (r : Room (k + 1) A) (env : Env) : Room k (A.deeper env) :=
  ⟨r.hd, by have := r.dp; show A.depth + 1 + 3 * k + 5 < _; omega, by have := r.un; show A.units + 3 + 16 * k + 200 < _; omega⟩
theorem make_depth {A : Around} {C : Addr} {us : List Value} {kw : List (Str × Value)} : (A.under (.builtin "type.__call__" ⟨.ref C :: us, kw⟩)).depth = A.depth + 1 := by
  first | rfl | simp [Around.under, Code.weight, Code.isCreation, Code.isGuard, Code.isCaller, Code.frames, Code.isFrame, guardIds]
theorem make_units {A : Around} {C : Addr} {us : List Value} {kw : List (Str × Value)} : (A.under (.builtin "type.__call__" ⟨.ref C :: us, kw⟩)).units = A.units + 1 := by
  first | rfl | simp [Around.under, Code.cUnits, Code.frames, Code.isFrame]
theorem Room.make {k : Nat} {A : Around} (r : Room (k + 1) A) (C : Addr) (us : List Value) (kw : List (Str × Value)) : Room k (A.under (.builtin "type.__call__" ⟨.ref C :: us, kw⟩)) :=
  ⟨r.hd, by have := r.dp; rw [make_depth]; omega, by have := r.un; rw [make_units]; omega⟩
theorem Room.depth {k : Nat} {A : Around} (r : Room k A) : A.depth < recursionLimit := by have := r.dp; omega
def tNil : TA := fun _ H Q => Q [] H
def tCons (ta : TE) (tr : TA) : TA := fun σ H Q => ta σ H fun x H1 => tr σ H1 fun xs H2 => Q (x :: xs) H2
section
variable {X : Cx} {e : Expr} {es : List Expr} {te : TE} {t : TA} {pos : Pos}
theorem pa_nil : PA X [] tNil := fun _ _ _ _ H Q I h => Calls.spliced_nil ⟨[], H, I, .nil, h⟩
theorem pa_cons (ha : PE X e te) (hr : PA X es t) (hs : starEach (e :: es) X.env = (false, eval e X.env) :: starEach es X.env := by rfl) : PA X (e :: es) (tCons te t) := by
  intro pos pins s σ H Q I h
  rw [hs]
  show wpAny _ _ (spliced ((false, eval e X.env) :: backTo pos (starEach es X.env))) _ _ s
  refine Calls.spliced_cons (thn (ha pins s σ H _ I h) fun u s1 ⟨x, H1, I1, r1, q1⟩ => ?_)
  exact thn (hr pos pins s1 σ H1 _ I1 q1) fun us s2 ⟨xs, H2, I2, r2, q2⟩ => ⟨x :: xs, H2, I2, .cons r1 r2, q2⟩
def tTup (t : TA) : TE := fun σ H Q => t σ H fun xs H1 => xs.length ≤ sizeLine ∧ ∀ p, H1 p = none → Q (.ref p) (upd H1 p (.tup xs))
def tLst (t : TA) : TE := fun σ H Q => t σ H fun xs H1 => xs.length ≤ sizeLine ∧ ∀ p, H1 p = none → Q (.ref p) (upd H1 p (.lst xs))
theorem pe_tup {x1} (h : PA X es t) : PE X (.Tuple es x1 pos) (tTup t) := by
  intro pins s σ H Q I hq
  refine wpAny_Tuple_spliced (thn (h pos pins s σ H _ I hq) fun us s1 ⟨xs, H1, I1, r, z, q⟩ => ⟨by rw [← r.length]; exact z, ?_⟩)
  have hf : H1 s1.heap.objs.size = none := I1.hok.fresh (Nat.le_refl _)
  refine ⟨.ref s1.heap.objs.size, upd H1 s1.heap.objs.size (.tup xs), I1.laid (t' := s1.toks) (fun b u e => Heap.get?_push_of_some _ e) (Nat.le_refl _) ?_, rfl, q _ hf⟩
  exact ⟨z, us, r, ⟨_, Heap.get?_push_size _ rfl, rfl, _, rfl⟩⟩
theorem pe_lst (h : PA X es t) : PE X (.List es pos) (tLst t) := by
  intro pins s σ H Q I hq
  refine wpAny_List_spliced (thn (h pos pins s σ H _ I hq) fun us s1 ⟨xs, H1, I1, r, z, q⟩ => ⟨by rw [← r.length]; exact z, ?_⟩)
  have hf : H1 s1.heap.objs.size = none := I1.hok.fresh (Nat.le_refl _)
  refine ⟨.ref s1.heap.objs.size, upd H1 s1.heap.objs.size (.lst xs), I1.laid (t' := s1.toks) (fun b u e => Heap.get?_push_of_some _ e) (Nat.le_refl _) ?_, rfl, q _ hf⟩
  exact ⟨z, us, 0, r, Heap.get?_push_size _ rfl⟩
end
abbrev Sp := List V → Hp → VK → XK → Prop
abbrev CXT := List Env → Hp → Shared → XK → Value → Shared → Prop
structure Env0 (P : Program) (w : World) (K : PySem.W.Frag) (mg : Str → Option Value) (base : Heap) (A : Around) (outer : List Env) (s : Shared) (H : Hp) : Prop where
  frames : A.frames = some outer
  mod : Mod K mg base
  bs : ∀ b o, base.get? b = some o → s.heap.get? b = some o ∧ H b = none
  bsz : base.objs.size ≤ s.heap.objs.size
  funs : s.heap.FunFrames base outer
  frf : ∀ b ∈ frs outer, H b = none
  hok : HOk P w H s.heap
  bare : AllBare s.gens
def CE (outer : List Env) (P : Program) (w : World) (H : Hp) (s : Shared) (Q : VK) (u : Value) (s' : Shared) : Prop :=
  ∃ v H', s'.os = s.os ∧ AllBare s'.gens ∧ Un (frs outer) [] H H' s.heap s'.heap ∧ HOk P w H' s'.heap ∧ RelV v u ∧ Q v H'
def CR (CX : CXT) (outer : List Env) (P : Program) (w : World) (H : Hp) (s : Shared) (Q : VK) (E : XK) (r : Result) (s' : Shared) : Prop :=
  match r with
  | .ok (.ret u) => CE outer P w H s Q u s'
  | .ok _ => False
  | .error e => CX outer H s E e s'
structure FnOk (P : Program) (w : World) (K : PySem.W.Frag) (mg : Str → Option Value) (base : Heap) (CX : CXT) (k : Nat) (f : Addr) (fd : FuncData) (ps : List Str) (sp : Sp) : Prop where
  len : ∀ vs H Q E, sp vs H Q E → vs.length = ps.length
  run : ∀ (A : Around) (outer : List Env) (s : Shared) (H : Hp) (args : Args) (us : List Value) (vs : List V) (Q : VK) (E : XK), Room k A → Env0 P w K mg base A outer s H → BindsTo s fd args (ps.zip us) → Vals vs us → sp vs H Q E →
    codeAny (model P w) A (.call (.ref f) args) (CR CX outer P w H s Q E) s
theorem FnOk.imp {P : Program} {w : World} {K : PySem.W.Frag} {mg : Str → Option Value} {base : Heap} {CX : CXT} {k : Nat} {f : Addr} {fd : FuncData} {ps : List Str} {sp sp' : Sp} (F : FnOk P w K mg base CX k f fd ps sp)
    (h : ∀ vs H Q E, sp' vs H Q E → sp vs H Q E) : FnOk P w K mg base CX k f fd ps sp' :=
  ⟨fun vs H Q E q => F.len vs H Q E (h _ _ _ _ q), fun A outer s H args us vs Q E hr he hb hv hs => F.run A outer s H args us vs Q E hr he hb hv (h _ _ _ _ hs)⟩
theorem Env0.make {P : Program} {w : World} {K : PySem.W.Frag} {mg : Str → Option Value} {base : Heap} {A : Around} {outer : List Env} {s : Shared} {H : Hp} (e : Env0 P w K mg base A outer s H) (C : Addr) (us : List Value) (kw : List (Str × Value)) :
    Env0 P w K mg base (A.under (.builtin "type.__call__" ⟨.ref C :: us, kw⟩)) outer s H := ⟨by first | exact e.frames | (simpa [Around.under, Code.envs, Code.isFrame, pushEnvs] using e.frames), e.mod, e.bs, e.bsz, e.funs, e.frf, e.hok, e.bare⟩
section
variable {X : Cx} {pins : List (Addr × Obj)} {σ : St} {H : Hp} {s s' : Shared}
theorem Inv.env0 (I : Inv X pins σ H s) : Env0 X.prog X.w X.K X.mg X.base X.A X.stack s H :=
  ⟨I.ok.frames, I.ok.mod, I.bs, Nat.le_trans I.ok.bsz I.sz, I.stack, I.stkFree, I.hok, I.bare⟩
theorem Inv.after {Q : VK} {u : Value} (I : Inv X pins σ H s) (h : CE X.stack X.prog X.w H s Q u s') : EP X pins σ Q u s' := by
  obtain ⟨v, H', os, bare, un, hok, r, q⟩ := h
  obtain ⟨hh, g, d, t, os'⟩ := s'
  obtain rfl : os' = s.os := os
  exact ⟨v, H', I.call (h' := hh) (g' := g) (d' := d) (t' := t) (ch := []) un hok bare (fun b z => absurd z (by simp)), r, q⟩
end
def tCall (sp : Sp) (dvs : List V) (E : XK) (t : TA) : TE := fun σ H Q => t σ H fun vs H1 => sp (vs ++ dvs) H1 Q E
def Binds (K : PySem.W.Frag) (fd : FuncData) (ps : List Str) (ds : List Value) : Prop :=
  ∀ (s : Shared) (us : List Value), K.In s.heap → (us ++ ds).length = ps.length → BindsTo s fd ⟨us, []⟩ (ps.zip (us ++ ds))
theorem Binds.all {K : PySem.W.Frag} {fd : FuncData} {ps : List Str} (h : ∀ us : List Value, us.length = ps.length → bindArgs fd ⟨us, []⟩ = pure (ps.zip us)) : Binds K fd ps [] := fun s us _ hl => by
  rw [List.append_nil] at hl ⊢
  exact .of_eq (h us hl)
def Passes (CX : CXT) (X : Cx) (E : XK) : Prop := ∀ (pins : List (Addr × Obj)) (σ : St) (H : Hp) (s : Shared) (e : Value) (s' : Shared), Inv X pins σ H s → CX X.stack H s E e s' → X.xe e s'
section
variable {X : Cx} {CX : CXT} {k : Nat} {f C : Addr} {fd : FuncData} {ps : List Str} {sp : Sp} {dvs : List V} {ds : List Value} {E : XK} {x m : Str} {p pos apos : Pos} {e o : Expr} {es : List Expr} {ta : TE} {t : TA}
theorem run_fn {pins : List (Addr × Obj)} {σ : St} {H : Hp} {s : Shared} {Q : VK} {us : List Value} {vs : List V} (F : FnOk X.prog X.w X.K X.mg X.base CX k f fd ps sp) (hr : Room k X.A) (hb : Binds X.K fd ps ds) (hd : Vals dvs ds) (hx : Passes CX X E)
    (I : Inv X pins σ H s) (r : Vals vs us) (h : sp (vs ++ dvs) H Q E) : wpAny (model X.prog X.w) X.A (call (.ref f) us) (EP X pins σ Q) X.xe s := by
  have r2 : Vals (vs ++ dvs) (us ++ ds) := r.append hd
  have hl : (us ++ ds).length = ps.length := by rw [← r2.length]; exact F.len _ _ _ _ h
  refine wpAny_call (codeAny_mono (F.run X.A X.stack s H ⟨us, []⟩ (us ++ ds) (vs ++ dvs) Q E hr I.env0 (hb s us I.kIn hl) r2 h) fun r s' hq => ?_)
  cases r with
  | error e => exact hx pins σ H s e s' I hq
  | ok fl =>
    cases fl with
    | ret u => exact I.after hq
    | next => exact False.elim hq
    | brk => exact False.elim hq
    | cont => exact False.elim hq
theorem pe_call (F : FnOk X.prog X.w X.K X.mg X.base CX k f fd ps sp) (hr : Room k X.A) (hg : Gl X x) (hm : X.mg x = some (.ref f)) (hk : PySem.W.keepIn X.K (.ref f) = true) (hb : Binds X.K fd ps ds) (hd : Vals dvs ds) (hx : Passes CX X E)
    (ha : PA X (e :: es) t) (hdb : (x == ("__debug__" : Str)) = false := by decide) (he : starEach (e :: es) X.env = (false, eval e X.env) :: starEach es X.env := by rfl) (hpl : (backTo pos (starEach es X.env)).any (·.1) = false := by rfl) :
    PE X (.Call (.Name x p) (e :: es) [] pos) (tCall sp dvs E t) := by
  intro pins s σ H Q I h
  refine wpAny_Call_Name_kw (ld_glob I hg hm ?_ hdb)
  refine PySem.W.callWith_K (h₀ := X.base) I.ok.mod.kin hk (thn (ha pos pins s σ H _ I h) fun us s1 ⟨vs, H1, I1, r, q⟩ => ⟨I1.kIn, ?_⟩) he hpl
  exact run_fn F hr hb hd hx I1 r q
end
section
variable {X : Cx} {CX : CXT} {k : Nat} {f C : Addr} {fd : FuncData} {ps ks : List Str} {sp : Sp} {E : XK} {x m : Str} {p pos apos kpos : Pos} {e o : Expr} {es : List Expr} {kws : List Keyword} {te ta : TE} {t tk : TA} {nm : Option Str}
variable {g : List Value → List Value → List Value} {gV : List V → List V → List V}
end
structure FnScope (N P : List Str) (sc : Scope) : Prop where
  kind : sc.kind = .function
  co : sc.isCoroutine = false
  gen : sc.isGenerator = false
  nd : N.Nodup
  pre : N.take P.length = P
  par : ∀ x ∈ P, sc.names.lookup x = some .local ∨ sc.names.lookup x = some .cell
  nofree : ∀ y ∈ sc.names, y.2 ≠ .free
theorem bindL_out {kindOf : Str → Option NameKind} {x : Str} : ∀ {binds : List (Str × Value)} {m : Str → Option Value}, (∀ v, (x, v) ∉ binds) → bindL kindOf binds m x = m x
  | [], _, _ => rfl
  | (n, v) :: r, m, h => by
    unfold bindL
    rw [bindL_out fun w hw => h w (List.mem_cons_of_mem _ hw)]
    split
    · have : x ≠ n := by rintro rfl; exact h v List.mem_cons_self
      simp [this]
    · rfl
theorem bindC_out {kindOf : Str → Option NameKind} {x : Str} : ∀ {binds : List (Str × Value)} {m : Str → Option Value}, (∀ v, (x, v) ∉ binds) → bindC kindOf binds m x = m x
  | [], _, _ => rfl
  | (n, v) :: r, m, h => by
    unfold bindC
    rw [bindC_out fun w hw => h w (List.mem_cons_of_mem _ hw)]
    split
    · rfl
    · have : x ≠ n := by rintro rfl; exact h v List.mem_cons_self
      simp [this]
theorem bindL_get {kindOf : Str → Option NameKind} {x : Str} {v : Value} : ∀ {P : List Str} {vs : List Value} {i : Nat} {m : Str → Option Value}, P.Nodup → P[i]? = some x → vs[i]? = some v → kindOf x = some .local →
    bindL kindOf (P.zip vs) m x = some v
  | [], _, _, _, _, h, _, _ => by simp at h
  | _ :: _, [], _, _, _, _, h, _ => by simp at h
  | p :: P, w :: vs, 0, m, nd, h1, h2, hk => by
    simp at h1 h2; subst h1; subst h2
    show bindL kindOf ((p, w) :: P.zip vs) m p = _
    unfold bindL
    rw [bindL_out fun v hv => (List.nodup_cons.mp nd).1 (List.of_mem_zip hv).1, if_pos hk]
    simp
  | p :: P, w :: vs, i + 1, m, nd, h1, h2, hk => by
    show bindL kindOf ((p, w) :: P.zip vs) m x = _
    unfold bindL
    exact bindL_get (i := i) (List.nodup_cons.mp nd).2 (by simpa using h1) (by simpa using h2) hk
theorem bindC_get {kindOf : Str → Option NameKind} {x : Str} {v : Value} : ∀ {P : List Str} {vs : List Value} {i : Nat} {m : Str → Option Value}, P.Nodup → P[i]? = some x → vs[i]? = some v → kindOf x ≠ some .local →
    bindC kindOf (P.zip vs) m x = some v
  | [], _, _, _, _, h, _, _ => by simp at h
  | _ :: _, [], _, _, _, _, h, _ => by simp at h
  | p :: P, w :: vs, 0, m, nd, h1, h2, hk => by
    simp at h1 h2; subst h1; subst h2
    show bindC kindOf ((p, w) :: P.zip vs) m p = _
    unfold bindC
    rw [bindC_out fun v hv => (List.nodup_cons.mp nd).1 (List.of_mem_zip hv).1, if_neg hk]
    simp
  | p :: P, w :: vs, i + 1, m, nd, h1, h2, hk => by
    show bindC kindOf ((p, w) :: P.zip vs) m x = _
    unfold bindC
    exact bindC_get (i := i) (List.nodup_cons.mp nd).2 (by simpa using h1) (by simpa using h2) hk
def start (N : List Str) (vs : List V) : St := vs.map some ++ List.replicate (N.length - vs.length) none
def cxOf (CX : CXT) (P : Program) (w : World) (K : PySem.W.Frag) (mg : Str → Option Value) (base : Heap) (N : List Str) (qual : Str) (scope : Scope) (f : Addr) (cd : Value) (A : Around) (outer : List Env) (s : Shared) (H : Hp) (E : XK) : Cx where
  prog := P
  w := w
  K := K
  mg := mg
  base := base
  A := A.deeper (envOfC qual scope s.heap.objs.size f cd)
  N := N
  s₀ := s
  H₀ := H
  env := envOfC qual scope s.heap.objs.size f cd
  outer := outer
  stack := envOfC qual scope s.heap.objs.size f cd :: outer
  ex := []
  calm := true
  fn := fun _ => true
  pn := []
  xe := fun e s' => wpAny (model P w) (A.deeper (envOfC qual scope s.heap.objs.size f cd)) (leaving (envOfC qual scope s.heap.objs.size f cd) e) (fun _ s'' => CX outer H s E e s'') (fun e' s'' => CX outer H s E e' s'') s'
theorem cell_has {sc : Scope} {n : Nat} {x : Str} (h : sc.names.lookup x = some .cell) : ∃ c, (cellsFrom n sc.names []).lookup x = some c := by
  have q := PySem.W.cellsFrom_some sc.names n [] (.inl h)
  exact Option.isSome_iff_exists.mp q
theorem inv_start {CX : CXT} {P : Program} {w : World} {K : PySem.W.Frag} {mg : Str → Option Value} {base : Heap} {N ps : List Str} {qual : Str} {scope : Scope} {f : Addr} {cd : Value} {A : Around} {outer : List Env} {s s1 : Shared} {H : Hp} {E : XK} {us : List Value} {vs : List V}
    (S : FnScope N ps scope) (hd : A.handled = none) (e0 : Env0 P w K mg base A outer s H) (hl : vs.length = ps.length) (r : Vals vs us)
    (x : InCallC s s.heap.objs.size (bindL (envOfC qual scope s.heap.objs.size f cd).kindOf (ps.zip us) fun _ => none) (cellsFrom (s.heap.objs.size + 1) scope.names []) (bindC (envOfC qual scope s.heap.objs.size f cd).kindOf (ps.zip us) fun _ => none) s1) :
    Inv (cxOf CX P w K mg base N qual scope f cd A outer s H E) [] (start N vs) H s1 := by
  have hpl : ps.length ≤ N.length := by have := congrArg List.length S.pre; rw [List.length_take] at this; omega
  obtain ⟨h1, tk, rfl, hk⟩ := x.done
  have noA : ∀ b : Addr, b ∉ (cxOf CX P w K mg base N qual scope f cd A outer s H E).ex := fun b z => absurd (show b ∈ ([] : List Addr) from z) (by simp)
  refine ⟨⟨e0.mod, S.kind, rfl, rfl, Nat.le_refl _, fun y z c h1 h2 => ?_, fun y hy => ?_, fun y c _ h => ?_, fun _ => hd, Around.frames_deeper e0.frames, .inr ⟨rfl, rfl⟩, fun b z => absurd z (noA b), e0.bs, e0.bsz, fun b _ _ => noA b, fun b z => absurd z (noA b), e0.funs, e0.frf⟩,
    rfl, e0.bare, Un.kept hk, ⟨_, x.toInCall.ns, fun i y v h1 h2 h3 => ?_⟩, fun y c h => ⟨_, x.cell y c h⟩, e0.hok.fresh (Nat.le_refl _), fun y c h => ?_, fun p hp => absurd (show p ∈ ([] : List (Addr × Obj)) from hp) (by simp), e0.hok.kept hk, ?_⟩
  · exact name_of_addr x.apart (PySem.mem_of_lookup h1) (PySem.mem_of_lookup h2)
  · have hy : scope.names.lookup y = some .cell ∨ scope.names.lookup y = some .free := hy
    rcases hy with hy | hy
    · exact cell_has hy
    · exact absurd rfl (S.nofree _ (PySem.mem_of_lookup hy))
  · exact Nat.le_of_lt (x.above y c (PySem.mem_of_lookup h))
  · have hi : i < vs.length := by
      unfold start at h2
      by_cases hi : i < vs.length
      · exact hi
      · rw [List.getElem?_append_right (by simpa using hi)] at h2
        rw [List.getElem?_replicate] at h2
        split at h2 <;> cases h2
    have ha : vs[i]? = some v := by
      unfold start at h2
      rw [List.getElem?_append_left (by simpa using hi), List.getElem?_map] at h2
      cases e : vs[i]? with
      | none => rw [e] at h2; cases h2
      | some a => rw [e] at h2; cases h2; rfl
    obtain ⟨u, hu, rv⟩ := r.get ha
    have hp : ps[i]? = some y := by
      rw [← S.pre, List.getElem?_take_of_lt (by omega)]; exact h1
    have ndP : ps.Nodup := by rw [← S.pre]; exact S.nd.sublist (List.take_sublist _ _)
    refine ⟨u, rv, ?_⟩
    rcases S.par y (List.mem_of_getElem? hp) with k | k
    · exact .inl ⟨k, bindL_get ndP hp hu k⟩
    · obtain ⟨c, e⟩ := cell_has (n := s.heap.objs.size + 1) k
      refine .inr ⟨.inl k, c, e, ?_⟩
      have q := x.cell y c e
      rw [bindC_get ndP hp hu (by show scope.names.lookup y ≠ _; rw [k]; decide)] at q
      exact q
  · exact e0.hok.fresh (Nat.le_of_lt (x.above y c (PySem.mem_of_lookup h)))
  · unfold start
    show _ = N.length
    rw [List.length_append, List.length_map, List.length_replicate]
    omega
theorem fn_of {CX : CXT} {P : Program} {w : World} {K : PySem.W.Frag} {mg : Str → Option Value} {base : Heap} {k : Nat} {f : Addr} {name qual : Str} {params : Arguments} {body : List Stmt} {scope : Scope} {dV kV doc pm cdv ct oc : Value} {an od : Option Addr}
    {osl : Array (Option Value)} {N ps : List Str} {sp : Sp} (lk : K.lookup f = some ⟨oc, od, .func (PySem.W.fnOf name qual params body scope dV kV doc pm an cdv ct), osl⟩) (hcd : PySem.W.codeIn K cdv qual = true) (S : FnScope N ps scope)
    (len : ∀ vs H Q E, sp vs H Q E → vs.length = ps.length)
    (hbody : ∀ (A : Around) (outer : List Env) (s : Shared) (H : Hp) (vs : List V) (Q : VK) (E : XK), Room k (A.deeper (envOfC qual scope s.heap.objs.size f cdv)) → sp vs H Q E →
      ∃ t, PSs (cxOf CX P w K mg base N qual scope f cdv A outer s H E) body t ∧ t { nx := fun _ H' => Q .non H', rt := Q } (start N vs) H) :
    FnOk P w K mg base CX (k + 1) f (PySem.W.fnOf name qual params body scope dV kV doc pm an cdv ct) ps sp := by
  refine ⟨len, fun A outer s H args us vs Q E hr e0 hb r hsp => ?_⟩
  have hl := len _ _ _ _ hsp
  have KX : K.In s.heap := e0.mod.kin.keeps fun b o e => (e0.bs b o e).1
  have lim : s.heap.NoLimit := e0.mod.nolimit.keeps fun b o e => (e0.bs b o e).1
  have hkind : ∀ y ∈ ps.zip us, scope.names.lookup y.1 = some .local ∨ (scope.names.lookup y.1 = some .cell ∧ ((cellsFrom (s.heap.objs.size + 1) scope.names []).lookup y.1).isSome = true) := fun ⟨n, v⟩ hy => by
    rcases S.par n (List.of_mem_zip hy).1 with q | q
    · exact .inl q
    · exact .inr ⟨q, PySem.W.cellsFrom_some _ _ _ (.inl q)⟩
  refine codeAny_call_function hr.depth (KX _ _ lk) rfl S.co S.gen rfl (PySem.W.codeRec_of KX hcd) (hb _ _ _ _ ?_)
  refine wpAny_newFunctionEnv_cells S.kind hkind fun env he s1 x => ?_
  subst he
  refine ⟨lim.keeps x.toInCall.keep, codeAny_func ?_⟩
  obtain ⟨t, ht, hq⟩ := hbody A outer s H vs Q E (hr.deeper _) hsp
  have I : Inv (cxOf CX P w K mg base N qual scope f cdv A outer s H E) [] (start N vs) H s1 := inv_start S hr.hd e0 hl r x
  refine wpAny_mono (ht [] s1 (start N vs) H _ I hq) (fun fl s' hs => ?_) fun e s' hs => hs
  have fin : ∀ {σ' : St} {H' : Hp} {v : V} {u : Value}, Inv (cxOf CX P w K mg base N qual scope f cdv A outer s H E) [] σ' H' s' → RelV v u → Q v H' → CE outer P w H s Q u s' :=
    fun {σ' H' v u} J rv q => ⟨v, H', J.os, J.bare, J.base, J.hok, rv, q⟩
  cases fl with
  | ret u =>
    obtain ⟨v, σ', H', J, rv, q⟩ := hs
    exact fin J rv q
  | next =>
    obtain ⟨σ', H', J, q⟩ := hs
    exact fin (v := V.non) (u := Value.none) J rfl q
  | brk =>
    obtain ⟨_, _, _, q⟩ := hs
    exact False.elim q
  | cont =>
    obtain ⟨_, _, _, q⟩ := hs
    exact False.elim q
end L2
namespace L2
open PySem PySem.Spec PyProof.Rows
section
variable {X : Cx} {x : Str} {p pos : Pos} {e : Expr} {es : List Expr} {t : TA} {id T : String} {r : List V → Hp → VK → Prop}
def tCB (r : List V → Hp → VK → Prop) (t : TA) : TE := fun σ H Q => t σ H fun vs H1 => r vs H1 Q
theorem pe_callB (hc : CallR X (.builtin id) r) (hg : Gl X x) (hm : X.mg x = none) (hv : bootBuiltins x = some (.builtin id)) (ha : PA X (e :: es) t) (hn : x ≠ "__name__" := by decide) (hdb : (x == ("__debug__" : Str)) = false := by decide)
    (he : starEach (e :: es) X.env = (false, eval e X.env) :: starEach es X.env := by rfl) (hpl : (backTo pos (starEach es X.env)).any (·.1) = false := by rfl) : PE X (.Call (.Name x p) (e :: es) [] pos) (tCB r t) := by
  intro pins s σ H Q I h
  refine wpAny_Call_Name_kw (ld_blt I hg hm hv ?_ hn hdb)
  exact PyProof.Rows.callWith_builtin1 (thn (ha pos pins s σ H _ I h) fun us s1 ⟨vs, H1, I1, r1, q1⟩ => hc pins s1 σ H1 vs us Q I1 r1 q1) he hpl
theorem pe_callTy (hc : CallR X (.type T) r) (hg : Gl X x) (hm : X.mg x = none) (hv : bootBuiltins x = some (.type T)) (ha : PA X (e :: es) t) (hn : x ≠ "__name__" := by decide) (hdb : (x == ("__debug__" : Str)) = false := by decide)
    (he : starEach (e :: es) X.env = (false, eval e X.env) :: starEach es X.env := by rfl) (hpl : (backTo pos (starEach es X.env)).any (·.1) = false := by rfl) : PE X (.Call (.Name x p) (e :: es) [] pos) (tCB r t) := by
  intro pins s σ H Q I h
  refine wpAny_Call_Name_kw (ld_blt I hg hm hv ?_ hn hdb)
  exact PyProof.Rows.callWith_type1 (thn (ha pos pins s σ H _ I h) fun us s1 ⟨vs, H1, I1, r1, q1⟩ => hc pins s1 σ H1 vs us Q I1 r1 q1) he hpl
end
end L2
namespace HT
open PySem PyProof.Rows
section
open PySem.SeqAt
open PySem.AutoSeq1 (wpAny_loadPart')
open PySem.MeetsSeq PySem.MeetsSeq2 PySem.MeetsSeq3
end
section
variable {prog : Program} {w : World} {A : Around} {E : Value → Shared → Prop} {s : Shared}
theorem cat_tup {t b : Addr} {vs ws : List Value} {Q : Value → Shared → Prop} (ht : IsTup s.heap t vs.toArray) (hb : IsTup s.heap b ws.toArray) (hv : vs ≠ [])
    (h1 : ws = [] → Q (.ref t) s) (h2 : ws ≠ [] → Q (.ref s.heap.objs.size) { s with heap := s.heap.push { cls := .type "tuple", data := .seq (vs ++ ws).toArray } })
    (hsz : vs.length + ws.length ≤ sizeLine) : wpAny (model prog w) A (binaryOp .Add (.ref t) (.ref b)) Q E s := by
  obtain ⟨⟨cls, dd, data, sl⟩, ho, hc, n, hd⟩ := id ht
  obtain ⟨⟨cls2, dd2, data2, sl2⟩, ho2, hc2, n2, hd2⟩ := id hb
  simp only at hc hd hc2 hd2
  subst hc hd hc2 hd2
  have e : vs.toArray ++ ws.toArray = (vs ++ ws).toArray := by simp
  by_cases hw : ws = []
  · exact concat_meets ⟨_, ho, rfl⟩ ⟨_, ho2, rfl⟩ noFill_tuple_add seq_tuple_add PySem.F.slot_tuple_add PySem.F.entry_tuple_add (PySem.F.args_tuple_add_2 _ _)
      (tuple_addW1 t b vs.toArray ws.toArray n n2 dd dd2 sl sl2 (by simpa using hv) (by simp [hw])) ⟨ho, ho2, h1 hw⟩
  · refine concat_meets ⟨_, ho, rfl⟩ ⟨_, ho2, rfl⟩ noFill_tuple_add seq_tuple_add PySem.F.slot_tuple_add PySem.F.entry_tuple_add (PySem.F.args_tuple_add_2 _ _)
      (tuple_addW2 t b vs.toArray ws.toArray n n2 dd dd2 sl sl2 (by simpa using hv) (by simpa using hw) (by rw [List.size_toArray, List.size_toArray]; exact hsz)) ⟨ho, ho2, ?_⟩
    rw [e]
    exact h2 hw
end
end HT
namespace L2
open PySem PySem.Spec PyProof.Rows
abbrev TO := St → Hp → (Option Int → Hp → Prop) → Prop
section
variable {X : Cx} {e : Expr} {te : TE} {lo hi : Option Expr} {tl th : TO} {pos p2 : Pos}
def rCatT (K : PySem.W.Frag) : R2 := fun x y H Q => ∃ a b xs ys, x = .ref a ∧ y = .ref b ∧ SqT K H a xs ∧ SqT K H b ys ∧ xs ≠ [] ∧ xs.length + ys.length ≤ sizeLine ∧
  (ys = [] → Q (.ref a) H) ∧ (ys ≠ [] → ∀ p, H p = none → Q (.ref p) (upd H p (.tup (xs ++ ys))))
theorem Vals.nil_iff {xs : List V} {us : List Value} (r : Vals xs us) : us = [] ↔ xs = [] := by
  cases r with
  | nil => simp
  | cons _ _ => simp
theorem op_catT : OpR X (binaryOp .Add) (rCatT X.K) := by
  intro pins s σ H x y v u Q I rx ry h
  obtain ⟨a, b, xs, ys, rfl, rfl, ha, hb, hx, hz, q1, q2⟩ := h
  cases rx
  cases ry
  obtain ⟨its, r1, p1, _⟩ := I.tuple ha
  obtain ⟨its2, r2, p2, _⟩ := I.tuple hb
  refine HT.cat_tup p1 p2 (fun z => hx (r1.nil_iff.mp z)) (fun z => ⟨.ref a, H, I, rfl, q1 (r2.nil_iff.mp z)⟩) (fun z => ?_) (by rw [← r1.length, ← r2.length]; exact hz)
  refine ⟨.ref s.heap.objs.size, _, I.laid (t' := s.toks) (o := .tup (xs ++ ys)) (fun b ob q => Heap.get?_push_of_some _ q) (Nat.le_refl _) ?_, rfl, q2 (fun w => z (r2.nil_iff.mpr w)) _ (I.hok.fresh (Nat.le_refl _))⟩
  exact ⟨by rw [List.length_append]; exact hz, _, r1.append r2, IsTup.new _ _⟩
end
end L2
namespace L2
open PySem PySem.Spec PyProof.Rows
def ixN (n : Nat) (i : Int) : Option Nat := if 0 ≤ i then (if i < n then some i.toNat else none) else if -(n : Int) ≤ i then some (i + n).toNat else none
def atI {α : Type} (xs : List α) (i : Int) : Option α := (ixN xs.length i).bind fun j => xs[j]?
theorem ixN_seq {n : Nat} {i : Int} {j : Nat} (h : ixN n i = some j) : seqIndex? i n = some j ∧ j < n ∧ -(n : Int) ≤ i ∧ i < n := by
  unfold ixN at h
  by_cases h0 : 0 ≤ i
  · rw [if_pos h0] at h
    by_cases h1 : i < n
    · rw [if_pos h1] at h
      have e : i.toNat = j := Option.some.inj h
      exact ⟨by rw [seqIndex_of h0 h1, e], by omega, by omega, h1⟩
    · rw [if_neg h1] at h; cases h
  · rw [if_neg h0] at h
    by_cases h1 : -(n : Int) ≤ i
    · rw [if_pos h1] at h
      have e : (i + n).toNat = j := Option.some.inj h
      exact ⟨by rw [seqIndex_neg (by omega) h1, e], by omega, h1, by omega⟩
    · rw [if_neg h1] at h; cases h
theorem atI_get {α : Type} {xs : List α} {i : Int} {v : α} (h : atI xs i = some v) : ∃ j, seqIndex? i xs.length = some j ∧ xs[j]? = some v ∧ j < xs.length ∧ -(xs.length : Int) ≤ i ∧ i < xs.length := by
  unfold atI at h
  cases e : ixN xs.length i with
  | none => rw [e] at h; cases h
  | some j =>
    rw [e] at h
    obtain ⟨h1, h2, h3, h4⟩ := ixN_seq e
    exact ⟨j, h1, h, h2, h3, h4⟩
theorem atI_nat {α : Type} {xs : List α} {j : Nat} {v : α} (h : xs[j]? = some v) : atI xs (j : Int) = some v := by
  have hj : j < xs.length := (List.getElem?_eq_some_iff.mp h).1
  have e : ixN xs.length (j : Int) = some j := by
    unfold ixN
    rw [if_pos (by omega), if_pos (by omega)]; simp
  unfold atI; rw [e]; exact h
def PlainIx (b : Expr) : Prop := ∀ o i, subscripted b false o i = operate [o, i] (getItem o i)
def IxR (X : Cx) (r : R2) : Prop :=
  ∀ (value slice : Expr) (pins : List (Addr × Obj)) (s : Shared) (σ : St) (H : Hp) (x y : V) (v u : Value) (Q : VK), Inv X pins σ H s → RelV x v → RelV y u → r x y H Q →
    subscripted slice false v u = operate [v, u] (getItem v u) → wpAny (model X.prog X.w) X.A (subscriptTail value slice v u) (EP X pins σ Q) X.xe s
def MtR (X : Cx) (id : String) (r : V → List V → Hp → VK → Prop) : Prop :=
  ∀ (pins : List (Addr × Obj)) (s : Shared) (σ : St) (H : Hp) (x : V) (xs : List V) (v : Value) (us : List Value) (Q : VK), Inv X pins σ H s → RelV x v → Vals xs us → r x xs H Q →
    wpAny (model X.prog X.w) X.A (call (.builtin id) (v :: us)) (EP X pins σ Q) X.xe s
section
variable {X : Cx} {a b : Expr} {ta tb : TE} {pos : Pos}
theorem IxR.or {r r' : R2} (h : IxR X r) (h' : IxR X r') : IxR X (fun x y H Q => r x y H Q ∨ r' x y H Q) := by
  intro value slice pins s σ H x y v u Q I rx ry q hs
  rcases q with q | q
  · exact h value slice pins s σ H x y v u Q I rx ry q hs
  · exact h' value slice pins s σ H x y v u Q I rx ry q hs
theorem pe_ix {r : R2} (hr : IxR X r) (ha : PE X a ta) (hb : PE X b tb) (hs : PlainIx b) : PE X (.Subscript a b pos) (tOp r ta tb) := by
  intro pins s σ H Q I h
  exact Subscript_ (binT ha hb I h fun v u s2 x y H2 I2 rx ry q => hr a b pins s2 σ H2 x y v u Q I2 rx ry q (hs _ _))
def rIxL (K : PySem.W.Frag) : R2 := fun x y H Q => ∃ p xs i v, x = .ref p ∧ y = .int i ∧ SqL K H p xs ∧ atI xs i = some v ∧ Q v H
def rIxT (K : PySem.W.Frag) : R2 := fun x y H Q => ∃ p xs i v, x = .ref p ∧ y = .int i ∧ SqT K H p xs ∧ atI xs i = some v ∧ Q v H
def rIxS : R2 := fun x y H Q => ∃ z i c, x = .str z ∧ y = .int i ∧ z.length ≤ sizeLine ∧ atI z.cps.toList i = some c ∧ Q (.str ⟨#[c]⟩) H
theorem ix_list : IxR X (rIxL X.K) := by
  intro value slice pins s σ H x y v u Q I rx ry h hs
  obtain ⟨p, xs, i, z, rfl, rfl, hq, he, q⟩ := h
  cases rx
  obtain ⟨t, rfl⟩ := ry
  obtain ⟨its, r, pl, hz⟩ := I.list hq
  obtain ⟨j, h1, h2, h3, h4, h5⟩ := atI_get he
  obtain ⟨w, ew, rw'⟩ := r.get h2
  have hl := r.length
  have hn := line63
  have fin : EP X pins σ Q w s := ⟨z, H, I, rw', q⟩
  by_cases h0 : 0 ≤ i
  · have hj : i.toNat = j := by
      rw [seqIndex_of h0 h5] at h1
      exact Option.some.inj h1
    exact item_listR pl.isList h0 (by omega) (by rw [hj]; simpa using ew) fin hs
  · have hj : (i + (its.toArray.size : Int)).toNat = j := by
      rw [seqIndex_neg (by omega) h4] at h1
      rw [List.size_toArray, ← hl]
      exact Option.some.inj h1
    exact subscriptTail_builtinR (x := w) pl.isList.typeIs slot_list_getitem.lookup
      (wpAny_getItem_list_neg (Q := fun r s' => r = w ∧ EP X pins σ Q r s') pl.isList (by omega) (by rw [List.size_toArray] <;> omega) (by omega) (by rw [hj]; simpa using ew) ⟨rfl, fin⟩) hs
theorem ix_tup : IxR X (rIxT X.K) := by
  intro value slice pins s σ H x y v u Q I rx ry h hs
  obtain ⟨p, xs, i, z, rfl, rfl, hq, he, q⟩ := h
  cases rx
  obtain ⟨t, rfl⟩ := ry
  obtain ⟨its, r, pl, hz⟩ := I.tuple hq
  obtain ⟨j, h1, h2, h3, h4, h5⟩ := atI_get he
  obtain ⟨w, ew, rw'⟩ := r.get h2
  have hl := r.length
  have hn := line63
  have fin : EP X pins σ Q w s := ⟨z, H, I, rw', q⟩
  exact subscriptTail_builtinR (x := w) pl.typeIs slot_tuple_getitem.lookup
    (getItem_tuple (j := j) (Q := fun r s' => r = w ∧ EP X pins σ Q r s') pl (by omega) (by omega) (by rw [List.size_toArray, ← hl]; exact h1) (by simpa using ew) ⟨rfl, fin⟩) hs
theorem ix_str : IxR X rIxS := by
  intro value slice pins s σ H x y v u Q I rx ry h hs
  obtain ⟨z, i, c, rfl, rfl, hz, he, q⟩ := h
  obtain ⟨t, rfl⟩ := rx
  obtain ⟨t', rfl⟩ := ry
  obtain ⟨j, h1, h2, h3, h4, h5⟩ := atI_get he
  have hl : z.cps.toList.length = z.length := by simp [Str.length]
  rw [hl] at h1 h4 h5
  have hn := line63
  exact tail_any (typeIs_str s z t) slot_str_getitem.lookup (getItem_str (c := c) (by
    have e1 : decide (i < -(2 ^ 63 : Int)) = false := decide_eq_false (by omega)
    have e2 : decide (i ≥ 2 ^ 63) = false := decide_eq_false (by omega)
    rw [e1, e2, Bool.or_false]) (by rw [h1]; simpa using h2) ⟨.str ⟨#[c]⟩, H, I.tok _, ⟨_, rfl⟩, q⟩) hs
def rIx (K : PySem.W.Frag) : R2 := fun x y H Q => rIxL K x y H Q ∨ rIxT K x y H Q ∨ rIxS x y H Q
theorem ix_seq : IxR X (rIx X.K) := ix_list.or (ix_tup.or ix_str)
def flatV : V → Bool
  | .non => true
  | .bl _ => true
  | .int _ => true
  | .str _ => true
  | _ => false
def eqV : V → V → Bool
  | .non, .non => true
  | .bl a, .bl b => a == b
  | .bl a, .int b => (if a then 1 else 0) == b
  | .int a, .bl b => a == (if b then 1 else 0)
  | .int a, .int b => a == b
  | .str a, .str b => a == b
  | _, _ => false
theorem eqAt_V {A : Around} {s : Shared} {y x : V} {u v : Value} (ry : RelV y u) (rx : RelV x v) (fy : flatV y = true) (fx : flatV x = true) : SeqAt.EqAt A s u v (eqV y x) := by
  cases y with
  | non =>
    cases ry
    cases x with
    | non => cases rx; exact SeqAt.EqAt.same _
    | bl b => cases rx; exact SeqAt.EqAt.none_bool b
    | int b => obtain ⟨t, rfl⟩ := rx; exact SeqAt.EqAt.none_int b t
    | str b => obtain ⟨t, rfl⟩ := rx; exact SeqAt.EqAt.none_str b t
    | _ => exact absurd (show false = true from fx) Bool.false_ne_true
  | bl a =>
    cases ry
    cases x with
    | non => cases rx; exact SeqAt.EqAt.bool_none a
    | bl b => cases rx; exact SeqAt.EqAt.bool_bool a b
    | int b => obtain ⟨t, rfl⟩ := rx; exact SeqAt.EqAt.bool_int a b t
    | str b => obtain ⟨t, rfl⟩ := rx; exact SeqAt.EqAt.bool_str a b t
    | _ => exact absurd (show false = true from fx) Bool.false_ne_true
  | int a =>
    obtain ⟨t', rfl⟩ := ry
    cases x with
    | non => cases rx; exact SeqAt.EqAt.int_none a t'
    | bl b => cases rx; exact SeqAt.EqAt.int_bool a t' b
    | int b => obtain ⟨t, rfl⟩ := rx; exact SeqAt.EqAt.int_int a t' b t
    | str b => obtain ⟨t, rfl⟩ := rx; exact SeqAt.EqAt.int_str a t' b t
    | _ => exact absurd (show false = true from fx) Bool.false_ne_true
  | str a =>
    obtain ⟨t', rfl⟩ := ry
    cases x with
    | non => cases rx; exact SeqAt.EqAt.str_none a t'
    | bl b => cases rx; exact SeqAt.EqAt.str_bool a t' b
    | int b => obtain ⟨t, rfl⟩ := rx; exact SeqAt.EqAt.str_int a t' b t
    | str b => obtain ⟨t, rfl⟩ := rx; exact SeqAt.EqAt.str_str a t' b t
    | _ => exact absurd (show false = true from fx) Bool.false_ne_true
  | _ => exact absurd (show false = true from fy) Bool.false_ne_true
def eqU (x : V) (u : Value) : Bool := match u with
  | .none => eqV .non x
  | .bool b => eqV (.bl b) x
  | .int i _ => eqV (.int i) x
  | .str z _ => eqV (.str z) x
  | _ => false
theorem eqU_of {x y : V} {u : Value} (r : RelV y u) (f : flatV y = true) : eqU x u = eqV y x := by
  cases y with
  | non => cases r; rfl
  | bl b => cases r; rfl
  | int i => obtain ⟨t, rfl⟩ := r; rfl
  | str z => obtain ⟨t, rfl⟩ := r; rfl
  | _ => exact absurd (show false = true from f) Bool.false_ne_true
theorem any_eqU {x : V} : ∀ {xs : List V} {us : List Value}, Vals xs us → xs.all flatV = true → us.any (eqU x) = xs.any fun y => eqV y x
  | _, _, .nil, _ => rfl
  | y :: xs, u :: us, .cons r t, f => by
    rw [List.all_cons, Bool.and_eq_true] at f
    rw [List.any_cons, List.any_cons, eqU_of r f.1, any_eqU t f.2]
theorem mem_eqAt {A : Around} {s : Shared} {x : V} {v : Value} (rx : RelV x v) (fx : flatV x = true) : ∀ {xs : List V} {us : List Value}, Vals xs us → xs.all flatV = true → ∀ u ∈ us, SeqAt.EqAt A s u v (eqU x u)
  | _, _, .nil, _ => fun u hu => by cases hu
  | y :: xs, u :: us, .cons r t, f => fun u' hu => by
    rw [List.all_cons, Bool.and_eq_true] at f
    rcases List.mem_cons.mp hu with rfl | hu
    · rw [eqU_of r f.1]; exact eqAt_V r rx f.1 fx
    · exact mem_eqAt rx fx t f.2 u' hu
def inV (x : V) (xs : List V) : Bool := xs.any fun y => eqV y x
def rIn (K : PySem.W.Frag) (neg : Bool) : R2 := fun x y H Q => ∃ p xs, y = .ref p ∧ (SqL K H p xs ∨ SqT K H p xs) ∧ flatV x = true ∧ xs.all flatV = true ∧ Q (.bl (if neg then !inV x xs else inV x xs)) H
theorem op_in_seq : OpR X (compareOp .In) (rIn X.K false) := by
  intro pins s σ H x y v u Q I rx ry h
  obtain ⟨p, xs, rfl, hq, fx, fs, q⟩ := h
  cases ry
  rcases hq with hq | hq
  · obtain ⟨its, r, pl, hz⟩ := I.list hq
    refine SeqAt.in_listAt (eqU x) pl.isList (fun w hw => mem_eqAt rx fx r fs w (by simpa using hw)) ⟨.bl _, H, I, rfl, ?_⟩
    rw [show its.toArray.any (eqU x) = its.any (eqU x) by simp, any_eqU r fs]
    exact q
  · obtain ⟨its, r, pl, hz⟩ := I.tuple hq
    refine SeqAt.in_tupleAt (eqU x) pl (fun w hw => mem_eqAt rx fx r fs w (by simpa using hw)) ⟨.bl _, H, I, rfl, ?_⟩
    rw [show its.toArray.any (eqU x) = its.any (eqU x) by simp, any_eqU r fs]
    exact q
theorem op_notIn_seq : OpR X (compareOp .NotIn) (rIn X.K true) := by
  intro pins s σ H x y v u Q I rx ry h
  obtain ⟨p, xs, rfl, hq, fx, fs, q⟩ := h
  cases ry
  rcases hq with hq | hq
  · obtain ⟨its, r, pl, hz⟩ := I.list hq
    refine SeqAt.notIn_listAt (eqU x) pl.isList (fun w hw => mem_eqAt rx fx r fs w (by simpa using hw)) ⟨.bl _, H, I, rfl, ?_⟩
    rw [show its.toArray.any (eqU x) = its.any (eqU x) by simp, any_eqU r fs]
    exact q
  · obtain ⟨its, r, pl, hz⟩ := I.tuple hq
    refine SeqAt.notIn_tupleAt (eqU x) pl (fun w hw => mem_eqAt rx fx r fs w (by simpa using hw)) ⟨.bl _, H, I, rfl, ?_⟩
    rw [show its.toArray.any (eqU x) = its.any (eqU x) by simp, any_eqU r fs]
    exact q
theorem op_notIn_str : OpR X (compareOp .NotIn) (fun x y H Q => ∃ i j, x = .str i ∧ y = .str j ∧ Q (.bl (!(!(Builtin.Str.occurrences j i 0 j.length 1).isEmpty))) H) := by
  intro pins s σ H x y v u Q I rx ry h
  obtain ⟨i, j, rfl, rfl, q⟩ := h
  obtain ⟨t, rfl⟩ := rx
  obtain ⟨t', rfl⟩ := ry
  exact notIn_str ⟨.bl _, H, I, rfl, q⟩
theorem call_len_seq : CallR X (.builtin "len") (fun xs H Q => ∃ p ys, xs = [.ref p] ∧ (SqL X.K H p ys ∨ SqT X.K H p ys) ∧ Q (.int ys.length) H) := by
  intro pins s σ H xs us Q I r h
  obtain ⟨p, ys, rfl, hq, q⟩ := h
  obtain ⟨u, rfl, rx⟩ := vals1 r
  cases rx
  have hn := line63
  rcases hq with hq | hq
  · obtain ⟨its, r', pl, hz⟩ := I.list hq
    have hlen := r'.length
    exact Calls.call_len_list pl.isList (by simp only [List.size_toArray] <;> omega) ⟨.int ys.length, H, I.tok _, ⟨s.toks + 1, by rw [List.size_toArray, hlen]⟩, q⟩
  · obtain ⟨its, r', pl, hz⟩ := I.tuple hq
    have hlen := r'.length
    exact len_tuple pl (by simp only [List.size_toArray] <;> omega) ⟨.int ys.length, H, I.tok _, ⟨s.toks + 1, by rw [List.size_toArray, hlen]⟩, q⟩
theorem call_len_str : CallR X (.builtin "len") (fun xs H Q => ∃ z, xs = [.str z] ∧ z.length ≤ sizeLine ∧ Q (.int z.length) H) := by
  intro pins s σ H xs us Q I r h
  obtain ⟨z, rfl, hz, q⟩ := h
  obtain ⟨u, rfl, t, rfl⟩ := vals1 r
  have hn := line63
  exact len_str (by omega) ⟨.int z.length, H, I.tok _, ⟨_, rfl⟩, q⟩
theorem CallR.or {f : Value} {r r' : List V → Hp → VK → Prop} (h : CallR X f r) (h' : CallR X f r') : CallR X f (fun xs H Q => r xs H Q ∨ r' xs H Q) := by
  intro pins s σ H xs us Q I rs q
  rcases q with q | q
  · exact h pins s σ H xs us Q I rs q
  · exact h' pins s σ H xs us Q I rs q
def tyV (K : PySem.W.Frag) (T : String) (x : V) (H : Hp) : Prop := match x with
  | .str _ => T = "str"
  | .int _ => T = "int"
  | .ref p => (T = "list" ∧ ∃ xs, SqL K H p xs) ∨ (T = "tuple" ∧ ∃ o, K.lookup p = some o ∧ o.cls = .type "tuple" ∧ o.dict = none) ∨
      (T = "dict" ∧ ((∃ kvs, H p = some (.dK kvs)) ∨ ∃ kvs, H p = some (.dT kvs))) ∨ (T = "set" ∧ ∃ S n, H p = some (.set S n))
  | _ => False
theorem tyV_is {pins : List (Addr × Obj)} {σ : St} {H : Hp} {s : Shared} {T : String} {x : V} {v : Value} (I : Inv X pins σ H s) (r : RelV x v) (ty : tyV X.K T x H) :
    s.TypeIs v T ∧ ∀ a, v = .ref a → ∃ ob, s.heap.get? a = some ob ∧ ob.dict = none := by
  cases x with
  | str z =>
    obtain ⟨t, rfl⟩ := r
    cases (show T = "str" from ty)
    exact ⟨typeIs_str s z t, fun _ e => nomatch e⟩
  | int i =>
    obtain ⟨t, rfl⟩ := r
    cases (show T = "int" from ty)
    exact ⟨typeIs_int s i t, fun _ e => nomatch e⟩
  | ref p =>
    cases r
    rcases ty with ⟨rfl, xs, hq⟩ | ⟨rfl, o, hk, hc, hd⟩ | ⟨rfl, hk⟩ | ⟨rfl, S, n, hk⟩
    · obtain ⟨its, _, pl, _⟩ := I.list hq
      refine ⟨pl.isList.typeIs, fun a e => ?_⟩
      cases e
      obtain ⟨o, n, e, c, hd, _⟩ := pl
      exact ⟨o, e, hd⟩
    · refine ⟨⟨o, I.kIn p o hk, hc⟩, fun a e => ?_⟩
      cases e
      exact ⟨o, I.kIn _ o hk, hd⟩
    · have z : ∃ o, s.heap.get? p = some o ∧ o.ExactDict := by
        rcases hk with ⟨kvs, hk⟩ | ⟨kvs, hk⟩
        · obtain ⟨_, _, _, _, o, _, _, e, ex, _⟩ := I.hok p _ hk
          exact ⟨o, e, ex⟩
        · obtain ⟨_, _, _, _, o, _, _, e, ex, _⟩ := I.hok p _ hk
          exact ⟨o, e, ex⟩
      obtain ⟨o, e, ex⟩ := z
      refine ⟨⟨o, e, ex.1⟩, fun a e2 => ?_⟩
      cases e2
      exact ⟨o, e, ex.2.1⟩
    · obtain ⟨o, _, _, _, e, ex, _⟩ := I.hok p _ hk
      refine ⟨⟨o, e, ex.1⟩, fun a e2 => ?_⟩
      cases e2
      exact ⟨o, e, ex.2.1⟩
  | _ => exact False.elim ty
def tBM (K : PySem.W.Frag) (T : String) (r : V → List V → Hp → VK → Prop) (to : TE) (t : TA) : TE := fun σ H Q => to σ H fun x H1 => tyV K T x H1 ∧ t σ H1 fun xs H2 => r x xs H2 Q
variable {o e : Expr} {es : List Expr} {to : TE} {t : TA} {name : Str} {apos cpos : Pos} {T id : String} {r : V → List V → Hp → VK → Prop}
theorem pe_bm (pa : PlainAttrs T) (slot : Slot T name id) (hty : typeOf (.builtin id) = pure (.type "method_descriptor")) (hm : MtR X id r) (ho : PE X o to) (ha : PA X (e :: es) t)
    (hbase : attributeBase o name X.env (eval o X.env) = eval o X.env := by rfl)
    (hfew : ((backTo cpos (starEach (e :: es) X.env)).all (fun x => !x.1) && (backToKw cpos (keywordEach [] X.env)).all (fun x => x.1.isSome)
      && decide ((e :: es).length + ([] : List Keyword).length + (if ([] : List Keyword).isEmpty then 0 else 1) < 30)) = true := by rfl)
    (hline : (apos.endLine == cpos.line) = true := by rfl) (hs : starEach (e :: es) X.env = (false, eval e X.env) :: starEach es X.env := by rfl) (hplain : (backTo cpos (starEach es X.env)).any (·.1) = false := by rfl) :
    PE X (.Call (.Attribute o name apos) (e :: es) [] cpos) (tBM X.K T r to t) := by
  intro pins s σ H Q I h
  refine wpAny_Call_method_late hbase hfew hline rfl (thn (ho pins s σ H _ I h) fun v s1 ⟨x, H1, I1, r1, ty, q1⟩ => ?_)
  obtain ⟨h1, h2⟩ := tyV_is I1 r1 ty
  refine ⟨T, id, pa, slot, hty, h1, h2, ?_⟩
  have hA := ha cpos pins s1 σ H1 _ I1 q1
  rw [hs] at hA ⊢
  refine Calls.callWith_builtin (by show (false || (backTo cpos (starEach es X.env)).any (·.1)) = false; rw [hplain] <;> rfl) (Calls.evalArgs_plain ?_)
  exact thn hA fun us s2 ⟨vs, H2, I2, r2, q2⟩ => hm pins s2 σ H2 x vs v us Q I2 r1 r2 q2
/- xs.append(e), list.index on a module's tuple .. are MtR facts of 06m -/
end
end L2
namespace L2
open PySem PySem.Spec PyProof.Rows
def MtM (X : Cx) (id : String) (r : V → List V → Hp → VK → Prop) : Prop :=
  ∀ (pins : List (Addr × Obj)) (s : Shared) (σ : St) (H : Hp) (x : V) (xs : List V) (v : Value) (us : List Value) (Q : VK), Inv X pins σ H s → RelV x v → Vals xs us → r x xs H Q →
    wpAny (model X.prog X.w) X.A (call (.builtin id) (v :: us)) (EP X pins σ Q) X.xe s
theorem Vals.one : ∀ {x : V} {us : List Value}, Vals [x] us → ∃ u, us = [u] ∧ RelV x u
  | _, _, .cons r .nil => ⟨_, rfl, r⟩
section
variable {X : Cx} {pins : List (Addr × Obj)} {σ : St} {H : Hp} {s : Shared} {l b : Addr} {xs ys zs : List V}
theorem Inv.lset {its its' : List Value} {n : Nat} {f : Array Value → Array Value} {t' : Nat} (I : Inv X pins σ H s) (hH : H l = some (.lst xs))
    (e : s.heap.get? l = some { cls := .type "list", data := .seq its.toArray n }) (hf : f its.toArray = its'.toArray) (hv : Vals ys its') (hz : ys.length ≤ sizeLine) :
    Inv X pins σ (upd H l (.lst ys)) { s with heap := s.heap.update l (Obj.mapSeq f), toks := t' } := by
  have q := PySem.IsL.update e f
  rw [hf] at q
  refine I.write (x := l) (e := l) (by rw [hH]; exact trivial) (.inl rfl) (fun b' u hb hu => (Heap.get?_update_other s.heap (Obj.mapSeq f) (Ne.symm hb)).trans hu) ⟨_, q⟩ ?_
  exact ⟨hz, its', _, hv, q⟩
theorem Inv.lnew {its : List Value} {t' : Nat} (I : Inv X pins σ H s) (hv : Vals ys its) (hz : ys.length ≤ sizeLine) :
    Inv X pins σ (upd H s.heap.objs.size (.lst ys)) { s with heap := s.heap.push { cls := .type "list", data := .seq its.toArray }, toks := t' } :=
  I.laid (fun _ _ q => Heap.get?_push_of_some _ q) (Nat.le_refl _) ⟨hz, its, 0, hv, Heap.get?_push_size _ rfl⟩
theorem Inv.fresh (I : Inv X pins σ H s) : H s.heap.objs.size = none := I.hok.fresh (Nat.le_refl _)
theorem Inv.lstM (I : Inv X pins σ H s) (hH : H l = some (.lst xs)) : xs.length ≤ sizeLine ∧ ∃ (its : List Value) (n : Nat), Vals xs its ∧ xs.length = its.length ∧ s.heap.get? l = some { cls := .type "list", data := .seq its.toArray n } := by
  obtain ⟨z, its, n, r, e⟩ := I.hok l _ hH
  exact ⟨z, its, n, r, r.length, e⟩
end
section
variable {X : Cx}
def rAppend : V → List V → Hp → VK → Prop := fun x vs H Q => ∃ l xs y, x = .ref l ∧ vs = [y] ∧ H l = some (.lst xs) ∧ xs.length < sizeLine ∧ Q .non (upd H l (.lst (xs ++ [y])))
theorem mt_append : MtM X "list.append" rAppend := by
  intro pins s σ H x vs v us Q I rx rv h
  obtain ⟨l, xs, y, rfl, rfl, hH, hz, q⟩ := h
  cases rx
  obtain ⟨u, rfl, ru⟩ := rv.one
  obtain ⟨z, its, n, r, hl, e⟩ := I.lstM hH
  refine call_meets F.slot_list_append ⟨_, e, rfl⟩ F.entry_list_append (F.args_list_append_2 _ _) (PySem.list_append l its.toArray n u (by rw [List.size_toArray]; omega)) ⟨e, ?_⟩
  refine ⟨.non, _, I.lset (its' := its ++ [u]) hH e (by simp) (r.append (.cons ru .nil)) ?_, rfl, q⟩
  rw [List.length_append, List.length_singleton]
  omega
end
section
variable {prog : Program} {w : World} {A : Around} {E : Value → Shared → Prop} {s : Shared}
end
section
variable {X : Cx}
end
end L2
namespace Att
open PySem PySem.W PySem.Calls PyProof.Rows
theorem ints_of_wellAll {P : Params} {h : Heap} : ∀ (ns : List Int) (vs : List Value), WellAll P h vs (ns.map WData.int) → IntsAre vs ns := by
  intro ns
  induction ns with
  | nil =>
    intro vs w
    rw [List.map_nil] at w
    cases w
    exact .nil
  | cons n ns ih =>
    intro vs w
    rw [List.map_cons] at w
    cases w with
    | cons a b =>
      cases a
      exact .cons _ _ (ih _ b)
theorem script_of {l : OpenLaw} {n : Nat} (hn : l.most = some n) {P : Params} {h : Heap} {args : List WData} {vals : List Value}
    (hpre : l.row.toRowW.claim.pre args = true) (hwl : WellAll P h vals args) :
    ∃ a vs ns, vals = [Value.ref a] ∧ args = [WData.list (ns.map WData.int)] ∧ h.get? a = some { cls := .type "list", data := .seq vs.toArray } ∧ IntsAre vs ns ∧ ns.length ≤ n := by
  have hsh : WShape.hasAll [] args [.list .int] = true := (pre_splitW hpre).1
  have hc : l.pre.holds [] { args := args } = true := (pre_splitW hpre).2
  obtain ⟨d, r, rfl, h1, h2⟩ := hasAllW_cons hsh
  obtain rfl := hasAllW_nil h2
  obtain ⟨xs, rfl, h3⟩ := hasW_list h1
  obtain ⟨ns, rfl⟩ := items_int h3
  have hlen : ns.length ≤ n := by
    unfold OpenLaw.pre at hc
    have h4 : (WTm.not (.lt (.lit (.int (n : Int))) (.len (.arg 0)))).holds [] { args := [.list (ns.map .int)] } = true := by
      have h4 := (holds_andW hc).1
      rw [hn] at h4
      exact h4
    have h5 := condW_of h4 (w_not (w_lt w_lit (w_len_list (w_arg rfl))))
    rw [List.length_map] at h5
    refine Nat.le_of_not_lt fun q => ?_
    have q' : (n : Int) < ((ns.length : Nat) : Int) := by omega
    first
      | (rw [decide_eq_true q'] at h5; exact absurd h5 (by decide))
      | (simp at h5; omega)
  cases hwl with
  | cons w1 w2 =>
    cases w2
    cases w1 with
    | list ho hall => exact ⟨_, _, ns, rfl, rfl, ho, ints_of_wellAll ns _ hall, hlen⟩
theorem post_true (l : OpenLaw) (args : List WData) : l.row.toRowW.claim.post args (.bool true) args = true :=
  postW_of (r := l.row.toRowW) (X := (true == true))
    (show WShape.has [] (.bool true) .bool = true by first | rfl | decide | simp [WShape.has, WShape.arms, WShape.armsAll])
    (show (WTm.eq .res (.lit (.bool true))).value [] { args := args, res := some (.bool true), after := args } = some (.bool (true == true)) from w_eq_bool (w_res rfl) w_lit) rfl
theorem attach_call {l : OpenLaw} {n : Nat} {q : Program} {loose : List Str} {XP : (Str → Option Value) → Heap → Prop} {YP : World → Heap → Prop} {d : DefRec}
    (hn : l.most = some n) (hdf : d.params.defaults = [])
    (call : ∀ (w : World) (s₀ s₁ : Shared) (mg mb : Str → Option Value) (fa : Addr) (o : Obj) (pm cd doc : Value) (a : Addr) (vs : List Value) (ns : List Int),
      Ground q loose [] XP w s₀ mg mb s₁.heap → YP w s₁.heap →
      s₁.heap.get? fa = some o → o.data = .func (docDef d.name d.params d.body d.scope pm cd doc) → s₁.heap.CodeRec cd d.name → mg d.name = some (.ref fa) →
      s₁.heap.get? a = some { cls := .type "list", data := .seq vs.toArray } → IntsAre vs ns → ns.length ≤ n → s₁.gens = #[] →
      codeAny (model l.prog w) callerA (.call (.ref fa) ⟨[.ref a], []⟩) (fun r s' => r = .ok (.ret (.bool true)) ∧ OldK s₁.heap s'.heap ∧ s'.os = s₁.os ∧ AllBare s'.gens) s₁) :
    WalkO q loose XP YP l.row.toRowW d [] (fun f vs => PySem.call f vs) := by
  intro w s₀ s₁ mg mb G Y fa o pm cd doc dV kV ho hd hcd hD hmg hg args vals as hpre hlay hrd hwl hlo
  obtain rfl : dV = .none := Dflts.none hD hdf
  obtain rfl : kV = .none := Dflts.noKw hD
  obtain ⟨a, vs, ns, rfl, rfl, hobj, hints, hlen⟩ := script_of hn hpre hwl
  refine enter_call (codeAny_mono (call w s₀ s₁ mg mb fa o pm cd doc a vs ns G Y ho (fd_plain hd) hcd hmg hobj hints hlen hg) fun r s' hq => ?_)
  obtain ⟨rfl, h2, h3, h4⟩ := hq
  exact ⟨.inl ⟨.bool true, .bool true, [], rfl, fun _ => rfl, .bool true, post_true l _, fun _ => ⟨List.Pairwise.nil, fun _ hm => (nomatch hm)⟩⟩, h2, h3, h4⟩
section
variable {prog : Program} {w : World} {A : Around} {E : Value → Shared → Prop} {s : Shared} {K : Frag}
end
end Att
namespace L2
open PySem PySem.Spec PyProof.Rows
theorem vals_ints : ∀ {vs : List Value} {ns : List Int}, IntsAre vs ns → Vals (ns.map V.int) vs
  | _, _, .nil => .nil
  | _, _, .cons n t h => .cons ⟨t, rfl⟩ (vals_ints h)
def Only (H : Hp) : Prop := ∀ b, H b = none ∨ ∃ o xs, H b = some (.frz o (.lst xs))
theorem law_call {P : Program} {w : World} {K : PySem.W.Frag} {mg mb : Str → Option Value} {CX : CXT} {k : Nat} {fa a : Addr} {fd : FuncData} {x : Str} {sp : Sp} {s₁ : Shared} {vs : List Value} {ns : List Int}
    (KX : K.In s₁.heap) (hns : s₁.heap.Ns mainGlobals mg) (hb : s₁.heap.Ns builtinsNs mb) (hbb : ∀ x : Str, x ≠ "__name__" → mb x = bootBuiltins x) (hlim : s₁.heap.NoLimit) (hg : s₁.gens = #[])
    (ha : s₁.heap.get? a = some { cls := .type "list", data := .seq vs.toArray }) (hi : IntsAre vs ns) (hl : ns.length ≤ sizeLine) (hr : Room k callerA)
    (F : ∀ base : Heap, K.In base → base.Ns mainGlobals mg → FnOk P w K mg base CX k fa fd [x] sp) (hbind : ∀ (s : Shared) (u : Value), BindsTo s fd ⟨[u], []⟩ [(x, u)])
    (hsp : ∀ H : Hp, Only H → SqL K H a (ns.map V.int) → sp [.ref a] H (fun v _ => v = .bl true) fun _ _ _ => False)
    (hCX : ∀ H e s', CX [] H s₁ (fun _ _ _ => False) e s' → False) :
    codeAny (model P w) callerA (.call (.ref fa) ⟨[.ref a], []⟩) (fun r s' => r = .ok (.ret (.bool true)) ∧ OldK s₁.heap s'.heap ∧ s'.os = s₁.os ∧ AllBare s'.gens) s₁ := by
  have rv := vals_ints hi
  have lenV := hi.length
  -- from an abstract heap in which nothing but the script may be tracked
  have core : ∀ H : Hp, Only H → SqL K H a (ns.map V.int) → HOk P w H s₁.heap → (∀ b, H b ≠ none → b = a) → (H a ≠ none → K.lookup a = none) →
      codeAny (model P w) callerA (.call (.ref fa) ⟨[.ref a], []⟩) (fun r s' => r = .ok (.ret (.bool true)) ∧ OldK s₁.heap s'.heap ∧ s'.os = s₁.os ∧ AllBare s'.gens) s₁ := by
    intro H hO hS hok hA hK
    have base_of : ∀ {b : Addr} {o : Obj}, s₁.heap.get? b = some o → H b = none → (hidT s₁.heap H).get? b = some o := fun e n => hidT_get e n
    have noA : ∀ {b : Addr} {o : Obj} {es : Array DictEntry} {ep : Nat}, s₁.heap.get? b = some o → o.data = .dict es ep → H b = none := fun {b o es ep} e d => by
      cases q : H b with
      | none => rfl
      | some u =>
        have e' : b = a := hA b (by rw [q]; simp)
        subst e'
        rw [ha] at e; cases e
        have d' : Data.seq vs.toArray _ = Data.dict es ep := d
        cases d'
    have nsK : ∀ {b : Addr} {m : Str → Option Value}, s₁.heap.Ns b m → (hidT s₁.heap H).Ns b m := fun {b m} ⟨o, es, ep, e, d, r⟩ => ⟨o, es, ep, base_of e (noA e d), d, r⟩
    have hKb : K.In (hidT s₁.heap H) := fun b o e => base_of (KX b o e) (by
      cases q : H b with
      | none => rfl
      | some u =>
        have e' : b = a := hA b (by rw [q]; simp)
        subst e'
        rw [hK (by rw [q]; simp)] at e; cases e)
    have hM : Mod K mg (hidT s₁.heap H) := ⟨hKb, nsK hns, ⟨mb, nsK hb, hbb⟩, let ⟨mc, h1, h2⟩ := hlim; ⟨mc, nsK h1, h2⟩⟩
    have e0 : Env0 P w K mg (hidT s₁.heap H) callerA [] s₁ H := ⟨rfl, hM, fun b o e => of_hidT e, Nat.le_of_eq (hidT_size _ _), trivial, fun b hb => absurd (show b ∈ ([] : List Addr) from hb) (by simp), hok, .of_eq hg⟩
    refine codeAny_mono ((F _ hKb (nsK hns)).run callerA [] s₁ H ⟨[.ref a], []⟩ [.ref a] [.ref a] _ _ hr e0 (hbind s₁ (.ref a)) (.cons rfl .nil) (hsp H hO hS)) fun r s' h => ?_
    cases r with
    | error e => exact (hCX H e s' h).elim
    | ok fl =>
      cases fl with
      | next => exact False.elim h
      | brk => exact False.elim h
      | cont => exact False.elim h
      | ret u =>
        obtain ⟨v, H', os, bare, un, hok', r', q⟩ := h
        have q' : v = .bl true := q
        subst q'
        obtain rfl : u = Value.bool true := r'
        refine ⟨rfl, OldK.of_keep fun b o e => ?_, os, bare⟩
        cases q : H b with
        | none => exact un.keep b o e q (by intro z; exact absurd (show b ∈ ([] : List Addr) from z) (by simp)) (by simp)
        | some u =>
          rcases hO b with z | ⟨ob, xs, z⟩
          · rw [q] at z; cases z
          · have z2 := un.frzs b ob _ z
            obtain ⟨e1, _⟩ := hok b _ z
            obtain ⟨e2, _⟩ := hok' b _ z2
            rw [e] at e1; cases e1
            exact e2
  cases hk : K.lookup a with
  | some o =>
    -- the script is one of the module's own objects
    have e := KX a o hk
    rw [ha] at e
    cases e
    refine core (fun _ => none) (fun _ => .inl rfl) (.inr ⟨_, vs.toArray, _, hk, rfl, rfl, rfl, by rw [List.size_toArray, lenV]; exact hl, by simpa using rv⟩) (fun b u z => by have z' : (none : Option HO) = some u := z; cases z') (fun b z => absurd rfl z) fun z => absurd rfl z
  | none =>
    refine core (fun b => if b = a then some (.frz { cls := .type "list", data := .seq vs.toArray } (.lst (ns.map V.int))) else none) (fun b => ?_) (.inl (.inr ⟨{ cls := .type "list", data := .seq vs.toArray }, if_pos rfl⟩)) (fun b u z => ?_) (fun b z => ?_) fun _ => hk
    · by_cases hb : b = a
      · exact .inr ⟨_, _, if_pos hb⟩
      · exact .inl (if_neg hb)
    · by_cases hb : b = a
      · have z' := (if_pos hb).symm.trans z
        cases z'
        subst hb
        exact ⟨ha, by rw [List.length_map]; exact hl, vs, _, rv, ha⟩
      · have z' := (if_neg hb).symm.trans z
        cases z'
    · by_cases hb : b = a
      · exact hb
      · exact absurd (if_neg hb) z
end L2
namespace L2
open PySem PySem.Spec PyProof.Rows
theorem walk_of {l : PySem.W.OpenLaw} {n k : Nat} {q : Program} {loose : List Str} {XP : (Str → Option Value) → Heap → Prop} {YP : World → Heap → Prop} {d : DefRec} {K : Params → PySem.W.Frag} {CX : World → CXT} {sp : World → Sp} {x : Str}
    (hn : l.most = some n) (hn2 : n ≤ sizeLine) (hdf : d.params.defaults = []) (hr : Room k callerA)
    (hY : ∀ (w : World) (h : Heap), YP w h → (K w.params).In h)
    (F : ∀ (w : World) (mg : Str → Option Value) (fa : Addr) (h : Heap), (K w.params).In h → h.Ns mainGlobals mg → mg d.name = some (.ref fa) →
      ∃ fd : FuncData, (∀ (s : Shared) (u : Value), BindsTo s fd ⟨[u], []⟩ [(x, u)]) ∧
        ∀ base : Heap, (K w.params).In base → base.Ns mainGlobals mg → FnOk l.prog w (K w.params) mg base (CX w) k fa fd [x] (sp w))
    (hsp : ∀ (w : World) (H : Hp) (a : Addr) (ns : List Int), ns.length ≤ n → Only H → SqL (K w.params) H a (ns.map V.int) → sp w [.ref a] H (fun v _ => v = .bl true) fun _ _ _ => False)
    (hCX : ∀ (w : World) (H : Hp) (s : Shared) (e : Value) (s' : Shared), CX w [] H s (fun _ _ _ => False) e s' → False) :
    PySem.W.WalkO q loose XP YP l.row.toRowW d [] (fun f vs => PySem.call f vs) := by
  refine Att.attach_call hn hdf fun w s₀ s₁ mg mb fa o pm cd doc a vs ns G Y ho hd hcd hmg hobj hints hlen hg => ?_
  have KX := hY w _ Y
  obtain ⟨fd, hb, hF⟩ := F w mg fa _ KX G.T.g hmg
  exact law_call KX G.T.g G.T.b G.T.builtins G.T.nolimit hg hobj hints (Nat.le_trans hlen hn2) hr hF hb (fun H hO hS => hsp w H a ns hlen hO hS) fun H e s' => hCX w H s₁ e s'
theorem walk_ofK {l : PySem.W.OpenLaw} {n k : Nat} {q : Program} {loose : List Str} {XP : (Str → Option Value) → Heap → Prop} {YP : World → Heap → Prop} {d : DefRec} {K : Params → PySem.W.Frag} {CX : CXT} {sp : PySem.W.Frag → Sp} {x : Str}
    (hn : l.most = some n) (hn2 : n ≤ sizeLine) (hdf : d.params.defaults = []) (hr : Room k callerA)
    (hY : ∀ (w : World) (h : Heap), YP w h → (K w.params).In h)
    (F : ∀ (w : World) (mg : Str → Option Value) (fa : Addr) (h : Heap), (K w.params).In h → h.Ns mainGlobals mg → mg d.name = some (.ref fa) →
      ∃ fd : FuncData, (∀ (s : Shared) (u : Value), BindsTo s fd ⟨[u], []⟩ [(x, u)]) ∧
        ∀ base : Heap, (K w.params).In base → base.Ns mainGlobals mg → FnOk l.prog w (K w.params) mg base CX k fa fd [x] (sp (K w.params)))
    (hsp : ∀ (K : PySem.W.Frag) (H : Hp) (a : Addr) (ns : List Int), ns.length ≤ n → Only H → SqL K H a (ns.map V.int) → sp K [.ref a] H (fun v _ => v = .bl true) fun _ _ _ => False)
    (hCX : ∀ (H : Hp) (s : Shared) (e : Value) (s' : Shared), CX [] H s (fun _ _ _ => False) e s' → False) :
    PySem.W.WalkO q loose XP YP l.row.toRowW d [] (fun f vs => PySem.call f vs) :=
  walk_of (K := K) (CX := fun _ => CX) (sp := fun w => sp (K w.params)) hn hn2 hdf hr hY F (fun w H a ns h1 h2 h3 => hsp (K w.params) H a ns h1 h2 h3) fun _ H s e s' => hCX H s e s'
end L2
namespace L2
open PySem PySem.Spec PyProof.Rows
def defArgs (s : Stmt) : Arguments := match s with
  | .FunctionDef _ a _ _ _ _ _ _ _ _ => a
  | _ => { posonlyargs := [], args := [], vararg := none, kwonlyargs := [], kw_defaults := [], kwarg := none, defaults := [] }
def defBody (s : Stmt) : List Stmt := match s with
  | .FunctionDef _ _ b _ _ _ _ _ _ _ => b
  | _ => []
def defScope (s : Stmt) : Scope := match s with
  | .FunctionDef _ _ _ _ _ _ sc _ _ _ => sc
  | _ => { kind := .function, names := [], isGenerator := false, isCoroutine := false }
abbrev CX0 : CXT := fun _ _ _ _ _ _ => False
abbrev E0 : XK := fun _ _ _ => False
theorem pass0 {X : Cx} : Passes CX0 X E0 := fun _ _ _ _ _ _ _ h => h.elim
structure Fun (K : PySem.W.Frag) (x qual : Str) (st : Stmt) (f : Addr) (fd : FuncData) : Prop where
  ex : ∃ (oc : Value) (od : Option Addr) (kV doc pm : Value) (an : Option Addr) (cdv ct : Value) (osl : Array (Option Value)),
    fd = PySem.W.fnOf x qual (defArgs st) (defBody st) (defScope st) .none kV doc pm an cdv ct ∧ K.lookup f = some ⟨oc, od, .func fd, osl⟩ ∧ PySem.W.codeIn K cdv qual = true
  kp : PySem.W.keepIn K (.ref f) = true
section
variable {P : Program} {w : World} {K : PySem.W.Frag} {mg : Str → Option Value} {base : Heap}
theorem Fun.ok {x qual : Str} {st : Stmt} {f : Addr} {fd : FuncData} {N ps : List Str} {k : Nat} {sp : Sp} (F : Fun K x qual st f fd) (S : FnScope N ps (defScope st)) (len : ∀ vs H Q E, sp vs H Q E → vs.length = ps.length)
    (hbody : ∀ (cdv : Value) (A : Around) (outer : List Env) (s : Shared) (H : Hp) (vs : List V) (Q : VK) (E : XK), Room k (A.deeper (envOfC qual (defScope st) s.heap.objs.size f cdv)) → sp vs H Q E →
      ∃ t, PSs (cxOf CX0 P w K mg base N qual (defScope st) f cdv A outer s H E).nox (defBody st) t ∧ t { nx := fun _ H' => Q .non H', rt := Q } (start N vs) H) : FnOk P w K mg base CX0 (k + 1) f fd ps sp := by
  obtain ⟨oc, od, kV, doc, pm, an, cdv, ct, osl, rfl, lk, hcd⟩ := F.ex
  refine fn_of lk hcd S len fun A outer s H vs Q E hr hsp => ?_
  obtain ⟨t, h, q⟩ := hbody cdv A outer s H vs Q E hr hsp
  exact ⟨t, h.nox, q⟩
theorem Fun.binds {x qual : Str} {st : Stmt} {f : Addr} {fd : FuncData} {ps : List Str} (F : Fun K x qual st f fd)
    (h : ∀ (kV doc pm : Value) (an : Option Addr) (cdv ct : Value) (us : List Value), us.length = ps.length → bindArgs (PySem.W.fnOf x qual (defArgs st) (defBody st) (defScope st) .none kV doc pm an cdv ct) ⟨us, []⟩ = pure (ps.zip us)) : Binds K fd ps [] := by
  obtain ⟨oc, od, kV, doc, pm, an, cdv, ct, osl, rfl, lk, hcd⟩ := F.ex
  exact .all (h kV doc pm an cdv ct)
theorem fun_mk {x qual : Str} {st : Stmt} {f : Addr} {oc : Value} {od an : Option Addr} {osl : Array (Option Value)} {kV doc pm cdv ct : Value} (l : K.lookup f = some ⟨oc, od, .func (PySem.W.fnOf x qual (defArgs st) (defBody st) (defScope st) .none kV doc pm an cdv ct), osl⟩)
    (c : PySem.W.codeIn K cdv qual = true) (k : PySem.W.keepIn K (.ref f) = true) : Fun K x qual st f (PySem.W.fnOf x qual (defArgs st) (defBody st) (defScope st) .none kV doc pm an cdv ct) := ⟨⟨oc, od, kV, doc, pm, an, cdv, ct, osl, rfl, l, c⟩, k⟩
end
section
variable {X : Cx}
theorem pv (i : Nat) {x : Str} {pos : Pos} (hN : X.N[i]? = some x := by rfl) (hv : Vis X.env.scope x := by first | exact Or.inl rfl | exact Or.inr (Or.inl rfl) | exact Or.inr (Or.inr rfl)) (hd : (x == ("__debug__" : Str)) = false := by decide)
    (hcd : (x == ("__classdict__" : Str)) = false := by decide) : PE X (.Name x pos) (tVar i) := pe_var hN hv hd hcd
end
def Same (H H' : Hp) : Prop := ∀ b o, H b = some o → H' b = some o
theorem Same.refl (H : Hp) : Same H H := fun _ _ h => h
theorem Same.trans {H H1 H2 : Hp} (a : Same H H1) (b : Same H1 H2) : Same H H2 := fun c o h => b c o (a c o h)
theorem Same.free {H H' : Hp} (e : Same H H') {l : Addr} (h : H' l = Option.none) : H l = Option.none := by
  cases q : H l with
  | none => rfl
  | some o =>
    rw [e l o q] at h
    cases h
end L2
set_option Elab.async false
set_option linter.all false
set_option maxRecDepth 100000
set_option maxHeartbeats 4000000
namespace L2
open PySem PySem.Spec PyProof.Rows
section
variable {κ : Type} [DecidableEq κ]
def valV (kvs : List (κ × V)) (k : κ) : Option V := (kvs.find? fun kv => decide (kv.1 = k)).map (·.2)
def putK (kvs : List (κ × V)) (k : κ) (v : V) : List (κ × V) :=
  if (kvs.any fun kv => decide (kv.1 = k)) = true then kvs.map (fun kv => if kv.1 = k then (kv.1, v) else kv) else kvs ++ [(k, v)]
theorem valV_pos {p : κ × V} {r : List (κ × V)} {k : κ} (e : p.1 = k) : valV (p :: r) k = some p.2 := by simp [valV, List.find?_cons, e]
theorem valV_neg {p : κ × V} {r : List (κ × V)} {k : κ} (e : ¬ p.1 = k) : valV (p :: r) k = valV r k := by simp [valV, List.find?_cons, e]
theorem valV_any (k : κ) : ∀ kvs : List (κ × V), (kvs.any fun kv => decide (kv.1 = k)) = (valV kvs k).isSome
  | [] => rfl
  | p :: r => by
    rw [List.any_cons]
    by_cases e : p.1 = k
    · simp only [valV_pos e, decide_eq_true e, Bool.true_or, Option.isSome_some]
    · rw [valV_neg e, decide_eq_false e, Bool.false_or]; exact valV_any k r
theorem length_putK (kvs : List (κ × V)) (k : κ) (v : V) : (putK kvs k v).length ≤ kvs.length + 1 := by
  unfold putK
  split
  · rw [List.length_map]; omega
  · rw [List.length_append, List.length_cons, List.length_nil]; omega
theorem RelO.isSome_eq {o : Option V} {u : Option Value} (r : RelO o u) : o.isSome = u.isSome := by
  cases o with
  | none => cases u with
    | none => rfl
    | some _ => exact (show False from r).elim
  | some _ => cases u with
    | none => exact (show False from r).elim
    | some _ => rfl
theorem RelO.getD {o : Option V} {u : Option Value} {d : V} {d' : Value} (r : RelO o u) (rd : RelV d d') : RelV (o.getD d) (u.getD d') := by
  cases o with
  | none => cases u with
    | none => exact rd
    | some _ => exact (show False from r).elim
  | some _ => cases u with
    | none => exact (show False from r).elim
    | some _ => exact r
theorem KV.val {kvs : List (κ × V)} {vs : List (κ × Value)} (r : KV kvs vs) (k : κ) : RelO (valV kvs k) (valueAt vs k) := by
  unfold KV at r
  induction r with
  | nil => exact True.intro
  | @cons p q ps qs h t ih =>
    obtain ⟨h1, h2⟩ := h
    by_cases e : p.1 = k
    · have e' : q.1 = k := h1.symm.trans e
      have b : valueAt (q :: qs) k = some q.2 := by simp [valueAt, List.find?_cons, e']
      rw [valV_pos e, b]; exact h2
    · have e' : ¬ q.1 = k := fun z => e (h1.trans z)
      have b : valueAt (q :: qs) k = valueAt qs k := by simp [valueAt, List.find?_cons, e']
      rw [valV_neg e, b]; exact ih
theorem KV.any {kvs : List (κ × V)} {vs : List (κ × Value)} (r : KV kvs vs) (k : κ) : (kvs.any fun kv => decide (kv.1 = k)) = vs.any fun kv => decide (kv.1 = k) := by
  unfold KV at r
  induction r with
  | nil => rfl
  | cons h t ih => rw [List.any_cons, List.any_cons, ih, h.1]
theorem KV.repl {kvs : List (κ × V)} {vs : List (κ × Value)} (r : KV kvs vs) (k : κ) {y : V} {u : Value} (ry : RelV y u) :
    KV (kvs.map fun kv => if kv.1 = k then (kv.1, y) else kv) (vs.map fun kv => if kv.1 = k then (kv.1, u) else kv) := by
  unfold KV at r ⊢
  induction r with
  | nil => exact .nil
  | @cons p q ps qs h t ih =>
    rw [List.map_cons, List.map_cons]
    refine .cons ?_ ih
    obtain ⟨h1, h2⟩ := h
    by_cases e : p.1 = k
    · rw [if_pos e, if_pos (h1.symm.trans e)]; exact ⟨h1, ry⟩
    · rw [if_neg e, if_neg (fun z => e (h1.trans z))]; exact ⟨h1, h2⟩
theorem KV.put {kvs : List (κ × V)} {vs : List (κ × Value)} (r : KV kvs vs) (k : κ) {y : V} {u : Value} (ry : RelV y u) : KV (putK kvs k y) (stored vs k u) := by
  unfold putK stored
  rw [r.any k]
  by_cases e : (vs.any fun kv => decide (kv.1 = k)) = true
  · rw [if_pos e, if_pos e]; exact r.repl k ry
  · rw [if_neg e, if_neg e]; exact Paired.snoc r ⟨rfl, ry⟩
theorem KV.length {kvs : List (κ × V)} {vs : List (κ × Value)} (r : KV kvs vs) : kvs.length = vs.length := Paired.length r
end
theorem kV_is {P : Program} {w : World} {k : Key} {u : Value} (r : RelV (kV k) u) : (mixKind P w).is k u = true := by
  cases k with
  | inl i => obtain ⟨t, e⟩ := (show ∃ t, u = Value.int i t from r); subst e; exact mixKind_int P w i t
  | inr x => obtain ⟨t, e⟩ := (show ∃ t, u = Value.str x t from r); subst e; exact mixKind_str P w x t
theorem items_are {P : Program} {w : World} : ∀ {ks : List Key} {us : List Value}, Vals (ks.map kV) us → ItemsAre (mixKind P w) ks us
  | [], _, r => by rw [List.map_nil] at r; cases r; exact .nil
  | k :: ks, _, r => by
    rw [List.map_cons] at r
    cases r with
    | cons h t => exact .cons (kV_is h) (items_are t)
abbrev KT (H : Hp) : List (List Key × V) → List (List Key × Addr × Value) → Prop := Paired fun p q => p.1 = q.1 ∧ H q.2.1 = some (.tup (p.1.map kV)) ∧ RelV p.2 q.2.2
theorem KT.val {H : Hp} {kvs : List (List Key × V)} {xs : List (List Key × Addr × Value)} (r : KT H kvs xs) (k : List Key) : RelO (valV kvs k) ((atKey xs k).map (·.2)) := by
  induction r with
  | nil => exact True.intro
  | @cons p q ps qs h t ih =>
    obtain ⟨h1, _, h2⟩ := h
    by_cases e : p.1 = k
    · have e' : q.1 = k := h1.symm.trans e
      have b : atKey (q :: qs) k = some q.2 := by simp [atKey, List.find?_cons, e']
      rw [valV_pos e, b]; exact h2
    · have e' : ¬ q.1 = k := fun z => e (h1.trans z)
      have b : atKey (q :: qs) k = atKey qs k := by simp [atKey, List.find?_cons, e']
      rw [valV_neg e, b]; exact ih
theorem KT.repl {H : Hp} {kvs : List (List Key × V)} {xs : List (List Key × Addr × Value)} (r : KT H kvs xs) (k : List Key) {y : V} {u : Value} (ry : RelV y u) :
    KT H (kvs.map fun kv => if kv.1 = k then (kv.1, y) else kv) (xs.map (putAt k u)) := by
  induction r with
  | nil => exact .nil
  | @cons p q ps qs h t ih =>
    rw [List.map_cons, List.map_cons]
    refine .cons ?_ ih
    obtain ⟨h1, h2, h3⟩ := h
    unfold putAt
    by_cases e : p.1 = k
    · rw [if_pos e, if_pos (h1.symm.trans e)]; exact ⟨h1, h2, ry⟩
    · rw [if_neg e, if_neg (fun z => e (h1.trans z))]; exact ⟨h1, h2, h3⟩
theorem KT.put {H : Hp} {kvs : List (List Key × V)} {xs : List (List Key × Addr × Value)} (r : KT H kvs xs) (k : List Key) {b : Addr} {y : V} {u : Value} (hb : H b = some (.tup (k.map kV))) (ry : RelV y u) :
    KT H (putK kvs k y) (storedH xs k b u) := by
  have e : (kvs.any fun kv => decide (kv.1 = k)) = (atKey xs k).isSome := by
    rw [valV_any, (r.val k).isSome_eq, Option.isSome_map]
  unfold putK storedH
  rw [e]
  by_cases q : (atKey xs k).isSome = true
  · rw [if_pos q, if_pos q]; exact r.repl k ry
  · rw [if_neg q, if_neg q]; exact Paired.snoc r ⟨rfl, hb, ry⟩
theorem KT.keeps {H H' : Hp} {kvs : List (List Key × V)} {xs : List (List Key × Addr × Value)} (r : KT H kvs xs) (ht : ∀ b ys, H b = some (.tup ys) → H' b = some (.tup ys)) : KT H' kvs xs :=
  Paired.mapP r fun _ _ z => ⟨z.1, ht _ _ z.2.1, z.2.2⟩
section
variable {P : Program} {w : World} {H : Hp} {h : Heap} {a : Addr}
theorem rd_of {u : HO} (ok : HOk P w H h) (e : Rd H a u) : ObjOk P w H h a u := e.ok ok
theorem dk_rd {kvs : List (Key × V)} (ok : HOk P w H h) (e : Rd H a (.dK kvs)) : kvs.length ≤ sizeLine ∧ (a == sysModules) = false ∧ ∃ vs, KV kvs vs ∧ h.DictOf (mixKind P w) a vs :=
  show ObjOk P w H h a (.dK kvs) from rd_of ok e
theorem dk_of {kvs : List (Key × V)} (ok : HOk P w H h) (e : H a = some (.dK kvs)) : kvs.length ≤ sizeLine ∧ (a == sysModules) = false ∧ ∃ vs, KV kvs vs ∧ h.DictOf (mixKind P w) a vs := dk_rd ok (.inl e)
theorem key_of {ks : List Key} (ok : HOk P w H h) (e : H a = some (.tup (ks.map kV))) : (tupleKind (mixKind P w)).is h ks a := by
  obtain ⟨_, its, r, o, h1, h2, n, h3⟩ := (show ObjOk P w H h a (.tup (ks.map kV)) from ok a _ e)
  exact ⟨o, its.toArray, n, h1, h2, h3, by simpa using items_are r⟩
theorem dt_rd {kvs : List (List Key × V)} (ok : HOk P w H h) (e : Rd H a (.dT kvs)) : kvs.length ≤ sizeLine ∧ (a == sysModules) = false ∧
    ∃ xs, KT H kvs xs ∧ h.DictOfH (tupleKind (mixKind P w)) a xs := by
  obtain ⟨z, y, xs, r, o, es, ep, h1, h2, h3, h4, h5⟩ := (show ObjOk P w H h a (.dT kvs) from rd_of ok e)
  refine ⟨z, y, xs, r, o, es, ep, h1, h2, h3, h4, fun x hx => ?_, h5⟩
  have all : ∀ {l : List (List Key × V)} {m : List (List Key × Addr × Value)}, KT H l m → ∀ x ∈ m, (tupleKind (mixKind P w)).is h x.1 x.2.1 := by
    intro l m q
    induction q with
    | nil => intro x hx; exact nomatch hx
    | @cons p q ps qs hq t ih =>
      intro x hx
      rcases List.mem_cons.mp hx with e | hx
      · subst e
        exact key_of ok (by rw [← hq.1]; exact hq.2.1)
      · exact ih x hx
  exact all r x hx
theorem dt_of {kvs : List (List Key × V)} (ok : HOk P w H h) (e : H a = some (.dT kvs)) : kvs.length ≤ sizeLine ∧ (a == sysModules) = false ∧
    ∃ xs, KT H kvs xs ∧ h.DictOfH (tupleKind (mixKind P w)) a xs := dt_rd ok (.inl e)
end
def DGet (H : Hp) (a : Addr) (y : V) (r : Option V) : Prop :=
  (∃ kvs k, Rd H a (.dK kvs) ∧ y = kV k ∧ r = valV kvs k) ∨ ∃ kvs k b, Rd H a (.dT kvs) ∧ y = .ref b ∧ H b = some (.tup (k.map kV)) ∧ r = valV kvs k
def DPut (H : Hp) (a : Addr) (y v : V) (H' : Hp) : Prop :=
  (∃ kvs k, H a = some (.dK kvs) ∧ y = kV k ∧ kvs.length < sizeLine ∧ H' = upd H a (.dK (putK kvs k v))) ∨
  ∃ kvs k b, H a = some (.dT kvs) ∧ y = .ref b ∧ H b = some (.tup (k.map kV)) ∧ kvs.length < sizeLine ∧ H' = upd H a (.dT (putK kvs k v))
theorem DPut.k {H : Hp} {a : Addr} {kvs : List (Key × V)} {k : Key} {v : V} (e : H a = some (.dK kvs)) (hl : kvs.length < sizeLine) : DPut H a (kV k) v (upd H a (.dK (putK kvs k v))) := .inl ⟨kvs, k, e, rfl, hl, rfl⟩
section
variable {X : Cx} {pins : List (Addr × Obj)} {σ : St} {H : Hp} {s : Shared} {a : Addr} {y v : V} {u r : Value} {o : Option V} {A : Around} {E : Value → Shared → Prop}
theorem Inv.big (I : Inv X pins σ H s) : sysModules < s.heap.objs.size := by
  have h : mainGlobals < s.heap.objs.size := (I.mod.glob.keeps I.bk).lt
  exact Nat.lt_trans (by decide) h
theorem d_getItem {Q : Value → Shared → Prop} (hu : A.units + 1 < cLine) (I : Inv X pins σ H s) (g : DGet H a y (some v)) (ry : RelV y u) (h : ∀ w' s', Inv X pins σ H s' → RelV v w' → Q w' s') :
    wpAny (model X.prog X.w) A (getItem (.ref a) u) Q E s := by
  rcases g with ⟨kvs, k, e, ey, l⟩ | ⟨kvs, k, b, e, ey, eb, l⟩
  · subst ey
    obtain ⟨z, hd, vs, rel, dd⟩ := dk_rd I.hok e
    obtain ⟨w', hw, rw'⟩ := RelO.some_of (v := v) (o := valueAt vs k) (by rw [l]; exact rel.val k)
    exact wpAny_getItem_of (kV_is ry) dd.mapOf hw (h w' _ (I.tok _) rw')
  · subst ey
    cases (show u = Value.ref b from ry)
    obtain ⟨z, hd, xs, rel, dd⟩ := dt_rd I.hok e
    obtain ⟨w', hw, rw'⟩ := RelO.some_of (v := v) (o := (atKey xs k).map (·.2)) (by rw [l]; exact rel.val k)
    obtain ⟨p, hp, hp2⟩ := Option.map_eq_some_iff.mp hw
    refine wpAny_getItem_heap (tupleKind_room_in1 hu) (key_of I.hok eb) dd hp ?_
    rw [hp2]
    exact h w' _ (I.tok _) rw'
theorem d_in {Q : Value → Shared → Prop} (hu : A.units + 1 < cLine) (I : Inv X pins σ H s) (g : DGet H a y o) (ry : RelV y u) (h : ∀ s', Inv X pins σ H s' → Q (.bool o.isSome) s') :
    wpAny (model X.prog X.w) A (compareOp .In u (.ref a)) Q E s := by
  rcases g with ⟨kvs, k, e, ey, l⟩ | ⟨kvs, k, b, e, ey, eb, l⟩
  · subst ey
    obtain ⟨z, hd, vs, rel, dd⟩ := dk_rd I.hok e
    refine wpAny_in_of (kV_is ry) hd dd.mapOf ?_
    rw [← (rel.val k).isSome_eq, ← l]
    exact h _ (I.tok _)
  · subst ey
    cases (show u = Value.ref b from ry)
    obtain ⟨z, hd, xs, rel, dd⟩ := dt_rd I.hok e
    refine wpAny_in_heap (tupleKind_room_in1 hu) (key_of I.hok eb) hd dd ?_
    have q := (rel.val k).isSome_eq
    rw [Option.isSome_map] at q
    rw [← q, ← l]
    exact h _ (I.tok _)
theorem d_notIn {Q : Value → Shared → Prop} (hu : A.units + 1 < cLine) (I : Inv X pins σ H s) (g : DGet H a y o) (ry : RelV y u) (h : ∀ s', Inv X pins σ H s' → Q (.bool (!o.isSome)) s') :
    wpAny (model X.prog X.w) A (compareOp .NotIn u (.ref a)) Q E s := by
  rcases g with ⟨kvs, k, e, ey, l⟩ | ⟨kvs, k, b, e, ey, eb, l⟩
  · subst ey
    obtain ⟨z, hd, vs, rel, dd⟩ := dk_rd I.hok e
    refine wpAny_notIn_of (kV_is ry) hd dd.mapOf ?_
    rw [← (rel.val k).isSome_eq, ← l]
    exact h _ (I.tok _)
  · subst ey
    cases (show u = Value.ref b from ry)
    obtain ⟨z, hd, xs, rel, dd⟩ := dt_rd I.hok e
    refine wpAny_notIn_heap (tupleKind_room_in1 hu) (key_of I.hok eb) hd dd ?_
    have q := (rel.val k).isSome_eq
    rw [Option.isSome_map] at q
    rw [← q, ← l]
    exact h _ (I.tok _)
theorem d_write {h' : Heap} {t' : Nat} {ob : HO} (I : Inv X pins σ H s) (mu : Mut (H a)) (hs : Heap.SameBut a s.heap h') (he : ∃ q, h'.get? a = some q) (new : ObjOk X.prog X.w (upd H a ob) h' a ob) :
    Inv X pins σ (upd H a ob) { s with heap := h', toks := t' } :=
  I.write (x := a) (e := a) mu (.inl rfl) (fun b q hb z => (hs.2 b hb).trans z) he new
theorem dk_new {P : Program} {w : World} {H' : Hp} {h' : Heap} {kvs : List (Key × V)} {vs : List (Key × Value)} (z : kvs.length ≤ sizeLine) (hd : (a == sysModules) = false) (rel : KV kvs vs) (dd : h'.DictOf (mixKind P w) a vs) :
    ObjOk P w H' h' a (.dK kvs) := ⟨z, hd, vs, rel, dd⟩
theorem d_setItem {H' : Hp} {Q : Unit → Shared → Prop} (hu : A.units + 1 < cLine) (I : Inv X pins σ H s) (g : DPut H a y v H') (ry : RelV y u) (rv : RelV v r) (h : ∀ s', Inv X pins σ H' s' → Q () s') :
    wpAny (model X.prog X.w) A (setItem (.ref a) u r) Q E s := by
  rcases g with ⟨kvs, k, e, ey, l, eH⟩ | ⟨kvs, k, b, e, ey, eb, l, eH⟩
  · subst ey eH
    obtain ⟨z, hd, vs, rel, dd⟩ := dk_of I.hok e
    have hz : vs.length ≤ sizeLine := by rw [← rel.length]; exact z
    have hl : (putK kvs k v).length ≤ sizeLine := by have := length_putK kvs k v; omega
    refine wpAny_setItem_pairs (hsz := hz) (kV_is ry) dd fun h' dd' hs => h _ ?_
    have he : ∃ q, h'.get? a = some q := let ⟨q, _, _, hq, _⟩ := dd'; ⟨q, hq⟩
    exact d_write I (by rw [e]; exact True.intro) hs he (dk_new hl hd (rel.put k rv) dd')
  · subst ey eH
    cases (show u = Value.ref b from ry)
    obtain ⟨z, hd, xs, rel, dd⟩ := dt_of I.hok e
    have hz : xs.length ≤ sizeLine := by rw [← Paired.length rel]; exact z
    have hl : (putK kvs k v).length ≤ sizeLine := by have := length_putK kvs k v; omega
    refine wpAny_setItem_heap (hsz := hz) (tupleKind_room_in1 hu) (key_of I.hok eb) dd fun h' dd' hs => h _ ?_
    obtain ⟨q, es, ep, hq, h2, h3, h4, _, h5⟩ := dd'
    refine d_write I (by rw [e]; exact True.intro) hs ⟨q, hq⟩ ⟨hl, hd, _, (rel.put k eb rv).keeps fun c ys ec => ?_, q, es, ep, hq, h2, h3, h4, h5⟩
    rw [upd_ne (ne_of ec e (fun z => nomatch z))]
    exact ec
end
section
variable {X : Cx} {pins : List (Addr × Obj)} {σ : St} {H : Hp} {s : Shared} {a : Addr} {kvs : List (Key × V)} {k : Key} {u : Value} {A : Around} {E : Value → Shared → Prop}
theorem d_len {Q : Value → Shared → Prop} (I : Inv X pins σ H s) (e : Rd H a (.dK kvs)) (h : ∀ t s', Inv X pins σ H s' → Q (.int kvs.length t) s') : wpAny (model X.prog X.w) A (call (.builtin "len") [.ref a]) Q E s := by
  obtain ⟨z, hd, vs, rel, dd⟩ := dk_rd I.hok e
  refine call_len_dict hd dd (by rw [← rel.length]; rw [sizeLine_eq] at z; omega) ?_
  rw [← rel.length]
  exact h _ _ (I.tok _)
end
def NoSl (i : Expr) : Prop := ∀ ov iv, subscripted i false ov iv = operate [ov, iv] (getItem ov iv)
theorem dict_typeIs {X : Cx} {pins : List (Addr × Obj)} {σ : St} {H : Hp} {s : Shared} {a : Addr} {y : V} {o : Option V} (I : Inv X pins σ H s) (g : DGet H a y o) : s.TypeIs (.ref a) "dict" := by
  rcases g with ⟨kvs, k, e, _, _⟩ | ⟨kvs, k, b, e, _, _, _⟩
  · obtain ⟨_, _, vs, _, dd⟩ := dk_rd I.hok e
    exact dd.typeIs
  · obtain ⟨_, _, xs, _, dd⟩ := dt_rd I.hok e
    exact dd.typeIs
def sDPut (td ty tv : TE) : TS := fun D σ H => tv σ H fun v H1 => td σ H1 fun x H2 => ty σ H2 fun y H3 => ∃ a H4, x = .ref a ∧ DPut H3 a y v H4 ∧ D.nx σ H4
section
variable {X : Cx} {o i e value : Expr} {pos pos' tpos : Pos} {td ty tv : TE}
theorem ps_dput (hu : X.A.units + 1 < cLine) (ho : PE X o td) (hi : PE X i ty) (hv : PE X value tv) (hs : swapsWith value (some (.Subscript o i pos')) pos.line X.env = pure false) :
    PS X (.Assign [.Subscript o i pos'] value pos) (sDPut td ty tv) := by
  intro pins s σ H D I h
  refine wpAny_Assign_Subscript (thn (hv pins s σ H _ I h) fun r s1 ⟨v, H1, I1, rv, q1⟩ => thn (ho pins s1 σ H1 _ I1 q1) fun u s2 ⟨x, H2, I2, rx, q2⟩ => thn (hi pins s2 σ H2 _ I2 q2) fun iv s3 ⟨y, H3, I3, ry, a, H4, ex, g, q3⟩ => ?_) hs
  subst ex
  obtain rfl : u = Value.ref a := rx
  exact d_setItem hu I3 g ry rv fun s4 I4 => ⟨σ, H4, I4, q3⟩
end
theorem dk_empty {P : Program} {w : World} {H : Hp} (h : Heap) (hb : sysModules < h.objs.size) : ObjOk P w H (h.push { cls := .type "dict", data := .dict #[] }) h.objs.size (.dK []) :=
  ⟨Nat.zero_le _, beq_eq_false_iff_ne.mpr (Ne.symm (Nat.ne_of_lt hb)), [], .nil, Heap.DictOf.new h⟩
def tDNewK : TE := fun _ H Q => ∀ p, H p = none → Q (.ref p) (upd H p (.dK []))
section
variable {X : Cx} {pos : Pos}
theorem pe_dnewK : PE X (.Dict [] [] pos) tDNewK := fun pins s σ H Q I h =>
  wpAny_Dict_empty ⟨.ref s.heap.objs.size, _, I.laid (a := s.heap.objs.size) (o := .dK []) (t' := s.toks) (fun _ _ q => Heap.get?_push_of_some _ q) (Nat.le_refl _) (dk_empty s.heap I.big), rfl, h _ (I.hok.fresh (Nat.le_refl _))⟩
end
def tPairs : List (TE × TE) → St → Hp → (List (V × V) → Hp → Prop) → Prop
  | [], _, H, Q => Q [] H
  | (tk, tv) :: r, σ, H, Q => tk σ H fun x H1 => tv σ H1 fun y H2 => tPairs r σ H2 fun ps H3 => Q ((x, y) :: ps) H3
abbrev VV : List (V × V) → List (Value × Value) → Prop := Paired fun p q => RelV p.1 q.1 ∧ RelV p.2 q.2
def PPs (X : Cx) (pos : Pos) (keys : List (Option Expr)) (values : List Expr) (trs : List (TE × TE)) : Prop :=
  ∀ (pins : List (Addr × Obj)) (s : Shared) (σ : St) (H : Hp) (Q : List (V × V) → Hp → Prop), Inv X pins σ H s → tPairs trs σ H Q →
    wpAny (model X.prog X.w) X.A (evalPairs (pairTrees keys values X.env pos)) (fun vs s' => ∃ ps H', Inv X pins σ H' s' ∧ VV ps vs ∧ Q ps H') X.xe s
theorem pps_nil {X : Cx} {pos : Pos} : PPs X pos [] [] [] := fun pins s σ H Q I h => pairTrees_nil_walk ⟨[], H, I, .nil, h⟩
theorem pps_cons {X : Cx} {pos : Pos} {k v : Expr} {ks : List (Option Expr)} {vs : List Expr} {tk tv : TE} {trs : List (TE × TE)} (hk : PE X k tk) (hv : PE X v tv) (hr : PPs X pos ks vs trs) :
    PPs X pos (some k :: ks) (v :: vs) ((tk, tv) :: trs) := fun pins s σ H Q I h =>
  pairTrees_cons_walk (thn (hk pins s σ H _ I h) fun u s1 ⟨x, H1, I1, rx, q1⟩ => thn (hv pins s1 σ H1 _ I1 q1) fun w2 s2 ⟨y, H2, I2, ry, q2⟩ =>
    thn (hr pins s2 σ H2 _ I2 q2) fun ws s3 ⟨ps, H3, I3, rel, q3⟩ => ⟨(x, y) :: ps, H3, I3, .cons ⟨rx, ry⟩ rel, q3⟩)
def mergeK (kvs more : List (Key × V)) : List (Key × V) := more.foldl (fun acc kv => putK acc kv.1 kv.2) kvs
theorem KV.merge : ∀ {more : List (Key × V)} {rs : List (Key × Value)} {kvs : List (Key × V)} {vs : List (Key × Value)}, KV more rs → KV kvs vs → KV (mergeK kvs more) (merged vs rs) := by
  intro more rs kvs vs r
  unfold KV at r
  induction r generalizing kvs vs with
  | nil => intro q; exact q
  | @cons p q ps qs h t ih =>
    intro r0
    have e : KV (putK kvs p.1 p.2) (stored vs q.1 q.2) := by
      have := r0.put p.1 h.2
      rw [← h.1]; exact this
    exact ih e
theorem length_mergeK : ∀ (more kvs : List (Key × V)), (mergeK kvs more).length ≤ kvs.length + more.length
  | [], kvs => by show kvs.length ≤ kvs.length + 0; omega
  | p :: r, kvs => by
    have h1 := length_mergeK r (putK kvs p.1 p.2)
    have h2 := length_putK kvs p.1 p.2
    show (mergeK (putK kvs p.1 p.2) r).length ≤ _
    rw [List.length_cons]; omega
theorem carries_of {P : Program} {w : World} : ∀ {kvs : List (Key × V)} {ws : List (Value × Value)}, VV (kvs.map fun kv => (kV kv.1, kv.2)) ws → ∃ rs, Carries (mixKind P w) ws rs ∧ KV kvs rs
  | [], _, r => by rw [List.map_nil] at r; cases r; exact ⟨[], True.intro, .nil⟩
  | p :: kvs, _, r => by
    rw [List.map_cons] at r
    cases r with
    | @cons a b as bs h t =>
      obtain ⟨rs, c, q⟩ := carries_of (P := P) (w := w) t
      obtain ⟨b1, b2⟩ := b
      exact ⟨(p.1, b2) :: rs, ⟨kV_is h.1, rfl, c⟩, .cons ⟨rfl, h.2⟩ q⟩
def tDisp (trs : List (TE × TE)) : TE := fun σ H Q => ∀ p, H p = none → tPairs trs σ (upd H p (.dK [])) fun ps H2 => H2 p = some (.dK []) ∧ ∃ kvs : List (Key × V), ps = kvs.map (fun kv => (kV kv.1, kv.2)) ∧ kvs.length ≤ 15 ∧ Q (.ref p) (upd H2 p (.dK (mergeK [] kvs)))
theorem pe_disp {X : Cx} {pos : Pos} {keys : List (Option Expr)} {values : List Expr} {trs : List (TE × TE)} (h : PPs X pos keys values trs) (hall : keys.all (·.isSome) = true) (hl : keys.length = values.length) (h0 : keys ≠ [])
    (h15 : keys.length ≤ 15) : PE X (.Dict keys values pos) (tDisp trs) := by
  intro pins s σ H Q I q
  have hn := I.hok.fresh (Nat.le_refl s.heap.objs.size)
  have I1 := I.laid (a := s.heap.objs.size) (o := .dK []) (h' := s.heap.push { cls := .type "dict", data := .dict #[] }) (t' := s.toks) (fun _ _ q => Heap.get?_push_of_some _ q) (Nat.le_refl _) (dk_empty s.heap I.big)
  refine wpAny_Dict_walk (knd := mixKind X.prog X.w) hall hl h0 h15 (thn (h pins _ σ _ _ I1 (q _ hn)) fun ws s2 ⟨ps, H2, I2, rel, e, kvs, ep, lk, q2⟩ => ?_)
  subst ep
  obtain ⟨rs, c, rk⟩ := carries_of (P := X.prog) (w := X.w) rel
  obtain ⟨z, hd, vs0, r0, dd⟩ := dk_of I2.hok e
  cases r0
  refine ⟨rs, c, dd, fun h' dd' hs => ⟨.ref s.heap.objs.size, _, ?_, rfl, q2⟩⟩
  have hz : (mergeK [] kvs).length ≤ sizeLine := by
    have h1 := length_mergeK kvs []
    rw [List.length_nil] at h1
    rw [sizeLine_eq]; omega
  have he : ∃ q, h'.get? s.heap.objs.size = some q := let ⟨q, _, _, hq, _⟩ := dd'; ⟨q, hq⟩
  exact d_write I2 (by rw [e]; exact True.intro) hs he (dk_new hz hd (rk.merge .nil) dd')
structure M1 (X : Cx) (o : Expr) (m : Str) (apos : Pos) (e : Expr) (cpos : Pos) : Prop where
  base : attributeBase o m X.env (eval o X.env) = eval o X.env
  few : ((backTo cpos (starEach [e] X.env)).all (fun x => !x.1) && (backToKw cpos (keywordEach [] X.env)).all (fun x => x.1.isSome)
    && decide (([e] : List Expr).length + ([] : List Keyword).length + (if ([] : List Keyword).isEmpty then 0 else 1) < 30)) = true
  line : (apos.endLine == cpos.line) = true
  trees : backTo cpos (starEach [e] X.env) = [(false, eval e X.env)]
def IsD (H : Hp) (a : Addr) : Prop := (∃ kvs, Rd H a (.dK kvs)) ∨ ∃ kvs, Rd H a (.dT kvs)
theorem isD_at {X : Cx} {pins : List (Addr × Obj)} {σ : St} {H : Hp} {s : Shared} {a : Addr} (I : Inv X pins σ H s) (d : IsD H a) :
    s.TypeIs (.ref a) "dict" ∧ (∀ b, Value.ref a = .ref b → ∃ ob, s.heap.get? b = some ob ∧ ob.dict = none) ∧ (a == sysModules) = false := by
  rcases d with ⟨kvs, e⟩ | ⟨kvs, e⟩
  · obtain ⟨_, hd, vs, _, dd⟩ := dk_rd I.hok e
    refine ⟨dd.typeIs, fun b q => ?_, hd⟩
    cases q
    obtain ⟨ob, _, _, h1, h2, _⟩ := dd
    exact ⟨ob, h1, h2.2.1⟩
  · obtain ⟨_, hd, xs, _, dd⟩ := dt_rd I.hok e
    refine ⟨dd.typeIs, fun b q => ?_, hd⟩
    cases q
    obtain ⟨ob, _, _, h1, h2, _⟩ := dd
    exact ⟨ob, h1, h2.2.1⟩
section
variable {X : Cx} {pins : List (Addr × Obj)} {σ : St} {H : Hp} {s : Shared} {a : Addr} {y d : V} {u r : Value} {o : Option V} {A : Around} {E : Value → Shared → Prop}
theorem d_get1 {Q : Value → Shared → Prop} (hu : A.units + 1 < cLine) (I : Inv X pins σ H s) (g : DGet H a y o) (ry : RelV y u) (h : ∀ w' s', Inv X pins σ H s' → RelV (o.getD .non) w' → Q w' s') :
    wpAny (model X.prog X.w) A (call (.builtin "dict.get") [.ref a, u]) Q E s := by
  rcases g with ⟨kvs, k, e, ey, l⟩ | ⟨kvs, k, b, e, ey, eb, l⟩
  · subst ey
    obtain ⟨z, hd, vs, rel, dd⟩ := dk_rd I.hok e
    refine call_meetsIn PySem.F.slot_dict_get dd.typeIs PySem.F.entry_dict_get (PySem.F.args_dict_get_2 _ _) (meets_dict_get (mixKind X.prog X.w) a (kV_is ry) hd) ⟨_, dd.mapOf, h _ _ (I.tok _) ?_⟩
    rw [l]
    exact (rel.val k).getD rfl
  · subst ey
    cases (show u = Value.ref b from ry)
    obtain ⟨z, hd, xs, rel, dd⟩ := dt_rd I.hok e
    refine call_meetsIn PySem.F.slot_dict_get dd.typeIs PySem.F.entry_dict_get (PySem.F.args_dict_get_2 _ _) (meetsH_dict_get (tupleKind (mixKind X.prog X.w)) a b hd) ⟨tupleKind_room_in1 hu, k, xs, key_of I.hok eb, dd, h _ _ (I.tok _) ?_⟩
    rw [l]
    exact (rel.val k).getD rfl
end
def tDGet1 (td ty : TE) : TE := fun σ H Q => td σ H fun x H1 => ∃ a, x = .ref a ∧ IsD H1 a ∧ ty σ H1 fun y H2 => ∃ o, DGet H2 a y o ∧ Q (o.getD .non) H2
section
variable {X : Cx} {o e f : Expr} {apos cpos : Pos} {td ty tx : TE}
theorem pe_dget1 (hu : X.A.units + 1 < cLine) (ho : PE X o td) (he : PE X e ty) (m : M1 X o "get" apos e cpos) : PE X (.Call (.Attribute o "get" apos) [e] [] cpos) (tDGet1 td ty) := by
  intro pins s σ H Q I h
  refine wpAny_Call_method m.base m.few m.line PySem.F.plainAttrs_dict PySem.F.slot_dict_get PySem.F.type_dict_get (thn (ho pins s σ H _ I h) fun u s1 ⟨x, H1, I1, rx, a, ex, d, q1⟩ => ?_)
  subst ex
  obtain rfl : u = Value.ref a := rx
  obtain ⟨t1, t2, _⟩ := isD_at I1 d
  refine ⟨t1, t2, ?_⟩
  rw [m.trees]
  refine Calls.callWith_builtin rfl (Calls.evalArgs_plain (Calls.spliced_cons (thn (he pins s1 σ H1 _ I1 q1) fun iv s2 ⟨y, H2, I2, ry, ov, g, q2⟩ => Calls.spliced_nil ?_)))
  exact d_get1 hu I2 g ry fun w' s3 I3 rw' => ⟨_, H2, I3, rw', q2⟩
end
section
variable {X : Cx} {pins : List (Addr × Obj)} {σ : St} {H : Hp} {s : Shared} {a : Addr} {kvs : List (Key × V)} {A : Around} {E : Value → Shared → Prop}
theorem d_copyOf {Q : Value → Shared → Prop} (I : Inv X pins σ H s) (e : Rd H a (.dK kvs)) (h : ∀ p s', H p = none → Inv X pins σ (upd H p (.dK kvs)) s' → Q (.ref p) s') : wpAny (model X.prog X.w) A (call (.type "dict") [.ref a]) Q E s := by
  obtain ⟨z, hd, vs, rel, dd⟩ := dk_rd I.hok e
  refine kt_call_dict hd dd (by rw [← rel.length]; exact z) fun h' dd' hs => ?_
  refine h _ _ (I.hok.fresh (Nat.le_refl _)) (I.laid (a := s.heap.objs.size) (o := .dK kvs) (t' := s.toks) (fun b q hq => ?_) (Nat.le_refl _) (dk_new z (beq_eq_false_iff_ne.mpr (Ne.symm (Nat.ne_of_lt I.big))) rel dd'))
  exact (hs.2 b (Nat.ne_of_lt (Heap.lt_size hq))).trans (Heap.get?_push_of_some _ hq)
end
section
variable {X : Cx} {pins : List (Addr × Obj)} {σ : St} {H : Hp} {s : Shared} {a : Addr} {y : V} {u : Value} {A : Around} {E : Value → Shared → Prop}
end
end L2
namespace L2
open PySem PySem.Spec PyProof.Rows
section
variable {X : Cx}
end
section
variable {κ : Type} [DecidableEq κ]
end
end L2
set_option Elab.async false
set_option linter.all false
set_option maxRecDepth 100000
set_option maxHeartbeats 4000000
namespace L2
open PySem PySem.Spec PyProof.Rows
def Its (x : Str) : It := ⟨fun i _ => i < x.cps.size, fun i H v H' => H' = H ∧ ∃ c, x.cps[i]? = some c ∧ v = .str ⟨#[c]⟩, fun i _ => i = x.cps.size⟩
theorem go_str {M : Model} {A : Around} {E : Value → Shared → Prop} {s : Shared} {tg : Expr} {it : Addr} {y : Str} {t : Tok} {Q : Unit → Shared → Prop} (hQ : Q () s) : wpAny M A (letOwnedTupleGo tg (.ref it) (.str y t)) Q E s := by
  unfold letOwnedTupleGo
  cases tg <;> exact wpAny_pure hQ
theorem turn_str {P : Program} {w : World} {K : PySem.W.Frag} {tg : Expr} (T : String) (it : Addr) (x : Str) (t : Tok)
    (W : ∀ A : Around, A.handled = none → Walks P w A it [it] [it] x.cps.size (SignAt x) (fun i h => h.IsStrIter it T x t i))
    (hs : ∀ (A : Around) (i : Nat) (s : Shared) (Q : Value → Shared → Prop) (E : Value → Shared → Prop), s.heap.IsStrIter it T x t i → Q (.ref it) s → wpAny (model P w) A (pyIter (.ref it)) Q E s) :
    Turn P w K tg (Its x) [it] it (fun i h => h.IsStrIter it T x t i) where
  mem := by simp
  obj := fun i h st b hb => by
    have e : b = it := by simpa using hb
    subst e
    obtain ⟨o, e, c, d⟩ := st
    exact ⟨o, e, fun v z => by rw [d] at z; cases z⟩
  keep := fun i h h' st k => by
    obtain ⟨o, e, r⟩ := st
    exact ⟨o, k it (by simp) o e, r⟩
  item := by
    intro X hP hw hK hc i pins s σ H E I hf st hg
    subst hP hw hK
    obtain ⟨f0, f1, f2, f3, f4, f5⟩ := hf it (by simp)
    refine (W X.A (I.ok.hd hc)).item i s _ _ hg st fun v h' tk hv st' kk => ?_
    obtain ⟨c, u, hcu, rfl⟩ := hv
    have I1 : Inv X pins σ H { s with heap := h', toks := tk } := I.turned (fun b o hb e => kk b o (by simpa using hb) e) f0 f1 f3 f4 f5
    exact ⟨_, rfl, go_str ⟨.str ⟨#[c]⟩, H, I1, ⟨u, rfl⟩, ⟨rfl, c, hcu, rfl⟩, st', fun b hb => (hf b hb).1⟩⟩
  done := by
    intro X hP hw hK hc i pins s σ H E I hf st hg
    subst hP hw hK
    obtain ⟨f0, f1, f2, f3, f4, f5⟩ := hf it (by simp)
    have hg' : i = x.cps.size := hg
    subst hg'
    refine (W X.A (I.ok.hd hc)).done s _ _ st fun h' tk kk => ?_
    exact ⟨rfl, I.turned (fun b o hb e => kk b o (by simpa using hb) e) f0 f1 f3 f4 f5⟩
  self := hs
section
variable {X : Cx} {tg : Expr}
end
section
variable {prog : Program} {w : World} {A : Around} {R : Result → Shared → Prop} {s : Shared}
theorem compLoop_gen {elt target iter : Expr} {ifs : List Expr} {scope : Scope} {pos : Pos} {it acc : Value} {env : Env} (I : Nat → Shared → Prop)
    (turn : ∀ n s, I n s → wpAny (model prog w) A (pyNext it) (fun r s₁ => match r with
      | none => R (.ok .next) s₁
      | some v => wpAny (model prog w) A (letOwnedTupleGo target it v) (fun _ s₁' => wpAny (model prog w) A (assign target env v) (fun _ s₂ =>
          wpAny (model prog w) A (forIn ifs true fun c r => if r = true then do let ok ← isTrue c env (eval c env); pure (ForInStep.yield ok) else pure (ForInStep.yield r)) (fun ok s₃ =>
            if ok = true then wpAny (model prog w) A (eval elt env) (fun x s₄ =>
              wpAny (model prog w) A (call (.builtin "list.append") [acc, x]) (fun _ s₅ => ∃ m, m < n ∧ I m s₅) (fun _ _ => False) s₄) (fun _ _ => False) s₃
            else ∃ m, m < n ∧ I m s₃) (fun _ _ => False) s₂) (fun _ _ => False) s₁') (fun _ _ => False) s₁) (fun _ _ => False) s)
    (n : Nat) (h : I n s) :
    codeAny (model prog w) A (.compLoop (.ListComp elt [⟨target, iter, ifs, 0⟩] scope pos) 0 it acc env) R s := by
  refine codeAny_loop rfl I (fun n s hI => ?_) n h
  show wpAny _ A ((compTurn (.ListComp elt [⟨target, iter, ifs, 0⟩] scope pos) 0 it acc env).onRaise (fun x => do noteFrame x env; theTreesLotGoes x)) _ _ s
  refine wpAny_noted ?_
  rw [compTurn_list]
  refine wpAny_bind (wpAny_standAt (wpAny_bind (wpAny_mono (turn n s hI) (fun r s₁ h₁ => ?_) fun _ _ h' => h'.elim)))
  cases r with
  | none => exact wpAny_pure h₁
  | some v =>
    refine wpAny_bind (wpAny_mono h₁ (fun _ s₁' h₁' => ?_) fun _ _ h' => h'.elim)
    refine wpAny_bind (wpAny_mono h₁' (fun _ s₂ h₂ => wpAny_bind (wpAny_mono h₂ (fun ok s₃ h₃ => ?_) fun _ _ h' => h'.elim)) fun _ _ h' => h'.elim)
    cases ok with
    | false => exact wpAny_pure ⟨rfl, h₃⟩
    | true =>
      exact wpAny_bind (wpAny_bind (wpAny_mono h₃ (fun x s₄ h₄ => wpAny_bind (wpAny_mono h₄ (fun _ s₅ h₅ => wpAny_pure (wpAny_pure ⟨rfl, h₅⟩)) fun _ _ h' => h'.elim)) fun _ _ h' => h'.elim))
end
def compCx (X : Cx) (N : List Str) (scope : Scope) (cl : List (Str × Addr)) (C : Addr) (s₀ : Shared) (H₀ : Hp) (ex : List Addr) : Cx :=
  { X with N := N, s₀ := s₀, H₀ := H₀, env := compEnvC scope cl C X.env, outer := X.stack, stack := X.stack, ex := ex, fn := fun _ => false, pn := [], xe := fun _ _ => False }
def PIfs (X : Cx) (ifs : List Expr) (t : TT) : Prop :=
  ∀ (pins : List (Addr × Obj)) (s : Shared) (σ : St) (H : Hp) (Q : Bool → Hp → Prop), Inv X pins σ H s → t σ H Q →
    wpAny (model X.prog X.w) X.A (forIn ifs true fun c r => if r = true then do let ok ← isTrue c X.env (eval c X.env); pure (ForInStep.yield ok) else pure (ForInStep.yield r)) (TP X pins σ Q) X.xe s
theorem pifs_one {X : Cx} {c : Expr} {t : TT} (h : PT X c t) : PIfs X [c] t := fun pins s σ H Q I hq => wpAny_tests_one (h pins s σ H Q I hq)
def tComp (wi : TI) (cs : St → St) (g : TG) (ti : TT) (te : TE) : TE := fun σ H Q => wi σ H fun J H1 => ∃ W : Nat → Nat → List V → Hp → Prop, (∃ m, W 0 m [] H1) ∧ ∀ i m ys H, W i m ys H →
  ys.length ≤ sizeLine ∧ ((J.stop i H ∧ ∀ p, H p = none → Q (.ref p) (upd H p (.lst ys))) ∨
  (J.go i H ∧ ∀ x H', J.yld i H x H' → g x (cs σ) H' fun σ2 H2 => ti σ2 H2 fun ok H3 => if ok = true then te σ2 H3 fun y H4 => ∃ m', m' < m ∧ W (i + 1) m' (ys ++ [y]) H4 else ∃ m', m' < m ∧ W (i + 1) m' ys H3))
def csOf (nl : Nat) (js : List Nat) (σ : St) : St := List.replicate nl none ++ js.map fun j => (σ[j]?).join
structure CompOk (X : Cx) (N : List Str) (nl : Nat) (js : List Nat) (scope : Scope) (cl : List (Str × Addr)) : Prop where
  clos : closureFor scope X.env = pure cl
  nocell : ∀ y ∈ scope.names, y.2 ≠ .cell
  kind : scope.kind = .function
  names : ∀ y ∈ scope.names, y.2 = .local → scope.names.lookup y.1 = some .local
  cells : ∀ x c, cl.lookup x = some c → X.env.cells.lookup x = some c
  has : ∀ x, ((relabel scope X.env).names.lookup x = some .cell ∨ (relabel scope X.env).names.lookup x = some .free) → ∃ c, cl.lookup x = some c
  len : N.length = nl + js.length
  free : ∀ k j x, js[k]? = some j → N[nl + k]? = some x → X.N[j]? = some x ∧ (X.env.kindOf x = some .cell ∨ X.env.kindOf x = some .free) ∧ Vis X.env.scope x ∧
    ((relabel scope X.env).names.lookup x = some .cell ∨ (relabel scope X.env).names.lookup x = some .free)
  /-- the target stores own names alone -/
def KeepsT (g : TG) (cs : St → St) : Prop := ∀ (σ : St) (x : V) (H : Hp) (K : St → Hp → Prop), g x (cs σ) H K → g x (cs σ) H fun σ2 H2 => (σ2.length = (cs σ).length ∧ ∀ (j : Nat) (v : V), (cs σ)[j]? = some (some v) → σ2[j]? = some (some v)) ∧ K σ2 H2
theorem keeps_name {i nl : Nat} {js : List Nat} (hi : i < nl) : KeepsT (gName i) (csOf nl js) := fun σ x H K h => by
  refine ⟨⟨by simp, fun j v e => ?_⟩, h⟩
  by_cases hj : j = i
  · subst hj
    unfold csOf at e
    rw [List.getElem?_append_left (by simpa using hi), List.getElem?_replicate, if_pos hi] at e
    cases e
  · rw [List.getElem?_set_ne (Ne.symm hj)]; exact e
section
variable {X : Cx}
theorem Inv.comp {pins : List (Addr × Obj)} {σ : St} {H : Hp} {s s4 : Shared} {N : List Str} {nl : Nat} {js : List Nat} {scope : Scope} {cl : List (Str × Addr)} {C D : Addr} {fp : List Addr} {oD : Obj} {m : Str → Option Value}
    (I : Inv X pins σ H s) (ok : CompOk X N nl js scope cl) (hf : ∀ b ∈ fp, FpOk X pins H b) (hfp : ∀ b ∈ fp, b < s.heap.objs.size) (hC : s.heap.objs.size ≤ C) (hD : s.heap.objs.size ≤ D) (hDC : D ≠ C)
    (ho : s4.os = s.os) (hg : AllBare s4.gens) (k : ∀ b o, s.heap.get? b = some o → s4.heap.get? b = some o) (hn : s4.heap.Ns C m) (hDo : s4.heap.get? D = some oD) (hDd : ∀ v, oD.data ≠ .cell v) :
    Inv (compCx X N scope cl C s H fp) [(D, oD)] (csOf nl js σ) H s4 := by
  have stk : ∀ b, s.heap.objs.size ≤ b → b ∉ frs X.stack := fun b hb z => by
    rcases List.mem_cons.mp (I.stkSub b z) with e | e
    · rw [e] at hb; exact absurd (Nat.lt_of_lt_of_le I.lt hb) (Nat.lt_irrefl _)
    · exact I.nofs hb e
  refine ⟨⟨I.ok.mod, ok.kind, I.ok.glob, I.ok.blt, hC, fun x y c h1 h2 => I.ok.inj x y c (ok.cells x c h1) (ok.cells y c h2), fun x h => ok.has x h, (fun x c h => nomatch h), I.ok.hd, I.ok.frames, .inl rfl, fun b hb => ⟨?_, fun x c e z => ?_⟩, I.bs, Nat.le_trans I.ok.bsz I.sz, fun b o e hb => ?_, fun b hb => ?_, I.stack, I.stkFree⟩,
    ho, hg, Un.kept k, ⟨m, hn, fun i x v h1 h2 h3 => ?_⟩, fun x c e => ?_, I.hok.fresh hC, fun x c e => I.freeC x c (ok.cells x c e), fun p hp => ?_, I.hok.kept k, ?_⟩
  · exact Nat.ne_of_lt (Nat.lt_of_lt_of_le (hfp b hb) hC)
  · exact (hf b hb).2.2.2.2.1 x c (ok.cells x c e) z
  · have hb : b ∈ fp := hb
    rcases (hf b hb).2.2.2.1 with z | z
    · exact I.ok.noex b o e z
    · exact absurd (Nat.lt_of_lt_of_le (Heap.lt_size e) (Nat.le_trans I.ok.bsz z)) (Nat.lt_irrefl _)
  · have hb : b ∈ fp := hb
    intro z
    rcases List.mem_cons.mp (I.stkSub b z) with e | e
    · exact (hf b hb).2.1 e
    · exact (hf b hb).2.2.1 e
  · have h1 : N[i]? = some x := h1
    unfold csOf at h2
    have hi : nl ≤ i := by
      rcases Nat.lt_or_ge i nl with z | z
      · rw [List.getElem?_append_left (by simpa using z), List.getElem?_replicate, if_pos z] at h2; cases h2
      · exact z
    rw [List.getElem?_append_right (by simpa using hi), List.length_replicate, List.getElem?_map] at h2
    cases ej : js[i - nl]? with
    | none => rw [ej] at h2; cases h2
    | some j =>
      rw [ej] at h2
      have h2' : (σ[j]?).join = some v := by simpa using h2
      have e2 : σ[j]? = some (some v) := by
        cases q : σ[j]? with
        | none => rw [q] at h2'; cases h2'
        | some y => rw [q] at h2'; rw [show y = some v from h2']
      obtain ⟨g1, g2, g3, g4⟩ := ok.free (i - nl) j x ej (by rw [Nat.add_sub_cancel' hi]; exact h1)
      obtain ⟨m0, hn0, hl⟩ := I.loc
      obtain ⟨u, r, l⟩ := hl j x v g1 e2 g3
      refine ⟨u, r, .inr ⟨g4, ?_⟩⟩
      rcases l with ⟨lk, _⟩ | ⟨_, c, ec, ic⟩
      · rcases g2 with z | z <;> (rw [z] at lk; cases lk)
      · obtain ⟨c', ec'⟩ := ok.has x g4
        have : c' = c := Option.some.inj ((ok.cells x c' ec').symm.trans ec)
        subst this
        obtain ⟨oc, hoc, hd⟩ := ic
        exact ⟨c', ec', oc, k _ _ hoc, hd⟩
  · obtain ⟨v, oc, hoc, hd⟩ := I.cell x c (ok.cells x c e)
    exact ⟨v, oc, k _ _ hoc, hd⟩
  · have hp : p ∈ [(D, oD)] := hp
    have e : p = (D, oD) := by simpa using hp
    subst e
    exact ⟨hDo, I.hok.fresh hD, hDC, stk D hD, hDd⟩
  · show (csOf nl js σ).length = N.length
    unfold csOf
    rw [List.length_append, List.length_replicate, List.length_map]
    exact ok.len.symm
def CompEnd (X : Cx) (pins : List (Addr × Obj)) (σ : St) (Q : VK) (acc : Value) (C : Addr) (s' : Shared) : Prop :=
  ∃ D H' m, acc = .ref D ∧ Inv X pins σ H' s' ∧ FpOk X pins H' C ∧ s'.heap.Ns C m ∧ Q (.ref D) H'
theorem comp_run {N : List Str} {nl : Nat} {js : List Nat} {scope : Scope} {cl : List (Str × Addr)} {elt target iter : Expr} {ifs : List Expr} {pos : Pos} {wi : TI} {g : TG} {ti : TT} {te : TE} {pins : List (Addr × Obj)} {s : Shared} {σ : St} {H : Hp} {Q : VK}
    {E : Value → Shared → Prop} (RR : Value → Addr → Result → Shared → Prop) (hRR : ∀ acc C s', CompEnd X pins σ Q acc C s' → RR acc C (.ok .next) s')
    (hc : X.calm = true) (ok : CompOk X N nl js scope cl) (hi : PI X target iter wi) (hk : KeepsT g (csOf nl js))
    (hg : ∀ C s₀ H₀ ex, PG (compCx X N scope cl C s₀ H₀ ex) target g) (ht : ∀ C s₀ H₀ ex, PIfs (compCx X N scope cl C s₀ H₀ ex) ifs ti) (he : ∀ C s₀ H₀ ex, PE (compCx X N scope cl C s₀ H₀ ex) elt te)
    (I : Inv X pins σ H s) (h : tComp wi (csOf nl js) g ti te σ H Q) :
    wpAny (model X.prog X.w) X.A (eval iter X.env) (fun x s₁ => wpAny (model X.prog X.w) X.A (pyIter x) (fun it s₂ => wpAny (model X.prog X.w) X.A (newList []) (fun acc s₃ =>
      wpAny (model X.prog X.w) X.A (newFunctionEnv scope X.env.globals cl [] X.env.qual none .none (some X.env)) (fun cenv s₄ =>
        codeAny (model X.prog X.w) X.A (.compStart (.ListComp elt [⟨target, iter, ifs, 0⟩] scope pos) 0 it acc { cenv with scope := relabel scope X.env }) (RR acc cenv.locals) s₄) E s₃) E s₂) X.xe s₁) X.xe s := by
  refine thn (hi pins s σ H _ I h) fun v s1 h1 => thn h1 fun itv s2 h2 => ?_
  obtain ⟨it, fp, tn, J, H2, e, I2, T, st2, f2, W, ⟨m0, w0⟩, turn⟩ := h2
  subst e
  have hfp : ∀ b ∈ fp, b < s2.heap.objs.size := fun b hb => by
    obtain ⟨o, e, _⟩ := T.obj _ _ st2 b hb
    exact Heap.lt_size e
  refine wpAny_newObj_type (wpAny_newFunctionEnv ok.nocell (by intro y hy; simp at hy) (fun h₁ hns₁ hsb₁ => ?_) ok.kind)
  dsimp only at hns₁ hsb₁ ⊢
  generalize hP2 : s2.heap.push { cls := .type "list", dict := none, data := .seq ([] : List Value).toArray } = P2 at hns₁ hsb₁ ⊢
  have hC : P2.objs.size = s2.heap.objs.size + 1 := by rw [← hP2, Heap.size_push]
  have hDC : s2.heap.objs.size ≠ P2.objs.size := by rw [hC]; exact Nat.ne_of_lt (Nat.lt_succ_self _)
  have hCle : s2.heap.objs.size ≤ P2.objs.size := by rw [hC]; exact Nat.le_succ _
  have below : ∀ b, b < s2.heap.objs.size → b ≠ P2.objs.size ∧ b ≠ s2.heap.objs.size := fun b hb => ⟨by rw [hC]; exact Nat.ne_of_lt (Nat.lt_succ_of_lt hb), Nat.ne_of_lt hb⟩
  have old : ∀ b o, s2.heap.get? b = some o → h₁.get? b = some o := fun b o e => hsb₁.extBut b o (below b (Heap.lt_size e)).1 (Heap.get?_push_of_some _ (hP2 ▸ Heap.get?_push_of_some _ e))
  have hacc : h₁.PlainList s2.heap.objs.size #[] := ⟨_, hsb₁.extBut _ _ hDC (Heap.get?_push_of_some _ (hP2 ▸ Heap.get?_push_size _ rfl))⟩
  obtain ⟨n0, ha0⟩ := hacc
  generalize hCC : P2.objs.size = C at *
  generalize hDD : s2.heap.objs.size = D at *
  -- the block's context
  have I4 : Inv (compCx X N scope cl C s2 H2 fp) [(D, { cls := .type "list", data := .seq ([] : List Value).toArray n0 })] (csOf nl js σ) H2 { s2 with heap := h₁, toks := s2.toks + ([] : List (Str × Value)).length } :=
    I2.comp ok f2 (fun b hb => by rw [hDD]; exact hfp b hb) (by rw [hDD]; exact hCle) (by rw [hDD]; exact Nat.le_refl _) hDC rfl I2.bare old hns₁ ha0 (fun v z => nomatch z)
  have st4 : tn 0 h₁ := T.keep _ _ _ st2 fun b hb o e => old b o e
  -- what stays true of the records
  have nD : ∀ b ∈ fp, b ≠ D := fun b hb => Nat.ne_of_lt (hfp b hb)
  have nC : ∀ b ∈ fp, b ≠ C := fun b hb => (below b (hfp b hb)).1
  have stkD : ∀ b, D ≤ b → b ∉ frs X.stack := fun b hb z => by
    rcases List.mem_cons.mp (I2.stkSub b z) with e | e
    · rw [e] at hb; exact absurd (Nat.lt_of_lt_of_le I2.lt (by rw [hDD]; exact hb)) (Nat.lt_irrefl _)
    · exact I2.nofs (by rw [hDD]; exact hb) e
  have cellD : ∀ x c b, D ≤ b → cl.lookup x = some c → c ≠ b := fun x c b hb e z => by
    obtain ⟨v, q⟩ := I2.cell x c (ok.cells x c e)
    exact absurd (Nat.lt_of_lt_of_le q.lt (by rw [z, hDD]; exact hb)) (Nat.lt_irrefl _)
  have stat : ∀ {H' : Hp} {oD : Obj}, (∀ b ∈ fp, H' b = none) → ∀ b ∈ fp, FpOk (compCx X N scope cl C s2 H2 fp) [(D, oD)] H' b := fun {H' oD} hn b hb => by
    refine ⟨hn b hb, nC b hb, fun z => ?_, .inl hb, fun x c e z => (f2 b hb).2.2.2.2.1 x c (ok.cells x c e) z, fun p hp z => ?_⟩
    · have z : b ∈ frs X.stack := z
      rcases List.mem_cons.mp (I2.stkSub b z) with e | e
      · exact (f2 b hb).2.1 e
      · exact (f2 b hb).2.2.1 e
    · have hp : p = (D, oD) := by simpa [compCx] using hp
      subst hp
      exact nD b hb z.symm
  have loop : ∀ s₃ : Shared, s₃ = { s2 with heap := h₁, toks := s2.toks + ([] : List (Str × Value)).length } →
      codeAny (model X.prog X.w) X.A (.compLoop (.ListComp elt [⟨target, iter, ifs, 0⟩] scope pos) 0 (.ref it) (.ref D) (compEnvC scope cl C X.env)) (RR (.ref D) C) s₃ := by
    rintro s₃ rfl
    refine compLoop_gen (env := compEnvC scope cl C X.env) (fun n s' => ∃ i ys us nn H', Inv (compCx X N scope cl C s2 H2 fp) [(D, { cls := .type "list", data := .seq (us : List Value).toArray nn })] (csOf nl js σ) H' s' ∧ Vals ys us ∧ tn i s'.heap ∧ (∀ b ∈ fp, H' b = none) ∧ W i n ys H')
      ?_ m0 ⟨0, [], [], n0, H2, I4, .nil, st4, fun b hb => (f2 b hb).1, w0⟩
    rintro n s3 ⟨i, ys, us, nn, H3, I3, rv3, st3, fr3, w3⟩
    obtain ⟨hsz, tr⟩ := turn i n ys H3 w3
    rcases tr with ⟨stop, qn⟩ | ⟨go, step⟩
    · refine wpAny_mono (T.done (compCx X N scope cl C s2 H2 fp) rfl rfl rfl hc i _ s3 (csOf nl js σ) H3 (fun _ _ => False) I3 (stat fr3) st3 stop) (fun r s4 hr => ?_) fun _ _ z => z
      obtain ⟨rfl, J4⟩ := hr
      show RR (.ref D) C (.ok .next) s4
      obtain ⟨pD, pfree, _, _, _⟩ := J4.pin (D, { cls := .type "list", data := .seq (us : List Value).toArray nn }) (by simp [compCx])
      obtain ⟨mC, hnC, _⟩ := J4.loc
      have hnC : s4.heap.Ns C mC := hnC
      have ltH : ∀ b o, H2 b = some o → b ≠ D := fun b o e => by have := I2.hok.lt e; rw [hDD] at this; exact Nat.ne_of_lt this
      have ltg : ∀ b o, s2.heap.get? b = some o → b ≠ D := fun b o e => by have := Heap.lt_size e; rw [hDD] at this; exact Nat.ne_of_lt this
      have B : Un (frs X.stack) fp H2 H3 s2.heap s4.heap := J4.base
      have un : Un (frs X.stack) fp H2 (upd H3 D (.lst ys)) s2.heap s4.heap :=
        ⟨B.keep, B.slot, fun b o e n x => by rw [upd_ne (ltg b o e)]; exact B.free b o e n x, B.there, fun b xs e => by rw [upd_ne (ltH b _ e)]; exact B.tups b xs e,
          fun b o u e => by rw [upd_ne (ltH b _ e)]; exact B.frzs b o u e, fun b ps e => by rw [upd_ne (ltH b _ e)]; exact B.tbls b ps e⟩
      have hokD : HOk X.prog X.w (upd H3 D (.lst ys)) s4.heap := fun b u e => by
        by_cases hb : b = D
        · subst hb
          rw [upd_same] at e
          cases e
          exact ⟨hsz, us, nn, rv3, pD⟩
        · rw [upd_ne hb] at e
          refine (J4.hok b u e).stay (fun c v _ q => q) (fun c q => ?_) fun c xs q => ?_
          · rw [upd_ne (ne_of_none q pfree)]; exact q
          · rw [upd_ne (ne_of_none q pfree)]; exact q
      refine hRR _ _ _ ⟨D, upd H3 D (.lst ys), mC, rfl, I2.call' (ch := fp) J4.os un hokD J4.bare (fun b hb => ⟨(f2 b hb).2.2.2.1, (f2 b hb).2.1, (f2 b hb).2.2.2.2.1, (f2 b hb).2.2.2.2.2⟩), ?_, hnC, qn D pfree⟩
      have hCn : H3 C = none := J4.free
      refine ⟨by rw [upd_ne hDC.symm]; exact hCn, ?_, ?_, .inr ?_, fun x c e z => ?_, fun p hp z => ?_⟩
      · exact Nat.ne_of_gt (Nat.lt_of_lt_of_le I2.lt (by rw [hDD]; exact hCle))
      · exact I2.nofs (by rw [hDD]; exact hCle)
      · exact Nat.le_trans I2.sz (by rw [hDD]; exact hCle)
      · obtain ⟨v, q⟩ := I2.cell x c e
        exact absurd (Nat.lt_of_lt_of_le q.lt (by rw [z, hDD]; exact hCle)) (Nat.lt_irrefl _)
      · exact absurd (Nat.lt_of_lt_of_le (Heap.lt_size (I2.pin p hp).1) (by rw [z, hDD]; exact hCle)) (Nat.lt_irrefl _)
    · refine wpAny_mono (T.item (compCx X N scope cl C s2 H2 fp) rfl rfl rfl hc i _ s3 (csOf nl js σ) H3 (fun _ _ => False) I3 (stat fr3) st3 go) (fun r s4 hr => ?_) fun _ _ z => z
      obtain ⟨u, rfl, h4⟩ := hr
      show wpAny (model X.prog X.w) X.A (letOwnedTupleGo target (.ref it) u) _ _ s4
      refine thn h4 fun _ s5 ⟨x, H5, I5, r5, y5, st5, fr5⟩ => ?_
      have I5' := I5.pinned (stat fr5) (T.obj _ _ st5)
      refine thn (hg C s2 H2 fp _ s5 (csOf nl js σ) H5 x u _ I5' r5 (hk σ x H5 _ (step x H5 y5))) fun _ s6 ⟨σ6, H6, I6, ⟨hl6, hs6⟩, q6⟩ => ?_
      refine thn (ht C s2 H2 fp _ s6 σ6 H6 _ I6 q6) fun okb s7 ⟨H7, I7, q7⟩ => ?_
      -- the iterator and the list are pinned through
      have back : ∀ {H8 : Hp} {s8 : Shared}, Inv (compCx X N scope cl C s2 H2 fp) ([(D, { cls := .type "list", data := .seq (us : List Value).toArray nn })] ++ pinsAt fp s5.heap) σ6 H8 s8 →
          Inv (compCx X N scope cl C s2 H2 fp) [(D, { cls := .type "list", data := .seq (us : List Value).toArray nn })] (csOf nl js σ) H8 s8 ∧ tn (i + 1) s8.heap ∧ ∀ b ∈ fp, H8 b = none := fun {H8 s8} I8 => by
        refine ⟨I8.unpinned.weak hl6.symm hs6, T.keep _ _ _ st5 fun b hb o e => (I8.pin (b, o) (List.mem_append_right _ (List.mem_append_right _ (mem_pinsAt hb e)))).1, fun b hb => ?_⟩
        obtain ⟨o, e, d⟩ := T.obj _ _ st5 b hb
        exact (I8.pin (b, o) (List.mem_append_right _ (List.mem_append_right _ (mem_pinsAt hb e)))).2.1
      cases okb with
      | false =>
        have q7 : ∃ m', m' < n ∧ W (i + 1) m' ys H7 := by simpa using q7
        obtain ⟨m', hm, w7⟩ := q7
        obtain ⟨I8, st8, fr8⟩ := back I7
        show ∃ m, m < n ∧ _
        exact ⟨m', hm, i + 1, ys, us, nn, H7, I8, rv3, st8, fr8, w7⟩
      | true =>
        have q7 : te σ6 H7 fun y H4 => ∃ m', m' < n ∧ W (i + 1) m' (ys ++ [y]) H4 := by simpa using q7
        show wpAny (model X.prog X.w) X.A (eval elt (compEnvC scope cl C X.env)) _ _ s7
        refine thn (he C s2 H2 fp _ s7 σ6 H7 _ I7 q7) fun yv s8 ⟨y, H8, I8, ry, m', hm, w8⟩ => ?_
        obtain ⟨I9, st9, fr9⟩ := back I8
        obtain ⟨pD, pfree, pne, pnf, _⟩ := I9.pin (D, { cls := .type "list", data := .seq (us : List Value).toArray nn }) (by simp [compCx])
        refine wpAny_list_append_plain (items := us.toArray) ⟨nn, pD⟩ (fun h' hp' sb => ?_) (by have := rv3.length; simp; omega)
        obtain ⟨n', hp'⟩ := hp'
        have I10 : Inv (compCx X N scope cl C s2 H2 fp) [] (csOf nl js σ) H8 { s8 with heap := h' } := by
          refine (I9.pins_of (pins' := []) (fun p hp => absurd hp (by simp))).turned (t' := s8.toks) (it := D) (fun b o hb e => (sb.2 b hb).trans e) pfree pne (.inr (by show s2.heap.objs.size ≤ D; rw [hDD]; exact Nat.le_refl _)) (fun x c e => cellD x c D (Nat.le_refl _) e) (fun p hp => ?_)
          exact absurd hp (by simp [compCx])
        refine ⟨m', hm, i + 1, ys ++ [y], us ++ [yv], n', H8, I10.pins_of (fun p hp => ?_), rv3.append (.cons ry .nil), T.keep _ _ _ st9 fun b hb o e => (sb.2 b (nD b hb)).trans e, fr9, w8⟩
        have e : p = (D, { cls := .type "list", data := .seq (us ++ [yv]).toArray n' }) := by simpa using hp
        subst e
        exact ⟨by simpa using hp', pfree, pne, pnf, fun v z => nomatch z⟩
  exact codeAny_compStart_list (loop _ rfl) (T.self _ 0 _ _ _ st4 (loop _ rfl))
theorem ps_setcomp {N : List Str} {nl : Nat} {js : List Nat} {scope : Scope} {cl : List (Str × Addr)} {elt target iter : Expr} {ifs : List Expr} {pos spos py : Pos} {wi : TI} {g : TG} {ti : TT} {te : TE} {i : Nat} {y : Str}
    (hN : X.N.Nodup) (hi' : X.N[i]? = some y) (hy : Loc X.env.scope y) (hyl : X.env.scope.names.lookup y = some .local)
    (hc : X.calm = true) (ok : CompOk X N nl js scope cl) (hi : PI X target iter wi) (hk : KeepsT g (csOf nl js))
    (hg : ∀ C s₀ H₀ ex, PG (compCx X N scope cl C s₀ H₀ ex) target g) (ht : ∀ C s₀ H₀ ex, PIfs (compCx X N scope cl C s₀ H₀ ex) ifs ti) (he : ∀ C s₀ H₀ ex, PE (compCx X N scope cl C s₀ H₀ ex) elt te)
    (hsw : swapsWith (.ListComp elt [⟨target, iter, ifs, 0⟩] scope pos) (some (.Name y py)) spos.line X.env = pure true := by rfl)
    (hs : ∀ x, foldedSetIterable iter X.env x = pure x := by intro _; rfl) :
    PS X (.Assign [.Name y py] (.ListComp elt [⟨target, iter, ifs, 0⟩] scope pos) spos) (tAsg (tComp wi (csOf nl js) g ti te) (gName i)) := by
  intro pins s σ H D I h
  rw [exec_Assign_Name_used _ _ _ _ hsw]
  refine wpAny_bind (wpAny_standAt (wpAny_bind ?_))
  show wpAny _ X.A (do let _ ← comprehension (.ListComp elt [⟨target, iter, ifs, 0⟩] scope pos) scope X.env _ (newList []) false (eval iter X.env) (some (assign (.Name y py) X.env))) _ _ s
  refine wpAny_bind (wpAny_mono (wpAny_comprehension_free (use := some (assign (.Name y py) X.env)) (Q := fun _ s' => SP X pins D .next s') rfl hs ok.clos ok.kind ok.names
    (comp_run (E := X.xe) (pos := pos) (fun acc C => compPost (model X.prog X.w) X.A X.xe (some (assign (.Name y py) X.env)) (fun _ s' => SP X pins D .next s') acc C) (fun acc C s' z => ?_) hc ok hi hk hg ht he I h)) (fun _ s' hq => wpAny_pure (wpAny_pure hq)) fun _ _ e => e)
  obtain ⟨D', H', m, rfl, J, fC, hn, q⟩ := z
  show wpAny _ X.A (assign (.Name y py) X.env (.ref D')) _ _ _
  refine wpAny_assign_Name (store_ok2 J hN hi' hy (v := .ref D') rfl (fun s'' J' hsb => ?_) (.inr hyl))
  obtain ⟨a, sb, ha⟩ := hsb
  have hCa : C ≠ a := by
    rcases ha with rfl | ha
    · exact fC.2.1
    · exact fun z => fC.2.2.2.2.1 y a ha z.symm
  refine ⟨m, hn.sameBut sb hCa, fun h' sb' => ?_⟩
  exact ⟨_, H', J'.turned (t' := s''.toks) (fun b o hb e => (sb'.2 b hb).trans e) fC.1 fC.2.1 fC.2.2.2.1 fC.2.2.2.2.1 fC.2.2.2.2.2, q⟩
end
end L2
set_option Elab.async false
set_option linter.all false
set_option maxRecDepth 100000
set_option maxHeartbeats 4000000
namespace L2
open PySem PySem.Spec PyProof.Rows
theorem exg_bind (e : Addr) : bindSpecial (.builtin "BaseException.__getattribute__") (.ref e) = pure (.builtin "BaseException.__getattribute__", [.ref e]) := by rfl
theorem exg_entry : entryFor table "BaseException.__getattribute__" = some Builtin.«object.__getattribute__» := by kernel_rfl
theorem exg_plain : plainId "BaseException.__getattribute__" = true := by kernel_rfl
theorem exg_kind : builtinKind "BaseException.__getattribute__" = some .slot := by kernel_rfl
theorem exg_split : splitId "BaseException.__getattribute__" = some ("BaseException", "__getattribute__") := by kernel_rfl
theorem exg_sig : (match Manifest.signature? "BaseException.__getattribute__" with | some sig => Bind.checkArgs "BaseException.__getattribute__" sig ⟨[.ref e, .str "__class__" t], []⟩ | _ => pure ()) = (pure () : Sem Unit) := by rfl
theorem exc_class {prog : Program} {w : World} {A : Around} {E : Value → Shared → Prop} {s : Shared} {K : PySem.W.Frag} {e C : Addr} {ox : Obj} {od : Option Obj} {Q : Option Value → Shared → Prop}
    (KX : K.In s.heap) (I : PySem.W.InstAt s.heap e ox C od)
    (h1 : PySem.W.findIn K (.ref C) "__getattribute__" = some (some (.builtin "BaseException.__getattribute__")))
    (h0 : PySem.W.findIn K (.ref C) "__getattr__" = some none)
    (h2 : PySem.W.findObj K C od "__class__" = some (.bind (.builtin "getset_descriptor.__get__") (.builtin "object.__class__")))
    (h3 : PySem.W.mroIn K C (.type "object") = some true) (h4 : PySem.W.mroIn K C (.type "BaseException") = some true)
    (q : Q (some (.ref C)) { s with toks := s.toks + 1 }) : wpAny (model prog w) A (getAttr? (.ref e) "__class__") Q E s := by
  unfold getAttr?
  refine wpAny_bind (wpAny_mkText ?_)
  unfold getAttrBy?
  refine wpAny_bind (wpAny_attempt ?_)
  unfold getAttrBy
  refine wpAny_holding (wpAny_bind (I.type _ _ _ _ (fun _ _ h => h) ?_))
  refine wpAny_bind (PySem.W.looks_findIn KX h1 _ _ _ _ (fun _ _ h => h) ?_)
  show wpAny _ _ (getAttrByItsOwn _ _ _ _ _ _) _ _ _
  unfold getAttrByItsOwn
  refine wpAny_bind ?_
  unfold hookBefore
  rw [if_pos (by rfl)]
  refine PySem.W.looks_findIn KX h0 _ _ _ _ (fun _ _ h => h) ?_
  refine wpAny_bind (wpAny_attempt (wpAny_holding ?_))
  show wpAny _ _ (boundAndCalled _ _ _) _ _ _
  unfold boundAndCalled
  rw [exg_bind]
  refine wpAny_bind (wpAny_pure ?_)
  show wpAny _ _ (call (.builtin "BaseException.__getattribute__") [.ref e, .str "__class__" s.toks]) _ _ _
  refine wpAny_call (codeAny_call_builtin exg_plain exg_entry ?_)
  have chk : ∀ (A' : Around) (Q' : Unit → Shared → Prop) (E' : Value → Shared → Prop), Q' () { s with toks := s.toks + 1 } → wpAny (model prog w) A' (checkBuiltinCall "BaseException.__getattribute__" ⟨[.ref e, .str "__class__" s.toks], []⟩) Q' E' { s with toks := s.toks + 1 } := by
    intro A' Q' E' k
    unfold checkBuiltinCall
    rw [exg_kind, exg_split]
    show wpAny _ _ (isInstance (.ref e) (.type "BaseException") >>= _) _ _ _
    refine wpAny_bind ?_
    unfold isInstance
    refine wpAny_bind (I.type _ _ _ _ (fun _ _ h => h) (PySem.W.looks_mroIn KX h4 _ _ _ _ (fun _ _ h => h) ?_))
    show wpAny _ _ (match Manifest.signature? "BaseException.__getattribute__" with | some sig => Bind.checkArgs "BaseException.__getattribute__" sig ⟨[.ref e, .str "__class__" s.toks], []⟩ | _ => pure ()) _ _ _
    rw [exg_sig]
    exact wpAny_pure k
  refine chk _ _ _ ?_
  unfold Builtin.«object.__getattribute__»
  refine wpAny_bind (wpAny_pure ?_)
  refine wpAny_bind (wpAny_pure ?_)
  refine wpAny_bind (I.type _ _ _ _ (fun _ _ h => h) ?_)
  refine wpAny_bind (PySem.W.looks_find KX I h2 _ _ _ _ (fun _ _ h => h) ?_)
  show wpAny _ _ (Builtin.ObjectAttr.bindTo _ _ _ _) _ _ _
  show wpAny _ _ (holding [Value.builtin "object.__class__"] (call (Value.builtin "getset_descriptor.__get__") [Value.builtin "object.__class__", .ref e, .ref C]) >>= fun x => ret x) _ _ _
  refine wpAny_bind (wpAny_holding (wpAny_call (PySem.W.class_get KX I h3 ?_)))
  refine wpAny_pure ?_
  show wpAny _ _ (handedOut (.ref C)) _ _ _
  exact wpAny_pure (wpAny_pure q)
end L2
namespace L2
open PySem PySem.Spec PyProof.Rows
structure ExcC (K : PySem.W.Frag) (C : Addr) : Prop where
  ga : PySem.W.findIn K (.ref C) "__getattribute__" = some (some (.builtin "BaseException.__getattribute__"))
  gx : PySem.W.findIn K (.ref C) "__getattr__" = some none
  fo : ∀ od, PySem.W.findObj K C od "__class__" = some (.bind (.builtin "getset_descriptor.__get__") (.builtin "object.__class__"))
  ob : PySem.W.mroIn K C (.type "object") = some true
  be : PySem.W.mroIn K C (.type "BaseException") = some true
  self : PySem.W.kitCls K (.ref C) (.ref C) = some true
def ExO (e C : Addr) (od : Option Addr) (h : Heap) : Prop := ∃ ox, h.get? e = some ox ∧ ox.cls = .ref C ∧ PySem.W.notCls ox = true ∧ ox.dict = od
theorem ExO.type {M : Model} {e C : Addr} {od : Option Addr} {h : Heap} (x : ExO e C od h) : PySem.W.Looks M h (typeOf (.ref e)) (.ref C) := by
  obtain ⟨ox, a, b, _⟩ := x
  exact b ▸ (PySem.W.Looks.ld a).andThen .now
def ExI (e C : Addr) (h : Heap) : Prop := ∃ ox od, PySem.W.InstAt h e ox C od
theorem ExO.i {e C : Addr} {od : Option Addr} {h : Heap} (x : ExO e C od h) (hd : ∀ dx, od = some dx → ∃ o, h.get? dx = some o) : ExI e C h := by
  obtain ⟨ox, h1, h2, h3, h4⟩ := x
  cases od with
  | none => exact ⟨ox, none, h1, h2, h3, by rw [h4]; trivial⟩
  | some dx =>
    obtain ⟨o, ho⟩ := hd dx rfl
    exact ⟨ox, some o, h1, h2, h3, by rw [h4]; exact ho⟩
theorem clsIn_get {K : PySem.W.Frag} {C : Addr} {h : Heap} (KX : K.In h) (hs : (PySem.W.clsIn K C).isSome = true) : ∃ o cd, h.get? C = some o ∧ o.data = .cls cd := by
  unfold PySem.W.clsIn at hs
  split at hs
  · rename_i hh
    exact ⟨_, _, KX _ _ hh, rfl⟩
  · simp at hs
theorem kitx_exc {K : PySem.W.Frag} {e C : Addr} (c : ExcC K C) : PySem.W.KitX K (.ref e) (.ref C) (ExI e C) where
  ty := fun M h KX ⟨ox, od, I⟩ => I.type
  it := fun M h KX _ => (PySem.W.kit_cls KX c.self).2.1
  ne := fun h tp dd its n sl KX ht => by
    have hs : (PySem.W.clsIn K C).isSome = true := by
      have := c.self
      simp [PySem.W.kitCls] at this
      exact this.1.1
    obtain ⟨o, cd, h1, h2⟩ := clsIn_get KX hs
    rw [beq_eq_false_iff_ne]
    intro z
    cases z
    rw [ht] at h1
    cases h1
    cases h2
  ca := fun KX ⟨ox, od, I⟩ q => exc_class KX I c.ga c.gx (c.fo od) c.ob c.be q
end L2
set_option Elab.async false
set_option linter.all false
set_option maxRecDepth 100000
set_option maxHeartbeats 4000000
namespace L2
open PySem PySem.Spec PyProof.Rows
def Out1 (X : Cx) (b : Addr) : Prop := X.ex = [] ∧ X.s₀.heap.get? b = none ∧ b ≠ X.env.locals ∧ (∀ x c, X.env.cells.lookup x = some c → c ≠ b) ∧ ∀ p ∈ X.pn, p.1 ≠ b
theorem get_big {h : Heap} {b : Addr} (hb : h.objs.size ≤ b) : h.get? b = none := by
  cases e : h.get? b with
  | none => rfl
  | some o => exact absurd (Heap.lt_size e) (Nat.not_lt.mpr hb)
section
variable {X : Cx} {pins : List (Addr × Obj)} {σ : St} {H : Hp} {s : Shared}
theorem Out1.of (I : Inv X pins σ H s) (hex : X.ex = []) {b : Addr} (hb : s.heap.get? b = none) : Out1 X b := by
  refine ⟨hex, ?_, fun z => ?_, fun x c e z => ?_, fun p hp z => ?_⟩
  · cases e : X.s₀.heap.get? b with
    | none => rfl
    | some o =>
      obtain ⟨o', e'⟩ := I.base.there b o e (by rw [hex]; simp)
      rw [hb] at e'
      cases e'
  · obtain ⟨m, ⟨o, _, _, ho, _⟩, _⟩ := I.loc
    rw [← z, hb] at ho
    cases ho
  · obtain ⟨v, o, ho, _⟩ := I.cell x c e
    rw [z, hb] at ho
    cases ho
  · have := (I.pin p (List.mem_append_left _ hp)).1
    rw [z, hb] at this
    cases this
def Cx.turn (X : Cx) (ch : List Addr) : Cx := { X with ex := ch }
theorem Inv.turn {ch : List Addr} (I : Inv X pins σ H s) (hex : X.ex = []) (hc : ∀ b ∈ ch, Out1 X b) : Inv (X.turn ch) pins σ H s := by
  have ok := I.ok
  have nb : ∀ b ∈ ch, X.base.get? b = none := fun b hb => by
    cases e : X.base.get? b with
    | none => rfl
    | some o => have := (ok.bs b o e).1; rw [(hc b hb).2.1] at this; cases this
  refine ⟨⟨ok.mod, ok.kind, ok.glob, ok.blt, ok.above, ok.inj, ok.has, ok.cab, ok.hd, ok.frames, ok.stk, fun b hb => ⟨(hc b hb).2.2.1, (hc b hb).2.2.2.1⟩, ok.bs, ok.bsz, fun b o e hb => ?_, fun b hb hf => ?_, ok.funs, ok.frf⟩, I.os, I.bare, ?_, I.loc, I.cell, I.free, I.freeC, I.pin, I.hok, I.len⟩
  · have := nb b hb
    rw [show X.base.get? b = some o from e] at this
    cases this
  · obtain ⟨_, o, e, _⟩ := ok.funs.mem hf
    rw [(hc b hb).2.1] at e
    cases e
  · exact ⟨fun b o e n m _ => I.base.keep b o e n m (by rw [hex]; simp), fun b o e n m _ => I.base.slot b o e n m (by rw [hex]; simp), fun b o e n _ => I.base.free b o e n (by rw [hex]; simp), fun b o e _ => I.base.there b o e (by rw [hex]; simp), I.base.tups, I.base.frzs, I.base.tbls⟩
theorem Inv.unturn {ch : List Addr} (I : Inv (X.turn ch) pins σ H s) (ok : X.Ok) (hex : X.ex = []) (hc : ∀ b ∈ ch, Out1 X b) : Inv X pins σ H s := by
  have nc : ∀ b o, X.s₀.heap.get? b = some o → b ∉ ch := fun b o e hb => by rw [(hc b hb).2.1] at e; cases e
  exact ⟨ok, I.os, I.bare, ⟨fun b o e n m _ => I.base.keep b o e n m (nc b o e), fun b o e n m _ => I.base.slot b o e n m (nc b o e), fun b o e n _ => I.base.free b o e n (nc b o e), fun b o e _ => I.base.there b o e (nc b o e), I.base.tups, I.base.frzs, I.base.tbls⟩, I.loc, I.cell, I.free, I.freeC, I.pin, I.hok, I.len⟩
end
structure Fly (X : Cx) (H : Hp) (h : Heap) (e C : Addr) (od : Option Addr) : Prop where
  out : Out1 X e
  free : H e = none
  obj : ∃ oe vs, h.get? e = some oe ∧ oe.cls = .ref C ∧ oe.dict = od ∧ oe.data = .fields vs ∧ (vs[1]? = some .none ∨
    ∃ T oT ts, vs[1]? = some (.ref T) ∧ T ≠ e ∧ Out1 X T ∧ H T = none ∧ h.get? T = some oT ∧ oT.data = .fields ts ∧ ts[3]? = some .none)
structure Chg (S ch : List Addr) (h h' : Heap) : Prop where
  keep : ∀ b o, h.get? b = some o → b ∉ ch → b ∉ S → h'.get? b = some o
  slot : ∀ b o, h.get? b = some o → b ∉ ch → ∃ sl, h'.get? b = some { o with slots := sl }
theorem Chg.trans {S ch : List Addr} {h h1 h2 : Heap} (a : Chg S ch h h1) (b : Chg S ch h1 h2) : Chg S ch h h2 :=
  ⟨fun c o e n m => b.keep c o (a.keep c o e n m) n m, fun c o e n => by
    obtain ⟨sl, e1⟩ := a.slot c o e n
    obtain ⟨sl2, e2⟩ := b.slot c _ e1 n
    exact ⟨sl2, e2⟩⟩
theorem Chg.upd {S ch : List Addr} {h : Heap} {a : Addr} (f : Obj → Obj) (ha : a ∈ ch) : Chg S ch h (h.update a f) :=
  ⟨fun b o e n _ => Heap.get?_update_of_ne f (fun z => n (z ▸ ha)) e, fun b o e n => ⟨o.slots, Heap.get?_update_of_ne f (fun z => n (z ▸ ha)) e⟩⟩
theorem Chg.push {S ch : List Addr} {h : Heap} (o : Obj) : Chg S ch h (h.push o) := ⟨fun b u e _ _ => Heap.get?_push_of_some o e, fun b u e _ => ⟨u.slots, Heap.get?_push_of_some o e⟩⟩
theorem Chg.slots {S ch : List Addr} {h h' : Heap} (x : Heap.SlotsOnly S h h') : Chg S ch h h' := ⟨fun b o e _ m => by rw [x.2.1 b m]; exact e, fun b o e _ => x.2.2 b o e⟩
section
variable {X : Cx} {pins : List (Addr × Obj)} {σ : St} {H : Hp} {s : Shared}
theorem Inv.chg {ch : List Addr} {h' : Heap} (I : Inv X pins σ H s) (hex : X.ex = []) (c : Chg (frs X.stack) ch s.heap h') (hc : ∀ b ∈ ch, Out1 X b ∧ H b = none) : Inv X [] σ H { s with heap := h' } := by
  have I0 : Inv X [] σ H s := I.pins_of fun p hp => absurd hp (by simp)
  have I1 := I0.turn hex fun b hb => (hc b hb).1
  refine Inv.unturn (ch := ch) (I1.call (g' := s.gens) (t' := s.toks) (d' := s.drawn) (ch := ch) (H' := H) (h' := h') ⟨fun b o e n m x => c.keep b o e x m, fun b o e n m x => c.slot b o e x, fun b o e n _ => n, fun b o e x => let ⟨sl, z⟩ := c.slot b o e x; ⟨_, z⟩, fun _ _ e => e, fun _ _ _ e => e, fun b ps e => ⟨#[], by rw [e]; simp⟩⟩ (fun b u e => ?_) I.bare (fun b hb => ?_)) I.ok hex fun b hb => (hc b hb).1
  · refine (I.hok b u e).stay (fun d v hd q => c.keep d v q (fun z => ?_) fun z => ?_) (fun _ q => q) fun _ _ q => q
    · have := (hc d z).2
      rcases hd with rfl | hd
      · rw [e] at this; cases this
      · rw [hd] at this; cases this
    · have := I.stkFree d z
      rcases hd with rfl | hd
      · rw [e] at this; cases this
      · rw [hd] at this; cases this
  · obtain ⟨⟨_, h1, h2, h3, h4⟩, _⟩ := hc b hb
    exact ⟨.inl hb, h2, h3, fun p hp => h4 p (by have hp : p ∈ X.pn ++ [] := hp; simpa using hp)⟩
theorem mf_cls {f : Array Value → Array Value} {o : Obj} : (Obj.mapFields f o).cls = o.cls ∧ (Obj.mapFields f o).dict = o.dict := by
  rcases o with ⟨c, d, dt, sl⟩
  cases dt <;> exact ⟨rfl, rfl⟩
theorem mf_data {f : Array Value → Array Value} {o : Obj} {vs : Array Value} (h : o.data = .fields vs) : (Obj.mapFields f o).data = .fields (f vs) := by
  rcases o with ⟨c, d, dt, sl⟩
  cases h
  rfl
theorem fr_not {o : Obj} {vs : Array Value} (h : o.data = .fields vs) : o.isFreed = false := by
  rcases o with ⟨c, d, dt, sl⟩
  cases h
  rfl
theorem leave_tail {M : Model} {E : Value → Shared → Prop} {Q : Unit → Shared → Prop} {e C : Addr} {od : Option Addr} {oe : Obj} {vs : Array Value} {head : Value} {hadNext : Bool} (I : Inv X pins σ H s) (hst : X.stack = X.env :: X.outer) (hfr : X.env.frame = some X.env.locals)
    (out : Out1 X e) (free : H e = none) (he : s.heap.get? e = some oe) (hc : oe.cls = .ref C) (hd : oe.dict = od) (hf : oe.data = .fields vs) (hv : 1 < vs.size)
    (k : ∀ h', Inv X [] σ H { s with heap := h' } → Fly X H h' e C od → Q () { s with heap := h' }) :
    wpAny M X.A (do
      let a ← frameOf X.env
      let pl ← entryPlaceOf X.env.locals hadNext
      let b ← EntryCells.newEntry head a Value.none (rawInt ↑X.env.locals) Value.none pl
      setField (Value.ref e) 1 b) (fun _ s' => wpAny M X.A (setFlight (.ref e) none) Q E s') E s := by
  refine wpAny_bind (wpAny_frameOf_fun (by rw [I.ok.frames, hst]) (by rw [← hst]; exact I.stack) hfr fun h1 so => ?_)
  refine wpAny_bind (wpAny_entryPlaceOf fun pl ip => ?_)
  have c1 : Chg (frs X.stack) [e, s.heap.objs.size] s.heap h1 := by rw [hst]; exact Chg.slots so
  have ne : s.heap.objs.size ≠ e := fun z => absurd (Heap.lt_size he) (by rw [← z]; exact Nat.lt_irrefl _)
  obtain ⟨sl, he1⟩ := so.2.2 e oe he
  obtain ⟨tb, htb, hts⟩ : ∃ tb : List Value, ([head, Value.ref X.env.locals, Value.none, rawInt ↑X.env.locals, Value.none] ++ if pl.isEmpty = true then List.replicate 6 Value.none else pl) = tb ∧ tb.length = 11 := by
    refine ⟨_, rfl, ?_⟩
    rcases ip with rfl | ⟨_, _, _, _, _, _, _, rfl⟩ <;> rfl
  unfold EntryCells.newEntry newFields newObj
  refine wpAny_bind ?_
  show wpAny _ _ (if (([head, Value.ref X.env.locals, Value.none, rawInt ↑X.env.locals, Value.none] ++ if pl.isEmpty = true then List.replicate 6 Value.none else pl).toArray).size > sizeLine + 2 then _ else newObjAsIs _ _ _) _ _ _
  rw [htb, if_neg (by rw [List.size_toArray, hts]; decide)]
  unfold newObjAsIs
  refine wpAny_bind (wpAny_alloc (wpAny_pure ?_))
  rw [so.1]
  refine wpAny_setField (Heap.get?_push_of_some _ he1) hf hv ?_
  have g1 : ((h1.push { cls := .type "traceback", data := .fields tb.toArray }).update e (Obj.mapFields fun x => x.setIfInBounds 1 (.ref s.heap.objs.size))).get? e = some (Obj.mapFields (fun x => x.setIfInBounds 1 (.ref s.heap.objs.size)) { oe with slots := sl }) :=
    Heap.get?_update_self _ (Heap.get?_push_of_some _ he1) (fr_not (mf_data (o := { oe with slots := sl }) hf))
  have g2 : ((h1.push { cls := .type "traceback", data := .fields tb.toArray }).update e (Obj.mapFields fun x => x.setIfInBounds 1 (.ref s.heap.objs.size))).get? s.heap.objs.size = some { cls := .type "traceback", data := .fields tb.toArray } :=
    Heap.get?_update_of_ne _ (Ne.symm ne) (by rw [← so.1]; exact Heap.get?_push_size h1 rfl)
  have v1 : (vs.setIfInBounds 1 (.ref s.heap.objs.size))[1]? = some (.ref s.heap.objs.size) := by simp [hv]
  unfold setFlight
  refine wpAny_bind (wpAny_field g1 (mf_data (o := { oe with slots := sl }) hf) v1 ?_)
  show wpAny _ _ (setField (.ref s.heap.objs.size) 3 .none) _ _ _
  refine wpAny_setField g2 rfl (by rw [List.size_toArray, hts]; decide) ?_
  refine k _ (I.chg out.1 (ch := [e, s.heap.objs.size]) (((c1.trans (Chg.push _)).trans (Chg.upd _ (by simp))).trans (Chg.upd _ (by simp))) fun b hb => ?_) ⟨out, free, _, _, Heap.get?_update_of_ne _ ne g1, ?_, ?_, mf_data (o := { oe with slots := sl }) hf, .inr ⟨s.heap.objs.size, _, _, v1, ne, Out1.of I out.1 (get_big (Nat.le_refl _)), I.hok.fresh (Nat.le_refl _), Heap.get?_update_self _ g2 rfl, rfl, ?_⟩⟩
  · rcases List.mem_cons.mp hb with rfl | hb
    · exact ⟨out, free⟩
    · obtain rfl : b = s.heap.objs.size := by simpa using hb
      exact ⟨Out1.of I out.1 (get_big (Nat.le_refl _)), I.hok.fresh (Nat.le_refl _)⟩
  · rw [mf_cls.1]; exact hc
  · rw [mf_cls.2]; exact hd
  · simp [hts]
theorem leave_fly2 {M : Model} {E : Value → Shared → Prop} {Q : Unit → Shared → Prop} {e C : Addr} {od : Option Addr} (I : Inv X pins σ H s) (hst : X.stack = X.env :: X.outer) (hfr : X.env.frame = some X.env.locals) (F : Fly X H s.heap e C od)
    (k : ∀ h', Inv X [] σ H { s with heap := h' } → Fly X H h' e C od → Q () { s with heap := h' }) : wpAny M X.A (noteFrame (.ref e) X.env) (fun _ s' => wpAny M X.A (setFlight (.ref e) none) Q E s') E s := by
  obtain ⟨out, free, oe, vs, he, hc, hd, hf, hh⟩ := F
  unfold noteFrame
  rw [hfr]
  rcases hh with hh | ⟨T, oT, ts, hT, nT, outT, freeT, heT, hfT, h3⟩
  · refine wpAny_bind (wpAny_field he hf hh ?_)
    exact leave_tail I hst hfr out free he hc hd hf (by have := (Array.getElem?_eq_some_iff.mp hh).1; exact this) k
  · refine wpAny_bind (wpAny_field he hf hT ?_)
    show wpAny _ _ (field (.ref T) 3 >>= _) _ _ _
    refine wpAny_bind (wpAny_field heT hfT h3 ?_)
    show wpAny _ _ (setField (.ref T) 3 .none >>= _) _ _ _
    refine wpAny_bind (wpAny_setField heT hfT (by have := (Array.getElem?_eq_some_iff.mp h3).1; exact this) ?_)
    have I1 := I.chg out.1 (ch := [T]) (Chg.upd (S := frs X.stack) (h := s.heap) (Obj.mapFields fun x => x.setIfInBounds 3 .none) (List.mem_singleton.mpr rfl)) fun b hb => by
      obtain rfl : b = T := by simpa using hb
      exact ⟨outT, freeT⟩
    exact leave_tail I1 hst hfr out free (Heap.get?_update_of_ne _ nT he) hc hd hf (by have := (Array.getElem?_eq_some_iff.mp hT).1; exact this) k
theorem leave_fly {M : Model} {E : Value → Shared → Prop} {Q : Unit → Shared → Prop} {e C : Addr} {od : Option Addr} (I : Inv X pins σ H s) (hst : X.stack = X.env :: X.outer) (hfr : X.env.frame = some X.env.locals) (F : Fly X H s.heap e C od)
    (k : ∀ h', Inv X [] σ H { s with heap := h' } → Fly X H h' e C od → Q () { s with heap := h' }) : wpAny M X.A (leaving X.env (.ref e)) Q E s := wpAny_bind (leave_fly2 I hst hfr F k)
theorem flight_fly {M : Model} {A : Around} {E : Value → Shared → Prop} {Q : Unit → Shared → Prop} {e C : Addr} {od : Option Addr} (I : Inv X pins σ H s) (F : Fly X H s.heap e C od)
    (k : ∀ h', Inv X [] σ H { s with heap := h' } → Fly X H h' e C od → Q () { s with heap := h' }) : wpAny M A (setFlight (.ref e) none) Q E s := by
  obtain ⟨out, free, oe, vs, he, hc, hd, hf, hh⟩ := F
  have I0 : Inv X [] σ H s := I.pins_of fun p hp => absurd hp (by simp)
  unfold setFlight
  rcases hh with hh | ⟨T, oT, ts, hT, nT, outT, freeT, heT, hfT, h3⟩
  · refine wpAny_bind (wpAny_field he hf hh ?_)
    exact wpAny_pure (k s.heap I0 ⟨out, free, oe, vs, he, hc, hd, hf, .inl hh⟩)
  · refine wpAny_bind (wpAny_field he hf hT ?_)
    show wpAny _ _ (setField (.ref T) 3 .none) _ _ _
    have hs3 : 3 < ts.size := (Array.getElem?_eq_some_iff.mp h3).1
    refine wpAny_setField heT hfT hs3 (k _ (I.chg out.1 (ch := [T]) (Chg.upd _ (List.mem_singleton.mpr rfl)) fun b hb => ?_) ⟨out, free, oe, vs, Heap.get?_update_of_ne _ nT he, hc, hd, hf, .inr ⟨T, _, _, hT, nT, outT, freeT, Heap.get?_update_self _ heT (fr_not (mf_data hfT)), mf_data hfT, ?_⟩⟩)
    · obtain rfl : b = T := by simpa using hb
      exact ⟨outT, freeT⟩
    · simp [hs3]
theorem Inv.trackX {e C : Addr} {od : Option Addr} (I : Inv X pins σ H s) (F : Fly X H s.heap e C od) : Inv X [] σ (upd H e (.ext (ExO e C od))) s := by
  obtain ⟨out, free, oe, vs, he, hc, hd, hf, hh⟩ := F
  have I0 : Inv X [] σ H s := I.pins_of fun p hp => absurd hp (by simp)
  have ho1 : ∀ b ∈ [e], Out1 X b := fun b hb => by
    obtain rfl : b = e := by simpa using hb
    exact out
  have ne : ∀ b u, H b = some u → b ≠ e := fun b u q z => by rw [z, free] at q; cases q
  refine Inv.unturn (ch := [e]) ((I0.turn out.1 ho1).call' (ch := [e]) rfl ⟨fun b o q n m x => q, fun b o q n m x => ⟨o.slots, q⟩, fun b o q n x => by rw [upd_ne (fun z => x (by simp [z]))]; exact n, fun b o q x => ⟨o, q⟩, fun b xs q => by rw [upd_ne (ne _ _ q)]; exact q, fun b o u q => by rw [upd_ne (ne _ _ q)]; exact q, fun b ps q => ⟨#[], by rw [upd_ne (ne _ _ q), q]; simp⟩⟩ (fun b u q => ?_) I.bare (fun b hb => ?_)) I.ok out.1 ho1
  · by_cases hb : b = e
    · subst hb
      rw [upd_same] at q
      cases q
      refine ⟨⟨oe, he, hc, ?_, hd⟩, ⟨oe, he⟩, fun h1 h2 ⟨ox, i1, i2, i3, i4⟩ kk => ⟨ox, kk _ i1, i2, i3, i4⟩⟩
      rcases oe with ⟨_, _, dt, _⟩; cases hf; rfl
    · rw [upd_ne hb] at q
      exact (I.hok b u q).stay (fun _ _ _ z => z) (fun c z => by rw [upd_ne (ne _ _ z)]; exact z) fun c xs z => by rw [upd_ne (ne _ _ z)]; exact z
  · obtain rfl : b = e := by simpa using hb
    obtain ⟨_, h1, h2, h3, h4⟩ := out
    exact ⟨.inl hb, h2, h3, fun p hp => h4 p (by have hp : p ∈ X.pn ++ [] := hp; simpa using hp)⟩
theorem Fly.inst {e C : Addr} {od : Option Addr} {h : Heap} (F : Fly X H h e C od) : ExO e C od h := by
  obtain ⟨out, free, oe, vs, he, hc, hd, hf, hh⟩ := F
  refine ⟨oe, he, hc, ?_, hd⟩
  rcases oe with ⟨_, _, dt, _⟩; cases hf; rfl
end
end L2
set_option Elab.async false
set_option linter.all false
set_option maxRecDepth 100000
set_option maxHeartbeats 4000000
namespace L2
open PySem PySem.Spec PyProof.Rows
theorem ns_okIn {K : PySem.W.Frag} {h : Heap} {N : Addr} (KX : K.In h) (hn : PySem.W.nsOkIn K N = true) : ∃ m, h.Ns N m := by
  unfold PySem.W.nsOkIn at hn
  split at hn
  · rename_i es ep sl hl
    refine ⟨nsFind es, _, es, ep, KX _ _ hl, rfl, ?_, fun _ => rfl⟩
    intro e he
    have := (Array.all_eq_true_iff_forall_mem.mp hn) e he
    split at this
    · exact ⟨_, _, by assumption⟩
    · cases this
  · cases hn
theorem tail_has {h : Heap} {bmB bm : List Value} {v : Value} (t : OwnTail h bmB bm) (e : bmB.contains v = true) : bm.contains v = true := by
  induction t with
  | base => exact e
  | own _ _ _ _ ih => rw [List.contains_cons, ih, Bool.or_true]
end L2
set_option Elab.async false
set_option linter.all false
set_option maxRecDepth 100000
set_option maxHeartbeats 4000000
namespace L2
open PySem PySem.Spec PyProof.Rows
inductive D where
  | non | bl (b : Bool) | int (i : Int) | str (x : Str) | tup (xs : List D) | lst (xs : List D) | dic (ks : List Key) (xs : List D)
mutual
def Rep (K : PySem.W.Frag) (H : Hp) : D → V → Prop
  | .non, v => v = .non
  | .bl b, v => v = .bl b
  | .int i, v => v = .int i
  | .str x, v => v = .str x
  | .tup ds, v => ∃ a vs, v = .ref a ∧ SqT K H a vs ∧ RepL K H ds vs
  | .lst ds, v => ∃ a vs, v = .ref a ∧ SqL K H a vs ∧ RepL K H ds vs
  | .dic ks ds, v => ∃ a vs, v = .ref a ∧ Rd H a (.dK (ks.zip vs)) ∧ ks.length = ds.length ∧ ks.Nodup ∧ RepL K H ds vs
def RepL (K : PySem.W.Frag) (H : Hp) : List D → List V → Prop
  | [], vs => vs = []
  | d :: ds, vs => ∃ v r, vs = v :: r ∧ Rep K H d v ∧ RepL K H ds r
end
theorem Same.rd {H H' : Hp} (e : Same H H') {a : Addr} {u : HO} (h : Rd H a u) : Rd H' a u := h.elim (fun z => .inl (e _ _ z)) fun ⟨o, z⟩ => .inr ⟨o, e _ _ z⟩
theorem Same.sqT {K : PySem.W.Frag} {H H' : Hp} (e : Same H H') {a : Addr} {xs : List V} (h : SqT K H a xs) : SqT K H' a xs := h.elim (fun z => .inl (e.rd z)) .inr
theorem Same.sqL {K : PySem.W.Frag} {H H' : Hp} (e : Same H H') {a : Addr} {xs : List V} (h : SqL K H a xs) : SqL K H' a xs := h.elim (fun z => .inl (e.rd z)) .inr
mutual
theorem Rep.mono {K : PySem.W.Frag} {H H' : Hp} (e : Same H H') : ∀ {d : D} {v : V}, Rep K H d v → Rep K H' d v
  | .non, _, h => by simp only [Rep] at h ⊢; exact h
  | .bl b, _, h => by simp only [Rep] at h ⊢; exact h
  | .int i, _, h => by simp only [Rep] at h ⊢; exact h
  | .str x, _, h => by simp only [Rep] at h ⊢; exact h
  | .tup ds, _, h => by
    simp only [Rep] at h ⊢
    obtain ⟨a, vs, h1, h2, h3⟩ := h
    exact ⟨a, vs, h1, e.sqT h2, RepL.mono e h3⟩
  | .lst ds, _, h => by
    simp only [Rep] at h ⊢
    obtain ⟨a, vs, h1, h2, h3⟩ := h
    exact ⟨a, vs, h1, e.sqL h2, RepL.mono e h3⟩
  | .dic ks ds, _, h => by
    simp only [Rep] at h ⊢
    obtain ⟨a, vs, h1, h2, h3, h4, h5⟩ := h
    exact ⟨a, vs, h1, e.rd h2, h3, h4, RepL.mono e h5⟩
theorem RepL.mono {K : PySem.W.Frag} {H H' : Hp} (e : Same H H') : ∀ {ds : List D} {vs : List V}, RepL K H ds vs → RepL K H' ds vs
  | [], _, h => by simp only [RepL] at h ⊢; exact h
  | d :: ds, _, h => by
    simp only [RepL] at h ⊢
    obtain ⟨v, r, h1, h2, h3⟩ := h
    exact ⟨v, r, h1, Rep.mono e h2, RepL.mono e h3⟩
end
theorem RepL.length {K : PySem.W.Frag} {H : Hp} : ∀ {ds : List D} {vs : List V}, RepL K H ds vs → ds.length = vs.length
  | [], _, h => by simp only [RepL] at h; subst h; rfl
  | d :: ds, _, h => by
    simp only [RepL] at h
    obtain ⟨v, r, h1, h2, h3⟩ := h
    subst h1
    simp [RepL.length h3]
theorem RepL.get {K : PySem.W.Frag} {H : Hp} : ∀ {ds : List D} {vs : List V} {i : Nat} {d : D}, RepL K H ds vs → ds[i]? = some d → ∃ v, vs[i]? = some v ∧ Rep K H d v
  | [], _, _, _, _, e => by simp at e
  | x :: ds, _, 0, d, h, e => by
    simp only [RepL] at h
    obtain ⟨v, r, h1, h2, h3⟩ := h
    subst h1
    simp at e
    subst e
    exact ⟨v, rfl, h2⟩
  | x :: ds, _, i + 1, d, h, e => by
    simp only [RepL] at h
    obtain ⟨v, r, h1, h2, h3⟩ := h
    subst h1
    obtain ⟨u, h4, h5⟩ := RepL.get (i := i) h3 (by simpa using e)
    exact ⟨u, by simpa using h4, h5⟩
theorem RepL.append {K : PySem.W.Frag} {H : Hp} : ∀ {ds es : List D} {vs us : List V}, RepL K H ds vs → RepL K H es us → RepL K H (ds ++ es) (vs ++ us)
  | [], _, _, _, h, h' => by simp only [RepL] at h; subst h; exact h'
  | d :: ds, _, _, _, h, h' => by
    simp only [RepL] at h
    obtain ⟨v, r, h1, h2, h3⟩ := h
    subst h1
    simp only [List.cons_append, RepL]
    exact ⟨v, _, rfl, h2, RepL.append h3 h'⟩
theorem RepL.snoc {K : PySem.W.Frag} {H : Hp} {ds : List D} {vs : List V} {d : D} {v : V} (h : RepL K H ds vs) (r : Rep K H d v) : RepL K H (ds ++ [d]) (vs ++ [v]) :=
  h.append (by simp only [RepL]; exact ⟨v, [], rfl, r, rfl⟩)
structure Grow (G H G' H' : Hp) : Prop where
  g : Same G G'
  h : Same H H'
  s : Same G' H'
  n : ∀ a o, H a = some o → G a = none → G' a = none
theorem Grow.refl {G H : Hp} (s : Same G H) : Grow G H G H := ⟨Same.refl _, Same.refl _, s, fun _ _ _ n => n⟩
theorem Grow.trans {G H G1 H1 G2 H2 : Hp} (a : Grow G H G1 H1) (b : Grow G1 H1 G2 H2) : Grow G H G2 H2 :=
  ⟨a.g.trans b.g, a.h.trans b.h, b.s, fun x o e n => b.n x o (a.h x o e) (a.n x o e n)⟩
theorem Same.upd {G H : Hp} (s : Same G H) {p : Addr} (o : HO) : Same (upd G p o) (upd H p o) := fun b u e => by
  by_cases hb : b = p
  · subst hb; rw [upd_same] at e ⊢; exact e
  · rw [upd_ne hb] at e ⊢; exact s b u e
theorem same_new {H : Hp} {p : Addr} (o : HO) (n : H p = none) : Same H (L2.upd H p o) := fun b u e => by
  rw [upd_ne (ne_of_none e n)]; exact e
theorem Grow.laid {G H : Hp} (s : Same G H) {p : Addr} (o : HO) (n : H p = none) : Grow G H (L2.upd G p o) (L2.upd H p o) :=
  ⟨same_new o (s.free n), same_new o n, s.upd o, fun a u e z => by rw [upd_ne (ne_of_none e n)]; exact z⟩
inductive Mo where
  | lst (xs : List D) | dic (ks : List Key) (xs : List D)
@[simp] def Mo.d : Mo → D | .lst xs => .lst xs | .dic ks xs => .dic ks xs
@[simp] def Mo.vals : Mo → List D | .lst xs => xs | .dic _ xs => xs
def Mo.ho : Mo → List V → HO | .lst _, vs => .lst vs | .dic ks _, vs => .dK (ks.zip vs)
def Mo.ok : Mo → Prop | .lst _ => True | .dic ks xs => ks.length = xs.length ∧ ks.Nodup
structure Ex where
  n : Str
  ks : List Str
  ds : List D
def Pay (K : PySem.W.Frag) (G : Hp) (c : Ex) : Option Addr → Prop
  | none => c.ks = [] ∧ c.ds = []
  | some dx => ∃ vs, G dx = some (.xd (c.ks.zip vs)) ∧ c.ks.length = c.ds.length ∧ RepL K G c.ds vs
theorem Pay.mono {K : PySem.W.Frag} {H H' : Hp} (s : Same H H') {c : Ex} {od : Option Addr} (h : Pay K H c od) : Pay K H' c od := by
  cases od with
  | none => exact h
  | some dx => obtain ⟨vs, h1, h2, h3⟩ := h; exact ⟨vs, s _ _ h1, h2, h3.mono s⟩
inductive Sl where
  | sh (d : D) | pv (m : Mo) (o : Option Addr) | ob (c : Ex) | tk (P : Program) (w : World) (ts : List (List Key))
@[simp] def Sl.d : Sl → D | .sh d => d | .pv m _ => m.d | .ob _ => .non | .tk _ _ _ => .non
@[simp] def Sl.ok : Sl → Bool | .ob _ => false | .tk _ _ _ => false | _ => true
def tkX (ts : List (List Key)) (as : List Addr) : List (List Key × Addr × Value) := (ts.zip as).map fun p => (p.1, p.2, .bool true)
def TkO (P : Program) (w : World) (a : Addr) (ts : List (List Key)) (as : List Addr) (h : Heap) : Prop := ∃ o es ep, h.get? a = some o ∧ o.ExactDict ∧ o.data = .dict es ep ∧ es.toList = (tkX ts as).map (entryOfKey (tupleKind (mixKind P w)))
structure TkS (G : Hp) (a : Addr) (ts : List (List Key)) (as : List Addr) : Prop where
  sys : (a == sysModules) = false
  nd : ts.Nodup
  len : as.length = ts.length
  keys : ∀ p ∈ ts.zip as, G p.2 = some (.tup (p.1.map kV))
def IsTk (B G H : Hp) (P : Program) (w : World) (ts : List (List Key)) (v : V) : Prop := ∃ a as, v = .ref a ∧ B a = none ∧ G a = none ∧ H a = some (.ext (TkO P w a ts as)) ∧ TkS G a ts as
theorem IsTk.mono {B G H G' H' : Hp} {P : Program} {w : World} {ts : List (List Key)} {v : V} (h : IsTk B G H P w ts v) (g : Same G G') (k : ∀ a φ, v = .ref a → H a = some (.ext φ) → B a = none → G a = none → H' a = some (.ext φ) ∧ G' a = none) : IsTk B G' H' P w ts v := by
  obtain ⟨a, as, h1, h2, h3, h4, h5⟩ := h
  obtain ⟨k1, k2⟩ := k a _ h1 h4 h2 h3
  exact ⟨a, as, h1, h2, k2, k1, h5.sys, h5.nd, h5.len, fun p hp => g _ _ (h5.keys p hp)⟩
def IsEx (K : PySem.W.Frag) (H : Hp) (c : Ex) (v : V) : Prop := ∃ a C od, v = .ref a ∧ PySem.W.nsIn K mainGlobals c.n = some (some (.ref C)) ∧ ExcC K C ∧ H a = some (.ext (ExO a C od)) ∧ Pay K H c od
theorem IsEx.mono {K : PySem.W.Frag} {H H' : Hp} (s : Same H H') {c : Ex} {v : V} (h : IsEx K H c v) : IsEx K H' c v := by
  obtain ⟨a, C, od, h1, h2, h3, h4, h5⟩ := h
  exact ⟨a, C, od, h1, h2, h3, s _ _ h4, h5.mono s⟩
abbrev En := List (Option Sl)
def RepX (K : PySem.W.Frag) (B G H : Hp) : Sl → V → Prop
  | .sh d, v => Rep K G d v
  | .pv m o, v => ∃ a vs, v = .ref a ∧ B a = none ∧ G a = none ∧ H a = some (m.ho vs) ∧ m.ok ∧ RepL K G m.vals vs ∧ ∀ b, o = some b → b = a
  | .ob c, v => IsEx K G c v
  | .tk P w ts, v => IsTk B G H P w ts v
theorem RepX.grow {K : PySem.W.Frag} {B G H G' H' : Hp} (g : Grow G H G' H') : ∀ {x : Sl} {v : V}, RepX K B G H x v → RepX K B G' H' x v
  | .sh d, _, h => Rep.mono g.g h
  | .pv m o, _, ⟨a, vs, h1, h0, h2, h3, h5, h4, h6⟩ => ⟨a, vs, h1, h0, g.n a _ h3 h2, g.h _ _ h3, h5, h4.mono g.g, h6⟩
  | .ob c, _, h => IsEx.mono g.g h
  | .tk P w ts, _, h => IsTk.mono h g.g fun a φ _ e _ n => ⟨g.h _ _ e, g.n a _ e n⟩
structure RepS (K : PySem.W.Frag) (B G H : Hp) (δ : En) (σ : St) : Prop where
  len : δ.length = σ.length
  at_ : ∀ (i : Nat) (x : Sl), δ[i]? = some (some x) → ∃ v, σ[i]? = some (some v) ∧ RepX K B G H x v
  ap : ∀ (i j : Nat) (x y : Mo) (o o' : Option Addr), i ≠ j → δ[i]? = some (some (.pv x o)) → δ[j]? = some (some (.pv y o')) → σ[i]? ≠ σ[j]?
theorem RepS.grow {K : PySem.W.Frag} {B G H G' H' : Hp} {δ : En} {σ : St} (r : RepS K B G H δ σ) (g : Grow G H G' H') : RepS K B G' H' δ σ :=
  ⟨r.len, fun i x e => let ⟨v, h1, h2⟩ := r.at_ i x e; ⟨v, h1, h2.grow g⟩, r.ap⟩
theorem get_set {α : Type} {l : List α} {i j : Nat} {x y : α} (e : (l.set i x)[j]? = some y) : (i = j ∧ x = y) ∨ (i ≠ j ∧ l[j]? = some y) := by
  by_cases h : i = j
  · subst h
    by_cases hl : i < l.length
    · rw [List.getElem?_set_self hl] at e
      exact .inl ⟨rfl, Option.some.inj e⟩
    · rw [List.getElem?_eq_none (by simpa using hl)] at e; cases e
  · rw [List.getElem?_set_ne h] at e
    exact .inr ⟨h, e⟩
theorem RepS.put {K : PySem.W.Frag} {B G H : Hp} {δ : En} {σ : St} (r : RepS K B G H δ σ) (i : Nat) {x : Sl} {v : V} (h : RepX K B G H x v)
    (ha : ∀ m o, x = .pv m o → ∀ (j : Nat) (y : Mo) (o' : Option Addr), j ≠ i → δ[j]? = some (some (.pv y o')) → σ[j]? ≠ some (some v)) : RepS K B G H (δ.set i (some x)) (σ.set i (some v)) := by
  refine ⟨by simp [r.len], fun j y e => ?_, fun j l y z o o' hjl e1 e2 => ?_⟩
  · have hl0 := (List.getElem?_eq_some_iff.mp e).1
    rw [List.length_set, r.len] at hl0
    rcases get_set e with ⟨rfl, e'⟩ | ⟨hj, e'⟩
    · cases e'
      exact ⟨v, List.getElem?_set_self hl0, h⟩
    · rw [List.getElem?_set_ne hj]
      exact r.at_ j y e'
  · have inb : ∀ (m : Nat) (w : Mo) (o : Option Addr), (δ.set i (some x))[m]? = some (some (.pv w o)) → m < σ.length := fun m w o e => by
      have := (List.getElem?_eq_some_iff.mp e).1
      rw [List.length_set, r.len] at this
      exact this
    rcases get_set e1 with ⟨rfl, f1⟩ | ⟨h1, f1⟩
    · rcases get_set e2 with ⟨rfl, f2⟩ | ⟨h2, f2⟩
      · exact absurd rfl hjl
      · cases f1
        rw [List.getElem?_set_self (inb _ _ _ e1), List.getElem?_set_ne h2]
        exact fun z => ha _ _ rfl l _ _ (Ne.symm h2) f2 z.symm
    · rcases get_set e2 with ⟨rfl, f2⟩ | ⟨h2, f2⟩
      · cases f2
        rw [List.getElem?_set_self (inb _ _ _ e2), List.getElem?_set_ne h1]
        exact ha _ _ rfl j _ _ (Ne.symm h1) f1
      · rw [List.getElem?_set_ne h1, List.getElem?_set_ne h2]
        exact r.ap j l y z o o' hjl f1 f2
theorem RepS.set {K : PySem.W.Frag} {B G H : Hp} {δ : En} {σ : St} (r : RepS K B G H δ σ) (i : Nat) {d : D} {v : V} (h : Rep K G d v) : RepS K B G H (δ.set i (some (.sh d))) (σ.set i (some v)) :=
  r.put i (x := .sh d) h fun m o e => nomatch e
def RepB (K : PySem.W.Frag) (G H : Hp) (d : D) (v : V) : Prop := Rep K G d v ∨ ∃ (m : Mo) (a : Addr) (vs : List V), d = m.d ∧ v = .ref a ∧ H a = some (m.ho vs) ∧ m.ok ∧ RepL K G m.vals vs
theorem RepB.grow {K : PySem.W.Frag} {G H G' H' : Hp} {d : D} {v : V} (r : RepB K G H d v) (g : Grow G H G' H') : RepB K G' H' d v := by
  rcases r with r | ⟨m, a, vs, h1, h2, h3, h4, h5⟩
  · exact .inl (r.mono g.g)
  · exact .inr ⟨m, a, vs, h1, h2, g.h _ _ h3, h4, h5.mono g.g⟩
theorem RepB.lst {K : PySem.W.Frag} {G H : Hp} {ds : List D} {v : V} (r : RepB K G H (.lst ds) v) (s : Same G H) : ∃ a vs, v = .ref a ∧ SqL K H a vs ∧ RepL K G ds vs := by
  rcases r with r | ⟨m, a, vs, h1, h2, h3, h4, h5⟩
  · simp only [Rep] at r
    obtain ⟨a, vs, h1, h2, h3⟩ := r
    exact ⟨a, vs, h1, s.sqL h2, h3⟩
  · cases m with
    | lst xs => cases h1; exact ⟨a, vs, h2, SqL.of h3, h5⟩
    | dic ks xs => cases h1
theorem RepB.tup {K : PySem.W.Frag} {G H : Hp} {ds : List D} {v : V} (r : RepB K G H (.tup ds) v) : Rep K G (.tup ds) v := by
  rcases r with r | ⟨m, a, vs, h1, _⟩
  · exact r
  · cases m <;> cases h1
theorem RepB.dic {K : PySem.W.Frag} {G H : Hp} {ks : List Key} {ds : List D} {v : V} (r : RepB K G H (.dic ks ds) v) (s : Same G H) : ∃ a vs, v = .ref a ∧ Rd H a (.dK (ks.zip vs)) ∧ ks.length = ds.length ∧ ks.Nodup ∧ RepL K G ds vs := by
  rcases r with r | ⟨m, a, vs, h1, h2, h3, h4, h5⟩
  · simp only [Rep] at r
    obtain ⟨a, vs, h1, h2, h3, h4, h5⟩ := r
    exact ⟨a, vs, h1, s.rd h2, h3, h4, h5⟩
  · cases m with
    | lst xs => cases h1
    | dic ks' xs => cases h1; exact ⟨a, vs, h2, .inl h3, h4.1, h4.2, h5⟩
theorem RepB.of {K : PySem.W.Frag} {G H : Hp} {d : D} {v : V} (r : Rep K G d v) : RepB K G H d v := .inl r
theorem RepB.all {K : PySem.W.Frag} {G H : Hp} {d : D} {v : V} (r : RepB K G H d v) (s : Same G H) : Rep K H d v := by
  rcases r with r | ⟨m, a, vs, h1, h2, h3, h4, h5⟩
  · exact r.mono s
  · subst h1
    cases m with
    | lst xs => simp only [Mo.d, Rep]; exact ⟨a, vs, h2, SqL.of h3, h5.mono s⟩
    | dic ks xs => simp only [Mo.d, Rep]; exact ⟨a, vs, h2, .inl h3, h4.1, h4.2, h5.mono s⟩
def RepLB (K : PySem.W.Frag) (G H : Hp) : List D → List V → Prop
  | [], vs => vs = []
  | d :: ds, vs => ∃ v r, vs = v :: r ∧ RepB K G H d v ∧ RepLB K G H ds r
abbrev FE := En → Option D
def Gives (K : PySem.W.Frag) (t : TE) (f : FE) : Prop := ∀ (B G H : Hp) (δ : En) (σ : St) (d : D) (Q : VK), Same G H → RepS K B G H δ σ → f δ = some d →
  (∀ v G' H', Grow G H G' H' → Rep K G' d v → Q v H') → t σ H Q
def GivesB (K : PySem.W.Frag) (t : TE) (f : FE) : Prop := ∀ (B G H : Hp) (δ : En) (σ : St) (d : D) (Q : VK), Same G H → RepS K B G H δ σ → f δ = some d →
  (∀ v G' H', Grow G H G' H' → RepB K G' H' d v → Q v H') → t σ H Q
def PD (X : Cx) (e : Expr) (f : FE) : Prop := ∃ t, PE X e t ∧ Gives X.K t f
def PB (X : Cx) (e : Expr) (f : FE) : Prop := ∃ t, PE X e t ∧ GivesB X.K t f
theorem PD.pb {X : Cx} {e : Expr} {f : FE} (h : PD X e f) : PB X e f := by
  obtain ⟨t, pt, k⟩ := h
  exact ⟨t, pt, fun B G H δ σ d Q sG rs ef q => k B G H δ σ d Q sG rs ef fun v G' H' g r => q v G' H' g (.inl r)⟩
inductive Rs where
  | sh (d : D) | fr (m : Mo)
@[simp] def Rs.d : Rs → D | .sh d => d | .fr m => m.d
@[simp] def Rs.sl : Rs → Sl | .sh d => .sh d | .fr m => .pv m none
abbrev FR := En → Option Rs
def WantR (K : PySem.W.Frag) (G H : Hp) (Q : VK) : Rs → Prop
  | .sh d => ∀ v G' H', Grow G H G' H' → Rep K G' d v → Q v H'
  | .fr m => ∀ p vs G' H', Grow G H G' H' → H' p = none → m.ok → RepL K G' m.vals vs → Q (.ref p) (upd H' p (m.ho vs))
def GivesR (K : PySem.W.Frag) (t : TE) (f : FR) : Prop := ∀ (B G H : Hp) (δ : En) (σ : St) (r : Rs) (Q : VK), Same G H → RepS K B G H δ σ → f δ = some r → WantR K G H Q r → t σ H Q
def PR (X : Cx) (e : Expr) (f : FR) : Prop := ∃ t, PE X e t ∧ GivesR X.K t f
@[simp] def fSh (f : FE) : FR := fun δ => (f δ).map .sh
@[simp] def fPub (f : FR) : FE := fun δ => (f δ).map Rs.d
theorem PD.pr {X : Cx} {e : Expr} {f : FE} (h : PD X e f) : PR X e (fSh f) := by
  obtain ⟨t, pt, k⟩ := h
  refine ⟨t, pt, fun B G H δ σ r Q sG rs ef q => ?_⟩
  unfold fSh at ef
  obtain ⟨d, e1, rfl⟩ := Option.map_eq_some_iff.mp ef
  exact k B G H δ σ d Q sG rs e1 q
theorem rep_pub {K : PySem.W.Frag} {G : Hp} {p : Addr} {m : Mo} {vs : List V} (hn : G p = none) (ok : m.ok) (r : RepL K G m.vals vs) : Rep K (upd G p (m.ho vs)) m.d (.ref p) := by
  cases m with
  | lst xs => simp only [Mo.d, Rep]; exact ⟨p, vs, rfl, SqL.of upd_same, r.mono (same_new _ hn)⟩
  | dic ks xs => simp only [Mo.d, Rep]; exact ⟨p, vs, rfl, .inl upd_same, ok.1, ok.2, r.mono (same_new _ hn)⟩
theorem WantR.of {K : PySem.W.Frag} {G H : Hp} {Q : VK} {r : Rs} (q : ∀ v G' H', Grow G H G' H' → Rep K G' r.d v → Q v H') : WantR K G H Q r := by
  cases r with
  | sh d => exact q
  | fr m => exact fun p vs G' H' g hp ok rl => q _ _ _ (g.trans (Grow.laid g.s _ hp)) (rep_pub (g.s.free hp) ok rl)
theorem PR.pd {X : Cx} {e : Expr} {f : FR} (h : PR X e f) : PD X e (fPub f) := by
  obtain ⟨t, pt, k⟩ := h
  refine ⟨t, pt, fun B G H δ σ d Q sG rs ef q => ?_⟩
  unfold fPub at ef
  obtain ⟨r, e1, rfl⟩ := Option.map_eq_some_iff.mp ef
  exact k B G H δ σ r Q sG rs e1 (WantR.of q)
def PDT (X : Cx) (e : Expr) (f : En → Option Bool) : Prop := ∃ t, PT X e t ∧ ∀ (B G H : Hp) (δ : En) (σ : St) (b : Bool) (Q : Bool → Hp → Prop), Same G H → RepS X.K B G H δ σ → f δ = some b →
  (∀ G' H', Grow G H G' H' → Q b H') → t σ H Q
def PDW (X : Cx) (e : Expr) (f : En → Option Bool) : Prop := ∃ t, PW X e t ∧ ∀ (B G H : Hp) (δ : En) (σ : St) (b : Bool) (Q : Bool → Hp → Prop), Same G H → RepS X.K B G H δ σ → f δ = some b →
  (∀ G' H', Grow G H G' H' → Q b H') → t σ H Q
def PAD (X : Cx) (es : List Expr) (f : En → Option (List D)) : Prop := ∃ t, PA X es t ∧ ∀ (B G H : Hp) (δ : En) (σ : St) (ds : List D) (Q : List V → Hp → Prop), Same G H → RepS X.K B G H δ σ → f δ = some ds →
  (∀ vs G' H', Grow G H G' H' → RepL X.K G' ds vs → Q vs H') → t σ H Q
def PAB (X : Cx) (es : List Expr) (f : En → Option (List D)) : Prop := ∃ t, PA X es t ∧ ∀ (B G H : Hp) (δ : En) (σ : St) (ds : List D) (Q : List V → Hp → Prop), Same G H → RepS X.K B G H δ σ → f δ = some ds →
  (∀ vs G' H', Grow G H G' H' → RepLB X.K G' H' ds vs → Q vs H') → t σ H Q
section
variable {X : Cx} {e a b c : Expr} {es : List Expr} {f g h : FE} {pos p : Pos}
@[simp] def fVar (i : Nat) : FE := fun δ => match δ[i]? with | some (some (.sh d)) => some d | _ => none
theorem pd_var (i : Nat) {x : Str} (hN : X.N[i]? = some x := by rfl) (hv : Vis X.env.scope x := by first | exact Or.inl rfl | exact Or.inr (Or.inl rfl) | exact Or.inr (Or.inr rfl)) (hd : (x == ("__debug__" : Str)) = false := by decide)
    (hcd : (x == ("__classdict__" : Str)) = false := by decide) : PD X (.Name x pos) (fVar i) := by
  refine ⟨tVar i, pe_var hN hv hd hcd, fun B G H δ σ d Q sG rs ef k => ?_⟩
  unfold fVar at ef
  split at ef
  · rename_i d' ed
    cases ef
    obtain ⟨v, h1, h2⟩ := rs.at_ i _ ed
    exact ⟨v, h1, k v G H (Grow.refl sG) h2⟩
  · cases ef
@[simp] def fVarB (i : Nat) : FE := fun δ => match δ[i]? with | some (some x) => if x.ok = true then some x.d else none | _ => none
theorem pb_var (i : Nat) {x : Str} (hN : X.N[i]? = some x := by rfl) (hv : Vis X.env.scope x := by first | exact Or.inl rfl | exact Or.inr (Or.inl rfl) | exact Or.inr (Or.inr rfl)) (hd : (x == ("__debug__" : Str)) = false := by decide)
    (hcd : (x == ("__classdict__" : Str)) = false := by decide) : PB X (.Name x pos) (fVarB i) := by
  refine ⟨tVar i, pe_var hN hv hd hcd, fun B G H δ σ d Q sG rs ef k => ?_⟩
  unfold fVarB at ef
  split at ef
  · rename_i y ed
    split at ef
    case isFalse => cases ef
    rename_i yok
    cases ef
    obtain ⟨v, h1, h2⟩ := rs.at_ i _ ed
    refine ⟨v, h1, k v G H (Grow.refl sG) ?_⟩
    cases y with
    | ob c => cases yok
    | tk _ _ _ => cases yok
    | sh d => exact .inl h2
    | pv m o =>
      obtain ⟨a, vs, e1, _, _, e2, e3, e4, _⟩ := h2
      exact .inr ⟨m, a, vs, rfl, e1, e2, e3, e4⟩
  · cases ef
@[simp] def fC (d : D) : FE := fun _ => some d
theorem pd_int {i j} : PD X (.Constant (.int i) j pos) (fC (.int i)) := ⟨_, pe_int, fun B G H δ σ d Q sG rs ef k => by cases ef; exact k _ G H (Grow.refl sG) (by simp [Rep])⟩
theorem pd_bl {i j} : PD X (.Constant (.bool i) j pos) (fC (.bl i)) := ⟨_, pe_bl, fun B G H δ σ d Q sG rs ef k => by cases ef; exact k _ G H (Grow.refl sG) (by simp [Rep])⟩
theorem pd_non {j} : PD X (.Constant .none j pos) (fC .non) := ⟨_, pe_non, fun B G H δ σ d Q sG rs ef k => by cases ef; exact k _ G H (Grow.refl sG) (by simp [Rep])⟩
theorem pd_str {i j} : PD X (.Constant (.str i) j pos) (fC (.str i)) := ⟨_, pe_str, fun B G H δ σ d Q sG rs ef k => by cases ef; exact k _ G H (Grow.refl sG) (by simp [Rep])⟩
@[simp] def fNil : En → Option (List D) := fun _ => some []
@[simp] def fCons (f : FE) (g : En → Option (List D)) : En → Option (List D) := fun δ => (f δ).bind fun d => (g δ).bind fun ds => some (d :: ds)
theorem pad_nil : PAD X [] fNil := ⟨_, pa_nil, fun B G H δ σ d Q sG rs ef k => by cases ef; exact k _ G H (Grow.refl sG) (by simp [RepL])⟩
theorem pad_cons {g : En → Option (List D)} (ha : PD X e f) (hr : PAD X es g) (hs : starEach (e :: es) X.env = (false, eval e X.env) :: starEach es X.env := by rfl) : PAD X (e :: es) (fCons f g) := by
  obtain ⟨ta, pa, ka⟩ := ha
  obtain ⟨tr, pr, kr⟩ := hr
  refine ⟨_, pa_cons pa pr hs, fun B G H δ σ ds Q sG rs ef k => ?_⟩
  unfold fCons at ef
  obtain ⟨d, e1, ef⟩ := Option.bind_eq_some_iff.mp ef
  obtain ⟨ds', e2, ef⟩ := Option.bind_eq_some_iff.mp ef
  cases ef
  refine ka B G H δ σ d _ sG rs e1 fun v G1 H1 g1 r1 => kr B G1 H1 δ σ ds' _ g1.s (rs.grow g1) e2 fun vs G2 H2 g2 r2 => ?_
  exact k _ G2 H2 (g1.trans g2) (by simp only [RepL]; exact ⟨v, vs, rfl, r1.mono g2.g, r2⟩)
theorem pab_nil : PAB X [] fNil := ⟨_, pa_nil, fun B G H δ σ d Q sG rs ef k => by cases ef; exact k _ G H (Grow.refl sG) rfl⟩
theorem pab_cons {g : En → Option (List D)} (ha : PB X e f) (hr : PAB X es g) (hs : starEach (e :: es) X.env = (false, eval e X.env) :: starEach es X.env := by rfl) : PAB X (e :: es) (fCons f g) := by
  obtain ⟨ta, pa, ka⟩ := ha
  obtain ⟨tr, pr, kr⟩ := hr
  refine ⟨_, pa_cons pa pr hs, fun B G H δ σ ds Q sG rs ef k => ?_⟩
  unfold fCons at ef
  obtain ⟨d, e1, ef⟩ := Option.bind_eq_some_iff.mp ef
  obtain ⟨ds', e2, ef⟩ := Option.bind_eq_some_iff.mp ef
  cases ef
  refine ka B G H δ σ d _ sG rs e1 fun v G1 H1 g1 r1 => kr B G1 H1 δ σ ds' _ g1.s (rs.grow g1) e2 fun vs G2 H2 g2 r2 => ?_
  exact k _ G2 H2 (g1.trans g2) ⟨v, vs, rfl, r1.grow g2, r2⟩
def spD (K : PySem.W.Frag) (M : List D → Option Rs) : Sp := fun vs H Q _ => ∃ G ds r, Same G H ∧ RepL K G ds vs ∧ M ds = some r ∧ WantR K G H Q r
def DefOk (P : Program) (w : World) (K : PySem.W.Frag) (mg : Str → Option Value) (base : Heap) (k : Nat) (x : Str) (ps : List Str) (M : List D → Option Rs) : Prop :=
  ∃ f fd, FnOk P w K mg base CX0 k f fd ps (spD K M) ∧ Binds K fd ps [] ∧ PySem.W.keepIn K (.ref f) = true ∧ mg x = some (.ref f)
@[simp] def fCallR (M : List D → Option Rs) (g : En → Option (List D)) : FR := fun δ => (g δ).bind M
theorem WantR.mono {K : PySem.W.Frag} {G H G1 H1 : Hp} {Q : VK} {r : Rs} (q : WantR K G H Q r) (g : Grow G H G1 H1) : WantR K G1 H1 Q r := by
  cases r with
  | sh d => exact fun v G' H' g' => q v G' H' (g.trans g')
  | fr m => exact fun p vs G' H' g' => q p vs G' H' (g.trans g')
theorem pr_call {k : Nat} {x : Str} {ps : List Str} {M : List D → Option Rs} {g : En → Option (List D)} (F : DefOk X.prog X.w X.K X.mg X.base k x ps M) (hr : Room k X.A) (ha : PAD X (e :: es) g) (hg : Gl X x := by rfl)
    (hdb : (x == ("__debug__" : Str)) = false := by decide) (he : starEach (e :: es) X.env = (false, eval e X.env) :: starEach es X.env := by rfl) (hpl : (backTo pos (starEach es X.env)).any (·.1) = false := by rfl) :
    PR X (.Call (.Name x p) (e :: es) [] pos) (fCallR M g) := by
  obtain ⟨f, fd, F, hb, hk, hm⟩ := F
  obtain ⟨ta, pa, ka⟩ := ha
  refine ⟨_, pe_call F hr hg hm hk hb .nil pass0 pa hdb he hpl, fun B G H δ σ r Q sG rs ef k => ?_⟩
  unfold fCallR at ef
  obtain ⟨ds, e1, ef⟩ := Option.bind_eq_some_iff.mp ef
  refine ka B G H δ σ ds _ sG rs e1 fun vs G1 H1 g1 r1 => ?_
  rw [List.append_nil]
  exact ⟨G1, ds, r, g1.s, r1, ef, k.mono g1⟩
def flatD : D → Bool | .non => true | .bl _ => true | .int _ => true | .str _ => true | _ => false
def CallD (X : Cx) (f : Value) (c : List D → Option D) : Prop := ∃ r, CallR X f r ∧ ∀ (G H : Hp) (ds : List D) (vs : List V) (d : D) (Q : VK), Same G H → RepLB X.K G H ds vs → c ds = some d →
  (∀ v G' H', Grow G H G' H' → Rep X.K G' d v → Q v H') → r vs H Q
@[simp] def fCallB (M : List D → Option D) (g : En → Option (List D)) : FE := fun δ => (g δ).bind M
theorem pd_callB {x : Str} {id : String} {cD : List D → Option D} {g : En → Option (List D)} (hc : CallD X (.builtin id) cD) (hm : X.mg x = none) (hv : bootBuiltins x = some (.builtin id)) (ha : PAB X (e :: es) g) (hg : Gl X x := by rfl)
    (hn : x ≠ "__name__" := by decide) (hdb : (x == ("__debug__" : Str)) = false := by decide)
    (he : starEach (e :: es) X.env = (false, eval e X.env) :: starEach es X.env := by rfl) (hpl : (backTo pos (starEach es X.env)).any (·.1) = false := by rfl) : PD X (.Call (.Name x p) (e :: es) [] pos) (fCallB cD g) := by
  obtain ⟨r, hc, kc⟩ := hc
  obtain ⟨ta, pa, ka⟩ := ha
  refine ⟨_, pe_callB hc hg hm hv pa hn hdb he hpl, fun B G H δ σ d Q sG rs ef k => ?_⟩
  unfold fCallB at ef
  obtain ⟨ds, e1, ef⟩ := Option.bind_eq_some_iff.mp ef
  exact ka B G H δ σ ds _ sG rs e1 fun vs G1 H1 g1 r1 => kc G1 H1 ds vs d Q g1.s r1 ef fun v G' H' g2 r2 => k v G' H' (g1.trans g2) r2
theorem pd_callTy {x : Str} {T : String} {cD : List D → Option D} {g : En → Option (List D)} (hc : CallD X (.type T) cD) (hm : X.mg x = none) (hv : bootBuiltins x = some (.type T)) (ha : PAB X (e :: es) g) (hg : Gl X x := by rfl)
    (hn : x ≠ "__name__" := by decide) (hdb : (x == ("__debug__" : Str)) = false := by decide)
    (he : starEach (e :: es) X.env = (false, eval e X.env) :: starEach es X.env := by rfl) (hpl : (backTo pos (starEach es X.env)).any (·.1) = false := by rfl) : PD X (.Call (.Name x p) (e :: es) [] pos) (fCallB cD g) := by
  obtain ⟨r, hc, kc⟩ := hc
  obtain ⟨ta, pa, ka⟩ := ha
  refine ⟨_, pe_callTy hc hg hm hv pa hn hdb he hpl, fun B G H δ σ d Q sG rs ef k => ?_⟩
  unfold fCallB at ef
  obtain ⟨ds, e1, ef⟩ := Option.bind_eq_some_iff.mp ef
  exact ka B G H δ σ ds _ sG rs e1 fun vs G1 H1 g1 r1 => kc G1 H1 ds vs d Q g1.s r1 ef fun v G' H' g2 r2 => k v G' H' (g1.trans g2) r2
def OpD (X : Cx) (f : Value → Value → Sem Value) (o : D → D → Option D) : Prop := ∃ r, OpR X f r ∧ ∀ (G H : Hp) (x y : D) (v u : V) (d : D) (Q : VK), Same G H → RepB X.K G H x v → RepB X.K G H y u → o x y = some d →
  (∀ v G' H', Grow G H G' H' → Rep X.K G' d v → Q v H') → r v u H Q
theorem OpD.or {F : Value → Value → Sem Value} {o o' : D → D → Option D} (h : OpD X F o) (h' : OpD X F o') : OpD X F (fun x y => (o x y).or (o' x y)) := by
  obtain ⟨r, h1, h2⟩ := h
  obtain ⟨r', h1', h2'⟩ := h'
  refine ⟨_, h1.or h1', fun G H x y v u d Q sG rx ry e k => ?_⟩
  cases eo : o x y with
  | some z =>
    have : z = d := by simpa [eo] using e
    subst this
    exact .inl (h2 G H x y v u z Q sG rx ry eo k)
  | none => exact .inr (h2' G H x y v u d Q sG rx ry (by simpa [eo] using e) k)
@[simp] def f2 (o : D → D → Option D) (f g : FE) : FE := fun δ => (f δ).bind fun x => (g δ).bind fun y => o x y
theorem gives_op {r : R2} {o : D → D → Option D} {ta tb : TE} (ka : GivesB X.K ta f) (kb : GivesB X.K tb g) (ko : ∀ (G H : Hp) (x y : D) (v u : V) (d : D) (Q : VK), Same G H → RepB X.K G H x v → RepB X.K G H y u → o x y = some d →
    (∀ v G' H', Grow G H G' H' → Rep X.K G' d v → Q v H') → r v u H Q) : Gives X.K (tOp r ta tb) (f2 o f g) := fun B G H δ σ d Q sG rs ef k => by
  unfold f2 at ef
  obtain ⟨x, e1, ef⟩ := Option.bind_eq_some_iff.mp ef
  obtain ⟨y, e2, ef⟩ := Option.bind_eq_some_iff.mp ef
  exact ka B G H δ σ x _ sG rs e1 fun v G1 H1 g1 r1 => kb B G1 H1 δ σ y _ g1.s (rs.grow g1) e2 fun u G2 H2 g2 r2 =>
    ko G2 H2 x y v u d Q g2.s (r1.grow g2) r2 ef fun v G' H' g3 r3 => k v G' H' ((g1.trans g2).trans g3) r3
theorem pd_op {op : Operator} {o : D → D → Option D} (ho : OpD X (binaryOp op) o) (ha : PB X a f) (hb : PB X b g) : PD X (.BinOp a op b pos) (f2 o f g) := by
  obtain ⟨r, ho, ko⟩ := ho
  obtain ⟨ta, pa, ka⟩ := ha
  obtain ⟨tb, pb, kb⟩ := hb
  exact ⟨_, pe_op ho pa pb, gives_op ka kb ko⟩
theorem pd_cmp {op : CmpOp} {o : D → D → Option D} (ho : OpD X (compareOp op) o) (ha : PB X a f) (hb : PB X b g) (hm : behindInMarks op b = false := by first | exact nomark _ | with_unfolding_all rfl) : PD X (.Compare a [op] [b] pos) (f2 o f g) := by
  obtain ⟨r, ho, ko⟩ := ho
  obtain ⟨ta, pa, ka⟩ := ha
  obtain ⟨tb, pb, kb⟩ := hb
  exact ⟨_, pe_cmpR ho pa pb hm, gives_op ka kb ko⟩
@[simp] def fB (f : FE) : En → Option Bool := fun δ => match f δ with | some (.bl b) => some b | _ => none
theorem fB_some {δ : En} {b : Bool} (e : fB f δ = some b) : f δ = some (.bl b) := by
  unfold fB at e
  split at e
  · rename_i h; cases e; exact h
  · cases e
theorem pdt_cmp {op : CmpOp} {o : D → D → Option D} (ho : OpD X (compareOp op) o) (ha : PB X a f) (hb : PB X b g) (hm : behindInMarks op b = false := by first | exact nomark _ | with_unfolding_all rfl) : PDT X (.Compare a [op] [b] pos) (fB (f2 o f g)) := by
  obtain ⟨r, ho, ko⟩ := ho
  obtain ⟨ta, pa, ka⟩ := ha
  obtain ⟨tb, pb, kb⟩ := hb
  refine ⟨_, pt_cmpR ho pa pb hm, fun B G H δ σ q Q sG rs ef k => ?_⟩
  refine gives_op ka kb ko B G H δ σ _ _ sG rs (fB_some ef) fun v G' H' g1 r1 => ?_
  simp only [Rep] at r1
  exact ⟨q, r1, k G' H' g1⟩
theorem pdt_val (h : PD X e f) (he : ∀ whole, isTrue e X.env whole = (do let v ← whole; standAt e.pos; holding [v] (truthy v)) := by intro _; rfl) : PDT X e (fB f) := by
  obtain ⟨t, pe, ke⟩ := h
  refine ⟨_, pt_val pe he, fun B G H δ σ q Q sG rs ef k => ?_⟩
  refine ke B G H δ σ _ _ sG rs (fB_some ef) fun v G' H' g1 r1 => ?_
  simp only [Rep] at r1
  exact ⟨q, r1, k G' H' g1⟩
@[simp] def f3 (o o' : D → D → Option D) (f g h : FE) : FE := fun δ => (f δ).bind fun x => (g δ).bind fun y => (o x y).bind fun z => match z with | .bl true => (h δ).bind fun w => o' y w | .bl false => some (.bl false) | _ => none
@[simp] def bAnd (f g : En → Option Bool) : En → Option Bool := fun δ => (f δ).bind fun x => if x = true then g δ else some false
@[simp] def bOr (f g : En → Option Bool) : En → Option Bool := fun δ => (f δ).bind fun x => if x = true then some true else g δ
@[simp] def bNot (f : En → Option Bool) : En → Option Bool := fun δ => (f δ).map (!·)
variable {fb gb : En → Option Bool} {rest : List Expr}
theorem PDW.pdt (h : PDW X e fb) : PDT X e fb := by
  obtain ⟨t, pw, k⟩ := h
  exact ⟨t, pw.pt, k⟩
theorem pdw_and1 (ha : PDT X a fb) : PDW X (.BoolOp .And [a] pos) fb := by
  obtain ⟨t, pt, k⟩ := ha
  exact ⟨t, pw_and1 pt, k⟩
theorem pdw_or1 (ha : PDT X a fb) : PDW X (.BoolOp .Or [a] pos) fb := by
  obtain ⟨t, pt, k⟩ := ha
  exact ⟨t, pw_or1 pt, k⟩
theorem pdw_and (ha : PDT X a fb) (hb : PDW X (.BoolOp .And (b :: rest) pos) gb) : PDW X (.BoolOp .And (a :: b :: rest) pos) (bAnd fb gb) := by
  obtain ⟨t, pt, k1⟩ := ha
  obtain ⟨u, pu, k2⟩ := hb
  refine ⟨_, pw_and pt pu, fun B G H δ σ q Q sG rs ef k => ?_⟩
  unfold bAnd at ef
  obtain ⟨x, e1, ef⟩ := Option.bind_eq_some_iff.mp ef
  refine k1 B G H δ σ x _ sG rs e1 fun G1 H1 g1 => ?_
  cases x with
  | true => rw [if_pos rfl] at ef ⊢; exact k2 B G1 H1 δ σ q Q g1.s (rs.grow g1) ef fun G' H' g2 => k G' H' (g1.trans g2)
  | false => rw [if_neg Bool.false_ne_true] at ef ⊢; cases ef; exact k G1 H1 g1
theorem pdw_or (ha : PDT X a fb) (hb : PDW X (.BoolOp .Or (b :: rest) pos) gb) : PDW X (.BoolOp .Or (a :: b :: rest) pos) (bOr fb gb) := by
  obtain ⟨t, pt, k1⟩ := ha
  obtain ⟨u, pu, k2⟩ := hb
  refine ⟨_, pw_or pt pu, fun B G H δ σ q Q sG rs ef k => ?_⟩
  unfold bOr at ef
  obtain ⟨x, e1, ef⟩ := Option.bind_eq_some_iff.mp ef
  refine k1 B G H δ σ x _ sG rs e1 fun G1 H1 g1 => ?_
  cases x with
  | false => rw [if_neg Bool.false_ne_true] at ef ⊢; exact k2 B G1 H1 δ σ q Q g1.s (rs.grow g1) ef fun G' H' g2 => k G' H' (g1.trans g2)
  | true => rw [if_pos rfl] at ef ⊢; cases ef; exact k G1 H1 g1
theorem pdt_not (ha : PDT X a fb) : PDT X (.UnaryOp .Not a pos) (bNot fb) := by
  obtain ⟨t, pt, k1⟩ := ha
  refine ⟨_, L2.pt_not pt, fun B G H δ σ q Q sG rs ef k => ?_⟩
  unfold bNot at ef
  obtain ⟨x, e1, ef⟩ := Option.map_eq_some_iff.mp ef
  subst ef
  exact k1 B G H δ σ x _ sG rs e1 fun G1 H1 g1 => k G1 H1 g1
@[simp] def fAnd (f g : FE) : FE := fun δ => match f δ with | some (.bl true) => g δ | some (.bl false) => some (.bl false) | _ => none
@[simp] def fOr (f g : FE) : FE := fun δ => match f δ with | some (.bl true) => some (.bl true) | some (.bl false) => g δ | _ => none
theorem pd_one {op} (h : PD X a f) : PD X (.BoolOp op [a] pos) f := by
  obtain ⟨t, pt, k⟩ := h
  exact ⟨t, pe_one pt, k⟩
theorem pd_and (ha : PD X a f) (hb : PD X (.BoolOp .And (b :: rest) pos) g) : PD X (.BoolOp .And (a :: b :: rest) pos) (fAnd f g) := by
  obtain ⟨t, pt, k1⟩ := ha
  obtain ⟨u, pu, k2⟩ := hb
  refine ⟨_, pe_and pt pu, fun B G H δ σ q Q sG rs ef k => ?_⟩
  unfold fAnd at ef
  split at ef
  · rename_i e1
    refine k1 B G H δ σ _ _ sG rs e1 fun v G1 H1 g1 r1 => ⟨true, by simpa only [Rep] using r1, ?_⟩
    rw [if_pos rfl]
    exact k2 B G1 H1 δ σ q Q g1.s (rs.grow g1) ef fun v G' H' g2 r2 => k v G' H' (g1.trans g2) r2
  · rename_i e1
    cases ef
    refine k1 B G H δ σ _ _ sG rs e1 fun v G1 H1 g1 r1 => ⟨false, by simpa only [Rep] using r1, ?_⟩
    rw [if_neg Bool.false_ne_true]
    exact k _ G1 H1 g1 (by simp [Rep])
  · cases ef
theorem pd_or (ha : PD X a f) (hb : PD X (.BoolOp .Or (b :: rest) pos) g) : PD X (.BoolOp .Or (a :: b :: rest) pos) (fOr f g) := by
  obtain ⟨t, pt, k1⟩ := ha
  obtain ⟨u, pu, k2⟩ := hb
  refine ⟨_, pe_or pt pu, fun B G H δ σ q Q sG rs ef k => ?_⟩
  unfold fOr at ef
  split at ef
  · rename_i e1
    cases ef
    refine k1 B G H δ σ _ _ sG rs e1 fun v G1 H1 g1 r1 => ⟨true, by simpa only [Rep] using r1, ?_⟩
    rw [if_pos rfl]
    exact k _ G1 H1 g1 (by simp [Rep])
  · rename_i e1
    refine k1 B G H δ σ _ _ sG rs e1 fun v G1 H1 g1 r1 => ⟨false, by simpa only [Rep] using r1, ?_⟩
    rw [if_neg Bool.false_ne_true]
    exact k2 B G1 H1 δ σ q Q g1.s (rs.grow g1) ef fun v G' H' g2 r2 => k v G' H' (g1.trans g2) r2
  · cases ef
@[simp] def fIf (c : En → Option Bool) (f g : FE) : FE := fun δ => (c δ).bind fun x => if x = true then f δ else g δ
theorem pd_if {c : Expr} (hc : PDT X c fb) (ha : PD X a f) (hb : PD X b g) : PD X (.IfExp c a b pos) (fIf fb f g) := by
  obtain ⟨tc, pc, kc⟩ := hc
  obtain ⟨ta, pa, ka⟩ := ha
  obtain ⟨tb, pb, kb⟩ := hb
  refine ⟨_, pe_ifExp pc pa pb, fun B G H δ σ q Q sG rs ef k => ?_⟩
  unfold fIf at ef
  obtain ⟨x, e1, ef⟩ := Option.bind_eq_some_iff.mp ef
  refine kc B G H δ σ x _ sG rs e1 fun G1 H1 g1 => ?_
  cases x with
  | true => rw [if_pos rfl] at ef ⊢; exact ka B G1 H1 δ σ q Q g1.s (rs.grow g1) ef fun v G' H' g2 => k v G' H' (g1.trans g2)
  | false => rw [if_neg Bool.false_ne_true] at ef ⊢; exact kb B G1 H1 δ σ q Q g1.s (rs.grow g1) ef fun v G' H' g2 => k v G' H' (g1.trans g2)
@[simp] def fTup (g : En → Option (List D)) : FE := fun δ => (g δ).bind fun ds => if ds.length ≤ sizeLine then some (.tup ds) else none
theorem rep_tup {K : PySem.W.Frag} {G : Hp} {p : Addr} {ds : List D} {vs : List V} (hn : G p = none) (r : RepL K G ds vs) : Rep K (upd G p (.tup vs)) (.tup ds) (.ref p) := by
  simp only [Rep]
  exact ⟨p, vs, rfl, SqT.of upd_same, r.mono (same_new _ hn)⟩
theorem rep_lst {K : PySem.W.Frag} {G : Hp} {p : Addr} {ds : List D} {vs : List V} (hn : G p = none) (r : RepL K G ds vs) : Rep K (upd G p (.lst vs)) (.lst ds) (.ref p) := by
  simp only [Rep]
  exact ⟨p, vs, rfl, SqL.of upd_same, r.mono (same_new _ hn)⟩
theorem pd_tup {x1} {g : En → Option (List D)} (ha : PAD X es g) : PD X (.Tuple es x1 pos) (fTup g) := by
  obtain ⟨t, pt, k1⟩ := ha
  refine ⟨_, pe_tup pt, fun B G H δ σ q Q sG rs ef k => ?_⟩
  unfold fTup at ef
  obtain ⟨ds, e1, ef⟩ := Option.bind_eq_some_iff.mp ef
  split at ef
  · rename_i hl
    cases ef
    exact k1 B G H δ σ ds _ sG rs e1 fun vs G1 H1 g1 r1 => ⟨by rw [← r1.length]; exact hl, fun p hp => k _ _ _ (g1.trans (Grow.laid g1.s _ hp)) (rep_tup (g1.s.free hp) r1)⟩
  · cases ef
@[simp] def fLstR (g : En → Option (List D)) : FR := fun δ => (g δ).bind fun ds => if ds.length ≤ sizeLine then some (.fr (.lst ds)) else none
theorem pr_lst {g : En → Option (List D)} (ha : PAD X es g) : PR X (.List es pos) (fLstR g) := by
  obtain ⟨t, pt, k1⟩ := ha
  refine ⟨_, pe_lst pt, fun B G H δ σ q Q sG rs ef k => ?_⟩
  unfold fLstR at ef
  obtain ⟨ds, e1, ef⟩ := Option.bind_eq_some_iff.mp ef
  split at ef
  · rename_i hl
    cases ef
    exact k1 B G H δ σ ds _ sG rs e1 fun vs G1 H1 g1 r1 => ⟨by rw [← r1.length]; exact hl, fun p hp => k p vs G1 H1 g1 hp True.intro r1⟩
  · cases ef
@[simp] def fDicR : FR := fun _ => some (.fr (.dic [] []))
theorem pr_dnew : PR X (.Dict [] [] pos) fDicR := by
  refine ⟨_, pe_dnewK, fun B G H δ σ q Q sG rs ef k => ?_⟩
  cases ef
  exact fun p hp => k p [] G H (Grow.refl sG) hp ⟨rfl, List.nodup_nil⟩ rfl
def ixD : D → D → Option D
  | .lst ds, .int i => atI ds i
  | .tup ds, .int i => atI ds i
  | .str z, .int i => if z.length ≤ sizeLine then (atI z.cps.toList i).map fun c => .str ⟨#[c]⟩ else none
  | _, _ => none
theorem RepL.atI {K : PySem.W.Frag} {H : Hp} {ds : List D} {vs : List V} {i : Int} {d : D} (r : RepL K H ds vs) (e : L2.atI ds i = some d) : ∃ v, L2.atI vs i = some v ∧ Rep K H d v := by
  unfold L2.atI at e ⊢
  rw [← r.length]
  obtain ⟨j, e1, e2⟩ := Option.bind_eq_some_iff.mp e
  obtain ⟨v, h1, h2⟩ := r.get e2
  exact ⟨v, by rw [e1]; exact h1, h2⟩
def keyD : D → Option Key | .int i => some (.inl i) | .str x => some (.inr x) | _ => none
def valD (ks : List Key) (ds : List D) (k : Key) : Option D := ((ks.zip ds).find? fun kv => decide (kv.1 = k)).map (·.2)
theorem valD_rep {K : PySem.W.Frag} {G : Hp} (k : Key) : ∀ {ks : List Key} {ds : List D} {vs : List V}, ks.length = ds.length → RepL K G ds vs → (∀ d, valD ks ds k = some d → ∃ v, valV (ks.zip vs) k = some v ∧ Rep K G d v) ∧ (valD ks ds k = none → valV (ks.zip vs) k = none)
  | [], _, _, _, _ => ⟨fun d e => (by cases e), fun _ => rfl⟩
  | k0 :: ks, [], _, hl, _ => by cases hl
  | k0 :: ks, d0 :: ds, _, hl, r => by
    simp only [RepL] at r
    obtain ⟨v, us, rfl, r1, r2⟩ := r
    have ih := valD_rep k (ks := ks) (ds := ds) (by simpa using hl) r2
    by_cases h : k0 = k
    · subst h
      refine ⟨fun d e => ?_, fun e => ?_⟩
      · have : d0 = d := by simpa [valD] using e
        subst this
        exact ⟨v, by simp [valV], r1⟩
      · simp [valD] at e
    · have e1 : valD (k0 :: ks) (d0 :: ds) k = valD ks ds k := by simp [valD, h]
      have e2 : valV ((k0 :: ks).zip (v :: us)) k = valV (ks.zip us) k := by simp [valV, h]
      rw [e1, e2]
      exact ih
theorem keyD_rep {K : PySem.W.Frag} {G H : Hp} {d : D} {k : Key} {v : V} (e : keyD d = some k) (r : RepB K G H d v) : v = kV k := by
  rcases r with r | ⟨m, a, vs, h1, _⟩
  · cases d <;> simp only [keyD, Rep] at e r <;> first | cases e | skip
    all_goals (subst r; rfl)
  · subst h1
    cases m <;> cases e
theorem RepB.flat {K : PySem.W.Frag} {G H : Hp} {d : D} {v : V} (e : flatD d = true) (r : RepB K G H d v) : Rep K G d v := by
  rcases r with r | ⟨m, a, vs, h1, _⟩
  · exact r
  · subst h1; cases m <;> cases e
def rIxD : R2 := fun x y H Q => ∃ a v, x = .ref a ∧ DGet H a y (some v) ∧ Q v H
theorem ix_dict (hu : X.A.units + 1 < cLine) : IxR X rIxD := by
  intro value slice pins s σ H x y v u Q I rx ry h hs
  obtain ⟨a, w', rfl, g, q⟩ := h
  cases rx
  exact tail_any (dict_typeIs I g) PySem.slot_dict_getitem.lookup (d_getItem hu I g ry fun w2 s' I' r' => ⟨_, H, I', r', q⟩) hs
def ixA : D → D → Option D
  | .dic ks ds, y => (keyD y).bind fun k => valD ks ds k
  | x, y => ixD x y
theorem pd_ix (hu : X.A.units + 1 < cLine) (ha : PB X a f) (hb : PB X b g) (hs : PlainIx b := by intro _ _; rfl) : PD X (.Subscript a b pos) (f2 ixA f g) := by
  obtain ⟨ta, pa, ka⟩ := ha
  obtain ⟨tb, pb, kb⟩ := hb
  refine ⟨_, pe_ix (ix_seq.or (ix_dict hu)) pa pb hs, gives_op ka kb fun G H x y v u d Q sG rx ry e k => ?_⟩
  unfold ixA at e
  split at e
  · obtain ⟨kk, e1, e2⟩ := Option.bind_eq_some_iff.mp e
    obtain ⟨a, vs, rfl, hd, hl, nd, rl⟩ := rx.dic sG
    obtain ⟨w', e3, r3⟩ := (valD_rep kk hl rl).1 d e2
    have := keyD_rep e1 ry
    subst this
    exact .inr ⟨a, w', rfl, .inl ⟨_, kk, hd, rfl, e3.symm⟩, k w' G H (Grow.refl sG) r3⟩
  · rename_i x' y' hx
    unfold ixD at e
    split at e
    · obtain ⟨p, vs, rfl, hq, rl⟩ := rx.lst sG
      have ry := ry.flat rfl
      simp only [Rep] at ry
      obtain ⟨w, e1, r1⟩ := rl.atI e
      exact .inl (.inl ⟨p, vs, _, w, rfl, ry, hq, e1, k w G H (Grow.refl sG) r1⟩)
    · have rx := rx.tup
      have ry := ry.flat rfl
      simp only [Rep] at rx ry
      obtain ⟨p, vs, rfl, hq, rl⟩ := rx
      obtain ⟨w, e1, r1⟩ := rl.atI e
      exact .inl (.inr (.inl ⟨p, vs, _, w, rfl, ry, sG.sqT hq, e1, k w G H (Grow.refl sG) r1⟩))
    · have rx := rx.flat rfl
      have ry := ry.flat rfl
      simp only [Rep] at rx ry
      split at e
      · rename_i hl
        obtain ⟨c, e1, rfl⟩ := Option.map_eq_some_iff.mp e
        exact .inl (.inr (.inr ⟨_, _, c, rx, ry, hl, e1, k _ G H (Grow.refl sG) (by simp [Rep])⟩))
      · cases e
    · cases e
end
end L2
set_option Elab.async false
set_option linter.all false
set_option maxRecDepth 100000
set_option maxHeartbeats 4000000
namespace L2
open PySem PySem.Spec PyProof.Rows
section
variable {X : Cx}
theorem opd_i0 {f : Value → Value → Sem Value} {g : Int → Int → V} {g' : Int → Int → D} (h : OpR X f (rI0 g)) (hg : ∀ G i j, Rep X.K G (g' i j) (g i j)) :
    OpD X f (fun x y => match x, y with | .int i, .int j => some (g' i j) | _, _ => none) := by
  refine ⟨_, h, fun G H x y v u d Q sG rx ry e k => ?_⟩
  dsimp only at e
  split at e
  · cases e
    have rx := rx.flat rfl
    have ry := ry.flat rfl
    simp only [Rep] at rx ry
    exact ⟨_, _, rx, ry, k _ G H (Grow.refl sG) (hg _ _ _)⟩
  · cases e
theorem opd_i {f : Value → Value → Sem Value} {C : Int → Int → Prop} [∀ i j, Decidable (C i j)] {g : Int → Int → V} {g' : Int → Int → D} (h : OpR X f (rI C g)) (hg : ∀ G i j, Rep X.K G (g' i j) (g i j)) :
    OpD X f (fun x y => match x, y with | .int i, .int j => if C i j then some (g' i j) else none | _, _ => none) := by
  refine ⟨_, h, fun G H x y v u d Q sG rx ry e k => ?_⟩
  dsimp only at e
  split at e
  · split at e
    · rename_i hc
      cases e
      have rx := rx.flat rfl
      have ry := ry.flat rfl
      simp only [Rep] at rx ry
      exact ⟨_, _, rx, ry, hc, k _ G H (Grow.refl sG) (hg _ _ _)⟩
    · cases e
  · cases e
instance (i j : Int) : Decidable (CDiv i j) := inferInstanceAs (Decidable (_ ∧ _))
instance (i j : Int) : Decidable (CMul i j) := inferInstanceAs (Decidable (_ ∨ _))
instance (i j : Int) : Decidable (CPow i j) := inferInstanceAs (Decidable (_ ∧ _ ∧ _))
def iAdd : D → D → Option D | .int i, .int j => some (.int (i + j)) | _, _ => none
def iMul : D → D → Option D | .int i, .int j => if CMul i j then some (.int (i * j)) else none | _, _ => none
def fdivD : D → D → Option D | .int i, .int j => if CDiv i j then some (.int (i / j)) else none | _, _ => none
def modD : D → D → Option D | .int i, .int j => if 0 < j then some (.int (i % j)) else none | _, _ => none
theorem od_iadd : OpD X (binaryOp .Add) iAdd := opd_i0 op_add fun _ _ _ => by simp [Rep]
theorem od_imul : OpD X (binaryOp .Mult) iMul := opd_i op_mul fun _ _ _ => by simp [Rep]
theorem od_fdiv : OpD X (binaryOp .FloorDiv) fdivD := opd_i op_fdiv fun _ _ _ => by simp [Rep]
theorem od_mod : OpD X (binaryOp .Mod) modD := opd_i op_mod fun _ _ _ => by simp [Rep]
def sAdd : D → D → Option D | .str i, .str j => if i.length + j.length ≤ sizeLine then some (.str (i ++ j)) else none | _, _ => none
theorem od_sadd : OpD X (binaryOp .Add) sAdd := by
  refine ⟨_, op_add_str, fun G H x y v u d Q sG rx ry e k => ?_⟩
  unfold sAdd at e
  split at e
  · split at e
    · rename_i hc
      cases e
      have rx := rx.flat rfl
      have ry := ry.flat rfl
      simp only [Rep] at rx ry
      exact ⟨_, _, rx, ry, hc, k _ G H (Grow.refl sG) (by simp [Rep])⟩
    · cases e
  · cases e
def rCatL (K : PySem.W.Frag) : R2 := fun x y H Q => ∃ l b xs zs, x = .ref l ∧ y = .ref b ∧ SqL K H l xs ∧ SqL K H b zs ∧ xs.length + zs.length ≤ sizeLine ∧ ∀ p, H p = none → Q (.ref p) (upd H p (.lst (xs ++ zs)))
def lAdd : D → D → Option D | .lst i, .lst j => if i.length + j.length ≤ sizeLine then some (.lst (i ++ j)) else none | _, _ => none
theorem od_ladd (h : OpR X (binaryOp .Add) (rCatL X.K)) : OpD X (binaryOp .Add) lAdd := by
  refine ⟨_, h, fun G H x y v u d Q sG rx ry e k => ?_⟩
  unfold lAdd at e
  split at e
  · split at e
    · rename_i hc
      cases e
      obtain ⟨p1, xs, rfl, q1, r1⟩ := rx.lst sG
      obtain ⟨p2, ys, rfl, q2, r2⟩ := ry.lst sG
      exact ⟨p1, p2, xs, ys, rfl, rfl, q1, q2, by rw [← r1.length, ← r2.length]; exact hc, fun p hp => k _ _ _ (Grow.laid sG _ hp) (rep_lst (sG.free hp) (r1.append r2))⟩
    · cases e
  · cases e
def iCmp (f : Int → Int → Bool) : D → D → Option D | .int i, .int j => some (.bl (f i j)) | _, _ => none
theorem od_gt : OpD X (compareOp .Gt) (iCmp fun i j => decide (j < i)) := opd_i0 op_gt fun _ _ _ => by simp [Rep]
def scalV : D → Option V
  | .non => some .non | .bl b => some (.bl b) | .int i => some (.int i) | .str x => some (.str x) | _ => none
theorem scalV_flat {d : D} {w : V} (e : scalV d = some w) : flatD d = true := by
  cases d <;> first | rfl | cases e
theorem scalV_rep {K : PySem.W.Frag} {G H : Hp} {d : D} {v w : V} (e : scalV d = some w) (r : RepB K G H d v) : v = w := by
  have r := r.flat (scalV_flat e)
  cases d <;> simp only [scalV, Rep] at e r <;> first | cases e | skip
  all_goals exact r
def sEq (n : Bool) : D → D → Option D := fun x y => (scalV x).bind fun v => (scalV y).bind fun u => if scal v u = true then some (.bl (if n then !decide (v = u) else decide (v = u))) else none
theorem od_seq : OpD X (compareOp .Eq) (sEq false) := by
  refine ⟨_, op_eq, fun G H x y v u d Q sG rx ry e k => ?_⟩
  unfold sEq at e
  obtain ⟨v', e1, e⟩ := Option.bind_eq_some_iff.mp e
  obtain ⟨u', e2, e⟩ := Option.bind_eq_some_iff.mp e
  obtain rfl := scalV_rep e1 rx
  obtain rfl := scalV_rep e2 ry
  split at e
  · rename_i hs
    cases e
    exact ⟨hs, k _ G H (Grow.refl sG) (by simp [Rep])⟩
  · cases e
theorem od_sne : OpD X (compareOp .NotEq) (sEq true) := by
  refine ⟨_, op_ne, fun G H x y v u d Q sG rx ry e k => ?_⟩
  unfold sEq at e
  obtain ⟨v', e1, e⟩ := Option.bind_eq_some_iff.mp e
  obtain ⟨u', e2, e⟩ := Option.bind_eq_some_iff.mp e
  obtain rfl := scalV_rep e1 rx
  obtain rfl := scalV_rep e2 ry
  split at e
  · rename_i hs
    cases e
    exact ⟨hs, k _ G H (Grow.refl sG) (by simp [Rep])⟩
  · cases e
def toV : D → V | .non => .non | .bl b => .bl b | .int i => .int i | .str x => .str x | _ => .non
theorem rep_flat {K : PySem.W.Frag} {G : Hp} {d : D} {v : V} (e : flatD d = true) (r : Rep K G d v) : v = toV d ∧ flatV v = true := by
  cases d with
  | non => simp only [Rep] at r; subst r; exact ⟨rfl, rfl⟩
  | bl b => simp only [Rep] at r; subst r; exact ⟨rfl, rfl⟩
  | int b => simp only [Rep] at r; subst r; exact ⟨rfl, rfl⟩
  | str b => simp only [Rep] at r; subst r; exact ⟨rfl, rfl⟩
  | tup b => cases e
  | lst b => cases e
  | dic ks b => cases e
theorem repL_flat {K : PySem.W.Frag} {G : Hp} : ∀ {ds : List D} {vs : List V}, ds.all flatD = true → RepL K G ds vs → vs = ds.map toV ∧ vs.all flatV = true
  | [], _, _, r => by simp only [RepL] at r; subst r; exact ⟨rfl, rfl⟩
  | d :: ds, _, e, r => by
    simp only [RepL] at r
    obtain ⟨v, us, rfl, r1, r2⟩ := r
    rw [List.all_cons, Bool.and_eq_true] at e
    obtain ⟨h1, h2⟩ := rep_flat e.1 r1
    obtain ⟨h3, h4⟩ := repL_flat e.2 r2
    exact ⟨by rw [h1, h3]; rfl, by rw [List.all_cons, h2, h4]; rfl⟩
def inSeq (x : D) (ds : List D) : Option Bool := if flatD x = true ∧ ds.all flatD = true then some (inV (toV x) (ds.map toV)) else none
def inD (n : Bool) : D → D → Option D
  | x, .tup ds => (inSeq x ds).map fun b => .bl (if n then !b else b)
  | x, .lst ds => (inSeq x ds).map fun b => .bl (if n then !b else b)
  | .str i, .str j => some (.bl (if n then !(!(Builtin.Str.occurrences j i 0 j.length 1).isEmpty) else !(Builtin.Str.occurrences j i 0 j.length 1).isEmpty))
  | _, _ => none
theorem od_in : OpD X (compareOp .In) (inD false) := by
  refine ⟨_, (op_in_seq.or op_in_str), fun G H x y v u d Q sG rx ry e k => ?_⟩
  unfold inD at e
  split at e
  · obtain ⟨b, e1, rfl⟩ := Option.map_eq_some_iff.mp e
    unfold inSeq at e1
    split at e1
    · rename_i hc
      cases e1
      have ry := ry.tup
      simp only [Rep] at ry
      obtain ⟨p, vs, rfl, q, r⟩ := ry
      obtain ⟨h1, h2⟩ := rep_flat hc.1 (rx.flat hc.1)
      obtain ⟨h3, h4⟩ := repL_flat hc.2 r
      subst h1 h3
      exact .inl ⟨p, _, rfl, .inr (sG.sqT q), h2, h4, k _ G H (Grow.refl sG) (by simp [Rep])⟩
    · cases e1
  · obtain ⟨b, e1, rfl⟩ := Option.map_eq_some_iff.mp e
    unfold inSeq at e1
    split at e1
    · rename_i hc
      cases e1
      obtain ⟨p, vs, rfl, q, r⟩ := ry.lst sG
      obtain ⟨h1, h2⟩ := rep_flat hc.1 (rx.flat hc.1)
      obtain ⟨h3, h4⟩ := repL_flat hc.2 r
      subst h1 h3
      exact .inl ⟨p, _, rfl, .inl q, h2, h4, k _ G H (Grow.refl sG) (by simp [Rep])⟩
    · cases e1
  · cases e
    have rx := rx.flat rfl
    have ry := ry.flat rfl
    simp only [Rep] at rx ry
    exact .inr ⟨_, _, rx, ry, k _ G H (Grow.refl sG) (by simp [Rep])⟩
  · cases e
theorem od_notin : OpD X (compareOp .NotIn) (inD true) := by
  refine ⟨_, (op_notIn_seq.or op_notIn_str), fun G H x y v u d Q sG rx ry e k => ?_⟩
  unfold inD at e
  split at e
  · obtain ⟨b, e1, rfl⟩ := Option.map_eq_some_iff.mp e
    unfold inSeq at e1
    split at e1
    · rename_i hc
      cases e1
      have ry := ry.tup
      simp only [Rep] at ry
      obtain ⟨p, vs, rfl, q, r⟩ := ry
      obtain ⟨h1, h2⟩ := rep_flat hc.1 (rx.flat hc.1)
      obtain ⟨h3, h4⟩ := repL_flat hc.2 r
      subst h1 h3
      exact .inl ⟨p, _, rfl, .inr (sG.sqT q), h2, h4, k _ G H (Grow.refl sG) (by simp [Rep])⟩
    · cases e1
  · obtain ⟨b, e1, rfl⟩ := Option.map_eq_some_iff.mp e
    unfold inSeq at e1
    split at e1
    · rename_i hc
      cases e1
      obtain ⟨p, vs, rfl, q, r⟩ := ry.lst sG
      obtain ⟨h1, h2⟩ := rep_flat hc.1 (rx.flat hc.1)
      obtain ⟨h3, h4⟩ := repL_flat hc.2 r
      subst h1 h3
      exact .inl ⟨p, _, rfl, .inl q, h2, h4, k _ G H (Grow.refl sG) (by simp [Rep])⟩
    · cases e1
  · cases e
    have rx := rx.flat rfl
    have ry := ry.flat rfl
    simp only [Rep] at rx ry
    exact .inr ⟨_, _, rx, ry, k _ G H (Grow.refl sG) (by simp [Rep])⟩
  · cases e
@[simp] def oInt (f : FE) : En → Option (Option Int) := fun δ => match f δ with | some (.int i) => some (some i) | _ => none
def lenD : List D → Option D
  | [.lst ds] => some (.int ds.length)
  | [.tup ds] => some (.int ds.length)
  | [.str z] => if z.length ≤ sizeLine then some (.int z.length) else none
  | [.dic ks ds] => some (.int ds.length)
  | _ => none
theorem repLB_one {K : PySem.W.Frag} {G H : Hp} {d : D} {vs : List V} (r : RepLB K G H [d] vs) : ∃ v, vs = [v] ∧ RepB K G H d v := by
  obtain ⟨v, us, rfl, r1, r2⟩ := r
  simp only [RepLB] at r2
  subst r2
  exact ⟨v, rfl, r1⟩
theorem cd_len : CallD X (.builtin "len") lenD := by
  refine ⟨_, (call_len_seq.or call_len_str).or (show CallR X (.builtin "len") (fun xs H Q => ∃ a kvs, xs = [V.ref a] ∧ Rd H a (.dK kvs) ∧ Q (.int kvs.length) H) from ?_), fun G H ds vs d Q sG r e k => ?_⟩
  · intro pins s σ H xs us Q I r h
    obtain ⟨a, kvs, rfl, ha, q⟩ := h
    obtain ⟨u, rfl, ru⟩ := vals1 r
    cases ru
    exact d_len I ha fun t s' I' => ⟨.int kvs.length, H, I', ⟨t, rfl⟩, q⟩
  unfold lenD at e
  split at e
  · cases e
    obtain ⟨v, rfl, r1⟩ := repLB_one r
    obtain ⟨a, us, rfl, q, rl⟩ := r1.lst sG
    exact .inl (.inl ⟨a, us, rfl, .inl q, k _ G H (Grow.refl sG) (by simp [Rep, rl.length])⟩)
  · cases e
    obtain ⟨v, rfl, r1⟩ := repLB_one r
    have r1 := r1.tup
    simp only [Rep] at r1
    obtain ⟨a, us, rfl, q, rl⟩ := r1
    exact .inl (.inl ⟨a, us, rfl, .inr (sG.sqT q), k _ G H (Grow.refl sG) (by simp [Rep, rl.length])⟩)
  · split at e
    · rename_i hl
      cases e
      obtain ⟨v, rfl, r1⟩ := repLB_one r
      have r1 := r1.flat rfl
      simp only [Rep] at r1
      subst r1
      exact .inl (.inr ⟨_, rfl, hl, k _ G H (Grow.refl sG) (by simp [Rep])⟩)
    · cases e
  · cases e
    obtain ⟨v, rfl, r1⟩ := repLB_one r
    obtain ⟨a, us, rfl, q, hl, nd, rl⟩ := r1.dic sG
    refine .inr ⟨a, _, rfl, q, k _ G H (Grow.refl sG) ?_⟩
    have e2 : us.length = _ := rl.length.symm
    simp only [Rep, List.length_zip]
    congr 1
    omega
  · cases e
def CallN (X : Cx) (f : Value) (c : List D → Option Mo) : Prop := ∃ r, CallR X f r ∧ ∀ (G H : Hp) (ds : List D) (vs : List V) (m : Mo) (Q : VK), Same G H → RepLB X.K G H ds vs → c ds = some m →
  (∀ p us, H p = none → m.ok → RepL X.K G m.vals us → Q (.ref p) (upd H p (m.ho us))) → r vs H Q
@[simp] def fCallN (c : List D → Option Mo) (g : En → Option (List D)) : FR := fun δ => (g δ).bind fun ds => (c ds).map .fr
theorem pr_callTy {e : Expr} {es : List Expr} {p pos : Pos} {x : Str} {T : String} {cD : List D → Option Mo} {g : En → Option (List D)} (hc : CallN X (.type T) cD) (hm : X.mg x = none) (hv : bootBuiltins x = some (.type T)) (ha : PAB X (e :: es) g) (hg : Gl X x := by rfl)
    (hn : x ≠ "__name__" := by decide) (hdb : (x == ("__debug__" : Str)) = false := by decide)
    (he : starEach (e :: es) X.env = (false, eval e X.env) :: starEach es X.env := by rfl) (hpl : (backTo pos (starEach es X.env)).any (·.1) = false := by rfl) : PR X (.Call (.Name x p) (e :: es) [] pos) (fCallN cD g) := by
  obtain ⟨r, hc, kc⟩ := hc
  obtain ⟨ta, pa, ka⟩ := ha
  refine ⟨_, pe_callTy hc hg hm hv pa hn hdb he hpl, fun B G H δ σ d Q sG rs ef k => ?_⟩
  unfold fCallN at ef
  obtain ⟨ds, e1, ef⟩ := Option.bind_eq_some_iff.mp ef
  obtain ⟨m, e2, rfl⟩ := Option.map_eq_some_iff.mp ef
  exact ka B G H δ σ ds _ sG rs e1 fun vs G1 H1 g1 r1 => kc G1 H1 ds vs m Q g1.s r1 e2 fun p us hp ok rl => k p us G1 H1 g1 hp ok rl
def dicN : List D → Option Mo
  | [.dic ks ds] => some (.dic ks ds)
  | _ => none
theorem call_dictC : CallR X (.type "dict") (fun xs H Q => ∃ a kvs, xs = [V.ref a] ∧ Rd H a (.dK kvs) ∧ ∀ p, H p = none → Q (.ref p) (upd H p (.dK kvs))) := by
  intro pins s σ H xs us Q I r h
  obtain ⟨a, kvs, rfl, ha, q⟩ := h
  obtain ⟨u, rfl, ru⟩ := vals1 r
  cases ru
  exact d_copyOf I ha fun p s' hp I' => ⟨.ref p, _, I', rfl, q p hp⟩
theorem cn_dict : CallN X (.type "dict") dicN := by
  refine ⟨_, call_dictC, fun G H ds vs m Q sG r e k => ?_⟩
  unfold dicN at e
  split at e
  · cases e
    obtain ⟨v, rfl, r1⟩ := repLB_one r
    obtain ⟨a, us, rfl, q, hl, nd, rl⟩ := r1.dic sG
    exact ⟨a, _, rfl, q, fun p hp => k p us hp ⟨hl, nd⟩ rl⟩
  · cases e
end
inductive Out where
  | nx (δ : En) | rt (r : Rs) (δ : En) | bk (δ : En) | ct (δ : En) | ex (c : Ex) (δ : En)
abbrev FS := En → Option Out
structure Stp (B G G' H' : Hp) : Prop where
  g : Same G G'
  s : Same G' H'
  b : Same B H'
  n : ∀ a o, B a = some o → G a = none → G' a = none
theorem Stp.refl {B G H : Hp} (s : Same G H) (b : Same B H) : Stp B G G H := ⟨Same.refl _, s, b, fun _ _ _ n => n⟩
theorem Stp.trans {B G G1 H1 G2 H2 : Hp} (a : Stp B G G1 H1) (c : Stp B G1 G2 H2) : Stp B G G2 H2 := ⟨a.g.trans c.g, c.s, c.b, fun x o e n => c.n x o e (a.n x o e n)⟩
theorem Grow.stp {B G H G' H' : Hp} (g : Grow G H G' H') (b : Same B H) : Stp B G G' H' := ⟨g.g, g.s, b.trans g.h, fun a o e n => g.n a o (b a o e) n⟩
def Want (X : Cx) (B G : Hp) (D : Ends) : Out → Prop
  | .nx δ' => ∀ σ' G' H', Stp B G G' H' → RepS X.K B G' H' δ' σ' → D.nx σ' H'
  | .bk δ' => ∀ σ' G' H', Stp B G G' H' → RepS X.K B G' H' δ' σ' → D.bk σ' H'
  | .ct δ' => ∀ σ' G' H', Stp B G G' H' → RepS X.K B G' H' δ' σ' → D.ct σ' H'
  | .ex c δ' => ∀ pins σ' G' H' s' e C od, Inv X pins σ' H' s' → Stp B G G' H' → RepS X.K B G' H' δ' σ' → PySem.W.nsIn X.K mainGlobals c.n = some (some (.ref C)) → Pay X.K G' c od → Fly X H' s'.heap e C od → X.xe (.ref e) s'
  | .rt (.sh d) δ' => ∀ v σ' G' H', Stp B G G' H' → RepS X.K B G' H' δ' σ' → Rep X.K G' d v → D.rt v H'
  | .rt (.fr m) δ' => ∀ p vs σ' G' H', Stp B G G' H' → RepS X.K B G' H' δ' σ' → H' p = none → m.ok → RepL X.K G' m.vals vs → D.rt (.ref p) (upd H' p (m.ho vs))
def GivesS (X : Cx) (t : TS) (F : FS) : Prop := ∀ (B G H : Hp) (δ : En) (σ : St) (o : Out) (D : Ends), Same G H → Same B H → RepS X.K B G H δ σ → F δ = some o → Want X B G D o → t D σ H
def PSD (X : Cx) (st : Stmt) (F : FS) : Prop := ∃ t, PS X st t ∧ GivesS X t F
def PSsD (X : Cx) (sts : List Stmt) (F : FS) : Prop := ∃ t, PSs X sts t ∧ GivesS X t F
theorem Want.mono {X : Cx} {B G G1 H1 : Hp} {D : Ends} {o : Out} (w : Want X B G D o) (g : Stp B G G1 H1) : Want X B G1 D o := by
  cases o with
  | nx δ => exact fun σ' G' H' a => w σ' G' H' (g.trans a)
  | bk δ => exact fun σ' G' H' a => w σ' G' H' (g.trans a)
  | ct δ => exact fun σ' G' H' a => w σ' G' H' (g.trans a)
  | ex c δ => exact fun pins σ' G' H' s' e C od I a => w pins σ' G' H' s' e C od I (g.trans a)
  | rt r δ =>
    cases r with
    | sh d => exact fun v σ' G' H' a => w v σ' G' H' (g.trans a)
    | fr m => exact fun p vs σ' G' H' a => w p vs σ' G' H' (g.trans a)
section
variable {X : Cx} {st : Stmt} {rest sts : List Stmt} {F F' : FS} {pos : Pos} {f : FE} {e : Expr}
@[simp] def sNil : FS := fun δ => some (.nx δ)
@[simp] def sSeq (F F' : FS) : FS := fun δ => match F δ with | some (.nx δ') => F' δ' | o => o
theorem psd_nil : PSsD X [] sNil := ⟨_, pss_nil, fun B G H δ σ o D sG sB rs e w => by cases e; exact w σ G H (Stp.refl sG sB) rs⟩
theorem psd_cons (h1 : PSD X st F) (h2 : PSsD X rest F') : PSsD X (st :: rest) (sSeq F F') := by
  obtain ⟨t, p1, k1⟩ := h1
  obtain ⟨u, p2, k2⟩ := h2
  refine ⟨_, pss_cons p1 p2, fun B G H δ σ o D sG sB rs e w => ?_⟩
  unfold sSeq at e
  show t { D with nx := u D } σ H
  cases e1 : F δ with
  | none => rw [e1] at e; cases e
  | some o1 =>
    rw [e1] at e
    cases o1 with
    | nx δ' => exact k1 B G H δ σ (.nx δ') _ sG sB rs e1 fun σ' G' H' a r => k2 B G' H' δ' σ' o D a.s a.b r e (w.mono a)
    | rt d δ' =>
      cases e
      cases d with
      | sh d => exact k1 B G H δ σ (.rt (.sh d) δ') _ sG sB rs e1 w
      | fr m => exact k1 B G H δ σ (.rt (.fr m) δ') _ sG sB rs e1 w
    | bk δ' => cases e; exact k1 B G H δ σ (.bk δ') _ sG sB rs e1 w
    | ct δ' => cases e; exact k1 B G H δ σ (.ct δ') _ sG sB rs e1 w
    | ex c δ' => cases e; exact k1 B G H δ σ (.ex c δ') _ sG sB rs e1 w
@[simp] def sSet (i : Nat) (f : FE) : FS := fun δ => (f δ).map fun d => .nx (δ.set i (some (.sh d)))
theorem psd_set (i : Nat) {x : Str} {pos' : Pos} (hN : X.N.Nodup) (he : PD X e f) (hi : X.N[i]? = some x := by rfl) (hx : Loc X.env.scope x := by first | exact Or.inl rfl | exact Or.inr rfl)
    (hs : swapsWith e (some (.Name x pos')) pos.line X.env = pure false := by rfl) (hf : X.fn x = true ∨ X.env.scope.names.lookup x = some .local := by first | exact .inl rfl | exact .inr rfl) : PSD X (.Assign [.Name x pos'] e pos) (sSet i f) := by
  obtain ⟨t, pt, k⟩ := he
  refine ⟨_, ps_set hN hi hx pt hs hf, fun B G H δ σ o D sG sB rs e w => ?_⟩
  unfold sSet at e
  obtain ⟨d, e1, rfl⟩ := Option.map_eq_some_iff.mp e
  exact k B G H δ σ d _ sG rs e1 fun v G' H' g r => w _ G' H' (g.stp sB) ((rs.grow g).set i r)
@[simp] def sRet (f : FR) : FS := fun δ => (f δ).map fun r => .rt r δ
theorem psd_ret {f : FR} (he : PR X e f) : PSD X (.Return (some e) pos) (sRet f) := by
  obtain ⟨t, pt, k⟩ := he
  refine ⟨_, ps_ret pt, fun B G H δ σ o D sG sB rs e w => ?_⟩
  unfold sRet at e
  obtain ⟨d, e1, rfl⟩ := Option.map_eq_some_iff.mp e
  refine k B G H δ σ d _ sG rs e1 ?_
  cases d with
  | sh d => exact fun v G' H' g r => w v σ G' H' (g.stp sB) (rs.grow g) r
  | fr m => exact fun p vs G' H' g => w p vs σ G' H' (g.stp sB) (rs.grow g)
theorem erase_upd {H : Hp} {a : Addr} {o : HO} (h : H a = some o) : upd (fun b => if b = a then none else H b) a o = H := by
  funext b
  by_cases hb : b = a
  · subst hb; rw [upd_same, h]
  · rw [upd_ne hb, if_neg hb]
theorem same_erase {G H : Hp} {a : Addr} (s : Same G H) (n : G a = none) : Same G (fun b => if b = a then none else H b) := fun b o e => by
  have hb : b ≠ a := fun z => by rw [z, n] at e; cases e
  show (if b = a then none else H b) = some o
  rw [if_neg hb]
  exact s b o e
@[simp] def sRetV (i : Nat) : FS := fun δ => match δ[i]? with | some (some (.pv m _)) => some (.rt (.fr m) (δ.set i none)) | some (some (.sh d)) => some (.rt (.sh d) δ) | _ => none
theorem RepS.erase {K : PySem.W.Frag} {B G H : Hp} {δ : En} {σ : St} (r : RepS K B G H δ σ) {i : Nat} {m : Mo} {o : Option Addr} {a : Addr} (em : δ[i]? = some (some (.pv m o))) (ea : σ[i]? = some (some (.ref a))) :
    RepS K B G (fun b => if b = a then none else H b) (δ.set i none) σ := by
  refine ⟨by simp [r.len], fun j x e => ?_, fun j l x y o o' hjl e1 e2 => ?_⟩
  · rcases get_set e with ⟨rfl, e'⟩ | ⟨hj, e'⟩
    · cases e'
    · obtain ⟨v, h1, h2⟩ := r.at_ j x e'
      refine ⟨v, h1, ?_⟩
      cases x with
      | sh d => exact h2
      | ob c => exact h2
      | tk P w ts =>
        obtain ⟨_, z1, a1, us1, rfl, _, _, z3, _⟩ := r.at_ i _ em
        rw [ea] at z1
        cases z1
        refine IsTk.mono h2 (Same.refl _) fun b φ _ e _ n => ⟨?_, n⟩
        have hne : b ≠ a := fun z => by subst z; rw [z3] at e; cases m <;> cases e
        show (if b = a then none else H b) = _
        rw [if_neg hne]; exact e
      | pv m2 o2 =>
        obtain ⟨a2, us2, rfl, q1, q2, q3, q4, q5⟩ := h2
        have hne : a2 ≠ a := fun z => by
          subst z
          exact r.ap i j m m2 _ _ hj em e' (ea.trans h1.symm)
        exact ⟨a2, us2, rfl, q1, q2, by show (if a2 = a then none else H a2) = _; rw [if_neg hne]; exact q3, q4, q5⟩
  · rcases get_set e1 with ⟨rfl, e'⟩ | ⟨_, f1⟩
    · cases e'
    · rcases get_set e2 with ⟨rfl, e'⟩ | ⟨_, f2⟩
      · cases e'
      · exact r.ap j l x y o o' hjl f1 f2
theorem psd_retV (i : Nat) {x : Str} {p : Pos} (hN : X.N[i]? = some x := by rfl) (hv : Vis X.env.scope x := by first | exact Or.inl rfl | exact Or.inr (Or.inl rfl) | exact Or.inr (Or.inr rfl)) (hd : (x == ("__debug__" : Str)) = false := by decide)
    (hcd : (x == ("__classdict__" : Str)) = false := by decide) : PSD X (.Return (some (.Name x p)) pos) (sRetV i) := by
  refine ⟨_, ps_ret (pe_var hN hv hd hcd), fun B G H δ σ o D sG sB rs e w => ?_⟩
  unfold sRetV at e
  split at e
  · rename_i m _ em
    cases e
    obtain ⟨v, h1, a, vs, rfl, h2, h3, h4, h5, h6, _⟩ := rs.at_ i _ em
    refine ⟨_, h1, ?_⟩
    have q := w a vs σ G (fun b => if b = a then none else H b) ⟨Same.refl _, same_erase sG h3, same_erase sB h2, fun _ _ _ n => n⟩ (rs.erase em h1) (by simp) h5 h6
    rw [erase_upd h4] at q
    exact q
  · rename_i d ed
    cases e
    obtain ⟨v, h1, h2⟩ := rs.at_ i _ ed
    exact ⟨v, h1, w v σ G H (Stp.refl sG sB) rs h2⟩
  · cases e
@[simp] def sSetR (i : Nat) (f : FR) : FS := fun δ => (f δ).map fun r => .nx (δ.set i (some r.sl))
theorem psd_setR (i : Nat) {x : Str} {pos' : Pos} {f : FR} (hN : X.N.Nodup) (he : PR X e f) (hi : X.N[i]? = some x := by rfl) (hx : Loc X.env.scope x := by first | exact Or.inl rfl | exact Or.inr rfl)
    (hs : swapsWith e (some (.Name x pos')) pos.line X.env = pure false := by rfl) (hf : X.fn x = true ∨ X.env.scope.names.lookup x = some .local := by first | exact .inl rfl | exact .inr rfl) : PSD X (.Assign [.Name x pos'] e pos) (sSetR i f) := by
  obtain ⟨t, pt, k⟩ := he
  refine ⟨_, ps_set hN hi hx pt hs hf, fun B G H δ σ o D sG sB rs e w => ?_⟩
  unfold sSetR at e
  obtain ⟨d, e1, rfl⟩ := Option.map_eq_some_iff.mp e
  refine k B G H δ σ d _ sG rs e1 ?_
  cases d with
  | sh d => exact fun v G' H' g r => w _ G' H' (g.stp sB) ((rs.grow g).set i r)
  | fr m =>
    intro p vs G' H' g hp ok rl
    have g2 : Grow G' H' G' (upd H' p (m.ho vs)) := ⟨Same.refl _, same_new _ hp, g.s.trans (same_new _ hp), fun _ _ _ n => n⟩
    have g3 := g.trans g2
    refine w _ G' _ (g3.stp sB) ((rs.grow g3).put i (x := .pv m none) ⟨p, vs, rfl, (sB.trans g.h).free hp, g.s.free hp, upd_same, ok, rl, fun _ z => nomatch z⟩ fun m' _ _ j y _ hj ej q => ?_)
    obtain ⟨v, h1, a, us, rfl, _, _, h4, _, _, _⟩ := (rs.grow g).at_ j _ ej
    rw [h1] at q
    cases q
    rw [hp] at h4
    cases h4
theorem RepS.upd {K : PySem.W.Frag} {B G H : Hp} {δ : En} {σ : St} (r : RepS K B G H δ σ) {i : Nat} {m m' : Mo} {o : Option Addr} {a : Addr} {us : List V} (em : δ[i]? = some (some (.pv m o))) (ea : σ[i]? = some (some (.ref a))) (hB : B a = none) (hG : G a = none) (ok : m'.ok) (rl : RepL K G m'.vals us) :
    RepS K B G (L2.upd H a (m'.ho us)) (δ.set i (some (.pv m' o))) σ := by
  refine ⟨by simp [r.len], fun j x e => ?_, fun j l x y o1 o2 hjl e1 e2 => ?_⟩
  · rcases get_set e with ⟨rfl, e'⟩ | ⟨hj, e'⟩
    · cases e'
      obtain ⟨v, w1, b, _, rfl, _, _, _, _, _, tg⟩ := r.at_ _ _ em
      rw [ea] at w1
      cases w1
      exact ⟨_, ea, a, us, rfl, hB, hG, upd_same, ok, rl, tg⟩
    · obtain ⟨v, h1, h2⟩ := r.at_ j x e'
      refine ⟨v, h1, ?_⟩
      cases x with
      | sh d => exact h2
      | ob c => exact h2
      | tk P w ts =>
        obtain ⟨_, z1, a1, us1, rfl, _, _, z3, _⟩ := r.at_ i _ em
        rw [ea] at z1
        cases z1
        refine IsTk.mono h2 (Same.refl _) fun b φ _ e _ n => ⟨?_, n⟩
        have hne : b ≠ a := fun z => by subst z; rw [z3] at e; cases m <;> cases e
        rw [upd_ne hne]; exact e
      | pv m2 o2 =>
        obtain ⟨a2, us2, rfl, q1, q2, q3, q4, q5⟩ := h2
        have hne : a2 ≠ a := fun z => by
          subst z
          exact r.ap i j m m2 _ _ hj em e' (ea.trans h1.symm)
        exact ⟨a2, us2, rfl, q1, q2, by rw [upd_ne hne]; exact q3, q4, q5⟩
  · have old : ∀ (k : Nat) (z : Mo) (u : Option Addr), (δ.set i (some (.pv m' o)))[k]? = some (some (.pv z u)) → ∃ z' u', δ[k]? = some (some (.pv z' u')) := fun k z u e => by
      rcases get_set e with ⟨rfl, e'⟩ | ⟨_, e'⟩
      · exact ⟨m, o, em⟩
      · exact ⟨z, u, e'⟩
    obtain ⟨x', u1, f1⟩ := old j x _ e1
    obtain ⟨y', u2, f2⟩ := old l y _ e2
    exact r.ap j l x' y' _ _ hjl f1 f2
theorem stp_own {B G H : Hp} {a : Addr} {o : HO} (sG : Same G H) (sB : Same B H) (hB : B a = none) (hG : G a = none) : Stp B G G (L2.upd H a o) :=
  ⟨Same.refl _, fun b u e => by rw [upd_ne (ne_of_none e hG)]; exact sG b u e, fun b u e => by rw [upd_ne (ne_of_none e hB)]; exact sB b u e, fun _ _ _ n => n⟩
@[simp] def sApp (i : Nat) (f : FE) : FS := fun δ => match δ[i]? with
  | some (some (.pv (.lst ds) o)) => (f δ).bind fun d => if ds.length < sizeLine then some (.nx (δ.set i (some (.pv (.lst (ds ++ [d])) o)))) else none
  | _ => none
theorem psd_app (i : Nat) {x : Str} {p p1 p2 : Pos} (he : PD X e f) (hN : X.N[i]? = some x := by rfl) (hv : Vis X.env.scope x := by first | exact Or.inl rfl | exact Or.inr (Or.inl rfl) | exact Or.inr (Or.inr rfl))
    (hb : ∀ {t : TE} {tx : TE}, PE X (.Name x p) tx → PE X e t → PE X (.Call (.Attribute (.Name x p) "append" p1) [e] [] p2) (tBM X.K "list" rAppend tx (tCons t tNil)) := by
      intro t tx hx ht; exact pe_bm PySem.F.plainAttrs_list PySem.F.slot_list_append PySem.F.type_list_append mt_append hx (pa_cons ht pa_nil))
    (hd : (x == ("__debug__" : Str)) = false := by decide) (hcd : (x == ("__classdict__" : Str)) = false := by decide) (hs : swapsWith (.Call (.Attribute (.Name x p) "append" p1) [e] [] p2) none pos.line X.env = pure false := by rfl) :
    PSD X (.Expr (.Call (.Attribute (.Name x p) "append" p1) [e] [] p2) pos) (sApp i f) := by
  obtain ⟨t, pt, k⟩ := he
  refine ⟨_, ps_expr (hb (pe_var hN hv hd hcd) pt) hs, fun B G H δ σ o D sG sB rs e w => ?_⟩
  unfold sApp at e
  split at e
  · rename_i ds o em
    obtain ⟨d, e1, e⟩ := Option.bind_eq_some_iff.mp e
    split at e
    · rename_i hl
      cases e
      obtain ⟨v, h1, a, vs, rfl, h2, h3, h4, h5, h6, _⟩ := rs.at_ i _ em
      refine ⟨_, h1, .inl ⟨rfl, _, SqL.of h4⟩, k B G H δ σ d _ sG rs e1 fun u G1 H1 g1 r1 => ?_⟩
      have hH : H1 a = some (.lst vs) := g1.h _ _ h4
      have hG1 : G1 a = none := g1.n a _ h4 h3
      have rl : RepL X.K G1 (ds ++ [d]) (vs ++ [u]) := (h6.mono g1.g).snoc r1
      refine ⟨a, vs, u, rfl, rfl, hH, by rw [← RepL.length h6]; exact hl, ?_⟩
      exact w σ G1 _ ((g1.stp sB).trans (stp_own g1.s (sB.trans g1.h) h2 hG1)) ((rs.grow g1).upd (m' := .lst (ds ++ [d])) (us := vs ++ [u]) em h1 h2 hG1 True.intro rl)
    · cases e
  · cases e
@[simp] def pubS (i : Nat) (δ : En) : En := match δ[i]? with | some (some (.pv m _)) => δ.set i (some (.sh m.d)) | _ => δ
theorem RepS.pub {K : PySem.W.Frag} {B G H : Hp} {δ : En} {σ : St} (r : RepS K B G H δ σ) (sG : Same G H) (sB : Same B H) (i : Nat) : ∃ G', Stp B G G' H ∧ RepS K B G' H (pubS i δ) σ := by
  unfold pubS
  split
  · rename_i m _ em
    obtain ⟨v, h1, a, vs, rfl, h2, h3, h4, h5, h6, _⟩ := r.at_ i _ em
    have st : Stp B G (L2.upd G a (m.ho vs)) H := by
      refine ⟨same_new _ h3, fun b u e => ?_, sB, fun b o e n => ?_⟩
      · by_cases hb : b = a
        · subst hb; rw [upd_same] at e; cases e; exact h4
        · rw [upd_ne hb] at e; exact sG b u e
      · rw [upd_ne (ne_of_none e h2)]; exact n
    refine ⟨_, st, by simp [r.len], fun j x e => ?_, fun j l x y o1 o2 hjl e1 e2 => ?_⟩
    · rcases get_set e with ⟨rfl, e'⟩ | ⟨hj, e'⟩
      · cases e'
        exact ⟨_, h1, rep_pub h3 h5 h6⟩
      · obtain ⟨v, q1, q2⟩ := r.at_ j x e'
        refine ⟨v, q1, ?_⟩
        cases x with
        | sh d => exact Rep.mono st.g q2
        | ob c => exact IsEx.mono st.g q2
        | tk P w ts =>
          refine IsTk.mono q2 st.g fun b φ _ e _ n => ⟨e, ?_⟩
          have hne : b ≠ a := fun z => by subst z; rw [h4] at e; cases m <;> cases e
          rw [upd_ne hne]; exact n
        | pv m2 o2 =>
          obtain ⟨a2, us2, rfl, p1, p2, p3, p4, p5, p6⟩ := q2
          have hne : a2 ≠ a := fun z => by
            subst z
            exact r.ap i j m m2 _ _ hj em e' (h1.trans q1.symm)
          exact ⟨a2, us2, rfl, p1, by rw [upd_ne hne]; exact p2, p3, p4, p5.mono st.g, p6⟩
    · have old : ∀ (k : Nat) (z : Mo) (u : Option Addr), (δ.set i (some (.sh m.d)))[k]? = some (some (.pv z u)) → δ[k]? = some (some (.pv z u)) := fun k z u e => by
        rcases get_set e with ⟨rfl, e'⟩ | ⟨_, e'⟩
        · cases e'
        · exact e'
      exact r.ap j l x y _ _ hjl (old j x _ e1) (old l y _ e2)
  · exact ⟨G, Stp.refl sG sB, r⟩
theorem psd_pub (i : Nat) (h : PSD X st F) : PSD X st (fun δ => F (pubS i δ)) := by
  obtain ⟨t, pt, k⟩ := h
  refine ⟨t, pt, fun B G H δ σ o D sG sB rs e w => ?_⟩
  obtain ⟨G', s1, r1⟩ := rs.pub sG sB i
  exact k B G' H _ σ o D s1.s sB r1 e (w.mono s1)
@[simp] def sIf (c : En → Option Bool) (F F' : FS) : FS := fun δ => (c δ).bind fun b => if b = true then F δ else F' δ
theorem psd_if {c : Expr} {a b : List Stmt} {fb : En → Option Bool} (hc : PDT X c fb) (ha : PSsD X a F) (hb : PSsD X b F') : PSD X (.If c a b pos) (sIf fb F F') := by
  obtain ⟨tc, pc, kc⟩ := hc
  obtain ⟨ta, pa, ka⟩ := ha
  obtain ⟨tb, pb, kb⟩ := hb
  refine ⟨_, ps_if pc pa pb, fun B G H δ σ o D sG sB rs e w => ?_⟩
  unfold sIf at e
  obtain ⟨x, e1, e⟩ := Option.bind_eq_some_iff.mp e
  refine kc B G H δ σ x _ sG rs e1 fun G1 H1 g1 => ?_
  cases x with
  | true => rw [if_pos rfl] at e ⊢; exact ka B G1 H1 δ σ o D g1.s (sB.trans g1.h) (rs.grow g1) e (w.mono (g1.stp sB))
  | false => rw [if_neg Bool.false_ne_true] at e ⊢; exact kb B G1 H1 δ σ o D g1.s (sB.trans g1.h) (rs.grow g1) e (w.mono (g1.stp sB))
structure Wk (K : PySem.W.Frag) (J : It) (G : Hp) (xs : List D) : Prop where
  go : ∀ i d G' H', xs[i]? = some d → Same G G' → Same G' H' → J.go i H' ∧ ∀ x H2, J.yld i H' x H2 → H2 = H' ∧ Rep K G' d x
  stop : ∀ G' H', Same G G' → Same G' H' → J.stop xs.length H'
def PID (X : Cx) (tg iter : Expr) (f : En → Option (List D)) : Prop := ∃ wi, PI X tg iter wi ∧ ∀ (B G H : Hp) (δ : En) (σ : St) (xs : List D) (R : It → Hp → Prop), Same G H → RepS X.K B G H δ σ → f δ = some xs →
  (∀ J G' H', Grow G H G' H' → Wk X.K J G' xs → R J H') → wi σ H R
def signs (z : Str) : List D := z.cps.toList.map fun c => .str ⟨#[c]⟩
def rngD (lo : Int) (n : Nat) : List D := (List.range n).map fun (k : Nat) => .int (lo + (k : Int))
@[simp] def oRng (f : FE) : En → Option (List D) := fun δ => match f δ with | some (.int j) => if -(2 ^ 62) ≤ j ∧ j < 2 ^ 62 then some (rngD 0 j.toNat) else none | _ => none
variable {tg : Expr}
theorem pid_range {p : Pos} (hm : X.mg "range" = none) (he : PD X e f) (hg : Gl X "range" := by rfl) (hs : starEach [e] X.env = [(false, eval e X.env)] := by rfl) : PID X tg (.Call (.Name "range" p) [e] [] pos) (oRng f) := by
  obtain ⟨t, pt, k⟩ := he
  refine ⟨_, pi_range1 hg hm (pa_cons pt pa_nil hs) hs, fun B G H δ σ xs R sG rs e q => ?_⟩
  unfold oRng at e
  split at e
  · rename_i j e1
    split at e
    · rename_i hj
      cases e
      refine k B G H δ σ _ _ sG rs e1 fun v G1 H1 g1 r1 => ?_
      simp only [Rep] at r1
      subst r1
      refine ⟨j, rfl, hj.1, hj.2, q _ G1 H1 g1 ⟨fun i d G' H' ed a1 b1 => ?_, fun G' H' a1 b1 => ?_⟩⟩
      · unfold rngD at ed
        rw [List.getElem?_map] at ed
        obtain ⟨c, ec, rfl⟩ := Option.map_eq_some_iff.mp ed
        obtain ⟨hi, hc⟩ := List.getElem?_eq_some_iff.mp ec
        rw [List.length_range] at hi
        rw [List.getElem_range] at hc
        subst hc
        refine ⟨hi, fun x' H2 y => ⟨y.1, ?_⟩⟩
        rw [y.2]
        simp [Rep]
      · show j.toNat ≤ (rngD 0 j.toNat).length
        simp [rngD]
    · cases e
  · cases e
def forL (i : Nat) (F : FS) : List D → FS
  | [], δ => some (.nx δ)
  | x :: xs, δ => match F (δ.set i (some (.sh x))) with
    | some (.nx δ') => forL i F xs δ'
    | some (.ct δ') => forL i F xs δ'
    | some (.ex c δ') => some (.ex c δ')
    | some (.bk δ') => some (.nx δ')
    | some (.rt d δ') => some (.rt d δ')
    | none => none
@[simp] def sFor (i : Nat) (f : En → Option (List D)) (F : FS) : FS := fun δ => (f δ).bind fun xs => forL i F xs δ
theorem psd_for (i : Nat) {x : Str} {pos' : Pos} {iter : Expr} {body : List Stmt} {g : En → Option (List D)} (hN : X.N.Nodup) (hc : X.calm = true) (hp : PassesOwn (model X.prog X.w) X.A X.env X.xe) (hi : PID X (.Name x pos') iter g) (hb : PSsD X body F)
    (hix : X.N[i]? = some x := by rfl) (hx : Loc X.env.scope x := by first | exact Or.inl rfl | exact Or.inr rfl) (hf : X.fn x = true ∨ X.env.scope.names.lookup x = some .local := by first | exact .inl rfl | exact .inr rfl)
    (hs : ∀ x, foldedSetIterable iter X.env x = pure x := by intro _; rfl) : PSD X (.For (.Name x pos') iter body [] pos) (sFor i g F) := by
  obtain ⟨wi, pw, kw⟩ := hi
  obtain ⟨tb, pb, kb⟩ := hb
  refine ⟨_, ps_for hp hc pw (pg_name hN hix hx hf) pb hs, fun B G H δ σ o D sG sB rs e w => ?_⟩
  unfold sFor at e
  obtain ⟨xs, e1, e⟩ := Option.bind_eq_some_iff.mp e
  refine kw B G H δ σ xs _ sG rs e1 fun J G1 H1 g1 wk => ?_
  have st1 : Stp B G G1 H1 := g1.stp sB
  refine ⟨fun n m σ' H' => ∃ δ' G', m = xs.length - n ∧ n ≤ xs.length ∧ Stp B G1 G' H' ∧ RepS X.K B G' H' δ' σ' ∧ forL i F (xs.drop n) δ' = some o, ⟨_, δ, G1, rfl, Nat.zero_le _, Stp.refl st1.s st1.b, rs.grow g1, by simpa using e⟩, ?_⟩
  rintro n m σ' H' ⟨δ', G', rfl, hn, a1, rs', eo⟩
  by_cases hlt : n < xs.length
  · right
    obtain ⟨go, yl⟩ := wk.go n xs[n] G' H' (by simp [hlt]) a1.g a1.s
    rw [List.drop_eq_getElem_cons hlt] at eo
    unfold forL at eo
    refine ⟨go, fun σ2 H2 => ∃ m', m' < xs.length - n ∧ ∃ δ2 G2, m' = xs.length - (n + 1) ∧ n + 1 ≤ xs.length ∧ Stp B G1 G2 H2 ∧ RepS X.K B G2 H2 δ2 σ2 ∧ forL i F (xs.drop (n + 1)) δ2 = some o, fun σ2 H2 z => z, fun x H2 y => ?_⟩
    obtain ⟨rfl, rx⟩ := yl x H2 y
    show tb _ (σ'.set i (some x)) H2
    have again : ∀ {δ2 : En} {σ2 : St} {G2 H3 : Hp}, Stp B G' G2 H3 → RepS X.K B G2 H3 δ2 σ2 → forL i F (xs.drop (n + 1)) δ2 = some o →
        ∃ m', m' < xs.length - n ∧ ∃ δ2 G2, m' = xs.length - (n + 1) ∧ n + 1 ≤ xs.length ∧ Stp B G1 G2 H3 ∧ RepS X.K B G2 H3 δ2 σ2 ∧ forL i F (xs.drop (n + 1)) δ2 = some o :=
      fun {δ2 σ2 G2 H3} a r e => ⟨xs.length - (n + 1), by omega, δ2, G2, rfl, hlt, a1.trans a, r, e⟩
    cases eF : F (δ'.set i (some (.sh xs[n]))) with
    | none => rw [eF] at eo; cases eo
    | some o1 =>
      rw [eF] at eo
      refine kb B G' H2 _ _ o1 _ a1.s a1.b (rs'.set i rx) eF ?_
      cases o1 with
      | nx δ2 => exact fun σ2 G2 H3 a r => again a r eo
      | ct δ2 => exact fun σ2 G2 H3 a r => again a r eo
      | ex c δ2 =>
        cases eo
        exact fun pins σ2 G2 H3 s3 e C od I a => w pins σ2 G2 H3 s3 e C od I (st1.trans (a1.trans a))
      | bk δ2 =>
        cases eo
        exact fun σ2 G2 H3 a r => w σ2 G2 H3 (st1.trans (a1.trans a)) r
      | rt r δ2 =>
        cases eo
        cases r with
        | sh d => exact fun v σ2 G2 H3 a r => w v σ2 G2 H3 (st1.trans (a1.trans a)) r
        | fr m => exact fun p vs σ2 G2 H3 a => w p vs σ2 G2 H3 (st1.trans (a1.trans a))
  · left
    have hnn : n = xs.length := by omega
    subst hnn
    rw [List.drop_of_length_le (Nat.le_refl _)] at eo
    cases eo
    exact ⟨wk.stop G' H' a1.g a1.s, w σ' G' H' (st1.trans a1) rs'⟩
def compL (c : D → Option Bool) (g : D → Option D) : List D → Option (List D)
  | [] => some []
  | x :: xs => (c x).bind fun b => if b = true then (g x).bind fun y => (compL c g xs).bind fun ys => some (y :: ys) else compL c g xs
@[simp] def csD (nl : Nat) (js : List Nat) (δ : En) : En := List.replicate nl none ++ js.map fun j => (δ[j]?).join
@[simp] def fComp (nl : Nat) (js : List Nat) (i : Nat) (it : En → Option (List D)) (c : En → Option Bool) (g : FE) : FR := fun δ => (it δ).bind fun xs =>
  if xs.length ≤ sizeLine then (compL (fun x => c ((csD nl js δ).set i (some (.sh x)))) (fun x => g ((csD nl js δ).set i (some (.sh x)))) xs).map fun ys => .fr (.lst ys) else none
def PIfsD (X : Cx) (ifs : List Expr) (f : En → Option Bool) : Prop := ∃ t, PIfs X ifs t ∧ ∀ (B G H : Hp) (δ : En) (σ : St) (b : Bool) (Q : Bool → Hp → Prop), Same G H → RepS X.K B G H δ σ → f δ = some b →
  (∀ G' H', Grow G H G' H' → Q b H') → t σ H Q
theorem pifd_one {c : Expr} {fb : En → Option Bool} (h : PDT X c fb) : PIfsD X [c] fb := by
  obtain ⟨t, pt, k⟩ := h
  exact ⟨t, pifs_one pt, k⟩
theorem cs_at {nl : Nat} {js : List Nat} {α : Type} {l : List (Option α)} {i : Nat} {x : α} (e : (List.replicate nl none ++ js.map fun j => (l[j]?).join)[i]? = some (some x)) : ∃ j, nl ≤ i ∧ js[i - nl]? = some j ∧ l[j]? = some (some x) := by
  rcases Nat.lt_or_ge i nl with z | z
  · rw [List.getElem?_append_left (by simpa using z), List.getElem?_replicate, if_pos z] at e; cases e
  · rw [List.getElem?_append_right (by simpa using z), List.length_replicate, List.getElem?_map] at e
    obtain ⟨j, ej, e⟩ := Option.map_eq_some_iff.mp e
    refine ⟨j, z, ej, ?_⟩
    cases q : l[j]? with
    | none => rw [q] at e; cases e
    | some y => rw [q] at e; rw [show y = some x from e]
theorem cs_to {nl : Nat} {js : List Nat} {α : Type} {l : List (Option α)} {i j : Nat} {x : Option α} (z : nl ≤ i) (ej : js[i - nl]? = some j) (e : l[j]? = some x) : (List.replicate nl none ++ js.map fun j => (l[j]?).join)[i]? = some x := by
  rw [List.getElem?_append_right (by simpa using z), List.length_replicate, List.getElem?_map, ej, Option.map_some, e]
  rfl
theorem RepS.cs {K : PySem.W.Frag} {B G H : Hp} {δ : En} {σ : St} (r : RepS K B G H δ σ) (nl : Nat) (js : List Nat) (hj : js.Nodup) : RepS K B G H (csD nl js δ) (csOf nl js σ) := by
  refine ⟨by simp [csD, csOf], fun i x e => ?_, fun i j x y o1 o2 hij e1 e2 => ?_⟩
  · obtain ⟨j, z, ej, ed⟩ := cs_at e
    obtain ⟨v, h1, h2⟩ := r.at_ j _ ed
    exact ⟨v, cs_to z ej h1, h2⟩
  · obtain ⟨j1, z1, ej1, ed1⟩ := cs_at e1
    obtain ⟨j2, z2, ej2, ed2⟩ := cs_at e2
    have hne : j1 ≠ j2 := fun q => by
      subst q
      have h1 := (List.getElem?_eq_some_iff.mp ej1)
      have h2 := (List.getElem?_eq_some_iff.mp ej2)
      obtain ⟨l1, q1⟩ := h1
      obtain ⟨l2, q2⟩ := h2
      have := (List.getElem_inj hj).mp (q1.trans q2.symm)
      omega
    obtain ⟨v1, h1, _⟩ := r.at_ j1 _ ed1
    obtain ⟨v2, h2, _⟩ := r.at_ j2 _ ed2
    have := r.ap j1 j2 x y _ _ hne ed1 ed2
    rw [show (csOf nl js σ)[i]? = σ[j1]? from (cs_to z1 ej1 h1).trans h1.symm, show (csOf nl js σ)[j]? = σ[j2]? from (cs_to z2 ej2 h2).trans h2.symm]
    exact this
theorem compL_len {c : D → Option Bool} {g : D → Option D} : ∀ {xs ys : List D}, compL c g xs = some ys → ys.length ≤ xs.length
  | [], ys, e => by cases e; exact Nat.le_refl _
  | x :: xs, ys, e => by
    unfold compL at e
    obtain ⟨b, e1, e⟩ := Option.bind_eq_some_iff.mp e
    split at e
    · obtain ⟨y, e2, e⟩ := Option.bind_eq_some_iff.mp e
      obtain ⟨zs, e3, e⟩ := Option.bind_eq_some_iff.mp e
      cases e
      have := compL_len e3
      simp only [List.length_cons]; omega
    · have := compL_len e
      simp only [List.length_cons]; omega
theorem gives_comp {wi : TI} {ti : TT} {te : TE} {it : En → Option (List D)} {c : En → Option Bool} {g : FE} {nl i : Nat} {js : List Nat}
    (kw : ∀ (B G H : Hp) (δ : En) (σ : St) (xs : List D) (R : It → Hp → Prop), Same G H → RepS X.K B G H δ σ → it δ = some xs → (∀ J G' H', Grow G H G' H' → Wk X.K J G' xs → R J H') → wi σ H R)
    (kt : ∀ (B G H : Hp) (δ : En) (σ : St) (b : Bool) (Q : Bool → Hp → Prop), Same G H → RepS X.K B G H δ σ → c δ = some b → (∀ G' H', Grow G H G' H' → Q b H') → ti σ H Q) (ke : Gives X.K te g) (hjs : js.Nodup) :
    GivesR X.K (tComp wi (csOf nl js) (gName i) ti te) (fComp nl js i it c g) := fun B G H δ σ d Q sG rs e k => by
  unfold fComp at e
  obtain ⟨xs, e1, e⟩ := Option.bind_eq_some_iff.mp e
  split at e
  · rename_i hl
    obtain ⟨zs, e2, rfl⟩ := Option.map_eq_some_iff.mp e
    refine kw B G H δ σ xs _ sG rs e1 fun J G1 H1 g1 wk => ?_
    refine ⟨fun n m ys H' => ∃ G' ws us, m = xs.length - n ∧ n ≤ xs.length ∧ Grow G H G' H' ∧ Same G1 G' ∧ RepL X.K G' ws ys ∧ zs = ws ++ us ∧ compL (fun x => c ((csD nl js δ).set i (some (.sh x)))) (fun x => g ((csD nl js δ).set i (some (.sh x)))) (xs.drop n) = some us,
      ⟨_, G1, [], zs, rfl, Nat.zero_le _, g1, Same.refl _, by simp [RepL], rfl, by simpa using e2⟩, ?_⟩
    rintro n m ys H' ⟨G', ws, us, rfl, hn, gr, s1, rl, rfl, ec⟩
    have hwl : (ws ++ us).length ≤ xs.length := compL_len e2
    refine ⟨by rw [← rl.length]; rw [List.length_append] at hwl; omega, ?_⟩
    by_cases hlt : n < xs.length
    · right
      obtain ⟨go, yl⟩ := wk.go n xs[n] G' H' (by simp [hlt]) s1 gr.s
      rw [List.drop_eq_getElem_cons hlt] at ec
      unfold compL at ec
      obtain ⟨b, ec1, ec⟩ := Option.bind_eq_some_iff.mp ec
      refine ⟨go, fun x H2 y => ?_⟩
      obtain ⟨rfl, rx⟩ := yl x H2 y
      show ti ((csOf nl js σ).set i (some x)) H2 _
      have rs2 := ((rs.grow gr).cs nl js hjs).set i rx
      refine kt B G' H2 _ _ b _ gr.s rs2 ec1 fun G3 H3 g3 => ?_
      cases b with
      | true =>
        rw [if_pos rfl] at ec ⊢
        obtain ⟨y', ec2, ec⟩ := Option.bind_eq_some_iff.mp ec
        obtain ⟨us', ec3, ec⟩ := Option.bind_eq_some_iff.mp ec
        cases ec
        refine ke B G3 H3 _ _ y' _ g3.s (rs2.grow g3) ec2 fun v G4 H4 g4 r4 => ?_
        exact ⟨xs.length - (n + 1), by omega, G4, ws ++ [y'], us', rfl, hlt, (gr.trans g3).trans g4, s1.trans (g3.g.trans g4.g), (rl.mono (g3.g.trans g4.g)).snoc r4, by simp, ec3⟩
      | false =>
        rw [if_neg Bool.false_ne_true] at ec ⊢
        exact ⟨xs.length - (n + 1), by omega, G3, ws, us, rfl, hlt, gr.trans g3, s1.trans g3.g, rl.mono g3.g, rfl, ec⟩
    · left
      have hnn : n = xs.length := by omega
      subst hnn
      rw [List.drop_of_length_le (Nat.le_refl _)] at ec
      cases ec
      refine ⟨wk.stop G' H' s1 gr.s, fun p hp => ?_⟩
      rw [List.append_nil] at k
      exact k p ys G' H' gr hp True.intro rl
  · cases e
end
end L2
set_option Elab.async false
set_option linter.all false
set_option maxRecDepth 100000
set_option maxHeartbeats 4000000
namespace L2
open PySem PySem.Spec PyProof.Rows
section
variable {X : Cx}
theorem op_catL : OpR X (binaryOp .Add) (rCatL X.K) := by
  intro pins s σ H x y v u Q I rx ry h
  obtain ⟨l, b, xs, zs, rfl, rfl, hH, hB, hz, q⟩ := h
  cases rx
  cases ry
  obtain ⟨its, r, hl, hz1⟩ := I.list hH
  obtain ⟨its2, r2, hl2, hz2⟩ := I.list hB
  obtain ⟨⟨cls, dd, data, sl⟩, ho, hc, n, hd⟩ := hl.isList
  obtain ⟨⟨cls2, dd2, data2, sl2⟩, ho2, hc2, n2, hd2⟩ := hl2.isList
  simp only at hc hd hc2 hd2
  subst hc hd hc2 hd2
  have ea : its.toArray ++ its2.toArray = (its ++ its2).toArray := by simp
  have h1 := r.length
  have h2 := r2.length
  refine concat_meets ⟨_, ho, rfl⟩ ⟨_, ho2, rfl⟩ noFill_list_add seq_list_add PySem.F.slot_list_add PySem.F.entry_list_add (PySem.F.args_list_add_2 _ _) (list_addW l b its.toArray its2.toArray n n2 dd dd2 sl sl2 (by simp; omega)) ⟨ho, ho2, ?_⟩
  rw [ea]
  exact ⟨.ref _, _, I.lnew (t' := s.toks) (r.append r2) (by rw [List.length_append]; omega), rfl, q _ I.fresh⟩
def rCatT0 (K : PySem.W.Frag) : R2 := fun x y H Q => ∃ a b ys, x = .ref a ∧ y = .ref b ∧ SqT K H a [] ∧ SqT K H b ys ∧ Q (.ref b) H
theorem op_catT0 : OpR X (binaryOp .Add) (rCatT0 X.K) := by
  intro pins s σ H x y v u Q I rx ry h
  obtain ⟨a, b, ys, rfl, rfl, ha, hb, q⟩ := h
  cases rx
  cases ry
  obtain ⟨its, r1, p1, _⟩ := I.tuple ha
  obtain ⟨its2, r2, p2, _⟩ := I.tuple hb
  cases r1
  obtain ⟨⟨cls, dd, data, sl⟩, ho, hc, n, hd⟩ := id p1
  obtain ⟨⟨cls2, dd2, data2, sl2⟩, ho2, hc2, n2, hd2⟩ := id p2
  simp only at hc hd hc2 hd2
  subst hc hd hc2 hd2
  exact concat_meets ⟨_, ho, rfl⟩ ⟨_, ho2, rfl⟩ noFill_tuple_add seq_tuple_add PySem.F.slot_tuple_add PySem.F.entry_tuple_add (PySem.F.args_tuple_add_2 _ _)
      (tuple_addW0 a b #[] its2.toArray n n2 dd dd2 sl sl2 rfl) ⟨ho, ho2, ⟨.ref b, H, I, rfl, q⟩⟩
def tupAdd : D → D → Option D | .tup i, .tup j => if i.length + j.length ≤ sizeLine then some (.tup (i ++ j)) else none | _, _ => none
theorem od_tadd : OpD X (binaryOp .Add) tupAdd := by
  refine ⟨_, op_catT0.or op_catT, fun G H x y v u d Q sG rx ry e k => ?_⟩
  unfold tupAdd at e
  split at e
  · rename_i i j
    split at e
    · rename_i hc
      cases e
      have rx := rx.tup
      have ry := ry.tup
      have rx0 := rx
      have ry0 := ry
      simp only [Rep] at rx ry
      obtain ⟨p1, xs, rfl, q1, r1⟩ := rx
      obtain ⟨p2, ys, rfl, q2, r2⟩ := ry
      cases i with
      | nil =>
        have : xs = [] := by simpa only [RepL] using r1
        subst this
        exact .inl ⟨p1, p2, ys, rfl, rfl, sG.sqT q1, sG.sqT q2, k _ G H (Grow.refl sG) (by simpa using ry0)⟩
      | cons i0 is =>
        refine .inr ⟨p1, p2, xs, ys, rfl, rfl, sG.sqT q1, sG.sqT q2, ?_, by rw [← r1.length, ← r2.length]; exact hc, fun hy => ?_, fun hy p hp => k _ _ _ (Grow.laid sG _ hp) (rep_tup (sG.free hp) (r1.append r2))⟩
        · intro z
          have := r1.length
          rw [z] at this
          cases this
        · have : j = [] := by
            have := r2.length
            rw [hy] at this
            exact List.length_eq_zero_iff.mp this
          subst this
          exact k _ G H (Grow.refl sG) (by simpa using rx0)
    · cases e
  · cases e
def addD (x y : D) : Option D := (iAdd x y).or ((sAdd x y).or ((tupAdd x y).or (lAdd x y)))
theorem od_add : OpD X (binaryOp .Add) addD := od_iadd.or (od_sadd.or (od_tadd.or (od_ladd op_catL)))
theorem op_isB : OpR X (compareOp .Is) (fun x y H Q => ∃ i j, x = .bl i ∧ y = .bl j ∧ Q (.bl (i == j)) H) := by
  intro pins s σ H x y v u Q I rx ry h
  obtain ⟨i, j, rfl, rfl, q⟩ := h
  cases rx
  cases ry
  exact is_bool ⟨.bl _, H, I, rfl, q⟩
def isB : D → D → Option D | .bl i, .bl j => some (.bl (i == j)) | _, _ => none
theorem od_isB : OpD X (compareOp .Is) isB := by
  refine ⟨_, op_isB, fun G H x y v u d Q sG rx ry e k => ?_⟩
  unfold isB at e
  split at e
  · cases e
    have rx := rx.flat rfl
    have ry := ry.flat rfl
    simp only [Rep] at rx ry
    exact ⟨_, _, rx, ry, k _ G H (Grow.refl sG) (by simp [Rep])⟩
  · cases e
def bools : List D → Option (List Bool)
  | [] => some []
  | .bl b :: ds => (bools ds).map (b :: ·)
  | _ => none
def tyD : D → String | .non => "NoneType" | .bl _ => "bool" | .int _ => "int" | .str _ => "str" | .tup _ => "tuple" | .lst _ => "list" | .dic _ _ => "dict"
theorem isinst_D {pins : List (Addr × Obj)} {σ : St} {G H : Hp} {s : Shared} {A : Around} {E : Value → Shared → Prop} {Q : Value → Shared → Prop} {c : Value} {b : Bool} {d : D} {x : V} {u : Value} (I : Inv X pins σ H s) (sG : Same G H) (r : Rep X.K G d x) (rx : RelV x u)
    (e : PySem.W.kitOne X.K (.type (tyD d)) c = some b) (h : ∀ tk, Q (.bool b) { s with toks := tk }) : wpAny (model X.prog X.w) A (call (.builtin "isinstance") [u, c]) Q E s := by
  cases d with
  | non => simp only [Rep] at r; subst r; exact isinst_ok I rx .non e h
  | bl y => simp only [Rep] at r; subst r; exact isinst_ok I rx (.bl _) e h
  | int i => simp only [Rep] at r; subst r; exact isinst_ok I rx (.int _) e h
  | str y => simp only [Rep] at r; subst r; exact isinst_ok I rx (.str _) e h
  | tup ds =>
    simp only [Rep] at r
    obtain ⟨a, vs, rfl, q, rl⟩ := r
    cases (show u = Value.ref a from rx)
    obtain ⟨its, _, ⟨o, h1, h2, _⟩, _⟩ := I.tuple (sG.sqT q)
    exact PySem.W.kia_one PySem.W.kitx_tuple I.kIn ⟨o, h1, h2⟩ e (fun z => nomatch z) h
  | lst ds =>
    simp only [Rep] at r
    obtain ⟨a, vs, rfl, q, rl⟩ := r
    cases (show u = Value.ref a from rx)
    obtain ⟨its, _, p, _⟩ := I.list (sG.sqL q)
    obtain ⟨o, h1, h2, _⟩ := p.isList
    exact PySem.W.kia_one PySem.W.kitx_list I.kIn ⟨o, h1, h2⟩ e (fun z => nomatch z) h
  | dic ks ds =>
    simp only [Rep] at r
    obtain ⟨a, vs, rfl, q, hl, nd, rl⟩ := r
    cases (show u = Value.ref a from rx)
    obtain ⟨_, _, us, _, dd⟩ := dk_rd I.hok (sG.rd q)
    obtain ⟨o, _, _, h1, h2, _⟩ := dd
    exact PySem.W.kia_one PySem.W.kitx_dict I.kIn ⟨o, h1, h2.1⟩ e (fun z => nomatch z) h
def isTy (T : String) (d : D) : Bool := tyD d == T || (T == "int" && tyD d == "bool")
def IsTyOk (K : PySem.W.Frag) (T : String) : Prop := ∀ d : D, PySem.W.kitOne K (.type (tyD d)) (.type T) = some (isTy T d)
@[simp] def fIs (T : String) (f : FE) : FE := fun δ => (f δ).map fun d => .bl (isTy T d)
theorem pd_is {e : Expr} {f : FE} {T : Str} {p pT pos : Pos} (T' : String) (hT : IsTyOk X.K T') (hm : X.mg "isinstance" = none) (hmT : X.mg T = none) (hv : bootBuiltins T = some (.type T')) (he : PB X e f) (hg : Gl X "isinstance" := by rfl) (hgT : Gl X T := by rfl) (hn : T ≠ "__name__" := by decide) (hd : (T == ("__debug__" : Str)) = false := by decide)
    (hs : starEach [e, .Name T pT] X.env = (false, eval e X.env) :: starEach [.Name T pT] X.env := by rfl) (hs2 : starEach [.Name T pT] X.env = (false, eval (.Name T pT) X.env) :: starEach [] X.env := by rfl) (hpl : (backTo pos (starEach [.Name T pT] X.env)).any (·.1) = false := by rfl)
    (hb : bootBuiltins "isinstance" = some (.builtin "isinstance") := by decide +kernel) :
    PD X (.Call (.Name "isinstance" p) [e, .Name T pT] [] pos) (fIs T' f) := by
  obtain ⟨t, pt, k1⟩ := he
  have hc : CallR X (.builtin "isinstance") (fun xs H Q => ∃ G d v, Same G H ∧ Rep X.K G d v ∧ xs = [v, .ty T'] ∧ Q (.bl (isTy T' d)) H) := by
    intro pins s σ H xs us Q I r h
    obtain ⟨G, d, v, sG, rd, rfl, q⟩ := h
    obtain ⟨u, w', rfl, r1, r2⟩ := vals2 r
    cases (show w' = Value.type T' from r2)
    exact isinst_D I sG rd r1 (hT d) fun tk => ⟨.bl _, H, I.tok tk, rfl, q⟩
  refine ⟨_, pe_callB hc hg hm hb (pa_cons pt (pa_cons (pe_bltn (v := .ty T') hgT hmT hv rfl hn hd) pa_nil hs2) hs) (by decide) (by decide) hs hpl, fun B G H δ σ d Q sG rs ef k => ?_⟩
  unfold fIs at ef
  obtain ⟨x, e1, rfl⟩ := Option.map_eq_some_iff.mp ef
  exact k1 B G H δ σ x _ sG rs e1 fun v G1 H1 g1 r1 => ⟨H1, x, v, Same.refl _, r1.all g1.s, rfl, k _ G1 H1 g1 (by simp [Rep])⟩
def tOf (K : PySem.W.Frag) (f : FE) : TE := fun σ H Q => ∃ B G δ d, Same G H ∧ RepS K B G H δ σ ∧ f δ = some d ∧ ∀ v G' H', Grow G H G' H' → Rep K G' d v → Q v H'
theorem PD.canon {e : Expr} {f : FE} (h : PD X e f) : PE X e (tOf X.K f) := by
  obtain ⟨t, pt, k⟩ := h
  intro pins s σ H Q I ⟨B, G, δ, d, sG, rs, ef, q⟩
  exact pt pins s σ H Q I (k B G H δ σ d Q sG rs ef q)
theorem gives_tOf {K : PySem.W.Frag} {f : FE} : Gives K (tOf K f) f := fun B G H δ σ d Q sG rs e k => ⟨B, G, δ, d, sG, rs, e, k⟩
def ttOf (K : PySem.W.Frag) (f : En → Option Bool) : TT := fun σ H Q => ∃ B G δ b, Same G H ∧ RepS K B G H δ σ ∧ f δ = some b ∧ ∀ G' H', Grow G H G' H' → Q b H'
theorem PIfsD.canon {ifs : List Expr} {f : En → Option Bool} (h : PIfsD X ifs f) : PIfs X ifs (ttOf X.K f) := by
  obtain ⟨t, pt, k⟩ := h
  intro pins s σ H Q I ⟨B, G, δ, b, sG, rs, ef, q⟩
  exact pt pins s σ H Q I (k B G H δ σ b Q sG rs ef q)
end
section
variable {P : Program} {w : World} {K : PySem.W.Frag} {mg : Str → Option Value} {base : Heap}
def startD (N : List Str) (ds : List D) : En := ds.map (fun d => some (.sh d)) ++ List.replicate (N.length - ds.length) none
theorem repS_start {N : List Str} {G H : Hp} {ds : List D} {vs : List V} (r : RepL K G ds vs) : RepS K H G H (startD N ds) (start N vs) := by
  have hl := r.length
  refine ⟨by simp [startD, start, hl], fun i x e => ?_, fun i j x y _ _ _ e => ?_⟩
  · unfold startD at e
    unfold start
    by_cases hi : i < ds.length
    · rw [List.getElem?_append_left (by simpa using hi), List.getElem?_map] at e
      obtain ⟨d, e1, e2⟩ := Option.map_eq_some_iff.mp e
      cases e2
      obtain ⟨v, h1, h2⟩ := r.get e1
      exact ⟨v, by rw [List.getElem?_append_left (by simp; omega), List.getElem?_map, h1]; rfl, h2⟩
    · rw [List.getElem?_append_right (by simpa using hi), List.getElem?_replicate] at e
      split at e <;> cases e
  · exfalso
    unfold startD at e
    by_cases hi : i < ds.length
    · rw [List.getElem?_append_left (by simpa using hi), List.getElem?_map] at e
      obtain ⟨d, e1, e2⟩ := Option.map_eq_some_iff.mp e
      cases e2
    · rw [List.getElem?_append_right (by simpa using hi), List.getElem?_replicate] at e
      split at e <;> cases e
def runF (N : List Str) (n : Nat) (fb : FS) : List D → Option Rs := fun ds => if ds.length = n then (match fb (startD N ds) with | some (.rt d _) => some d | some (.nx _) => some (.sh .non) | _ => none) else none
def DefAt (K : PySem.W.Frag) (mg : Str → Option Value) (x : Str) (st : Stmt) : Prop := ∃ f fd, Fun K x x st f fd ∧ mg x = some (.ref f)
theorem defAt_mk {h : Heap} {x : Str} {st : Stmt} {f : Addr} {oc : Value} {od an : Option Addr} {osl : Array (Option Value)} {kV doc pm cdv ct : Value} (X : K.In h) (G : h.Ns mainGlobals mg) (a : PySem.W.nsIn K mainGlobals x = some (some (.ref f)))
    (l : K.lookup f = some ⟨oc, od, .func (PySem.W.fnOf x x (defArgs st) (defBody st) (defScope st) .none kV doc pm an cdv ct), osl⟩) (c : PySem.W.codeIn K cdv x = true) (k : PySem.W.keepIn K (.ref f) = true) : DefAt K mg x st :=
  ⟨f, _, fun_mk l c k, PySem.W.mg_of X G a⟩
abbrev cxD (P : Program) (w : World) (K : PySem.W.Frag) (mg : Str → Option Value) (base : Heap) (N : List Str) (x : Str) (scope : Scope) (f : Addr) (cdv : Value) (A : Around) (outer : List Env) (s : Shared) (H : Hp) (E : XK) : Cx :=
  (cxOf CX0 P w K mg base N x scope f cdv A outer s H E).nox
theorem def_runF {x : Str} {st : Stmt} {N ps : List Str} {k : Nat} {fb : FS} {f : Addr} {fd : FuncData} (F : Fun K x x st f fd) (S : FnScope N ps (defScope st))
    (hbody : ∀ (f : Addr) (cdv : Value) (A : Around) (outer : List Env) (s : Shared) (H : Hp) (E : XK), Room k (A.deeper (envOfC x (defScope st) s.heap.objs.size f cdv)) → PSsD (cxD P w K mg base N x (defScope st) f cdv A outer s H E) (defBody st) fb) :
    FnOk P w K mg base CX0 (k + 1) f fd ps (spD K (runF N ps.length fb)) := by
  refine F.ok S (fun vs H Q E h => ?_) (fun cdv A outer s H vs Q E hr h => ?_)
  · obtain ⟨G, ds, d, sG, r, e, _⟩ := h
    rw [← r.length]
    unfold runF at e
    split at e
    · rename_i hl; exact hl
    · cases e
  · obtain ⟨G, ds, d, sG, r, e, q⟩ := h
    obtain ⟨t, pt, kt⟩ := hbody f cdv A outer s H E hr
    refine ⟨t, pt, ?_⟩
    have gr : ∀ {G' H' : Hp}, Stp H G G' H' → Grow G H G' H' := fun a => ⟨a.g, a.b, a.s, a.n⟩
    unfold runF at e
    split at e
    · split at e
      · rename_i eb
        cases e
        refine kt H G H _ _ _ _ sG (Same.refl _) (repS_start r) eb ?_
        cases d with
        | sh d => exact fun v _ G' H' a _ rv => q v G' H' (gr a) rv
        | fr m => exact fun p vs _ G' H' a _ => q p vs G' H' (gr a)
      · rename_i eb
        cases e
        exact kt H G H _ _ _ _ sG (Same.refl _) (repS_start r) eb fun σ' G' H' a rv => q _ G' H' (gr a) (by simp [Rep])
      · cases e
    · cases e
theorem def_run {x : Str} {st : Stmt} {N ps : List Str} {k : Nat} {fb : FS} (F : DefAt K mg x st) (S : FnScope N ps (defScope st))
    (hb : ∀ (kV doc pm : Value) (an : Option Addr) (cdv ct : Value) (us : List Value), us.length = ps.length → bindArgs (PySem.W.fnOf x x (defArgs st) (defBody st) (defScope st) .none kV doc pm an cdv ct) ⟨us, []⟩ = pure (ps.zip us))
    (hbody : ∀ (f : Addr) (cdv : Value) (A : Around) (outer : List Env) (s : Shared) (H : Hp) (E : XK), Room k (A.deeper (envOfC x (defScope st) s.heap.objs.size f cdv)) → PSsD (cxD P w K mg base N x (defScope st) f cdv A outer s H E) (defBody st) fb) :
    DefOk P w K mg base (k + 1) x ps (runF N ps.length fb) := by
  obtain ⟨f, fd, F, hm⟩ := F
  exact ⟨f, fd, def_runF F S hbody, F.binds hb, F.kp, hm⟩
theorem law_at {l : PySem.W.OpenLaw} {w : World} {K : PySem.W.Frag} {mg : Str → Option Value} {fa : Addr} {st : Stmt} {k : Nat} {x : Str} {M : List D → Option Rs} (hfa : mg "law" = some (.ref fa)) (F : DefAt K mg "law" st)
    (hb : ∀ (kV doc pm : Value) (an : Option Addr) (cdv ct : Value) (u : Value), bindArgs (PySem.W.fnOf "law" "law" (defArgs st) (defBody st) (defScope st) .none kV doc pm an cdv ct) ⟨[u], []⟩ = pure [(x, u)])
    (ok : ∀ (f : Addr) (fd : FuncData) (base : Heap), Fun K "law" "law" st f fd → FnOk l.prog w K mg base CX0 k f fd [x] (spD K M)) :
    ∃ fd : FuncData, (∀ (s : Shared) (v : Value), BindsTo s fd ⟨[v], []⟩ [(x, v)]) ∧ ∀ base : Heap, K.In base → base.Ns mainGlobals mg → FnOk l.prog w K mg base CX0 k fa fd [x] (spD K M) := by
  obtain ⟨f, fd, F, hm⟩ := F
  rw [hfa] at hm
  cases hm
  refine ⟨fd, fun s v => ?_, fun base _ _ => ok _ _ base F⟩
  obtain ⟨oc, od, kV, doc, pm, an, cdv, ct, osl, rfl, lk, hcd⟩ := F.ex
  exact .of_eq (hb kV doc pm an cdv ct v)
theorem repL_ints {K : PySem.W.Frag} {H : Hp} : ∀ (ns : List Int), RepL K H (ns.map D.int) (ns.map V.int)
  | [] => by simp [RepL]
  | n :: ns => by
    simp only [List.map_cons, RepL]
    exact ⟨_, _, rfl, by simp [Rep], repL_ints ns⟩
theorem law_sp {K : PySem.W.Frag} {H : Hp} {a : Addr} {ns : List Int} {M : List D → Option Rs} (h : SqL K H a (ns.map V.int)) (e : M [.lst (ns.map D.int)] = some (.sh (.bl true))) : spD K M [.ref a] H (fun v _ => v = .bl true) fun _ _ _ => False := by
  refine ⟨H, [.lst (ns.map D.int)], .sh (.bl true), Same.refl _, ?_, e, fun v G' H' g r => by simpa only [Rep] using r⟩
  simp only [RepL, Rep]
  exact ⟨_, _, rfl, ⟨a, _, rfl, h, repL_ints ns⟩, rfl⟩
theorem tyOk_int {K : PySem.W.Frag} : IsTyOk K "int" := fun d => by cases d <;> rfl
theorem tyOk_bool {K : PySem.W.Frag} : IsTyOk K "bool" := fun d => by cases d <;> rfl
theorem tyOk_tuple {K : PySem.W.Frag} : IsTyOk K "tuple" := fun d => by cases d <;> rfl
theorem tyOk_dict {K : PySem.W.Frag} : IsTyOk K "dict" := fun d => by cases d <;> rfl
theorem tyOk_list {K : PySem.W.Frag} : IsTyOk K "list" := fun d => by cases d <;> rfl
end
section
variable {X : Cx}
def gtD : D → D → Option D := iCmp fun i j => decide (j < i)
def mulD : D → D → Option D := iMul
theorem od_mul : OpD X (binaryOp .Mult) mulD := od_imul
theorem pi_any {tg l : Expr} {tl : TE} (hl : PE X l tl) : PI X tg l (fun σ H R => tl σ H fun x H1 => (∃ a, x = .ref a ∧ (∃ xs, SqL X.K H1 a xs) ∧ R (Itl X.K a) H1) ∨ (∃ a, x = .ref a ∧ (∃ xs, SqT X.K H1 a xs) ∧ R (Itt X.K a) H1) ∨ (∃ z, x = .str z ∧ R (Its z) H1)) := by
  intro pins s σ H R I h
  -- the value first, then the walk by its kind
  refine thn (hl pins s σ H _ I h) fun v s1 ⟨x, H1, I1, r1, q1⟩ => ?_
  have lift : ∀ {wi : (It → Hp → Prop) → Prop}, True := fun {_} => trivial
  rcases q1 with ⟨a, e, ⟨xs, hq⟩, q⟩ | ⟨a, e, ⟨xs, hq⟩, q⟩ | ⟨z, e, q⟩
  · subst e
    cases r1
    obtain ⟨its, rv, p, hz⟩ := I1.list hq
    refine wpAny_pyIter_list p.isList ?_
    refine ⟨s1.heap.objs.size, [s1.heap.objs.size], _, _, H1, rfl, I1.kept (t' := s1.toks) fun b o e => Heap.get?_push_of_some _ e, turn_list a _, ⟨_, Heap.get?_push_size _ rfl, rfl, rfl⟩, fun b hb => ?_, q⟩
    have e : b = s1.heap.objs.size := by simpa using hb
    subst e
    exact I1.fpOk (Nat.le_refl _) (I1.hok.fresh (Nat.le_refl _))
  · subst e
    cases r1
    obtain ⟨its, rv, p, hz⟩ := I1.tuple hq
    refine wpAny_pyIter_tuple (show s1.heap.IsTuple a its.toArray from p) ?_
    refine ⟨s1.heap.objs.size, [s1.heap.objs.size], _, _, H1, rfl, I1.kept (t' := s1.toks) fun b o e => Heap.get?_push_of_some _ e, turn_tuple a _, ⟨_, Heap.get?_push_size _ rfl, rfl, rfl⟩, fun b hb => ?_, q⟩
    have e : b = s1.heap.objs.size := by simpa using hb
    subst e
    exact I1.fpOk (Nat.le_refl _) (I1.hok.fresh (Nat.le_refl _))
  · subst e
    obtain ⟨t, rfl⟩ := r1
    have fin : ∀ (T : String) (o : Obj), Turn X.prog X.w X.K tg (Its z) [s1.heap.objs.size] s1.heap.objs.size (fun i h => h.IsStrIter s1.heap.objs.size T z t i) →
        (s1.heap.push o).IsStrIter s1.heap.objs.size T z t 0 → PIE X pins σ tg R (.ref s1.heap.objs.size) { s1 with heap := s1.heap.push o } := fun T o TT st => by
      refine ⟨s1.heap.objs.size, [s1.heap.objs.size], _, _, H1, rfl, I1.kept (t' := s1.toks) fun b o e => Heap.get?_push_of_some _ e, TT, st, fun b hb => ?_, q⟩
      have e : b = s1.heap.objs.size := by simpa using hb
      subst e
      exact I1.fpOk (Nat.le_refl _) (I1.hok.fresh (Nat.le_refl _))
    cases ha : z.cps.all (· < 128)
    · exact wpAny_pyIter_wide ha (fin "str_iterator" _ (turn_str _ _ z t (fun A hA => Walks.strWide hA _ z t) fun A i s Q E st h => wpAny_pyIter_striter_wide st h) ⟨_, Heap.get?_push_size _ rfl, rfl, rfl⟩)
    · exact wpAny_pyIter_ascii ha (fin "str_ascii_iterator" _ (turn_str _ _ z t (fun A hA => Walks.strAscii hA _ z t) fun A i s Q E st h => wpAny_pyIter_striter_ascii st h) ⟨_, Heap.get?_push_size _ rfl, rfl, rfl⟩)
@[simp] def oSeq (f : FE) : En → Option (List D) := fun δ => match f δ with | some (.lst ds) => some ds | some (.tup ds) => some ds | some (.str z) => some (signs z) | _ => none
theorem pid_seq {tg e : Expr} {f : FE} (he : PD X e f) : PID X tg e (oSeq f) := by
  obtain ⟨t, pt, k⟩ := he
  refine ⟨_, pi_any pt, fun B G H δ σ xs R sG rs e q => ?_⟩
  unfold oSeq at e
  split at e
  · rename_i ds e1
    cases e
    refine k B G H δ σ _ _ sG rs e1 fun v G1 H1 g1 r1 => .inl ?_
    simp only [Rep] at r1
    obtain ⟨a, vs, rfl, hq, rl⟩ := r1
    refine ⟨a, rfl, ⟨vs, g1.s.sqL hq⟩, q _ G1 H1 g1 ⟨fun i d G' H' ed a1 b1 => ?_, fun G' H' a1 b1 => ⟨vs, (a1.trans b1).sqL hq, by rw [rl.length]; exact Nat.le_refl _⟩⟩⟩
    obtain ⟨x, ex, rx⟩ := rl.get ed
    refine ⟨⟨vs, x, (a1.trans b1).sqL hq, ex⟩, fun x' H2 y => ⟨y.1, ?_⟩⟩
    have := y.2 vs ((a1.trans b1).sqL hq)
    rw [ex] at this
    cases this
    exact rx.mono a1
  · rename_i ds e1
    cases e
    refine k B G H δ σ _ _ sG rs e1 fun v G1 H1 g1 r1 => .inr (.inl ?_)
    simp only [Rep] at r1
    obtain ⟨a, vs, rfl, hq, rl⟩ := r1
    refine ⟨a, rfl, ⟨vs, g1.s.sqT hq⟩, q _ G1 H1 g1 ⟨fun i d G' H' ed a1 b1 => ?_, fun G' H' a1 b1 => ⟨vs, (a1.trans b1).sqT hq, by rw [rl.length]; exact Nat.le_refl _⟩⟩⟩
    obtain ⟨x, ex, rx⟩ := rl.get ed
    refine ⟨⟨vs, x, (a1.trans b1).sqT hq, ex⟩, fun x' H2 y => ⟨y.1, ?_⟩⟩
    have := y.2 vs ((a1.trans b1).sqT hq)
    rw [ex] at this
    cases this
    exact rx.mono a1
  · rename_i z e1
    cases e
    refine k B G H δ σ _ _ sG rs e1 fun v G1 H1 g1 r1 => .inr (.inr ?_)
    simp only [Rep] at r1
    refine ⟨z, r1, q _ G1 H1 g1 ⟨fun i d G' H' ed a1 b1 => ?_, fun G' H' a1 b1 => ?_⟩⟩
    · unfold signs at ed
      rw [List.getElem?_map] at ed
      obtain ⟨c, ec, rfl⟩ := Option.map_eq_some_iff.mp ed
      have ec' : z.cps[i]? = some c := by simpa using ec
      refine ⟨?_, fun x' H2 y => ?_⟩
      · show i < z.cps.size
        obtain ⟨hi, _⟩ := Array.getElem?_eq_some_iff.mp ec'
        exact hi
      · obtain ⟨y1, c', ec2, rfl⟩ := y
        rw [ec'] at ec2
        cases ec2
        exact ⟨y1, by simp [Rep]⟩
    · show (signs z).length = z.cps.size
      simp [signs]
  · cases e
@[simp] def f1 (o : D → Option D) (f : FE) : FE := fun δ => (f δ).bind o
def negD : D → Option D | .int i => some (.int (-i)) | _ => none
theorem pd_neg {e : Expr} {f : FE} {pos : Pos} (he : PD X e f) : PD X (.UnaryOp .USub e pos) (f1 negD f) := by
  obtain ⟨t, pt, k1⟩ := he
  refine ⟨_, pe_un un_neg pt, fun B G H δ σ d Q sG rs ef k => ?_⟩
  unfold f1 at ef
  obtain ⟨x, e1, ef⟩ := Option.bind_eq_some_iff.mp ef
  unfold negD at ef
  split at ef
  · cases ef
    exact k1 B G H δ σ _ _ sG rs e1 fun v G1 H1 g1 r1 => ⟨_, by simpa only [Rep] using r1, k _ G1 H1 g1 (by simp [Rep])⟩
  · cases ef
end
end L2
set_option Elab.async false
set_option linter.all false
set_option maxRecDepth 100000
set_option maxHeartbeats 4000000
namespace L2
open PySem PySem.Spec PyProof.Rows
mutual
def eqA : D → D → Bool
  | .tup xs, y => match y with | .tup ys => eqAs xs ys | _ => false
  | .lst xs, y => match y with | .lst ys => eqAs xs ys | _ => false
  | .dic _ _, _ => false
  | .non, y => if flatD y = true then eqV .non (toV y) else false
  | .bl b, y => if flatD y = true then eqV (.bl b) (toV y) else false
  | .int i, y => if flatD y = true then eqV (.int i) (toV y) else false
  | .str x, y => if flatD y = true then eqV (.str x) (toV y) else false
def eqAs : List D → List D → Bool
  | [], ys => ys.isEmpty
  | x :: xs, ys => match ys with | [] => false | y :: ys => eqA x y && eqAs xs ys
end
def plainN : Nat → D → Bool
  | _, .dic _ _ => false
  | 0, .tup _ => false
  | 0, .lst _ => false
  | n + 1, .tup xs => xs.all (plainN n)
  | n + 1, .lst xs => xs.all (plainN n)
  | _, _ => true
theorem eqA_flat {x y : D} (hx : flatD x = true) (hy : flatD y = true) : eqA x y = eqV (toV x) (toV y) := by
  cases x with
  | tup _ => cases hx
  | lst _ => cases hx
  | dic _ _ => cases hx
  | _ => simp only [eqA, hy, if_true, toV]
theorem eqV_refl {v : V} (h : flatV v = true) : eqV v v = true := by
  cases v with
  | non => rfl
  | bl b => simp [eqV]
  | int b => simp [eqV]
  | str b => simp [eqV]
  | _ => cases h
theorem eqAs_ne : ∀ {xs ys : List D}, xs.length ≠ ys.length → eqAs xs ys = false
  | [], [], h => absurd rfl h
  | [], _ :: _, _ => by simp [eqAs]
  | _ :: _, [], _ => by simp [eqAs]
  | x :: xs, y :: ys, h => by
    simp only [eqAs]
    rw [eqAs_ne (fun z => h (by simp [z])), Bool.and_false]
theorem eqAs_all : ∀ {xs ys : List D}, xs.length = ys.length → eqAs xs ys = (List.range xs.length).all fun j => eqA (xs.getD j .non) (ys.getD j .non)
  | [], [], _ => by simp [eqAs]
  | x :: xs, y :: ys, h => by
    simp only [eqAs]
    rw [eqAs_all (show xs.length = ys.length by simpa using h), List.length_cons, List.range_succ_eq_map, List.all_cons, List.all_map]
    rfl
section
variable {X : Cx} {pins : List (Addr × Obj)} {σ : St} {H : Hp} {s : Shared}
theorem eqA_same (I : Inv X pins σ H s) : ∀ (n : Nat) {x y : D} {v : V}, plainN n x = true → plainN n y = true → Rep X.K H x v → Rep X.K H y v → eqA x y = true := by
  intro n
  have flatcase : ∀ {x y : D} {v : V}, flatD x = true → Rep X.K H x v → Rep X.K H y v → eqA x y = true := fun {x y v} hx rx ry => by
    have h1 := rep_flat hx rx
    have hy : flatD y = true := by
      cases y with
      | tup ys => simp only [Rep] at ry; obtain ⟨a, us, e, _⟩ := ry; exact absurd (h1.1.symm.trans e) (by cases x with | tup _ => cases hx | lst _ => cases hx | dic _ _ => cases hx | _ => intro z; cases z)
      | lst ys => simp only [Rep] at ry; obtain ⟨a, us, e, _⟩ := ry; exact absurd (h1.1.symm.trans e) (by cases x with | tup _ => cases hx | lst _ => cases hx | dic _ _ => cases hx | _ => intro z; cases z)
      | dic ks ys => simp only [Rep] at ry; obtain ⟨a, us, e, _⟩ := ry; exact absurd (h1.1.symm.trans e) (by cases x with | tup _ => cases hx | lst _ => cases hx | dic _ _ => cases hx | _ => intro z; cases z)
      | _ => rfl
    have h2 := rep_flat hy ry
    rw [eqA_flat hx hy, ← h1.1, ← h2.1]
    exact eqV_refl h1.2
  induction n with
  | zero =>
    intro x y v px py rx ry
    cases x with
    | tup xs => cases px
    | lst xs => cases px
    | dic ks xs => cases px
    | _ => exact flatcase rfl rx ry
  | succ n ih =>
    intro x y v px py rx ry
    have lists : ∀ {xs ys : List D} {vs : List V}, xs.all (plainN n) = true → ys.all (plainN n) = true → RepL X.K H xs vs → RepL X.K H ys vs → eqAs xs ys = true := by
      intro xs
      induction xs with
      | nil =>
        intro ys vs _ _ r1 r2
        simp only [RepL] at r1
        subst r1
        cases ys with
        | nil => simp [eqAs]
        | cons y ys => simp only [RepL] at r2; obtain ⟨_, _, e, _⟩ := r2; cases e
      | cons x xs ih2 =>
        intro ys vs p1 p2 r1 r2
        simp only [RepL] at r1
        obtain ⟨v, us, rfl, q1, q2⟩ := r1
        cases ys with
        | nil => simp only [RepL] at r2; cases r2
        | cons y ys =>
          simp only [RepL] at r2
          obtain ⟨v2, us2, e, q3, q4⟩ := r2
          cases e
          rw [List.all_cons, Bool.and_eq_true] at p1 p2
          simp only [eqAs]
          rw [ih p1.1 p2.1 q1 q3, ih2 p1.2 p2.2 q2 q4]
          rfl
    cases x with
    | tup xs =>
      simp only [Rep] at rx
      obtain ⟨a, vs, rfl, h1, h2⟩ := rx
      cases y with
      | tup ys =>
        simp only [Rep] at ry
        obtain ⟨b, us, e, h3, h4⟩ := ry
        cases e
        obtain rfl := I.tuple_inj h1 h3
        simp only [eqA]
        exact lists px py h2 h4
      | lst ys =>
        simp only [Rep] at ry
        obtain ⟨b, us, e, h3, h4⟩ := ry
        cases e
        obtain ⟨_, _, p1, _⟩ := I.tuple h1
        obtain ⟨_, _, p2, _⟩ := I.list h3
        obtain ⟨o1, g1, c1, _⟩ := p1
        obtain ⟨o2, g2, c2, _⟩ := p2.isList
        rw [g1] at g2; cases g2; rw [c1] at c2; exact absurd (Value.type.inj c2) (by decide)
      | dic ks ys => cases py
      | _ => simp only [Rep] at ry; cases ry
    | lst xs =>
      simp only [Rep] at rx
      obtain ⟨a, vs, rfl, h1, h2⟩ := rx
      cases y with
      | lst ys =>
        simp only [Rep] at ry
        obtain ⟨b, us, e, h3, h4⟩ := ry
        cases e
        obtain rfl := I.list_inj h1 h3
        simp only [eqA]
        exact lists px py h2 h4
      | tup ys =>
        simp only [Rep] at ry
        obtain ⟨b, us, e, h3, h4⟩ := ry
        cases e
        obtain ⟨_, _, p1, _⟩ := I.tuple h3
        obtain ⟨_, _, p2, _⟩ := I.list h1
        obtain ⟨o1, g1, c1, _⟩ := p1
        obtain ⟨o2, g2, c2, _⟩ := p2.isList
        rw [g1] at g2; cases g2; rw [c1] at c2; exact absurd (Value.type.inj c2) (by decide)
      | dic ks ys => cases py
      | _ => simp only [Rep] at ry; cases ry
    | dic ks xs => cases px
    | _ => exact flatcase rfl rx ry
theorem in1_units (A : Around) : A.in1.units = A.units + 1 := rfl
theorem eqAt_A (I : Inv X pins σ H s) : ∀ (n : Nat) {x y : D} {v v' : V} {u u' : Value} {A : Around}, plainN n x = true → plainN n y = true → Rep X.K H x v → Rep X.K H y v' → RelV v u → RelV v' u' → A.units + n < cLine → SeqAt.EqAt A s u u' (eqA x y) := by
  intro n
  -- a scalar and anything of no depth
  have ff : ∀ {x y : D} {v v' : V} {u u' : Value} {A : Around}, flatD x = true → flatD y = true → Rep X.K H x v → Rep X.K H y v' → RelV v u → RelV v' u' → SeqAt.EqAt A s u u' (eqA x y) := fun {x y v v' u u' A} hx hy rx ry r r' => by
    have h1 := rep_flat hx rx
    have h2 := rep_flat hy ry
    rw [eqA_flat hx hy, ← h1.1, ← h2.1]
    exact eqAt_V r r' h1.2 h2.2
  induction n with
  | zero =>
    intro x y v v' u u' A px py rx ry r r' hu
    refine ff ?_ ?_ rx ry r r'
    · cases x <;> first | rfl | cases px
    · cases y <;> first | rfl | cases py
  | succ n ih =>
    intro x y v v' u u' A px py rx ry r r' hu
    have hu' : A.units < cLine := by omega
    have items : ∀ {xs ys : List D} {vs us : List V} {its its2 : List Value}, xs.all (plainN n) = true → ys.all (plainN n) = true → RepL X.K H xs vs → RepL X.K H ys us → Vals vs its → Vals us its2 →
        ∀ j (h1 : j < its.toArray.size) (h2 : j < its2.toArray.size), SeqAt.EqAt A.in1 s its.toArray[j] its2.toArray[j] (eqA (xs.getD j .non) (ys.getD j .non)) := fun {xs ys vs us its its2} p1 p2 r1 r2 v1 v2 j h1 h2 => by
      have l1 := r1.length
      have l2 := r2.length
      have l3 := v1.length
      have l4 := v2.length
      have j1 : j < xs.length := by simp at h1; omega
      have j2 : j < ys.length := by simp at h2; omega
      have e1 : xs[j]? = some (xs.getD j .non) := by rw [List.getD_eq_getElem?_getD, List.getElem?_eq_getElem j1]; rfl
      have e2 : ys[j]? = some (ys.getD j .non) := by rw [List.getD_eq_getElem?_getD, List.getElem?_eq_getElem j2]; rfl
      obtain ⟨w1, g1, q1⟩ := r1.get e1
      obtain ⟨w2, g2, q2⟩ := r2.get e2
      obtain ⟨u1, k1, k2⟩ := v1.get g1
      obtain ⟨u2, k3, k4⟩ := v2.get g2
      have t1 : its.toArray[j] = u1 := by
        obtain ⟨_, z⟩ := List.getElem?_eq_some_iff.mp k1
        simpa using z
      have t2 : its2.toArray[j] = u2 := by
        obtain ⟨_, z⟩ := List.getElem?_eq_some_iff.mp k3
        simpa using z
      rw [t1, t2]
      exact ih (List.all_eq_true.mp p1 _ (List.mem_of_getElem? e1)) (List.all_eq_true.mp p2 _ (List.mem_of_getElem? e2)) q1 q2 k2 k4 (by rw [in1_units]; omega)
    have tups : ∀ {xs ys : List D}, plainN (n + 1) (.tup xs) = true → plainN (n + 1) (.tup ys) = true → Rep X.K H (.tup xs) v → Rep X.K H (.tup ys) v' → SeqAt.EqAt A s u u' (eqA (.tup xs) (.tup ys)) := fun {xs ys} px py rx ry => by
      have rx0 := rx
      have ry0 := ry
      simp only [Rep] at rx ry
      obtain ⟨a, vs, rfl, h1, h2⟩ := rx
      obtain ⟨b, us, rfl, h3, h4⟩ := ry
      cases r
      cases r'
      by_cases hab : a = b
      · subst hab
        rw [eqA_same I (n + 1) px py rx0 ry0]
        exact SeqAt.EqAt.same _
      · obtain ⟨its, v1, p1, _⟩ := I.tuple h1
        obtain ⟨its2, v2, p2, _⟩ := I.tuple h3
        have q := SeqAt.RcAt.tuples (e := fun j => eqA (xs.getD j .non) (ys.getD j .non)) p1 p2 hu' (items px py h2 h4 v1 v2)
        have e : ((List.range (min its.toArray.size its2.toArray.size)).all (fun j => eqA (xs.getD j .non) (ys.getD j .non)) && its.toArray.size == its2.toArray.size) = eqA (.tup xs) (.tup ys) := by
          have l1 := h2.length
          have l2 := h4.length
          have l3 := v1.length
          have l4 := v2.length
          simp only [eqA]
          by_cases hl : xs.length = ys.length
          · rw [eqAs_all hl]
            have : min its.toArray.size its2.toArray.size = xs.length := by simp; omega
            rw [this]
            have : (its.toArray.size == its2.toArray.size) = true := by simp; omega
            rw [this, Bool.and_true]
          · rw [eqAs_ne hl]
            have : (its.toArray.size == its2.toArray.size) = false := by simp; omega
            rw [this, Bool.and_false]
        rw [e] at q
        exact SeqAt.EqAt.of_refs hab q
    have lsts : ∀ {xs ys : List D}, plainN (n + 1) (.lst xs) = true → plainN (n + 1) (.lst ys) = true → Rep X.K H (.lst xs) v → Rep X.K H (.lst ys) v' → SeqAt.EqAt A s u u' (eqA (.lst xs) (.lst ys)) := fun {xs ys} px py rx ry => by
      have rx0 := rx
      have ry0 := ry
      simp only [Rep] at rx ry
      obtain ⟨a, vs, rfl, h1, h2⟩ := rx
      obtain ⟨b, us, rfl, h3, h4⟩ := ry
      cases r
      cases r'
      by_cases hab : a = b
      · subst hab
        rw [eqA_same I (n + 1) px py rx0 ry0]
        exact SeqAt.EqAt.same _
      · obtain ⟨its, v1, p1, _⟩ := I.list h1
        obtain ⟨its2, v2, p2, _⟩ := I.list h3
        have l1 := h2.length
        have l2 := h4.length
        have l3 := v1.length
        have l4 := v2.length
        simp only [eqA]
        by_cases hl : xs.length = ys.length
        · have q := SeqAt.RcAt.lists (e := fun j => eqA (xs.getD j .non) (ys.getD j .non)) p1.isList p2.isList (by simp; omega) hu' (items px py h2 h4 v1 v2)
          rw [eqAs_all hl]
          have : its.toArray.size = xs.length := by simp; omega
          rw [this] at q
          exact SeqAt.EqAt.of_refs hab q
        · rw [eqAs_ne hl]
          exact SeqAt.EqAt.of_refs hab (SeqAt.RcAt.lists_lengths p1.isList p2.isList (by simp; omega) hu')
    have tupAt : ∀ {xs : List D} {v : V} {u : Value}, Rep X.K H (.tup xs) v → RelV v u → ∃ a its, u = .ref a ∧ s.heap.IsTuple a its := fun {xs v u} h r => by
      simp only [Rep] at h
      obtain ⟨a, vs, rfl, h1, h2⟩ := h
      cases r
      obtain ⟨its, _, p, _⟩ := I.tuple h1
      exact ⟨a, _, rfl, p⟩
    have lstAt : ∀ {xs : List D} {v : V} {u : Value}, Rep X.K H (.lst xs) v → RelV v u → ∃ a its, u = .ref a ∧ s.heap.IsList a its := fun {xs v u} h r => by
      simp only [Rep] at h
      obtain ⟨a, vs, rfl, h1, h2⟩ := h
      cases r
      obtain ⟨its, _, p, _⟩ := I.list h1
      exact ⟨a, _, rfl, p.isList⟩
    cases x with
    | dic ks xs => cases px
    | tup xs =>
      cases y with
      | dic ks ys => cases py
      | tup ys => exact tups px py rx ry
      | lst ys =>
        obtain ⟨a, i1, rfl, t1⟩ := tupAt rx r
        obtain ⟨b, i2, rfl, t2⟩ := lstAt ry r'
        exact SeqAt.EqAt.tuple_list t1 t2 hu'
      | non => obtain ⟨a, i1, rfl, t1⟩ := tupAt rx r; simp only [Rep] at ry; subst ry; cases r'; exact SeqAt.EqAt.tuple_none t1 hu'
      | bl b => obtain ⟨a, i1, rfl, t1⟩ := tupAt rx r; simp only [Rep] at ry; subst ry; cases r'; exact SeqAt.EqAt.tuple_bool b t1 hu'
      | int b => obtain ⟨a, i1, rfl, t1⟩ := tupAt rx r; simp only [Rep] at ry; subst ry; obtain ⟨t, rfl⟩ := r'; exact SeqAt.EqAt.tuple_int b t t1 hu'
      | str b => obtain ⟨a, i1, rfl, t1⟩ := tupAt rx r; simp only [Rep] at ry; subst ry; obtain ⟨t, rfl⟩ := r'; exact SeqAt.EqAt.tuple_str b t t1 hu'
    | lst xs =>
      cases y with
      | dic ks ys => cases py
      | lst ys => exact lsts px py rx ry
      | tup ys =>
        obtain ⟨a, i1, rfl, t1⟩ := lstAt rx r
        obtain ⟨b, i2, rfl, t2⟩ := tupAt ry r'
        exact SeqAt.EqAt.list_tuple t1 t2 hu'
      | non => obtain ⟨a, i1, rfl, t1⟩ := lstAt rx r; simp only [Rep] at ry; subst ry; cases r'; exact SeqAt.EqAt.list_none t1 hu'
      | bl b => obtain ⟨a, i1, rfl, t1⟩ := lstAt rx r; simp only [Rep] at ry; subst ry; cases r'; exact SeqAt.EqAt.list_bool b t1 hu'
      | int b => obtain ⟨a, i1, rfl, t1⟩ := lstAt rx r; simp only [Rep] at ry; subst ry; obtain ⟨t, rfl⟩ := r'; exact SeqAt.EqAt.list_int b t t1 hu'
      | str b => obtain ⟨a, i1, rfl, t1⟩ := lstAt rx r; simp only [Rep] at ry; subst ry; obtain ⟨t, rfl⟩ := r'; exact SeqAt.EqAt.list_str b t t1 hu'
    | non =>
      cases y with
      | dic ks ys => cases py
      | tup ys => obtain ⟨a, i1, rfl, t1⟩ := tupAt ry r'; simp only [Rep] at rx; subst rx; cases r; exact SeqAt.EqAt.none_tuple t1 hu'
      | lst ys => obtain ⟨a, i1, rfl, t1⟩ := lstAt ry r'; simp only [Rep] at rx; subst rx; cases r; exact SeqAt.EqAt.none_list t1 hu'
      | _ => exact ff rfl rfl rx ry r r'
    | bl b =>
      cases y with
      | dic ks ys => cases py
      | tup ys => obtain ⟨a, i1, rfl, t1⟩ := tupAt ry r'; simp only [Rep] at rx; subst rx; cases r; exact SeqAt.EqAt.bool_tuple b t1 hu'
      | lst ys => obtain ⟨a, i1, rfl, t1⟩ := lstAt ry r'; simp only [Rep] at rx; subst rx; cases r; exact SeqAt.EqAt.bool_list b t1 hu'
      | _ => exact ff rfl rfl rx ry r r'
    | int b =>
      cases y with
      | dic ks ys => cases py
      | tup ys => obtain ⟨a, i1, rfl, t1⟩ := tupAt ry r'; simp only [Rep] at rx; subst rx; obtain ⟨t, rfl⟩ := r; exact SeqAt.EqAt.int_tuple b t t1 hu'
      | lst ys => obtain ⟨a, i1, rfl, t1⟩ := lstAt ry r'; simp only [Rep] at rx; subst rx; obtain ⟨t, rfl⟩ := r; exact SeqAt.EqAt.int_list b t t1 hu'
      | _ => exact ff rfl rfl rx ry r r'
    | str b =>
      cases y with
      | dic ks ys => cases py
      | tup ys => obtain ⟨a, i1, rfl, t1⟩ := tupAt ry r'; simp only [Rep] at rx; subst rx; obtain ⟨t, rfl⟩ := r; exact SeqAt.EqAt.str_tuple b t t1 hu'
      | lst ys => obtain ⟨a, i1, rfl, t1⟩ := lstAt ry r'; simp only [Rep] at rx; subst rx; obtain ⟨t, rfl⟩ := r; exact SeqAt.EqAt.str_list b t t1 hu'
      | _ => exact ff rfl rfl rx ry r r'
end
end L2
set_option Elab.async false
set_option linter.all false
set_option maxRecDepth 100000
set_option maxHeartbeats 4000000
namespace L2
open PySem PySem.Spec PyProof.Rows
section
variable {X : Cx} {pins : List (Addr × Obj)} {σ : St} {H : Hp} {s : Shared}
theorem items_A (I : Inv X pins σ H s) (n : Nat) {A : Around} (hu : A.units + n < cLine) {xs ys : List D} {vs us : List V} {its its2 : List Value} (p1 : xs.all (plainN n) = true) (p2 : ys.all (plainN n) = true) (r1 : RepL X.K H xs vs) (r2 : RepL X.K H ys us) (v1 : Vals vs its) (v2 : Vals us its2) :
    ∀ j (h1 : j < its.toArray.size) (h2 : j < its2.toArray.size), SeqAt.EqAt A s its.toArray[j] its2.toArray[j] (eqA (xs.getD j .non) (ys.getD j .non)) := fun j h1 h2 => by
  have l1 := r1.length
  have l2 := r2.length
  have l3 := v1.length
  have l4 := v2.length
  have j1 : j < xs.length := by simp at h1; omega
  have j2 : j < ys.length := by simp at h2; omega
  have e1 : xs[j]? = some (xs.getD j .non) := by rw [List.getD_eq_getElem?_getD, List.getElem?_eq_getElem j1]; rfl
  have e2 : ys[j]? = some (ys.getD j .non) := by rw [List.getD_eq_getElem?_getD, List.getElem?_eq_getElem j2]; rfl
  obtain ⟨w1, g1, q1⟩ := r1.get e1
  obtain ⟨w2, g2, q2⟩ := r2.get e2
  obtain ⟨u1, k1, k2⟩ := v1.get g1
  obtain ⟨u2, k3, k4⟩ := v2.get g2
  have t1 : its.toArray[j] = u1 := by
    obtain ⟨_, z⟩ := List.getElem?_eq_some_iff.mp k1
    simpa using z
  have t2 : its2.toArray[j] = u2 := by
    obtain ⟨_, z⟩ := List.getElem?_eq_some_iff.mp k3
    simpa using z
  rw [t1, t2]
  exact eqAt_A I n (List.all_eq_true.mp p1 _ (List.mem_of_getElem? e1)) (List.all_eq_true.mp p2 _ (List.mem_of_getElem? e2)) q1 q2 k2 k4 hu
theorem tups_eq {xs ys : List D} {its its2 : List Value} (l1 : xs.length = its.length) (l2 : ys.length = its2.length) :
    ((List.range (min its.toArray.size its2.toArray.size)).all (fun j => eqA (xs.getD j .non) (ys.getD j .non)) && its.toArray.size == its2.toArray.size) = eqAs xs ys := by
  by_cases hl : xs.length = ys.length
  · rw [eqAs_all hl]
    have : min its.toArray.size its2.toArray.size = xs.length := by simp; omega
    rw [this]
    have : (its.toArray.size == its2.toArray.size) = true := by simp; omega
    rw [this, Bool.and_true]
  · rw [eqAs_ne hl]
    have : (its.toArray.size == its2.toArray.size) = false := by simp; omega
    rw [this, Bool.and_false]
end
section
variable {X : Cx}
def rEqT (K : PySem.W.Frag) (neg : Bool) : R2 := fun v u H Q => ∃ xs ys, Rep K H (.tup xs) v ∧ Rep K H (.tup ys) u ∧ xs.all (plainN 8) = true ∧ ys.all (plainN 8) = true ∧ Q (.bl (if neg then !eqAs xs ys else eqAs xs ys)) H
def rEqLs (K : PySem.W.Frag) (neg : Bool) : R2 := fun v u H Q => ∃ xs ys, Rep K H (.lst xs) v ∧ Rep K H (.lst ys) u ∧ xs.all (plainN 8) = true ∧ ys.all (plainN 8) = true ∧ Q (.bl (if neg then !eqAs xs ys else eqAs xs ys)) H
theorem op_eqT (hu : X.A.units + 20 < cLine) : OpR X (compareOp .Eq) (rEqT X.K false) := by
  intro pins s σ H x y v u Q I rx ry h
  obtain ⟨xs, ys, r1, r2, p1, p2, q⟩ := h
  simp only [Rep] at r1 r2
  obtain ⟨a, vs, rfl, h1, h2⟩ := r1
  obtain ⟨b, us, rfl, h3, h4⟩ := r2
  cases rx
  cases ry
  obtain ⟨its, v1, t1, _⟩ := I.tuple h1
  obtain ⟨its2, v2, t2, _⟩ := I.tuple h3
  refine SeqAt.eq_tupleAt (e := fun j => eqA (xs.getD j .non) (ys.getD j .non)) t1 t2 (by omega) (items_A I 8 (by rw [in1_units]; omega) p1 p2 h2 h4 v1 v2) ?_
  rw [tups_eq (h2.length.trans v1.length) (h4.length.trans v2.length)]
  exact ⟨.bl _, H, I, rfl, q⟩
theorem op_neT (hu : X.A.units + 20 < cLine) : OpR X (compareOp .NotEq) (rEqT X.K true) := by
  intro pins s σ H x y v u Q I rx ry h
  obtain ⟨xs, ys, r1, r2, p1, p2, q⟩ := h
  simp only [Rep] at r1 r2
  obtain ⟨a, vs, rfl, h1, h2⟩ := r1
  obtain ⟨b, us, rfl, h3, h4⟩ := r2
  cases rx
  cases ry
  obtain ⟨its, v1, t1, _⟩ := I.tuple h1
  obtain ⟨its2, v2, t2, _⟩ := I.tuple h3
  refine SeqAt.RcNeAt.tuples (e := fun j => eqA (xs.getD j .non) (ys.getD j .non)) t1 t2 (by omega) (items_A I 8 (by rw [in1_units]; omega) p1 p2 h2 h4 v1 v2) _ _ _ _ ?_
  rw [tups_eq (h2.length.trans v1.length) (h4.length.trans v2.length)]
  exact ⟨.bl _, H, I, rfl, q⟩
theorem op_eqLs' (hu : X.A.units + 20 < cLine) : OpR X (compareOp .Eq) (rEqLs X.K false) := by
  intro pins s σ H x y v u Q I rx ry h
  obtain ⟨xs, ys, r1, r2, p1, p2, q⟩ := h
  simp only [Rep] at r1 r2
  obtain ⟨a, vs, rfl, h1, h2⟩ := r1
  obtain ⟨b, us, rfl, h3, h4⟩ := r2
  cases rx
  cases ry
  obtain ⟨its, v1, t1, _⟩ := I.list h1
  obtain ⟨its2, v2, t2, _⟩ := I.list h3
  have l1 := h2.length.trans v1.length
  have l2 := h4.length.trans v2.length
  by_cases hl : xs.length = ys.length
  · refine SeqAt.eq_listAt (e := fun j => eqA (xs.getD j .non) (ys.getD j .non)) t1.isList t2.isList (by simp; omega) (by omega) (items_A I 8 (by rw [in1_units]; omega) p1 p2 h2 h4 v1 v2) ?_
    have e := eqAs_all hl
    have : its.toArray.size = xs.length := by simp; omega
    rw [this, ← e]
    exact ⟨.bl _, H, I, rfl, q⟩
  · refine SeqAt.eq_list_lengthsAt t1.isList t2.isList (by simp; omega) (by omega) ⟨.bl _, H, I, rfl, ?_⟩
    rw [eqAs_ne hl] at q
    exact q
theorem op_neLs' (hu : X.A.units + 20 < cLine) : OpR X (compareOp .NotEq) (rEqLs X.K true) := by
  intro pins s σ H x y v u Q I rx ry h
  obtain ⟨xs, ys, r1, r2, p1, p2, q⟩ := h
  simp only [Rep] at r1 r2
  obtain ⟨a, vs, rfl, h1, h2⟩ := r1
  obtain ⟨b, us, rfl, h3, h4⟩ := r2
  cases rx
  cases ry
  obtain ⟨its, v1, t1, _⟩ := I.list h1
  obtain ⟨its2, v2, t2, _⟩ := I.list h3
  have l1 := h2.length.trans v1.length
  have l2 := h4.length.trans v2.length
  by_cases hl : xs.length = ys.length
  · refine SeqAt.RcNeAt.lists (e := fun j => eqA (xs.getD j .non) (ys.getD j .non)) t1.isList t2.isList (by simp; omega) (by omega) (items_A I 8 (by rw [in1_units]; omega) p1 p2 h2 h4 v1 v2) _ _ _ _ ?_
    have e := eqAs_all hl
    have : its.toArray.size = xs.length := by simp; omega
    rw [this, ← e]
    exact ⟨.bl _, H, I, rfl, q⟩
  · refine SeqAt.RcNeAt.lists_lengths t1.isList t2.isList (by simp; omega) (by omega) _ _ _ _ ⟨.bl _, H, I, rfl, ?_⟩
    rw [eqAs_ne hl] at q
    exact q
def eqSeq (neg : Bool) : D → D → Option D
  | .tup xs, .tup ys => if xs.all (plainN 8) = true ∧ ys.all (plainN 8) = true then some (.bl (if neg then !eqAs xs ys else eqAs xs ys)) else none
  | .lst xs, .lst ys => if xs.all (plainN 8) = true ∧ ys.all (plainN 8) = true then some (.bl (if neg then !eqAs xs ys else eqAs xs ys)) else none
  | _, _ => none
theorem od_eqSeq {f : Value → Value → Sem Value} {neg : Bool} (h1 : OpR X f (rEqT X.K neg)) (h2 : OpR X f (rEqLs X.K neg)) : OpD X f (eqSeq neg) := by
  refine ⟨_, h1.or h2, fun G H x y v u d Q sG rx ry e k => ?_⟩
  unfold eqSeq at e
  split at e
  · split at e
    · rename_i hc
      cases e
      exact .inl ⟨_, _, rx.all sG, ry.all sG, hc.1, hc.2, k _ G H (Grow.refl sG) (by simp [Rep])⟩
    · cases e
  · split at e
    · rename_i hc
      cases e
      exact .inr ⟨_, _, rx.all sG, ry.all sG, hc.1, hc.2, k _ G H (Grow.refl sG) (by simp [Rep])⟩
    · cases e
  · cases e
def eqDic (ks : List Key) (xs : List D) (ls : List Key) (ys : List D) : Bool := xs.length == ys.length && (ks.zip xs).all fun kv => match valD ls ys kv.1 with | some y => eqA kv.2 y | none => false
theorem hits_D {pins : List (Addr × Obj)} {σ : St} {H : Hp} {s : Shared} (I : Inv X pins σ H s) {A : Around} (hu : A.units + 8 < cLine) {ls : List Key} {ys : List D} {ws : List V} {kb : List (Key × Value)} (hl : ls.length = ys.length) (r2 : RepL X.K H ys ws) (p2 : ys.all (plainN 8) = true) (vb : KV (ls.zip ws) kb) :
    ∀ {ks : List Key} {xs : List D} {vs : List V} {ka : List (Key × Value)}, ks.length = xs.length → RepL X.K H xs vs → xs.all (plainN 8) = true → KV (ks.zip vs) ka →
      PySem.W.KeqHits A s kb ka ((ks.zip xs).all fun kv => match valD ls ys kv.1 with | some y => eqA kv.2 y | none => false) := by
  intro ks
  induction ks with
  | nil =>
    intro xs vs ka _ _ _ va
    simp only [List.zip_nil_left] at va
    cases va
    exact .nil
  | cons k ks ih =>
    intro xs vs ka hl' r1 p1 va
    cases xs with
    | nil => cases hl'
    | cons x xs =>
      simp only [RepL] at r1
      obtain ⟨v, us, rfl, q1, q2⟩ := r1
      rw [List.all_cons, Bool.and_eq_true] at p1
      simp only [List.zip_cons_cons] at va
      cases va with
      | @cons p q l1 l2 hp ht =>
        obtain ⟨k', u⟩ := q
        obtain ⟨e1, ru⟩ := hp
        have e1 : k = k' := e1
        subst e1
        have ru : RelV v u := ru
        rw [List.zip_cons_cons, List.all_cons]
        dsimp only
        have hv := valD_rep k hl r2
        have hw := vb.val k
        cases ev : valD ls ys k with
        | none =>
          rw [hv.2 ev] at hw
          exact .miss hw.none_of
        | some y =>
          obtain ⟨w', e3, r3⟩ := hv.1 y ev
          rw [e3] at hw
          obtain ⟨u', e4, r4⟩ := hw.some_of
          have py : plainN 8 y = true := by
            refine List.all_eq_true.mp p2 y ?_
            unfold valD at ev
            obtain ⟨kv, hkv, rfl⟩ := Option.map_eq_some_iff.mp ev
            exact (List.of_mem_zip (List.mem_of_find?_eq_some hkv)).2
          exact .hit e4 (eqAt_A I 8 p1.1 py q1 r3 ru r4 hu) (ih (by simpa using hl') q2 p1.2 ht)
def rEqDc (K : PySem.W.Frag) (neg : Bool) : R2 := fun v u H Q => ∃ ks xs ls ys, Rep K H (.dic ks xs) v ∧ Rep K H (.dic ls ys) u ∧ xs.all (plainN 8) = true ∧ ys.all (plainN 8) = true ∧ Q (.bl (if neg then !eqDic ks xs ls ys else eqDic ks xs ls ys)) H
theorem dic_at {pins : List (Addr × Obj)} {σ : St} {H : Hp} {s : Shared} (I : Inv X pins σ H s) {ks : List Key} {xs : List D} {v : V} (h : Rep X.K H (.dic ks xs) v) : ∃ a vs ka, v = .ref a ∧ (a == sysModules) = false ∧ s.heap.DictOf (mixKind X.prog X.w) a ka ∧ KV (ks.zip vs) ka ∧ ks.length = xs.length ∧ RepL X.K H xs vs ∧ ka.length = xs.length := by
  simp only [Rep] at h
  obtain ⟨a, vs, rfl, h1, h2, h3, h4⟩ := h
  obtain ⟨_, h5, ka, h6, h7⟩ := dk_rd I.hok h1
  refine ⟨a, vs, ka, rfl, h5, h7, h6, h2, h4, ?_⟩
  have := h6.length
  rw [List.length_zip] at this
  have := h4.length
  omega
theorem op_eqDc (hu : X.A.units + 20 < cLine) : OpR X (compareOp .Eq) (rEqDc X.K false) := by
  intro pins s σ H x y v u Q I rx ry h
  obtain ⟨ks, xs, ls, ys, r1, r2, p1, p2, q⟩ := h
  obtain ⟨a, vs, ka, rfl, m1, d1, k1, l1, rl1, n1⟩ := dic_at I r1
  obtain ⟨b, us, kb, rfl, m2, d2, k2, l2, rl2, n2⟩ := dic_at I r2
  cases rx
  cases ry
  refine PySem.W.keq_eq m1 m2 d1 d2 (by omega) (fun _ => hits_D I (by rw [in1_units]; omega) l2 rl2 p2 k2 l1 rl1 p1 k1) ⟨.bl _, H, I, rfl, ?_⟩
  rw [n1, n2]
  exact q
theorem op_neDc (hu : X.A.units + 20 < cLine) : OpR X (compareOp .NotEq) (rEqDc X.K true) := by
  intro pins s σ H x y v u Q I rx ry h
  obtain ⟨ks, xs, ls, ys, r1, r2, p1, p2, q⟩ := h
  obtain ⟨a, vs, ka, rfl, m1, d1, k1, l1, rl1, n1⟩ := dic_at I r1
  obtain ⟨b, us, kb, rfl, m2, d2, k2, l2, rl2, n2⟩ := dic_at I r2
  cases rx
  cases ry
  refine PySem.W.keq_ne m1 m2 d1 d2 (by omega) (fun _ => hits_D I (by rw [in1_units]; omega) l2 rl2 p2 k2 l1 rl1 p1 k1) ⟨.bl _, H, I, rfl, ?_⟩
  rw [n1, n2]
  exact q
def eqDc (neg : Bool) : D → D → Option D
  | .dic ks xs, .dic ls ys => if xs.all (plainN 8) = true ∧ ys.all (plainN 8) = true then some (.bl (if neg then !eqDic ks xs ls ys else eqDic ks xs ls ys)) else none
  | _, _ => none
theorem od_eqDc {f : Value → Value → Sem Value} {neg : Bool} (h1 : OpR X f (rEqDc X.K neg)) : OpD X f (eqDc neg) := by
  refine ⟨_, h1, fun G H x y v u d Q sG rx ry e k => ?_⟩
  unfold eqDc at e
  split at e
  · split at e
    · rename_i hc
      cases e
      exact ⟨_, _, _, _, rx.all sG, ry.all sG, hc.1, hc.2, k _ G H (Grow.refl sG) (by simp [Rep])⟩
    · cases e
  · cases e
def eqO (neg : Bool) (x y : D) : Option D := (sEq neg x y).or ((eqSeq neg x y).or (eqDc neg x y))
theorem od_eqO (hu : X.A.units + 20 < cLine) : OpD X (compareOp .Eq) (eqO false) := od_seq.or ((od_eqSeq (op_eqT hu) (op_eqLs' hu)).or (od_eqDc (op_eqDc hu)))
theorem od_neO (hu : X.A.units + 20 < cLine) : OpD X (compareOp .NotEq) (eqO true) := od_sne.or ((od_eqSeq (op_neT hu) (op_neLs' hu)).or (od_eqDc (op_neDc hu)))
end
end L2
set_option Elab.async false
set_option linter.all false
set_option maxRecDepth 100000
set_option maxHeartbeats 4000000
namespace L2
open PySem PySem.Spec PyProof.Rows
def putVals {α : Type} : List Key → List α → Key → α → List α
  | k0 :: ks, y :: ys, k, x => if k0 = k then x :: ys else y :: putVals ks ys k x
  | _, _, _, x => [x]
instance memKey (k : Key) (ks : List Key) : Decidable (k ∈ ks) :=
  decidable_of_iff (ks.any (fun x => decide (x = k)) = true) ⟨fun h => by
    obtain ⟨x, hx, q⟩ := List.any_eq_true.mp h
    exact (of_decide_eq_true q) ▸ hx, fun h => List.any_eq_true.mpr ⟨k, h, decide_eq_true rfl⟩⟩
def putKeys (ks : List Key) (k : Key) : List Key := if k ∈ ks then ks else ks ++ [k]
theorem putVals_len {α : Type} : ∀ (ks : List Key) (ys : List α) (k : Key) (x : α), ks.length = ys.length → (putKeys ks k).length = (putVals ks ys k x).length
  | [], [], k, x, _ => by simp [putKeys, putVals]
  | k0 :: ks, y :: ys, k, x, h => by
    have ih := putVals_len ks ys k x (by simpa using h)
    unfold putVals
    by_cases e : k0 = k
    · subst e
      rw [if_pos rfl]
      unfold putKeys
      rw [if_pos List.mem_cons_self]
      simpa using h
    · rw [if_neg e, List.length_cons, ← ih]
      unfold putKeys
      by_cases m : k ∈ ks
      · rw [if_pos m, if_pos (List.mem_cons_of_mem _ m), List.length_cons]
      · rw [if_neg m, if_neg (by rw [List.mem_cons]; exact fun z => z.elim (fun q => e q.symm) m)]
        simp
theorem putKeys_nd {ks : List Key} (k : Key) (h : ks.Nodup) : (putKeys ks k).Nodup := by
  unfold putKeys
  by_cases m : k ∈ ks
  · rw [if_pos m]; exact h
  · rw [if_neg m]
    rw [List.nodup_append]
    refine ⟨h, by simp, fun a ha b hb => ?_⟩
    have : b = k := by simpa using hb
    subst this
    exact fun z => m (z ▸ ha)
theorem map_miss {α : Type} {k : Key} {f : α → α} : ∀ {l : List (Key × α)}, k ∉ l.map (·.1) → l.map (fun kv => if kv.1 = k then (kv.1, f kv.2) else kv) = l
  | [], _ => rfl
  | p :: l, h => by
    rw [List.map_cons, map_miss (fun z => h (List.mem_cons_of_mem _ z)), if_neg (fun z => h (by rw [List.map_cons, z]; exact List.mem_cons_self))]
theorem keys_zip {α : Type} : ∀ {ks : List Key} {vs : List α}, ks.length = vs.length → (ks.zip vs).map (·.1) = ks
  | [], [], _ => rfl
  | k :: ks, v :: vs, h => by
    simp only [List.zip_cons_cons, List.map_cons]
    rw [keys_zip (by simpa using h)]
theorem any_zip {vs : List V} {ks : List Key} (h : ks.length = vs.length) (k : Key) : ((ks.zip vs).any fun kv => decide (kv.1 = k)) = decide (k ∈ ks) := by
  have e := keys_zip h
  have : ((ks.zip vs).any fun kv => decide (kv.1 = k)) = ((ks.zip vs).map (·.1)).any fun x => decide (x = k) := by rw [List.any_map]; rfl
  rw [this, e]
  by_cases m : k ∈ ks
  · rw [decide_eq_true m]
    exact List.any_eq_true.mpr ⟨k, m, by simp⟩
  · rw [decide_eq_false m]
    refine Bool.eq_false_iff.mpr fun z => ?_
    obtain ⟨x, hx, q⟩ := List.any_eq_true.mp z
    exact m ((of_decide_eq_true q) ▸ hx)
theorem putK_zip : ∀ {ks : List Key} {vs : List V} (k : Key) (v : V), ks.length = vs.length → ks.Nodup → putK (ks.zip vs) k v = (putKeys ks k).zip (putVals ks vs k v) := by
  intro ks
  induction ks with
  | nil => intro vs k v h _; cases vs with | nil => rfl | cons _ _ => cases h
  | cons k0 ks ih =>
    intro vs k v h nd
    cases vs with
    | nil => cases h
    | cons v0 vs =>
      have h' : ks.length = vs.length := by simpa using h
      obtain ⟨n1, n2⟩ := List.nodup_cons.mp nd
      have e1 := ih k v h' n2
      unfold putK at e1 ⊢
      rw [any_zip h'] at e1
      rw [any_zip h]
      by_cases e : k0 = k
      · subst e
        rw [decide_eq_true (List.mem_cons_self), if_pos rfl]
        unfold putKeys putVals
        rw [if_pos List.mem_cons_self, if_pos rfl]
        simp only [List.zip_cons_cons, List.map_cons, if_true]
        congr 1
        exact map_miss (f := fun _ => v) (by rw [keys_zip h']; exact n1)
      · by_cases m : k ∈ ks
        · rw [decide_eq_true m, if_pos rfl] at e1
          rw [decide_eq_true (List.mem_cons_of_mem _ m), if_pos rfl]
          unfold putKeys at e1 ⊢
          rw [if_pos m] at e1
          rw [if_pos (List.mem_cons_of_mem _ m)]
          unfold putVals
          rw [if_neg e]
          simp only [List.zip_cons_cons, List.map_cons, if_neg e]
          rw [e1]
        · have m' : k ∉ k0 :: ks := by rw [List.mem_cons]; exact fun z => z.elim (fun q => e q.symm) m
          rw [decide_eq_false m, if_neg Bool.false_ne_true] at e1
          rw [decide_eq_false m', if_neg Bool.false_ne_true]
          unfold putKeys at e1 ⊢
          rw [if_neg m] at e1
          rw [if_neg m']
          unfold putVals
          rw [if_neg e]
          simp only [List.zip_cons_cons, List.cons_append]
          rw [e1]
theorem repL_put {K : PySem.W.Frag} {G : Hp} {d : D} {v : V} (k : Key) (r : Rep K G d v) : ∀ {ks : List Key} {xs : List D} {vs : List V}, RepL K G xs vs → RepL K G (putVals ks xs k d) (putVals ks vs k v) := by
  intro ks
  induction ks with
  | nil => intro xs vs _; unfold putVals; simp only [RepL]; exact ⟨v, [], rfl, r, rfl⟩
  | cons k0 ks ih =>
    intro xs vs h
    cases xs with
    | nil =>
      simp only [RepL] at h
      subst h
      unfold putVals
      simp only [RepL]
      exact ⟨v, [], rfl, r, rfl⟩
    | cons x xs =>
      simp only [RepL] at h
      obtain ⟨w, us, rfl, h1, h2⟩ := h
      unfold putVals
      by_cases e : k0 = k
      · rw [if_pos e, if_pos e]
        simp only [RepL]
        exact ⟨v, us, rfl, r, h2⟩
      · rw [if_neg e, if_neg e]
        simp only [RepL]
        exact ⟨w, _, rfl, h1, ih h2⟩
section
variable {X : Cx} {e : Expr} {f : FE} {pos : Pos}
@[simp] def sDPutM (i : Nat) (fk fv : FE) : FS := fun δ => match δ[i]? with
  | some (some (.pv (.dic ks ds) o)) => (fv δ).bind fun d => (fk δ).bind fun kd => (keyD kd).bind fun k => if ds.length < sizeLine then some (.nx (δ.set i (some (.pv (.dic (putKeys ks k) (putVals ks ds k d)) o)))) else none
  | _ => none
theorem psd_dput (i : Nat) {x : Str} {k value : Expr} {fk fv : FE} {p p1 : Pos} (hu : X.A.units + 1 < cLine) (hk : PD X k fk) (hv : PD X value fv) (hN : X.N[i]? = some x := by rfl) (hvi : Vis X.env.scope x := by first | exact Or.inl rfl | exact Or.inr (Or.inl rfl) | exact Or.inr (Or.inr rfl))
    (hd : (x == ("__debug__" : Str)) = false := by decide) (hcd : (x == ("__classdict__" : Str)) = false := by decide) (hs : swapsWith value (some (.Subscript (.Name x p) k p1)) pos.line X.env = pure false := by rfl) (hns : NoSl k := by intro _ _; rfl) :
    PSD X (.Assign [.Subscript (.Name x p) k p1] value pos) (sDPutM i fk fv) := by
  obtain ⟨tk, pk, kk⟩ := hk
  obtain ⟨tv, pv, kv⟩ := hv
  refine ⟨_, ps_dput hu (pe_var hN hvi hd hcd) pk pv hs, fun B G H δ σ o D sG sB rs e w => ?_⟩
  unfold sDPutM at e
  split at e
  · rename_i ks ds o em
    obtain ⟨d, e1, e⟩ := Option.bind_eq_some_iff.mp e
    obtain ⟨kd, e2, e⟩ := Option.bind_eq_some_iff.mp e
    obtain ⟨key, e3, e⟩ := Option.bind_eq_some_iff.mp e
    split at e
    · rename_i hl
      cases e
      refine kv B G H δ σ d _ sG rs e1 fun u G1 H1 g1 r1 => ?_
      obtain ⟨v, h1, a, vs, rfl, h2, h3, h4, h5, h6, _⟩ := (rs.grow g1).at_ i _ em
      refine ⟨_, h1, kk B G1 H1 δ σ kd _ g1.s (rs.grow g1) e2 fun ku G2 H2 g2 r2 => ?_⟩
      have hH : H2 a = some (.dK (ks.zip vs)) := g2.h _ _ h4
      have hG2 : G2 a = none := g2.n a _ h4 h3
      obtain rfl := keyD_rep e3 (RepB.of (H := H2) r2)
      have h6 : RepL X.K G1 ds vs := h6
      have lv : ks.length = vs.length := h5.1.trans h6.length
      refine ⟨a, _, rfl, DPut.k (k := key) hH (by rw [List.length_zip]; have := h6.length; have := h5.1; omega), ?_⟩
      rw [putK_zip key u lv h5.2]
      have g12 := g1.trans g2
      refine w σ G2 _ ((g12.stp sB).trans (stp_own g2.s (sB.trans g12.h) h2 hG2)) ((rs.grow g12).upd (m' := .dic (putKeys ks key) (putVals ks ds key d)) (us := putVals ks vs key u) em h1 h2 hG2 ⟨putVals_len ks ds key d h5.1, putKeys_nd key h5.2⟩ ?_)
      exact repL_put key (r1.mono g2.g) (h6.mono g2.g)
    · cases e
  · cases e
def get2D : D → D → D → Option D
  | .dic ks ds, k, x => (keyD k).bind fun key => some ((valD ks ds key).getD x)
  | _, _, _ => none
end
end L2
set_option Elab.async false
set_option linter.all false
set_option maxRecDepth 100000
set_option maxHeartbeats 4000000
namespace L2
open PySem PySem.Spec PyProof.Rows
def closL (cells : List (Str × Addr)) : List (Str × NameKind) → List (Str × Addr) → List (Str × Addr)
  | [], acc => acc
  | (n, k) :: r, acc => closL cells r (if (k == .free) = true then (n, (cells.lookup n).getD 0) :: acc else acc)
theorem closureFor_eq {scope : Scope} {env : Env} (h : ∀ y ∈ scope.names, y.2 = .free → (env.cells.lookup y.1).isSome = true) : closureFor scope env = pure (closL env.cells scope.names []) := by
  simp only [closureFor]
  have key : ∀ (names : List (Str × NameKind)) (acc : List (Str × Addr)), (∀ y ∈ names, y.2 = .free → (env.cells.lookup y.1).isSome = true) →
      (forIn names acc fun (x : Str × NameKind) (r : List (Str × Addr)) => (if (x.snd == NameKind.free) = true then do
        let c ← cellOf env x.fst
        pure (ForInStep.yield ((x.fst, c) :: r)) else pure (ForInStep.yield r) : Sem (ForInStep (List (Str × Addr))))) = pure (closL env.cells names acc) := by
    intro names
    induction names with
    | nil => intro acc _; rfl
    | cons x r ih =>
      intro acc hh
      obtain ⟨n, k⟩ := x
      rw [List.forIn_cons]
      cases hk : (k == NameKind.free) with
      | false =>
        simp only [hk, Bool.false_eq_true, if_false, pure_bind, closL]
        exact ih acc fun y hy => hh y (List.mem_cons_of_mem _ hy)
      | true =>
        have hs := hh (n, k) List.mem_cons_self (by simpa using hk)
        obtain ⟨c, ec⟩ := Option.isSome_iff_exists.mp hs
        have ec : env.cells.lookup n = some c := ec
        have e1 : cellOf env n = pure c := by unfold cellOf; rw [ec]
        simp only [hk, if_true, e1, pure_bind, closL, ec, Option.getD_some]
        exact ih _ fun y hy => hh y (List.mem_cons_of_mem _ hy)
  have := key scope.names [] h
  first
    | exact this
    | (rw [this]; rfl)
    | (simp only [this, pure_bind])
theorem closL_mem {cells : List (Str × Addr)} : ∀ (names : List (Str × NameKind)) (acc : List (Str × Addr)) (p : Str × Addr), p ∈ closL cells names acc → p ∈ acc ∨ ((p.1, NameKind.free) ∈ names ∧ p.2 = (cells.lookup p.1).getD 0)
  | [], acc, p, h => .inl h
  | (n, k) :: r, acc, p, h => by
    unfold closL at h
    rcases closL_mem r _ p h with h | ⟨h, e⟩
    · cases hk : (k == NameKind.free) with
      | false => rw [hk] at h; simp only [Bool.false_eq_true, if_false] at h; exact .inl h
      | true =>
        rw [hk] at h
        simp only [if_true, List.mem_cons] at h
        rcases h with h | h
        · subst h
          have : k = NameKind.free := by simpa using hk
          subst this
          exact .inr ⟨List.mem_cons_self, rfl⟩
        · exact .inl h
    · exact .inr ⟨List.mem_cons_of_mem _ h, e⟩
theorem closL_has {cells : List (Str × Addr)} : ∀ (names : List (Str × NameKind)) (acc : List (Str × Addr)) (x : Str), ((x, NameKind.free) ∈ names ∨ ∃ c, (x, c) ∈ acc) → ∃ c, (x, c) ∈ closL cells names acc
  | [], acc, x, h => h.elim (fun z => by cases z) id
  | (n, k) :: r, acc, x, h => by
    unfold closL
    refine closL_has r _ x ?_
    rcases h with h | ⟨c, h⟩
    · rcases List.mem_cons.mp h with h | h
      · cases h
        exact .inr ⟨(cells.lookup n).getD 0, by simp⟩
      · exact .inl h
    · refine .inr ⟨c, ?_⟩
      split
      · exact List.mem_cons_of_mem _ h
      · exact h
theorem lookup_of_mem {l : List (Str × Addr)} {x : Str} {c : Addr} (h : (x, c) ∈ l) : ∃ c', l.lookup x = some c' := by
  induction l with
  | nil => cases h
  | cons p l ih =>
    obtain ⟨y, d⟩ := p
    rw [List.lookup_cons]
    cases e : x == y with
    | true => exact ⟨d, rfl⟩
    | false =>
      rcases List.mem_cons.mp h with q | q
      · cases q; simp at e
      · exact ih q
theorem compOkF {X : Cx} {N : List Str} {nl : Nat} {js : List Nat} {scope : Scope} {n0 : Nat} (hce : X.env.cells = cellsFrom n0 X.env.scope.names []) (hk : scope.kind = .function) (hn : ∀ y ∈ scope.names, y.2 ≠ .cell)
    {sn : List (Str × NameKind)} (hsn : X.env.scope.names = sn) (hf : ∀ y ∈ scope.names, y.2 = .free → sn.lookup y.1 = some .cell) (hl : ∀ y ∈ scope.names, y.2 = .local → scope.names.lookup y.1 = some .local) (hN : N.length = nl + js.length)
    (free : ∀ k j x, js[k]? = some j → N[nl + k]? = some x → X.N[j]? = some x ∧ (X.env.kindOf x = some .cell ∨ X.env.kindOf x = some .free) ∧ Vis X.env.scope x ∧ ((relabel scope X.env).names.lookup x = some .cell ∨ (relabel scope X.env).names.lookup x = some .free)) :
    CompOk X N nl js scope (closL X.env.cells scope.names []) where
  clos := closureFor_eq fun y hy e => by
    obtain ⟨c, ec⟩ := cell_has (n := n0) (by rw [hsn]; exact hf y hy e)
    rw [hce, ec]; rfl
  nocell := hn
  kind := hk
  names := hl
  cells := fun x c e => by
    rcases closL_mem _ _ _ (PySem.mem_of_lookup e) with z | ⟨z, q⟩
    · cases z
    · obtain ⟨c', ec⟩ := cell_has (n := n0) (by rw [hsn]; exact hf _ z rfl)
      have ec : X.env.cells.lookup x = some c' := by rw [hce]; exact ec
      have q : c = (X.env.cells.lookup x).getD 0 := q
      rw [ec] at q
      rw [ec, q]; rfl
  has := fun x h => by
    have key : ∀ k, (relabel scope X.env).names.lookup x = some k → k = .cell ∨ k = .free → (x, NameKind.free) ∈ scope.names := fun k e hk => by
      have hm := PySem.mem_of_lookup e
      unfold relabel at hm
      obtain ⟨⟨n, k0⟩, h1, h2⟩ := List.mem_map.mp hm
      dsimp only at h2
      cases hc : (k0 == NameKind.free && X.env.scope.kind == .function && X.env.kindOf n == some .cell) with
      | true =>
        rw [hc] at h2
        simp only [if_true] at h2
        have e2 : n = x := congrArg Prod.fst h2
        subst e2
        have : k0 = NameKind.free := by
          rw [Bool.and_eq_true, Bool.and_eq_true] at hc
          simpa using hc.1.1
        rw [← this]; exact h1
      | false =>
        rw [hc] at h2
        have e2 : k0 = k := congrArg Prod.snd h2
        have e3 : n = x := congrArg Prod.fst h2
        subst e2 e3
        rcases hk with z | z
        · exact absurd z (hn _ h1)
        · rw [← z]; exact h1
    have hx : (x, NameKind.free) ∈ scope.names := by
      rcases h with h | h
      · exact key _ h (.inl rfl)
      · exact key _ h (.inr rfl)
    obtain ⟨c, hc⟩ := closL_has (cells := X.env.cells) scope.names [] x (.inl hx)
    exact lookup_of_mem hc
  len := hN
  free := free
end L2
set_option Elab.async false
set_option linter.all false
set_option maxRecDepth 100000
set_option maxHeartbeats 4000000
namespace L2
open PySem PySem.Spec PyProof.Rows
section
variable {X : Cx}
def nonD : D → Bool | .non => true | _ => false
theorem nonD_rep {K : PySem.W.Frag} {G H : Hp} {d : D} {v : V} (r : RepB K G H d v) : decide (v = .non) = nonD d := by
  rcases r with r | ⟨m, a, vs, h1, h2, _⟩
  · cases d with
    | non => simp only [Rep] at r; subst r; rfl
    | bl b => simp only [Rep] at r; subst r; rfl
    | int b => simp only [Rep] at r; subst r; rfl
    | str b => simp only [Rep] at r; subst r; rfl
    | tup b => simp only [Rep] at r; obtain ⟨_, _, rfl, _⟩ := r; rfl
    | lst b => simp only [Rep] at r; obtain ⟨_, _, rfl, _⟩ := r; rfl
    | dic b c => simp only [Rep] at r; obtain ⟨_, _, rfl, _⟩ := r; rfl
  · subst h1 h2; cases m <;> rfl
def isN (n : Bool) : D → D → Option D | x, .non => some (.bl (if n then !nonD x else nonD x)) | _, _ => none
theorem od_isN : OpD X (compareOp .Is) (isN false) := by
  refine ⟨_, op_isN, fun G H x y v u d Q sG rx ry e k => ?_⟩
  unfold isN at e
  split at e
  · cases e
    have ry := ry.flat rfl
    simp only [Rep] at ry
    refine ⟨ry, ?_⟩
    rw [nonD_rep rx]
    exact k _ G H (Grow.refl sG) (by simp [Rep])
  · cases e
theorem od_notN : OpD X (compareOp .IsNot) (isN true) := by
  refine ⟨_, op_notN, fun G H x y v u d Q sG rx ry e k => ?_⟩
  unfold isN at e
  split at e
  · cases e
    have ry := ry.flat rfl
    simp only [Rep] at ry
    refine ⟨ry, ?_⟩
    rw [nonD_rep rx]
    exact k _ G H (Grow.refl sG) (by simp [Rep])
  · cases e
def isA (x y : D) : Option D := (isN false x y).or (isB x y)
theorem od_isA : OpD X (compareOp .Is) isA := od_isN.or od_isB
theorem repLB_two {K : PySem.W.Frag} {G H : Hp} {d e : D} {vs : List V} (r : RepLB K G H [d, e] vs) : ∃ v u, vs = [v, u] ∧ RepB K G H d v ∧ RepB K G H e u := by
  obtain ⟨v, us, rfl, r1, u, us, rfl, r2, r3⟩ := r
  simp only [RepLB] at r3
  subst r3
  exact ⟨v, u, rfl, r1, r2⟩
def intD : List D → Option D | [.int i] => some (.int i) | [.bl b] => some (.int (if b then 1 else 0)) | _ => none
theorem cd_int : CallD X (.type "int") intD := by
  refine ⟨_, call_int1, fun G H ds vs d Q sG r e k => ?_⟩
  unfold intD at e
  split at e
  · cases e
    obtain ⟨v, rfl, r1⟩ := repLB_one r
    have r1 := r1.flat rfl
    simp only [Rep] at r1
    subst r1
    exact .inl ⟨_, rfl, k _ G H (Grow.refl sG) (by simp [Rep])⟩
  · cases e
    obtain ⟨v, rfl, r1⟩ := repLB_one r
    have r1 := r1.flat rfl
    simp only [Rep] at r1
    subst r1
    exact .inr ⟨_, rfl, k _ G H (Grow.refl sG) (by simp [Rep])⟩
  · cases e
def maxD : List D → Option D | [.int i, .int j] => some (.int (if j > i then j else i)) | _ => none
theorem cd_max (hc : X.calm = true) : CallD X (.builtin "max") maxD := by
  refine ⟨_, call_max2 hc, fun G H ds vs d Q sG r e k => ?_⟩
  unfold maxD at e
  split at e
  · cases e
    obtain ⟨v, u, rfl, r1, r2⟩ := repLB_two r
    have r1 := r1.flat rfl
    have r2 := r2.flat rfl
    simp only [Rep] at r1 r2
    subst r1 r2
    exact ⟨_, _, rfl, k _ G H (Grow.refl sG) (by simp [Rep])⟩
  · cases e
end
end L2
set_option Elab.async false
set_option linter.all false
set_option maxRecDepth 100000
set_option maxHeartbeats 4000000
namespace L2
open PySem PySem.Spec PyProof.Rows
section
variable {X : Cx} {pins : List (Addr × Obj)} {σ : St} {H : Hp} {s : Shared} {a : Addr} {kvs : List (Key × V)} {k : Key} {d : V} {u r : Value} {A : Around} {E : Value → Shared → Prop}
end
section
variable {X : Cx} {o e f : Expr} {apos cpos : Pos} {td ty tx : TE}
end
abbrev FX := En → Option (D × En)
def GivesX (K : PySem.W.Frag) (t : TE) (f : FX) : Prop := ∀ (B G H : Hp) (δ : En) (σ : St) (d : D) (δ' : En) (Q : VK), Same G H → Same B H → RepS K B G H δ σ → f δ = some (d, δ') →
  (∀ v G' H', Stp B G G' H' → RepS K B G' H' δ' σ → Rep K G' d v → Q v H') → t σ H Q
def PX (X : Cx) (e : Expr) (f : FX) : Prop := ∃ t, PE X e t ∧ GivesX X.K t f
section
variable {X : Cx} {e a b : Expr} {pos : Pos}
@[simp] def xD (f : FE) : FX := fun δ => (f δ).map fun d => (d, δ)
theorem PD.px {f : FE} (h : PD X e f) : PX X e (xD f) := by
  obtain ⟨t, pt, k⟩ := h
  refine ⟨t, pt, fun B G H δ σ d δ' Q sG sB rs ef q => ?_⟩
  unfold xD at ef
  obtain ⟨d', e1, e2⟩ := Option.map_eq_some_iff.mp ef
  cases e2
  exact k B G H δ σ _ Q sG rs e1 fun v G' H' g r => q v G' H' (g.stp sB) (rs.grow g) r
end
end L2
set_option Elab.async false
set_option linter.all false
set_option maxRecDepth 100000
set_option maxHeartbeats 4000000
namespace HT
open PySem PySem.Spec PyProof.Rows
variable {prog : Program} {w : World} {A : Around} {E : Value → Shared → Prop} {s : Shared}
end HT
namespace L2
open PySem PySem.Spec PyProof.Rows
section
variable {X : Cx}
def strsD : List D → Option (List Str)
  | [] => some []
  | .str x :: r => (strsD r).map (x :: ·)
  | _ => none
theorem strsD_rep {K : PySem.W.Frag} {G : Hp} : ∀ {ds : List D} {ys : List Str} {vs : List V}, strsD ds = some ys → RepL K G ds vs → vs = ys.map V.str
  | [], _, _, e, r => by cases e; simp only [RepL] at r; exact r
  | d :: ds, ys, vs, e, r => by
    cases d with
    | str x =>
      simp only [strsD] at e
      obtain ⟨zs, e1, rfl⟩ := Option.map_eq_some_iff.mp e
      simp only [RepL] at r
      obtain ⟨v, us, rfl, r1, r2⟩ := r
      simp only [Rep] at r1
      subst r1
      rw [strsD_rep e1 r2]; rfl
    | non => cases e
    | bl b => cases e
    | int b => cases e
    | tup b => cases e
    | lst b => cases e
    | dic b c => cases e
end
end L2
set_option Elab.async false
set_option linter.all false
set_option maxRecDepth 100000
set_option maxHeartbeats 4000000
namespace L2
open PySem PySem.Spec PyProof.Rows
section
variable {prog : Program} {w : World} {A : Around} {E : Value → Shared → Prop} {s : Shared}
end
end L2
set_option Elab.async false
set_option linter.all false
set_option maxRecDepth 100000
set_option maxHeartbeats 4000000
namespace L2
open PySem PySem.Spec PyProof.Rows
section
variable {prog : Program} {w : World} {A : Around} {E : Value → Shared → Prop} {s : Shared}
end
end L2
set_option Elab.async false
set_option linter.all false
set_option maxRecDepth 100000
set_option maxHeartbeats 4000000
namespace L2
open PySem PySem.Spec PyProof.Rows
section
variable {prog : Program} {w : World} {A : Around} {E : Value → Shared → Prop} {s : Shared}
end
end L2
set_option Elab.async false
set_option linter.all false
set_option maxRecDepth 100000
set_option maxHeartbeats 4000000
namespace L2
open PySem PySem.Spec PyProof.Rows
section
variable {prog : Program} {w : World} {A : Around} {E : Value → Shared → Prop} {s : Shared}
end
end L2
set_option Elab.async false
set_option linter.all false
set_option maxRecDepth 100000
set_option maxHeartbeats 4000000
namespace L2
open PySem PySem.Spec PyProof.Rows
section
variable {prog : Program} {w : World} {A : Around} {E : Value → Shared → Prop} {s : Shared}
end
end L2
set_option Elab.async false
set_option linter.all false
set_option maxRecDepth 100000
set_option maxHeartbeats 4000000
namespace L2
open PySem PySem.Spec PyProof.Rows
section
variable {X : Cx} {pins : List (Addr × Obj)} {σ : List (Option V)} {H H' : Hp} {s : Shared} {h' : Heap}
end
section
variable {X : Cx} {pins : List (Addr × Obj)} {σ : St} {H : Hp} {s : Shared}
end
end L2
set_option Elab.async false
set_option linter.all false
set_option maxRecDepth 100000
set_option maxHeartbeats 4000000
namespace L2
open PySem PySem.Spec PyProof.Rows
section
variable {X : Cx}
end
end L2
set_option Elab.async false
set_option linter.all false
set_option maxRecDepth 100000
set_option maxHeartbeats 4000000
namespace L2
open PySem PySem.Spec PyProof.Rows
section
variable {X : Cx} {e : Expr} {es : List Expr} {pos p : Pos}
end
end L2
set_option Elab.async false
set_option linter.all false
set_option maxRecDepth 100000
set_option maxHeartbeats 4000000
namespace L2
open PySem PySem.Spec PyProof.Rows
theorem givesS_set {X : Cx} {t : TE} {f : FR} (i : Nat) (k : GivesR X.K t f) : GivesS X (tAsg t (gName i)) (sSet i (fPub f)) := fun B G H δ σ o D sG sB rs e w => by
  unfold sSet fPub at e
  obtain ⟨d, e1, rfl⟩ := Option.map_eq_some_iff.mp e
  obtain ⟨r, e2, rfl⟩ := Option.map_eq_some_iff.mp e1
  exact k B G H δ σ r _ sG rs e2 (WantR.of fun v G' H' g r => w _ G' H' (g.stp sB) ((rs.grow g).set i r))
section
variable {X : Cx}
theorem ps_setcomp' {N : List Str} {nl i n : Nat} {y : Str} {js : List Nat} {scope : Scope} {cl : List (Str × Addr)} {elt iter : Expr} {ifs : List Expr} {x : Str} {px pos spos py : Pos} {it : En → Option (List D)} {c : En → Option Bool} {g : FE}
    (hN : X.N.Nodup) (hi' : X.N[n]? = some y) (hy : Loc X.env.scope y) (hyl : X.env.scope.names.lookup y = some .local)
    (hc : X.calm = true) (ok : CompOk X N nl js scope cl) (hi : PID X (.Name x px) iter it) (hin : i < nl) (hNd : N.Nodup) (hix : N[i]? = some x) (hx : scope.names.lookup x = some .local)
    (hjs : js.Nodup) (ht : ∀ C s₀ H₀ ex, PIfsD (compCx X N scope cl C s₀ H₀ ex) ifs c) (he : ∀ C s₀ H₀ ex, PD (compCx X N scope cl C s₀ H₀ ex) elt g)
    (hsw : swapsWith (.ListComp elt [⟨.Name x px, iter, ifs, 0⟩] scope pos) (some (.Name y py)) spos.line X.env = pure true)
    (hs : ∀ x, foldedSetIterable iter X.env x = pure x) :
    ∃ t, PS X (.Assign [.Name y py] (.ListComp elt [⟨.Name x px, iter, ifs, 0⟩] scope pos) spos) (tAsg t (gName n)) ∧ GivesR X.K t (fComp nl js i it c g) := by
  obtain ⟨wi, pw, kw⟩ := hi
  exact ⟨_, ps_setcomp (ti := ttOf X.K c) (te := tOf X.K g) hN hi' hy hyl hc ok pw (keeps_name hin) (fun C s₀ H₀ ex => pg_name hNd hix (.inl (lookup_relabel_local hx)) (.inr (lookup_relabel_local hx))) (fun C s₀ H₀ ex => (ht C s₀ H₀ ex).canon) (fun C s₀ H₀ ex => (he C s₀ H₀ ex).canon) hsw hs,
    gives_comp (ti := ttOf X.K c) (te := tOf X.K g) kw (fun B G H δ σ b Q sG rs e k => ⟨B, G, δ, b, sG, rs, e, k⟩) gives_tOf hjs⟩
theorem psd_setC {N : List Str} {nl i : Nat} (n : Nat) {y : Str} {js : List Nat} {scope : Scope} {cl : List (Str × Addr)} {elt iter : Expr} {ifs : List Expr} {x : Str} {px pos spos py : Pos} {it : En → Option (List D)} {c : En → Option Bool} {g : FE}
    (hN : X.N.Nodup) (hc : X.calm = true) (ok : CompOk X N nl js scope cl) (hi : PID X (.Name x px) iter it) (hin : i < nl) (hNd : N.Nodup) (hix : N[i]? = some x) (hx : scope.names.lookup x = some .local)
    (hjs : js.Nodup) (ht : ∀ C s₀ H₀ ex, PIfsD (compCx X N scope cl C s₀ H₀ ex) ifs c) (he : ∀ C s₀ H₀ ex, PD (compCx X N scope cl C s₀ H₀ ex) elt g)
    (hi' : X.N[n]? = some y := by rfl) (hy : Loc X.env.scope y := by first | exact Or.inl rfl | exact Or.inr rfl) (hyl : X.env.scope.names.lookup y = some .local := by rfl)
    (hsw : swapsWith (.ListComp elt [⟨.Name x px, iter, ifs, 0⟩] scope pos) (some (.Name y py)) spos.line X.env = pure true := by rfl)
    (hs : ∀ x, foldedSetIterable iter X.env x = pure x := by intro _; rfl) :
    PSD X (.Assign [.Name y py] (.ListComp elt [⟨.Name x px, iter, ifs, 0⟩] scope pos) spos) (sSet n (fPub (fComp nl js i it c g))) := by
  obtain ⟨t, p, k⟩ := ps_setcomp' hN hi' hy hyl hc ok hi hin hNd hix hx hjs ht he hsw hs
  exact ⟨_, p, givesS_set n k⟩
end
end L2
set_option Elab.async false
set_option linter.all false
set_option maxRecDepth 100000
set_option maxHeartbeats 4000000
namespace L2
open PySem PySem.Spec PyProof.Rows
open Classical in
def startS (N : List Str) (xs : List Sl) : En := xs.map some ++ List.replicate (N.length - xs.length) none
theorem RepS.more {K : PySem.W.Frag} {B G H : Hp} {δ : En} {σ : St} (r : RepS K B G H δ σ) (k : Nat) : RepS K B G H (δ ++ List.replicate k none) (σ ++ List.replicate k none) := by
  have key : ∀ (i : Nat) (x : Sl), (δ ++ List.replicate k none)[i]? = some (some x) → δ[i]? = some (some x) ∧ i < σ.length := fun i x e => by
    by_cases hi : i < δ.length
    · rw [List.getElem?_append_left hi] at e; exact ⟨e, by rw [← r.len]; exact hi⟩
    · rw [List.getElem?_append_right (by omega), List.getElem?_replicate] at e
      split at e <;> cases e
  refine ⟨by simp [r.len], fun i x e => ?_, fun i j x y o o' hij e1 e2 => ?_⟩
  · obtain ⟨e1, hl⟩ := key i x e
    obtain ⟨v, h1, h2⟩ := r.at_ i x e1
    exact ⟨v, by rw [List.getElem?_append_left hl]; exact h1, h2⟩
  · obtain ⟨f1, l1⟩ := key i _ e1
    obtain ⟨f2, l2⟩ := key j _ e2
    rw [List.getElem?_append_left l1, List.getElem?_append_left l2]
    exact r.ap i j x y o o' hij f1 f2
section
variable {P : Program} {w : World} {K : PySem.W.Frag} {mg : Str → Option Value} {base : Heap}
end
inductive Ar where | own (j : Nat) | val (f : FE)
def putSl (q : Option Mo) (x : Option Sl) : Option Sl := match q, x with | some m', some (.pv _ o) => some (.pv m' o) | _, x => x
def putAt (q : Nat → Option Mo) : Nat → En → En
  | _, [] => []
  | k, x :: r => putSl (q k) x :: putAt q (k + 1) r
section
variable {X : Cx} {e : Expr} {es : List Expr} {f : FE} {ars : List Ar} {pos p : Pos}
end
end L2
set_option Elab.async false
set_option linter.all false
set_option maxRecDepth 100000
set_option maxHeartbeats 4000000
namespace L2
open PySem PySem.Spec PyProof.Rows
section
variable {K : PySem.W.Frag} {G : Hp} {δ : En} {σ : St}
end
open Classical in
section
variable {X : Cx} {e : Expr} {es : List Expr} {pos p : Pos} {ars : List Ar}
end
end L2
set_option Elab.async false
set_option linter.all false
set_option maxRecDepth 100000
set_option maxHeartbeats 4000000
namespace L2
open PySem PySem.Spec PyProof.Rows
section
variable {X : Cx} {e : Expr} {es : List Expr} {pos p : Pos}
theorem stp_new {B G G' H' : Hp} {a : Addr} {o : HO} (s : Stp B G G' H') (n : H' a = none) : Stp B G (upd G' a o) (upd H' a o) where
  g := s.g.trans (same_new _ (s.s.free n))
  s := s.s.upd o
  b := s.b.trans (same_new _ n)
  n := fun b u eB nG => by
    have hb : b ≠ a := fun z => by subst z; rw [s.b _ _ eB] at n; cases n
    rw [upd_ne hb]
    exact s.n b u eB nG
theorem RepS.new {K : PySem.W.Frag} {B G H : Hp} {δ : En} {σ : St} (rs : RepS K B G H δ σ) (sG : Same G H) {a : Addr} (n : H a = none) (o : HO) : RepS K B (L2.upd G a o) (L2.upd H a o) δ σ := by
  refine rs.grow ⟨same_new _ (sG.free n), same_new _ n, sG.upd o, fun b u e nG => ?_⟩
  have hb : b ≠ a := fun z => by subst z; rw [e] at n; cases n
  rw [upd_ne hb]
  exact nG
end
end L2
set_option Elab.async false
set_option linter.all false
set_option maxRecDepth 100000
set_option maxHeartbeats 4000000
namespace L2
open PySem PySem.Spec PyProof.Rows
def isPv : Option (Option Sl) → Bool | some (some (.pv _ _)) => true | _ => false
def isTk : Option (Option Sl) → Bool | some (some (.tk _ _ _)) => true | _ => false
section
variable {X : Cx} {e : Expr} {es : List Expr} {pos p : Pos}
end
end L2
set_option Elab.async false
set_option linter.all false
set_option maxRecDepth 100000
set_option maxHeartbeats 4000000
namespace L2
open PySem PySem.Spec PyProof.Rows
section
variable {X : Cx} {e : Expr} {es : List Expr} {pos p : Pos}
end
section
variable {X : Cx} {e : Expr} {es : List Expr} {pos p : Pos}
end
end L2
set_option Elab.async false
set_option linter.all false
set_option maxRecDepth 100000
set_option maxHeartbeats 4000000
namespace L2
open PySem PySem.Spec PyProof.Rows
section
variable {X : Cx} {e : Expr} {es : List Expr} {pos p : Pos}
def setAll : List Nat → List D → En → En
  | i :: is, d :: ds, δ => setAll is ds (δ.set i (some (.sh d)))
  | _, _, δ => δ
@[simp] def sUnp (is : List Nat) (f : FX) : FS := fun δ => (f δ).bind fun r => match r.1 with | .tup ds => if ds.length = is.length then some (.nx (setAll is ds r.2)) else none | _ => none
theorem psd_unp3 (i j l : Nat) {x y z : Str} {f : FX} {px py pz pt : Pos} {k : Nat} (hN : X.N.Nodup) (hc : X.calm = true) (he : PX X e f)
    (hix : X.N[i]? = some x := by rfl) (hx : Loc X.env.scope x := by first | exact Or.inl rfl | exact Or.inr rfl) (hfx : X.fn x = true ∨ X.env.scope.names.lookup x = some .local := by first | exact .inl rfl | exact .inr rfl)
    (hjy : X.N[j]? = some y := by rfl) (hy : Loc X.env.scope y := by first | exact Or.inl rfl | exact Or.inr rfl) (hfy : X.fn y = true ∨ X.env.scope.names.lookup y = some .local := by first | exact .inl rfl | exact .inr rfl)
    (hlz : X.N[l]? = some z := by rfl) (hz : Loc X.env.scope z := by first | exact Or.inl rfl | exact Or.inr rfl) (hfz : X.fn z = true ∨ X.env.scope.names.lookup z = some .local := by first | exact .inl rfl | exact .inr rfl)
    (hs : swapsWithSole [.Tuple [.Name x px, .Name y py, .Name z pz] k pt] e pos.line X.env = pure false := by rfl) (hw : swappedStores [.Tuple [.Name x px, .Name y py, .Name z pz] k pt] e X.env = pure none := by rfl)
    (h1 : (assignEach [.Tuple [.Name x px, .Name y py, .Name z pz] k pt] X.env).map (·.2) = [assign (.Tuple [.Name x px, .Name y py, .Name z pz] k pt) X.env] := by rfl)
    (ht1 : (assignEach [.Name x px, .Name y py, .Name z pz] X.env).map (·.2) = assign (.Name x px) X.env :: (assignEach [.Name y py, .Name z pz] X.env).map (·.2) := by rfl)
    (ht2 : (assignEach [.Name y py, .Name z pz] X.env).map (·.2) = assign (.Name y py) X.env :: (assignEach [.Name z pz] X.env).map (·.2) := by rfl)
    (ht3 : (assignEach [.Name z pz] X.env).map (·.2) = assign (.Name z pz) X.env :: (assignEach [] X.env).map (·.2) := by rfl)
    (hn : (assignEach [.Name x px, .Name y py, .Name z pz] X.env).length = 3 := by rfl) (hst : (assignEach [.Name x px, .Name y py, .Name z pz] X.env).findIdx? (·.1) = none := by rfl) :
    PSD X (.Assign [.Tuple [.Name x px, .Name y py, .Name z pz] k pt] e pos) (sUnp [i, j, l] f) := by
  obtain ⟨t, pt', kt⟩ := he
  refine ⟨_, ps_asg pt' (pg_tup (n := 3) hc (pgs_cons (pg_name hN hix hx hfx) (pgs_cons (pg_name hN hjy hy hfy) (pgs_cons (pg_name hN hlz hz hfz) pgs_nil ht3) ht2) ht1) hn hst) hs hw h1, fun B G H δ σ o D sG sB rs e w => ?_⟩
  unfold sUnp at e
  obtain ⟨⟨d, δ1⟩, e1, e⟩ := Option.bind_eq_some_iff.mp e
  dsimp only at e
  split at e
  · rename_i ds
    split at e
    · rename_i hl
      cases e
      refine kt B G H δ σ _ δ1 _ sG sB rs e1 fun v G1 H1 s1 rs1 r1 => ?_
      simp only [Rep] at r1
      obtain ⟨a, vs, rfl, hq, rl⟩ := r1
      match ds, hl, rl with
      | [d1, d2, d3], _, rl =>
        simp only [RepL] at rl
        obtain ⟨v1, r, rfl, q1, v2, r', rfl, q2, v3, r3, rfl, q3, rfl⟩ := rl
        exact ⟨a, [v1, v2, v3], rfl, s1.s.sqT hq, rfl, v1, [v2, v3], rfl, v2, [v3], rfl, v3, [], rfl, rfl, w _ G1 H1 s1 (((rs1.set i q1).set j q2).set l q3)⟩
    · cases e
  · cases e
def rInDc (neg : Bool) : R2 := fun x y H Q => ∃ a o, y = .ref a ∧ DGet H a x o ∧ Q (.bl (if neg then !o.isSome else o.isSome)) H
theorem op_inDc (hu : X.A.units + 20 < cLine) : OpR X (compareOp .In) (rInDc false) := by
  intro pins s σ H x y v u Q I rx ry h
  obtain ⟨a, o, rfl, g, q⟩ := h
  cases ry
  exact d_in (by omega) I g rx fun s' I' => ⟨.bl _, H, I', rfl, q⟩
theorem op_notinDc (hu : X.A.units + 20 < cLine) : OpR X (compareOp .NotIn) (rInDc true) := by
  intro pins s σ H x y v u Q I rx ry h
  obtain ⟨a, o, rfl, g, q⟩ := h
  cases ry
  exact d_notIn (by omega) I g rx fun s' I' => ⟨.bl _, H, I', rfl, q⟩
def inDc (neg : Bool) : D → D → Option D
  | x, .dic ks ds => (keyD x).map fun k => .bl (if neg then !(valD ks ds k).isSome else (valD ks ds k).isSome)
  | _, _ => none
theorem od_inDc' {f : Value → Value → Sem Value} {neg : Bool} (h : OpR X f (rInDc neg)) : OpD X f (inDc neg) := by
  refine ⟨_, h, fun G H x y v u d Q sG rx ry e k => ?_⟩
  unfold inDc at e
  split at e
  · rename_i x' ks ds
    obtain ⟨kk, e1, rfl⟩ := Option.map_eq_some_iff.mp e
    obtain ⟨a, vs, rfl, hd, hl, nd, rl⟩ := ry.dic sG
    have := keyD_rep e1 rx
    subst this
    refine ⟨a, valV (ks.zip vs) kk, rfl, .inl ⟨_, kk, hd, rfl, rfl⟩, ?_⟩
    have hs : (valV (ks.zip vs) kk).isSome = (valD ks ds kk).isSome := by
      cases ed : valD ks ds kk with
      | none => rw [(valD_rep kk hl rl).2 ed]; rfl
      | some y => obtain ⟨w', e3, _⟩ := (valD_rep kk hl rl).1 y ed; rw [e3]; rfl
    rw [hs]
    exact k _ G H (Grow.refl sG) (by simp [Rep])
  · cases e
theorem od_inAll (hu : X.A.units + 20 < cLine) : OpD X (compareOp .In) (fun x y => (inD false x y).or (inDc false x y)) := od_in.or (od_inDc' (op_inDc hu))
theorem od_notinAll (hu : X.A.units + 20 < cLine) : OpD X (compareOp .NotIn) (fun x y => (inD true x y).or (inDc true x y)) := od_notin.or (od_inDc' (op_notinDc hu))
end
end L2
set_option Elab.async false
set_option linter.all false
set_option maxRecDepth 100000
set_option maxHeartbeats 4000000
namespace L2
open PySem PySem.Spec PyProof.Rows
theorem eqV_congr {a b x : V} (h : eqV a b = true) : eqV a x = eqV b x := by
  cases a <;> cases b <;> simp only [eqV, Bool.false_eq_true, beq_iff_eq] at h <;> first | rfl | (cases x <;> simp_all [eqV]) | skip
  all_goals (try (cases h))
  all_goals (rename_i b1 b2; cases b1 <;> cases b2 <;> rfl)
theorem eqA_tup {xs : List D} {y : D} (h : eqA (.tup xs) y = true) : ∃ ys, y = .tup ys ∧ eqAs xs ys = true := by
  cases y with
  | tup ys => exact ⟨ys, rfl, by simpa only [eqA] using h⟩
  | _ => simp [eqA] at h
theorem eqA_lst {xs : List D} {y : D} (h : eqA (.lst xs) y = true) : ∃ ys, y = .lst ys ∧ eqAs xs ys = true := by
  cases y with
  | lst ys => exact ⟨ys, rfl, by simpa only [eqA] using h⟩
  | _ => simp [eqA] at h
theorem eqA_congr : ∀ (n : Nat) {a b x : D}, plainN n a = true → plainN n b = true → plainN n x = true → eqA a b = true → eqA a x = eqA b x := by
  intro n
  have flatc : ∀ {a b x : D}, flatD a = true → eqA a b = true → flatD b = true := fun {a b x} ha h => by
    cases a <;> first | exact absurd ha Bool.false_ne_true | (cases b <;> first | rfl | (simp [eqA, flatD] at h))
  have fc : ∀ {a b x : D}, flatD a = true → eqA a b = true → eqA a x = eqA b x := fun {a b x} ha h => by
    have hb : flatD b = true := flatc (x := x) ha h
    rw [eqA_flat ha hb] at h
    by_cases hx : flatD x = true
    · rw [eqA_flat ha hx, eqA_flat hb hx]
      exact eqV_congr h
    · have e1 : ∀ {c : D}, flatD c = true → eqA c x = false := fun {c} hc => by
        cases c <;> first | exact absurd hc Bool.false_ne_true | (cases x <;> first | (exact absurd rfl hx) | simp [eqA, flatD])
      rw [e1 ha, e1 hb]
  induction n with
  | zero =>
    intro a b x pa pb px h
    refine fc ?_ h
    cases a <;> first | rfl | exact absurd pa Bool.false_ne_true
  | succ n ih =>
    intro a b x pa pb px h
    have lists : ∀ {xs ys zs : List D}, xs.all (plainN n) = true → ys.all (plainN n) = true → zs.all (plainN n) = true → eqAs xs ys = true → eqAs xs zs = eqAs ys zs := by
      intro xs
      induction xs with
      | nil =>
        intro ys zs _ _ _ h
        cases ys with
        | nil => rfl
        | cons y ys => simp [eqAs] at h
      | cons x xs ih2 =>
        intro ys zs p1 p2 p3 h
        cases ys with
        | nil => simp [eqAs] at h
        | cons y ys =>
          simp only [eqAs, Bool.and_eq_true] at h
          rw [List.all_cons, Bool.and_eq_true] at p1 p2
          cases zs with
          | nil => simp [eqAs]
          | cons z zs =>
            rw [List.all_cons, Bool.and_eq_true] at p3
            simp only [eqAs]
            rw [ih p1.1 p2.1 p3.1 h.1, ih2 p1.2 p2.2 p3.2 h.2]
    cases a with
    | tup xs =>
      obtain ⟨ys, rfl, h⟩ := eqA_tup h
      cases x with
      | tup zs => simp only [eqA]; exact lists pa pb px h
      | _ => simp [eqA]
    | lst xs =>
      obtain ⟨ys, rfl, h⟩ := eqA_lst h
      cases x with
      | lst zs => simp only [eqA]; exact lists pa pb px h
      | _ => simp [eqA]
    | dic ks xs => cases pa
    | _ => exact fc rfl h
section
variable {X : Cx}
theorem relV_inj {v v' : V} {u : Value} (h : RelV v u) (h' : RelV v' u) : v = v' := by
  cases v <;> cases v' <;> simp only [RelV] at h h' <;> first | rfl | (subst h; cases h'; done) | (subst h; cases h'; rfl) | (obtain ⟨t, rfl⟩ := h; obtain ⟨t', e⟩ := h'; cases e; rfl) | (obtain ⟨t, rfl⟩ := h; cases h'; done) | (obtain ⟨t, rfl⟩ := h; obtain ⟨t', e⟩ := h'; cases e; done) | (obtain ⟨t, rfl⟩ := h'; cases h; done)
def inA (x : D) (ds : List D) : Bool := ds.any fun d => eqA d x
open Classical in
noncomputable def firstD : List Value → List D → Value → D
  | u :: us, d :: ds, w => if u = w then d else firstD us ds w
  | _, _, _ => .non
theorem firstD_spec {K : PySem.W.Frag} {H : Hp} : ∀ {ds : List D} {vs : List V} {us : List Value}, RepL K H ds vs → Vals vs us → ∀ w ∈ us, ∃ v, firstD us ds w ∈ ds ∧ Rep K H (firstD us ds w) v ∧ RelV v w
  | [], _, _, r, v => fun w hw => by simp only [RepL] at r; subst r; cases v; cases hw
  | d :: ds, _, _, r, v => fun w hw => by
    simp only [RepL] at r
    obtain ⟨v0, vr, rfl, r0, rl⟩ := r
    cases v with
    | cons rv rvs =>
      rename_i u us
      unfold firstD
      split
      · rename_i e
        subst e
        exact ⟨v0, List.mem_cons_self, r0, rv⟩
      · rename_i hne
        rcases List.mem_cons.mp hw with rfl | hw
        · exact absurd rfl hne
        · obtain ⟨v, h1, h2, h3⟩ := firstD_spec rl rvs w hw
          exact ⟨v, List.mem_cons_of_mem _ h1, h2, h3⟩
theorem any_first {pins : List (Addr × Obj)} {σ : St} {H : Hp} {s : Shared} (I : Inv X pins σ H s) {x : D} (px : plainN 8 x = true) {ds : List D} {vs : List V} {us : List Value} (pd : ds.all (plainN 8) = true) (r : RepL X.K H ds vs) (v : Vals vs us) :
    us.any (fun w => eqA (firstD us ds w) x) = inA x ds := by
  have key : ∀ (i : Nat) (d : D) (w : Value), ds[i]? = some d → us[i]? = some w → eqA (firstD us ds w) x = eqA d x := fun i d w ed ew => by
    obtain ⟨v1, h1, h2, h3⟩ := firstD_spec r v w (List.mem_of_getElem? ew)
    obtain ⟨v2, g1, g2⟩ := r.get ed
    obtain ⟨u2, k1, k2⟩ := v.get g1
    rw [ew] at k1
    cases k1
    have := relV_inj h3 k2
    subst this
    have p1 := List.all_eq_true.mp pd _ h1
    have p2 := List.all_eq_true.mp pd _ (List.mem_of_getElem? ed)
    exact eqA_congr 8 p1 p2 px (eqA_same I 8 p1 p2 h2 g2)
  have hl : ds.length = us.length := r.length.trans v.length
  unfold inA
  rw [Bool.eq_iff_iff, List.any_eq_true, List.any_eq_true]
  constructor
  · rintro ⟨w, hw, e⟩
    obtain ⟨i, hi⟩ := List.mem_iff_getElem?.mp hw
    have hlt := (List.getElem?_eq_some_iff.mp hi).1
    have hd : ds[i]? = some ds[i] := List.getElem?_eq_getElem (by omega)
    exact ⟨ds[i], List.getElem_mem _, by rw [← key i _ w hd hi]; exact e⟩
  · rintro ⟨d, hd, e⟩
    obtain ⟨i, hi⟩ := List.mem_iff_getElem?.mp hd
    have hlt := (List.getElem?_eq_some_iff.mp hi).1
    have hw : us[i]? = some us[i] := List.getElem?_eq_getElem (by omega)
    exact ⟨us[i], List.getElem_mem _, by rw [key i d _ hi hw]; exact e⟩
def rInA (K : PySem.W.Frag) (neg : Bool) : R2 := fun v u H Q => ∃ x ds, Rep K H x v ∧ (Rep K H (.lst ds) u ∨ Rep K H (.tup ds) u) ∧ plainN 8 x = true ∧ ds.all (plainN 8) = true ∧ Q (.bl (if neg then !inA x ds else inA x ds)) H
theorem op_inA (hu : X.A.units + 20 < cLine) : OpR X (compareOp .In) (rInA X.K false) := by
  intro pins s σ H y z v u Q I ry rz h
  obtain ⟨x, ds, r1, r2, p1, p2, q⟩ := h
  rcases r2 with r2 | r2
  · simp only [Rep] at r2
    obtain ⟨b, us, rfl, h3, h4⟩ := r2
    cases rz
    obtain ⟨its, rv, pl, hz⟩ := I.list h3
    refine SeqAt.in_listAt (fun w => eqA (firstD its ds w) x) pl.isList (fun w hw => ?_) ⟨.bl _, H, I, rfl, ?_⟩
    · obtain ⟨v1, g1, g2, g3⟩ := firstD_spec h4 rv w (by simpa using hw)
      exact eqAt_A I 8 (List.all_eq_true.mp p2 _ g1) p1 g2 r1 g3 ry (by rw [in1_units]; omega)
    · rw [show its.toArray.any (fun w => eqA (firstD its ds w) x) = its.any (fun w => eqA (firstD its ds w) x) by simp, any_first I p1 p2 h4 rv]
      exact q
  · simp only [Rep] at r2
    obtain ⟨b, us, rfl, h3, h4⟩ := r2
    cases rz
    obtain ⟨its, rv, pl, hz⟩ := I.tuple h3
    refine SeqAt.in_tupleAt (fun w => eqA (firstD its ds w) x) pl (fun w hw => ?_) ⟨.bl _, H, I, rfl, ?_⟩
    · obtain ⟨v1, g1, g2, g3⟩ := firstD_spec h4 rv w (by simpa using hw)
      exact eqAt_A I 8 (List.all_eq_true.mp p2 _ g1) p1 g2 r1 g3 ry (by rw [in1_units]; omega)
    · rw [show its.toArray.any (fun w => eqA (firstD its ds w) x) = its.any (fun w => eqA (firstD its ds w) x) by simp, any_first I p1 p2 h4 rv]
      exact q
theorem op_notinA (hu : X.A.units + 20 < cLine) : OpR X (compareOp .NotIn) (rInA X.K true) := by
  intro pins s σ H y z v u Q I ry rz h
  obtain ⟨x, ds, r1, r2, p1, p2, q⟩ := h
  rcases r2 with r2 | r2
  · simp only [Rep] at r2
    obtain ⟨b, us, rfl, h3, h4⟩ := r2
    cases rz
    obtain ⟨its, rv, pl, hz⟩ := I.list h3
    refine SeqAt.notIn_listAt (fun w => eqA (firstD its ds w) x) pl.isList (fun w hw => ?_) ⟨.bl _, H, I, rfl, ?_⟩
    · obtain ⟨v1, g1, g2, g3⟩ := firstD_spec h4 rv w (by simpa using hw)
      exact eqAt_A I 8 (List.all_eq_true.mp p2 _ g1) p1 g2 r1 g3 ry (by rw [in1_units]; omega)
    · rw [show its.toArray.any (fun w => eqA (firstD its ds w) x) = its.any (fun w => eqA (firstD its ds w) x) by simp, any_first I p1 p2 h4 rv]
      exact q
  · simp only [Rep] at r2
    obtain ⟨b, us, rfl, h3, h4⟩ := r2
    cases rz
    obtain ⟨its, rv, pl, hz⟩ := I.tuple h3
    refine SeqAt.notIn_tupleAt (fun w => eqA (firstD its ds w) x) pl (fun w hw => ?_) ⟨.bl _, H, I, rfl, ?_⟩
    · obtain ⟨v1, g1, g2, g3⟩ := firstD_spec h4 rv w (by simpa using hw)
      exact eqAt_A I 8 (List.all_eq_true.mp p2 _ g1) p1 g2 r1 g3 ry (by rw [in1_units]; omega)
    · rw [show its.toArray.any (fun w => eqA (firstD its ds w) x) = its.any (fun w => eqA (firstD its ds w) x) by simp, any_first I p1 p2 h4 rv]
      exact q
def inAD (neg : Bool) : D → D → Option D
  | x, .lst ds => if plainN 8 x = true ∧ ds.all (plainN 8) = true then some (.bl (if neg then !inA x ds else inA x ds)) else none
  | x, .tup ds => if plainN 8 x = true ∧ ds.all (plainN 8) = true then some (.bl (if neg then !inA x ds else inA x ds)) else none
  | _, _ => none
theorem od_inA' {f : Value → Value → Sem Value} {neg : Bool} (h : OpR X f (rInA X.K neg)) : OpD X f (inAD neg) := by
  refine ⟨_, h, fun G H x y v u d Q sG rx ry e k => ?_⟩
  unfold inAD at e
  split at e
  · split at e
    · rename_i hp
      cases e
      exact ⟨x, _, rx.all sG, .inl (ry.all sG), hp.1, hp.2, k _ G H (Grow.refl sG) (by simp [Rep])⟩
    · cases e
  · split at e
    · rename_i hp
      cases e
      exact ⟨x, _, rx.all sG, .inr (ry.all sG), hp.1, hp.2, k _ G H (Grow.refl sG) (by simp [Rep])⟩
    · cases e
  · cases e
def inE (neg : Bool) (x y : D) : Option D := (inAD neg x y).or ((inD neg x y).or (inDc neg x y))
theorem od_inE (hu : X.A.units + 20 < cLine) : OpD X (compareOp .In) (inE false) := (od_inA' (op_inA hu)).or (od_inAll hu)
theorem od_notinE (hu : X.A.units + 20 < cLine) : OpD X (compareOp .NotIn) (inE true) := (od_inA' (op_notinA hu)).or (od_notinAll hu)
end
end L2
set_option Elab.async false
set_option linter.all false
set_option maxRecDepth 100000
set_option maxHeartbeats 4000000
namespace L2
open PySem PySem.Spec PyProof.Rows
open PySem.AutoSeq1 (wpAny_loadPart')
open PySem.MeetsSeq PySem.MeetsSeq2 PySem.MeetsSeq3 PySem.SeqAt
def EqP (pr : Program) (w : World) (A : Around) (s : Shared) (u v : Value) (c : Bool) : Prop := ∀ (E : Value → Shared → Prop) (Q : Bool → Shared → Prop), Q c s → wpAny (model pr w) A (eqBool u v) Q E s
abbrev lstObj (d : Option Addr) (xs : Array Value) (n : Nat) (sl : Array (Option Value)) : Obj := { cls := .type "list", dict := d, data := .seq xs n, slots := sl }
theorem ne_loopP {pr : Program} {w : World} (p q : Addr) (xs ys : Array Value) (n m : Nat) (d1 d2 : Option Addr) (s1 s2 : Array (Option Value)) (hz : xs.size = ys.size) (e : Nat → Bool) (k : Nat) :
    ∀ i : Nat, xs.size - i = k → ∀ (A : Around) (R : Result → Shared → Prop) (s : Shared), s.heap.get? p = some (lstObj d1 xs n s1) → s.heap.get? q = some (lstObj d2 ys m s2) →
      (∀ j (h1 : j < xs.size) (h2 : j < ys.size), EqP pr w A.in1 s xs[j] ys[j] (e j)) → R (.ok (.ret (.bool (!((List.range xs.size).drop i).all e)))) s →
      wpAny (model pr w) A.in1 (Builtin.«list.__eq__.loop» ⟨[.ref p, .ref q, rawInt i, rawInt 3], []⟩)
        (fun fin s' => match fin with | .done f => R (.ok f) s' | .again c' => c'.quiet = true ∧ codeAny (model pr w) A c' R s') (fun e s' => R (.error e) s') s := by
  induction k with
  | zero =>
    intro i hk A R s hp hq he h
    obtain ⟨hh, g, d, tk, os⟩ := s
    wp_walk using wpAny_loadPart' hp, wpAny_loadPart' hq
    have z1 : xs[((i : Nat) : Int).toNat]? = none := by simp; omega
    have z2 : ys[((i : Nat) : Int).toNat]? = none := by simp; omega
    have zd : (List.range xs.size).drop i = [] := by simp; omega
    rw [zd] at h
    rw [z1, z2]
    wp_walk using wpAny_loadPart' hp, wpAny_loadPart' hq
    show R (.ok (.ret (.bool (xs.size != ys.size)))) _
    rw [hz]
    simpa using h
  | succ k ih =>
    intro i hk A R s hp hq he h
    obtain ⟨hh, g, d, tk, os⟩ := s
    wp_walk using wpAny_loadPart' hp, wpAny_loadPart' hq
    have l1 : i < xs.size := by omega
    have l2 : i < ys.size := by omega
    have z1 : xs[((i : Nat) : Int).toNat]? = some xs[i] := by simp [l1]
    have z2 : ys[((i : Nat) : Int).toNat]? = some ys[i] := by simp [l2]
    have zd : (List.range xs.size).drop i = i :: (List.range xs.size).drop (i + 1) := by simp [List.drop_eq_getElem_cons, l1]
    have zc : ((i : Int) + 1) = ((i + 1 : Nat) : Int) := by push_cast; rfl
    rw [zd, List.all_cons] at h
    rw [z1, z2]
    refine wpAny_bind (he i l1 l2 _ _ ?_)
    cases ei : e i with
    | true =>
      rw [ei] at h
      wp_walk
      rw [zc]
      exact ⟨plainId_quiet plain_eq_loop _, codeAny_builtin entry_eq_loop (by rw [Around.under_plainId plain_eq_loop _]; exact ih (i + 1) (by omega) A R _ hp hq he (by simpa using h))⟩
    | false =>
      rw [ei] at h
      wp_walk using wpAny_loadPart' hp, wpAny_loadPart' hq
      rw [z1, z2]
      wp_walk
      simpa using h
theorem ne_listP {pr : Program} {w : World} {A : Around} {E : Value → Shared → Prop} {s : Shared} {p q : Addr} {xs ys : Array Value} {e : Nat → Bool} {Q : Value → Shared → Prop} (hl : s.heap.IsList p xs) (hb : s.heap.IsList q ys) (hz : xs.size = ys.size) (hu : A.units < cLine)
    (he : ∀ j (h1 : j < xs.size) (h2 : j < ys.size), EqP pr w A.in1 s xs[j] ys[j] (e j)) (h : Q (.bool (!(List.range xs.size).all e)) s) : wpAny (model pr w) A (compareOp .NotEq (.ref p) (.ref q)) Q E s := by
  obtain ⟨⟨c1, d1, dt1, s1⟩, ho, hc, n, hd⟩ := id hl
  obtain ⟨⟨c2, d2, dt2, s2⟩, ho2, hc2, m, hd2⟩ := id hb
  simp only at hc hd hc2 hd2
  subst hc hd hc2 hd2
  refine wpAny_richCompare_same_room (op := .NotEq) ⟨_, ho, rfl⟩ ⟨_, ho2, rfl⟩ PySem.F.slot_list_ne (wpAny_call (codeAny_call_builtin PySem.F.slot_list_ne.plain PySem.F.entry_list_ne (PySem.F.slot_list_ne.check _ _ _ _ _ _ _ _ ⟨_, ho, rfl⟩ (PySem.F.args_list_ne_2 _ _) ?_))) hu
  obtain ⟨hh, g, d, tk, os⟩ := s
  have f3 := PySem.AutoSeq1.sub_list_list
  have hne : ¬ (xs.size != ys.size) = true := by simp [hz]
  wp_walk using wpAny_loadPart' ho, wpAny_loadPart' ho2
  exact ⟨plainId_quiet plain_eq_loop _, codeAny_builtin entry_eq_loop (by rw [Around.under_plainId plain_eq_loop _]; exact ne_loopP p q xs ys n m d1 d2 s1 s2 hz e _ 0 rfl A (PySem.wants (fun v s' => v ≠ .notImplemented ∧ Q v s') E) _ ho ho2 he (show Value.bool (!((List.range xs.size).drop 0).all e) ≠ Value.notImplemented ∧ Q (.bool (!((List.range xs.size).drop 0).all e)) _ from ⟨(fun z => nomatch z), by simpa using h⟩))⟩
def itemOk : D → D → Bool
  | .dic _ xs, .dic _ ys => xs.all (plainN 8) && ys.all (plainN 8)
  | x, y => plainN 8 x && plainN 8 y
def eqI : D → D → Bool
  | .dic ks xs, .dic ls ys => eqDic ks xs ls ys
  | x, y => eqA x y
def itemsOk : List D → List D → Bool
  | x :: xs, y :: ys => itemOk x y && itemsOk xs ys
  | [], [] => true
  | _, _ => false
def eqIs : List D → List D → Bool
  | x :: xs, y :: ys => eqI x y && eqIs xs ys
  | [], [] => true
  | _, _ => false
theorem itemsOk_len : ∀ {xs ys : List D}, itemsOk xs ys = true → xs.length = ys.length
  | [], [], _ => rfl
  | x :: xs, y :: ys, h => by
    simp only [itemsOk, Bool.and_eq_true] at h
    simp [itemsOk_len h.2]
  | [], _ :: _, h => by cases h
  | _ :: _, [], h => by cases h
theorem itemsOk_get : ∀ {xs ys : List D} {j : Nat} {x y : D}, itemsOk xs ys = true → xs[j]? = some x → ys[j]? = some y → itemOk x y = true
  | [], _, j, x, y, _, e, _ => by simp at e
  | _ :: _, [], j, x, y, h, _, _ => by cases h
  | a :: xs, b :: ys, j, x, y, h, e1, e2 => by
    simp only [itemsOk, Bool.and_eq_true] at h
    cases j with
    | zero => simp at e1 e2; subst e1 e2; exact h.1
    | succ j => exact itemsOk_get h.2 (by simpa using e1) (by simpa using e2)
theorem eqIs_all : ∀ {xs ys : List D}, itemsOk xs ys = true → eqIs xs ys = (List.range xs.length).all fun j => eqI (xs.getD j .non) (ys.getD j .non)
  | [], [], _ => rfl
  | x :: xs, y :: ys, h => by
    simp only [itemsOk, Bool.and_eq_true] at h
    simp only [eqIs]
    rw [eqIs_all h.2, List.length_cons, List.range_succ_eq_map, List.all_cons, List.all_map]
    rfl
  | [], _ :: _, h => by cases h
  | _ :: _, [], h => by cases h
theorem rd_inj {H : Hp} {a : Addr} {k1 k2 : List (Key × V)} (h1 : Rd H a (.dK k1)) (h2 : Rd H a (.dK k2)) : k1 = k2 := by
  rcases h1 with h1 | ⟨o1, h1⟩
  · rcases h2 with h2 | ⟨o2, h2⟩
    · rw [h1] at h2; cases h2; rfl
    · rw [h1] at h2; cases h2
  · rcases h2 with h2 | ⟨o2, h2⟩
    · rw [h1] at h2; cases h2
    · rw [h1] at h2; cases h2; rfl
section
variable {X : Cx} {pins : List (Addr × Obj)} {σ : St} {H : Hp} {s : Shared}
theorem zip_inj {α β : Type} : ∀ {as as' : List α} {bs bs' : List β}, as.length = bs.length → as'.length = bs'.length → as.zip bs = as'.zip bs' → as = as' ∧ bs = bs'
  | [], [], [], [], _, _, _ => ⟨rfl, rfl⟩
  | [], a :: as', [], b :: bs', _, _, e => by simp at e
  | a :: as, [], b :: bs, [], _, _, e => by simp at e
  | a :: as, a' :: as', b :: bs, b' :: bs', h1, h2, e => by
    simp only [List.zip_cons_cons, List.cons.injEq, Prod.mk.injEq] at e
    obtain ⟨r1, r2⟩ := zip_inj (by simpa using h1) (by simpa using h2) e.2
    exact ⟨by rw [e.1.1, r1], by rw [e.1.2, r2]⟩
theorem dic_same (I : Inv X pins σ H s) {ks ls : List Key} {xs ys : List D} {v : V} (p1 : xs.all (plainN 8) = true) (p2 : ys.all (plainN 8) = true) (r1 : Rep X.K H (.dic ks xs) v) (r2 : Rep X.K H (.dic ls ys) v) : eqDic ks xs ls ys = true := by
  simp only [Rep] at r1 r2
  obtain ⟨a, vs, rfl, h1, l1, n1, q1⟩ := r1
  obtain ⟨b, us, e, h2, l2, n2, q2⟩ := r2
  cases e
  obtain ⟨rfl, rfl⟩ := zip_inj (l1.trans q1.length) (l2.trans q2.length) (rd_inj h1 h2)
  unfold eqDic
  rw [Bool.and_eq_true, List.all_eq_true]
  refine ⟨by rw [q1.length, q2.length]; simp, fun kv hkv => ?_⟩
  have key : ∀ {ks : List Key} {xs ys : List D} {vs : List V}, ks.Nodup → RepL X.K H xs vs → RepL X.K H ys vs → xs.all (plainN 8) = true → ys.all (plainN 8) = true → ∀ kv ∈ ks.zip xs, ∃ y, valD ks ys kv.1 = some y ∧ eqA kv.2 y = true := by
    intro ks
    induction ks with
    | nil => intro xs ys vs _ _ _ _ _ kv h; simp at h
    | cons k0 ks ih =>
      intro xs ys vs hn a1 a2 b1 b2 kv h
      cases xs with
      | nil => simp at h
      | cons x xs =>
        simp only [RepL] at a1
        obtain ⟨v0, vr, rfl, a3, a4⟩ := a1
        cases ys with
        | nil => simp only [RepL] at a2; cases a2
        | cons y ys =>
          simp only [RepL] at a2
          obtain ⟨v1, vr', e, a5, a6⟩ := a2
          cases e
          rw [List.all_cons, Bool.and_eq_true] at b1 b2
          have hn' := List.nodup_cons.mp hn
          rw [List.zip_cons_cons] at h
          rcases List.mem_cons.mp h with rfl | h
          · exact ⟨y, by unfold valD; simp, eqA_same I 8 b1.1 b2.1 a3 a5⟩
          · obtain ⟨y', e1, e2⟩ := ih hn'.2 a4 a6 b1.2 b2.2 kv h
            have hk : kv.1 ∈ ks := (List.of_mem_zip h).1
            refine ⟨y', ?_, e2⟩
            unfold valD at e1 ⊢
            rw [List.zip_cons_cons, List.find?_cons]
            rw [show decide ((k0, y).1 = kv.1) = false from decide_eq_false fun z => hn'.1 (by rw [show k0 = kv.1 from z]; exact hk)]
            exact e1
  obtain ⟨y, e1, e2⟩ := key n1 q1 q2 p1 p2 kv hkv
  rw [e1]
  exact e2
theorem eqP_I (I : Inv X pins σ H s) {A : Around} (hu : A.units + 12 < cLine) {x y : D} {v v' : V} {u u' : Value} (ok : itemOk x y = true) (rx : Rep X.K H x v) (ry : Rep X.K H y v') (r : RelV v u) (r' : RelV v' u') : EqP X.prog X.w A s u u' (eqI x y) := by
  have plain : plainN 8 x = true → plainN 8 y = true → EqP X.prog X.w A s u u' (eqA x y) := fun p1 p2 E Q hq => eqAt_A I 8 p1 p2 rx ry r r' (by omega) X.prog X.w E Q hq
  cases x with
  | dic ks xs =>
    cases y with
    | dic ls ys =>
      simp only [itemOk, Bool.and_eq_true] at ok
      intro E Q hq
      have r1 := rx
      have r2 := ry
      obtain ⟨a, vs, ka, rfl, m1, d1, k1, l1, rl1, n1⟩ := dic_at I r1
      obtain ⟨b, us, kb, rfl, m2, d2, k2, l2, rl2, n2⟩ := dic_at I r2
      cases r
      cases r'
      by_cases hab : a = b
      · subst hab
        have e1 : eqI (.dic ks xs) (.dic ls ys) = true := dic_same I ok.1 ok.2 rx ry
        rw [e1] at hq
        exact (PySem.SeqAt.EqAt.same (.ref a) : PySem.SeqAt.EqAt A s (.ref a) (.ref a) true) X.prog X.w E Q hq
      · have hne : (Value.ref a == Value.ref b) ≠ true := fun z => hab (by have := eq_of_beq z; injection this)
        unfold eqBool
        refine wpAny_holding ?_
        refine wpAny_ite_split (fun z => absurd z hne) (fun _ => ?_)
        refine wpAny_bind (show wpAny (model X.prog X.w) A (compareOp .Eq (.ref a) (.ref b)) _ E s from ?_)
        refine PySem.W.keq_eq m1 m2 d1 d2 (by omega) (fun _ => hits_D I (by rw [in1_units]; omega) l2 rl2 ok.2 k2 l1 rl1 ok.1 k1) (wpAny_truthy_bool ?_)
        rw [n1, n2]
        exact hq
    | _ => simp [itemOk, plainN] at ok
  | _ =>
    cases y with
    | dic ls ys => simp [itemOk, plainN] at ok
    | _ => simp only [itemOk, Bool.and_eq_true] at ok; exact plain ok.1 ok.2
end
end L2
set_option Elab.async false
set_option linter.all false
set_option maxRecDepth 100000
set_option maxHeartbeats 4000000
namespace L2
open PySem PySem.Spec PyProof.Rows
section
variable {X : Cx}
def rNeI (K : PySem.W.Frag) : R2 := fun v u H Q => ∃ xs ys, Rep K H (.lst xs) v ∧ Rep K H (.lst ys) u ∧ itemsOk xs ys = true ∧ Q (.bl (!eqIs xs ys)) H
theorem op_neI (hu : X.A.units + 20 < cLine) : OpR X (compareOp .NotEq) (rNeI X.K) := by
  intro pins s σ H x y v u Q I rx ry h
  obtain ⟨xs, ys, r1, r2, ok, q⟩ := h
  simp only [Rep] at r1 r2
  obtain ⟨a, vs, rfl, h1, h2⟩ := r1
  obtain ⟨b, us, rfl, h3, h4⟩ := r2
  cases rx
  cases ry
  obtain ⟨its, v1, t1, _⟩ := I.list h1
  obtain ⟨its2, v2, t2, _⟩ := I.list h3
  have le := itemsOk_len ok
  have l1 : xs.length = its.length := h2.length.trans v1.length
  have l2 : ys.length = its2.length := h4.length.trans v2.length
  refine ne_listP (e := fun j => eqI (xs.getD j .non) (ys.getD j .non)) t1.isList t2.isList (by simp; omega) (by omega) (fun j z1 z2 => ?_) ?_
  · have j1 : j < xs.length := by simp at z1; omega
    have j2 : j < ys.length := by simp at z2; omega
    have e1 : xs[j]? = some (xs.getD j .non) := by rw [List.getD_eq_getElem?_getD, List.getElem?_eq_getElem j1]; rfl
    have e2 : ys[j]? = some (ys.getD j .non) := by rw [List.getD_eq_getElem?_getD, List.getElem?_eq_getElem j2]; rfl
    obtain ⟨w1, g1, q1⟩ := h2.get e1
    obtain ⟨w2, g2, q2⟩ := h4.get e2
    obtain ⟨u1, k1, k2⟩ := v1.get g1
    obtain ⟨u2, k3, k4⟩ := v2.get g2
    have t1 : its.toArray[j] = u1 := by
      obtain ⟨_, z⟩ := List.getElem?_eq_some_iff.mp k1
      simpa using z
    have t2 : its2.toArray[j] = u2 := by
      obtain ⟨_, z⟩ := List.getElem?_eq_some_iff.mp k3
      simpa using z
    rw [t1, t2]
    exact eqP_I I (by rw [in1_units]; omega) (itemsOk_get ok e1 e2) q1 q2 k2 k4
  · refine ⟨.bl _, H, I, rfl, ?_⟩
    rw [show its.toArray.size = xs.length by simp; omega, ← eqIs_all ok]
    exact q
def neI : D → D → Option D
  | .lst xs, .lst ys => if itemsOk xs ys = true then some (.bl (!eqIs xs ys)) else none
  | _, _ => none
theorem od_neI (hu : X.A.units + 20 < cLine) : OpD X (compareOp .NotEq) neI := by
  refine ⟨_, op_neI hu, fun G H x y v u d Q sG rx ry e k => ?_⟩
  unfold neI at e
  split at e
  · split at e
    · rename_i ok
      cases e
      exact ⟨_, _, rx.all sG, ry.all sG, ok, k _ G H (Grow.refl sG) (by simp [Rep])⟩
    · cases e
  · cases e
def neE (x y : D) : Option D := (eqO true x y).or (neI x y)
theorem od_neE (hu : X.A.units + 20 < cLine) : OpD X (compareOp .NotEq) neE := (od_neO hu).or (od_neI hu)
end
end L2
set_option Elab.async false
set_option linter.all false
set_option maxRecDepth 100000
set_option maxHeartbeats 4000000
namespace L2
open PySem PySem.Spec PyProof.Rows
end L2
set_option Elab.async false
set_option linter.all false
set_option maxRecDepth 100000
set_option maxHeartbeats 4000000
namespace L2
open PySem PySem.Spec PyProof.Rows
def Op {α : Type} (o : Option α) (R : α → Prop) : Prop := ∃ d, o = some d ∧ R d
def So (o : Option Out) (N : En → Prop) (T : Rs → En → Prop) : Prop := ∃ u, o = some u ∧ match u with | .nx δ => N δ | .rt r δ => T r δ | _ => False
theorem op_of {α : Type} {o : Option α} {d : α} {R : α → Prop} (e : o = some d) (h : R d) : Op o R := ⟨d, e, h⟩
theorem So.mono {o : Option Out} {N N' : En → Prop} {T T' : Rs → En → Prop} (h : So o N T) (k : ∀ δ, N δ → N' δ) (k' : ∀ r δ, T r δ → T' r δ) : So o N' T' := by
  obtain ⟨u, e, h⟩ := h
  refine ⟨u, e, ?_⟩
  cases u with
  | nx δ => exact k δ h
  | rt r δ => exact k' r δ h
  | bk δ => exact h
  | ct δ => exact h
  | ex c δ => exact h
def IsBl (R : Bool → Prop) : D → Prop | .bl b => R b | _ => False
def SetK (N : En → Prop) (δ : En) (i : Nat) (x : Sl) : Prop := N (δ.set i (some x))
theorem setK {N : En → Prop} {δ δ' : En} {i : Nat} {x : Sl} (e : δ.set i (some x) = δ') (k : N δ') : SetK N δ i x := by unfold SetK; rw [e]; exact k
theorem isBl_k {R : Bool → Prop} {b : Bool} (k : R b) : IsBl R (.bl b) := k
section
variable {f g h : FE} {fr : FR} {F F' : FS} {c c' : En → Option Bool} {δ : En} {i j : Nat} {ga : En → Option (List D)} {R : D → Prop} {Rr : Rs → Prop} {N : En → Prop} {T : Rs → En → Prop}
theorem op_f2 {o : D → D → Option D} (k : Op (f δ) fun x => Op (g δ) fun y => Op (o x y) R) : Op (f2 o f g δ) R := by
  obtain ⟨x, e1, y, e2, z, e3, k⟩ := k
  exact ⟨z, by unfold f2; rw [e1, Option.bind_some, e2, Option.bind_some, e3], k⟩
theorem op_varB {x : Sl} (e : δ[i]? = some (some x)) (k : R x.d) (h : x.ok = true := by rfl) : Op (fVarB i δ) R := ⟨x.d, by unfold fVarB; rw [e]; exact if_pos h, k⟩
theorem op_varBs {d : D} (e : δ[i]? = some (some (.sh d))) (k : R d) : Op (fVarB i δ) R := op_varB e k
theorem op_C {d : D} (k : R d) : Op (fC d δ) R := ⟨d, rfl, k⟩
theorem op_nil {R : List D → Prop} (k : R []) : Op (fNil δ) R := ⟨_, rfl, k⟩
theorem op_cons {R : List D → Prop} (k : Op (f δ) fun d => Op (ga δ) fun ds => R (d :: ds)) : Op (fCons f ga δ) R := by
  obtain ⟨x, e1, y, e2, k⟩ := k
  exact ⟨_, by unfold fCons; rw [e1, Option.bind_some, e2, Option.bind_some], k⟩
theorem op_callB {M : List D → Option D} (k : Op (ga δ) fun ds => Op (M ds) R) : Op (fCallB M ga δ) R := by
  obtain ⟨x, e1, y, e2, k⟩ := k
  exact ⟨_, by unfold fCallB; rw [e1, Option.bind_some, e2], k⟩
theorem op_sh (k : Op (f δ) fun d => Rr (.sh d)) : Op (fSh f δ) Rr := by
  obtain ⟨x, e1, k⟩ := k
  exact ⟨_, by unfold fSh; rw [e1]; rfl, k⟩
theorem op_fB {R : Bool → Prop} (k : Op (f δ) (IsBl R)) : Op (fB f δ) R := by
  obtain ⟨x, e1, k⟩ := k
  cases x with
  | bl b => exact ⟨b, by unfold fB; rw [e1], k⟩
  | _ => exact k.elim
theorem so_seq (k : So (F δ) (fun δ' => So (F' δ') N T) T) : So (sSeq F F' δ) N T := by
  obtain ⟨u, e, k⟩ := k
  cases u with
  | nx δ' => obtain ⟨w, e2, k⟩ := k; exact ⟨w, by unfold sSeq; rw [e]; exact e2, k⟩
  | rt r δ' => exact ⟨.rt r δ', by unfold sSeq; rw [e], k⟩
  | bk δ => exact k.elim
  | ct δ => exact k.elim
  | ex c δ => exact k.elim
theorem so_mid (P : En → Prop) {o : Option Out} (k : So o P T) (k' : ∀ δ', P δ' → N δ') : So o N T := k.mono k' fun _ _ h => h
theorem so_if (k : Op (c δ) fun x => if x = true then So (F δ) N T else So (F' δ) N T) : So (sIf c F F' δ) N T := by
  obtain ⟨x, e1, k⟩ := k
  cases x with
  | true => obtain ⟨y, e2, k⟩ := (show So (F δ) N T from k); exact ⟨y, by unfold sIf; rw [e1]; exact e2, k⟩
  | false => obtain ⟨y, e2, k⟩ := (show So (F' δ) N T from k); exact ⟨y, by unfold sIf; rw [e1]; exact e2, k⟩
theorem so_nil (k : N δ) : So (sNil δ) N T := ⟨_, rfl, k⟩
theorem so_set (k : Op (f δ) fun d => SetK N δ i (.sh d)) : So (sSet i f δ) N T := by
  obtain ⟨x, e1, k⟩ := k
  exact ⟨_, by unfold sSet; rw [e1]; rfl, k⟩
theorem so_ret (k : Op (fr δ) fun r => T r δ) : So (sRet fr δ) N T := by
  obtain ⟨x, e1, k⟩ := k
  exact ⟨_, by unfold sRet; rw [e1]; rfl, k⟩
theorem o_add {i j : Int} (k : R (.int (i + j))) : Op (addD (.int i) (.int j)) R := ⟨_, rfl, k⟩
theorem o_mul {i j : Int} (h : CMul i j) (k : R (.int (i * j))) : Op (mulD (.int i) (.int j)) R := ⟨_, by show (if CMul i j then _ else _) = _; rw [if_pos h], k⟩
theorem o_mod {i j : Int} (h : 0 < j) (k : R (.int (i % j))) : Op (modD (.int i) (.int j)) R := ⟨_, by show (if 0 < j then _ else _) = _; rw [if_pos h], k⟩
theorem o_gt {i j : Int} (k : R (.bl (decide (j < i)))) : Op (gtD (.int i) (.int j)) R := ⟨_, rfl, k⟩
theorem o_lenL {xs : List D} (k : R (.int xs.length)) : Op (lenD [.lst xs]) R := ⟨_, rfl, k⟩
theorem o_ixL {xs : List D} {k : Nat} {x : D} (e : xs[k]? = some x) (q : R x) : Op (ixA (.lst xs) (.int k)) R := ⟨x, atI_nat e, q⟩
theorem o_ixLm {xs : List D} {i : Int} (h0 : 0 ≤ i) (h1 : i < xs.length) (q : ∀ x ∈ xs, R x) : Op (ixA (.lst xs) (.int i)) R := by
  obtain ⟨n, rfl⟩ : ∃ n : Nat, i = n := ⟨i.toNat, by omega⟩
  have hn : n < xs.length := by omega
  exact o_ixL (List.getElem?_eq_getElem hn) (q _ (List.getElem_mem hn))
theorem op_runE {N : List Str} {n : Nat} {fb : FS} {ds : List D} {R : Rs → Prop} {δ : En} (hl : ds.length = n) (hs : startD N ds = δ) (k : So (fb δ) (fun _ => R (.sh .non)) fun r _ => R r) : Op (runF N n fb ds) R := by
  subst hs
  obtain ⟨u, e, k⟩ := k
  cases u with
  | nx δ => exact ⟨_, by unfold runF; rw [if_pos hl, e], k⟩
  | rt r δ' => exact ⟨_, by unfold runF; rw [if_pos hl, e], k⟩
  | bk δ => exact k.elim
  | ct δ => exact k.elim
  | ex c δ => exact k.elim
end
end L2
local macro_rules | `(tactic| walk_at "wp1") => `(tactic| first
  | with_reducible refine L2.so_retX ?_
  | with_reducible refine L2.so_unp ?_
  | with_reducible refine L2.op_xFst ?_
  | with_reducible refine L2.op_xNil ?_
  | with_reducible refine L2.op_xCons ?_
  | with_reducible refine L2.op_xTup ?_
  | with_reducible refine L2.op_xCallG ?_
  | with_reducible refine L2.op_xCallT ?_
  | with_reducible refine L2.op_xCallM ?_
  | with_reducible refine L2.op_callM1 ?_
  | with_reducible refine L2.op_xComp ?_
  | ((with_reducible refine L2.so_ext (ds := ?ds) (o := ?o) ?h ?_); case h => exact rfl)
  | ((with_reducible refine L2.so_lput (ds := ?ds) (o := ?o) ?h ?_); case h => exact rfl)
  | ((with_reducible refine L2.op_pop (ds := ?ds) (d := ?d) (o := ?o) ?h ?_); case h => exact rfl)
  | with_reducible refine L2.so_seq ?_
  | with_reducible refine L2.so_set ?_
  | with_reducible refine L2.so_setR ?_
  | with_reducible refine L2.so_setX ?_
  | with_reducible refine L2.so_ret ?_
  | with_reducible refine L2.so_nil ?_
  | with_reducible refine L2.so_for ?_
  | with_reducible refine L2.so_forZ ?_
  | ((with_reducible refine L2.so_retVs (d := ?d) ?h ?_); case h => exact rfl)
  | ((with_reducible refine L2.so_retVp (o := ?o) (m := ?m) ?h ?_); case h => exact rfl)
  | ((with_reducible refine L2.so_app (o := ?o) (ds := ?ds) ?h ?_); case h => exact rfl)
  | ((with_reducible refine L2.so_dput (o := ?o) (ks := ?ks) (ds := ?ds) ?h ?_); case h => exact rfl)
  | ((with_reducible refine L2.setK (δ' := ?δ2) ?h ?_); case h => dsimp only [List.set]; exact rfl)
  | with_reducible refine L2.setR_sh ?_
  | with_reducible refine L2.setR_fr ?_
  | with_reducible refine L2.pub_sh ?_
  | with_reducible refine L2.pub_l ?_
  | with_reducible refine L2.pub_d ?_
  | with_reducible refine L2.ite_t ?_
  | with_reducible refine L2.ite_f ?_
  | ((with_reducible refine L2.ite_rt ?h ?_); case h => exact rfl)
  | ((with_reducible refine L2.ite_rf ?h ?_); case h => exact rfl)
  | with_reducible refine L2.isBl_k ?_
  | with_reducible refine L2.isIn_k ?_
  | with_reducible refine L2.isSq_l ?_
  | with_reducible refine L2.isSq_t ?_
  | with_reducible refine L2.isSq_s ?_
  | with_reducible refine L2.op_f2 ?_
  | with_reducible refine L2.op_f1 ?_
  | ((with_reducible refine L2.op_varBs (d := ?d) ?h ?_); case h => exact rfl)
  | ((with_reducible refine L2.op_varBl (o := ?o) (xs := ?xs) ?h ?_); case h => exact rfl)
  | ((with_reducible refine L2.op_varBd (o := ?o) (ks := ?ks) (xs := ?xs) ?h ?_); case h => exact rfl)
  | ((with_reducible refine L2.op_var (x := ?x) ?h ?_); case h => exact rfl)
  | ((with_reducible refine L2.op_xSetd (o := ?o) (ks := ?ks) (ds := ?ds) ?h ?_); case h => exact rfl)
  | with_reducible refine L2.op_C ?_
  | with_reducible refine L2.op_nil ?_
  | with_reducible refine L2.op_cons ?_
  | with_reducible refine L2.op_callR ?_
  | with_reducible refine L2.op_callB ?_
  | with_reducible refine L2.op_callN ?_
  | with_reducible refine L2.op_callG ?_
  | with_reducible refine L2.op_pub ?_
  | with_reducible refine L2.op_sh ?_
  | with_reducible refine L2.op_fB ?_
  | with_reducible refine L2.op_f3 ?_
  | with_reducible refine L2.op_bAnd ?_
  | with_reducible refine L2.op_bOr ?_
  | with_reducible refine L2.op_bNot ?_
  | with_reducible refine L2.op_fAnd ?_
  | with_reducible refine L2.op_fOr ?_
  | with_reducible refine L2.op_fNot ?_
  | with_reducible refine L2.op_fIf ?_
  | with_reducible refine L2.op_bYes ?_
  | with_reducible refine L2.op_tup ?_
  | with_reducible refine L2.op_lstR ?_
  | with_reducible refine L2.op_dicR ?_
  | with_reducible refine L2.op_is ?_
  | with_reducible refine L2.op_oInt ?_
  | with_reducible refine L2.op_sl ?_
  | with_reducible refine L2.op_none ?_
  | with_reducible refine L2.op_some ?_
  | with_reducible refine L2.op_get2 ?_
  | with_reducible refine L2.op_oSeq ?_
  | with_reducible refine L2.op_oRng ?_
  | with_reducible refine L2.op_oRng2 ?_
  | with_reducible refine L2.op_comp ?_
  | with_reducible refine L2.op_xD ?_
  | with_reducible refine L2.op_xIf ?_
  | with_reducible refine L2.op_zip ?_
  | with_reducible refine L2.o_add ?_
  | with_reducible refine L2.o_sub ?_
  | with_reducible refine L2.o_neg ?_
  | with_reducible refine L2.o_lt ?_
  | with_reducible refine L2.o_gt ?_
  | with_reducible refine L2.o_ge ?_
  | with_reducible refine L2.o_le ?_
  | with_reducible refine L2.o_eqI ?_
  | with_reducible refine L2.o_neI ?_
  | with_reducible refine L2.o_neEI ?_
  | with_reducible refine L2.o_lenL ?_
  | with_reducible refine L2.o_lenT ?_
  | with_reducible refine L2.o_tupL ?_
  | with_reducible refine L2.o_tupT ?_
  | with_reducible refine L2.o_intI ?_
  | with_reducible refine L2.o_intB ?_
  | with_reducible refine L2.o_isN ?_
  | with_reducible refine L2.o_slL ?_
  | with_reducible refine L2.o_slT ?_
  | with_reducible refine L2.o_keyI ?_
  | with_reducible refine L2.o_keyS ?_
  | with_reducible refine L2.o_seqT ?_
  | with_reducible refine L2.o_seqL ?_
  | with_reducible refine L2.o_dicN ?_
  | with_reducible refine L2.o_max ?_
  | with_reducible refine L2.o_min ?_
  | ((with_reducible refine L2.o_mul ?h ?_); case h => first | decide | exact Or.inr (by decide) | exact Or.inl (by decide) | exact ⟨by decide, by decide⟩ | omega)
  | ((with_reducible refine L2.o_div ?h ?_); case h => first | decide | exact Or.inr (by decide) | exact Or.inl (by decide) | exact ⟨by decide, by decide⟩ | omega)
  | ((with_reducible refine L2.o_mod ?h ?_); case h => first | decide | exact Or.inr (by decide) | exact Or.inl (by decide) | exact ⟨by decide, by decide⟩ | omega)
  | ((with_reducible refine L2.o_pow ?h ?_); case h => first | decide | exact Or.inr (by decide) | exact Or.inl (by decide) | exact ⟨by decide, by decide⟩ | omega))
local macro_rules | `(tactic| walk_at "wp") => `(tactic| repeat first | walk_at "wp1" | with_reducible refine L2.so_if ?_)
local macro_rules | `(tactic| walk_at "wpn") => `(tactic| repeat walk_at "wp1")
local macro_rules | `(tactic| walk_at "wrun") => `(tactic| (refine L2.op_runE (δ := ?d) rfl ?h ?_; case h => simp only [L2.startD, List.map_cons, List.map_nil, List.length_cons, List.length_nil, List.replicate, List.cons_append, List.nil_append, Nat.reduceAdd, Nat.reduceSub]; exact rfl))
local macro_rules | `(tactic| walk_at "wrunM") => `(tactic| (refine L2.op_runMS (δ := ?d) rfl ?h ?_; case h => simp only [L2.startS, List.map_cons, List.map_nil, List.length_cons, List.length_nil, List.replicate, List.cons_append, List.nil_append, Nat.reduceAdd, Nat.reduceSub]; exact rfl))
set_option Elab.async false
set_option linter.all false
set_option maxRecDepth 100000
set_option maxHeartbeats 4000000
namespace L2
open PySem PySem.W PyProof.Rows
section
variable {lt : Nat → Nat → Bool}
end
end L2
set_option Elab.async false
set_option linter.all false
set_option maxRecDepth 100000
set_option maxHeartbeats 4000000
namespace L2
open PySem
open PySem.AutoSeq1 (wpAny_loadPart')
open PySem.MeetsSeq PySem.MeetsSeq2 PySem.MeetsSeq3 PySem.SeqRoads2 PySem.SeqAt
def LtRc (A : Around) (s : Shared) (y x : Value) (b : Bool) : Prop :=
  ∀ (prog : Program) (w : World) (E : Value → Shared → Prop) (Q : Value → Shared → Prop), Q (.bool b) s → wpAny (model prog w) A (richCompare .Lt y x) Q E s
def lexF (e t : Nat → Bool) (fin : Bool) : List Nat → Bool
  | [] => fin
  | j :: js => if e j = true then lexF e t fin js else t j
theorem tuple_ltAt (l b : Addr) (items items2 : Array Value) (n n2 : Nat) (dd dd2 : Option Addr) (sl sl2 : Array (Option Value)) (e t : Nat → Bool) :
    Meets (Builtin.«tuple.__lt__» ⟨[.ref l, .ref b], []⟩)
      (fun A R s => s.heap.get? l = some { cls := .type "tuple", dict := dd, data := .seq items n, slots := sl } ∧ s.heap.get? b = some { cls := .type "tuple", dict := dd2, data := .seq items2 n2, slots := sl2 } ∧
        (∀ j (h1 : j < items.size) (h2 : j < items2.size), EqAt A.in1 s items[j] items2[j] (e j)) ∧ (∀ j (h1 : j < items.size) (h2 : j < items2.size), (∀ m, m < j → e m = true) → e j = false → LtRc A.in1 s items[j] items2[j] (t j)) ∧
        R (.ok (.ret (.bool (lexF e t (decide (items.size < items2.size)) (List.range (min items.size items2.size)))))) s) :=
  .of_wp fun prog w A R s h => by
    obtain ⟨hp, g, d, tk, os⟩ := s; obtain ⟨hl, hb, he, ht, h⟩ := h
    have f2 := AutoSeq1.sub_tuple_tuple
    have hZ : (items.toList.zip items2.toList).length = min items.size items2.size := by simp
    wp_walk using wpAny_loadPart' hl, wpAny_loadPart' hb, wpAny_forIn_list _ (fun rest b s' => b.1 = none ∧ s' = ⟨hp, g, d, tk, os⟩ ∧ ∃ i, rest = (items.toList.zip items2.toList).drop i ∧ (∀ m, m < i → e m = true) ∧
      R (.ok (.ret (.bool (lexF e t (decide (items.size < items2.size)) ((List.range (min items.size items2.size)).drop i))))) ⟨hp, g, d, tk, os⟩) _
    case turn =>
      rintro ⟨y, x⟩ rest b s' ⟨hb', rfl, i, hz, hal, hR⟩
      have hlt : i < (items.toList.zip items2.toList).length := by
        rcases Nat.lt_or_ge i (items.toList.zip items2.toList).length with h' | h'
        · exact h'
        · rw [List.drop_of_length_le h'] at hz; cases hz
      have hm : i < min items.size items2.size := hZ ▸ hlt
      have h1 : i < items.size := Nat.lt_of_lt_of_le hm (Nat.min_le_left _ _)
      have h2 : i < items2.size := Nat.lt_of_lt_of_le hm (Nat.min_le_right _ _)
      rw [List.drop_eq_getElem_cons hlt] at hz
      injection hz with hyx hrest
      have hy : y = items[i] := by have := congrArg Prod.fst hyx; simpa using this
      have hx : x = items2[i] := by have := congrArg Prod.snd hyx; simpa using this
      subst hy hx
      have hd : (List.range (min items.size items2.size)).drop i = i :: (List.range (min items.size items2.size)).drop (i + 1) := by simp [List.drop_eq_getElem_cons, hm]
      rw [hd] at hR
      refine wpAny_bind (he i h1 h2 prog w _ _ ?_)
      cases hy : e i with
      | true =>
        have hR : R (.ok (.ret (.bool (lexF e t (decide (items.size < items2.size)) ((List.range (min items.size items2.size)).drop (i + 1)))))) ⟨hp, g, d, tk, os⟩ := by
          simpa only [lexF, hy, if_true] using hR
        wp_walk
        exact ⟨rfl, rfl, i + 1, hrest, fun m hm' => (Nat.lt_succ_iff_lt_or_eq.mp hm').elim (hal m) fun z => z ▸ hy, hR⟩
      | false =>
        have hR : R (.ok (.ret (.bool (t i)))) ⟨hp, g, d, tk, os⟩ := by
          simpa only [lexF, hy, Bool.false_eq_true, if_false] using hR
        generalize hRC : richCompare = RC
        wp_walk
        subst hRC
        refine ht i h1 h2 hal hy prog w _ _ ?_
        wp_walk
        exact ⟨_, rfl, hR⟩
    case fin =>
      rintro ⟨b1, b2⟩ s' ⟨hb', rfl, i, hz, hal, hR⟩
      simp only at hb'
      subst hb'
      have hge : min items.size items2.size ≤ i := by
        rcases Nat.lt_or_ge i (items.toList.zip items2.toList).length with h' | h'
        · rw [List.drop_eq_getElem_cons h'] at hz; cases hz
        · exact hZ ▸ h'
      rw [List.drop_of_length_le (by simpa using hge)] at hR
      wp_walk
      exact ⟨_, rfl, by simpa [Builtin.Tuple.tupleCompareSizes, lexF] using hR⟩
    case h =>
      exact ⟨rfl, rfl, 0, rfl, fun m hm => absurd hm (Nat.not_lt_zero m), by simpa using h⟩
theorem lt_loopAt (l b : Addr) (items items2 : Array Value) (n n2 : Nat) (dd dd2 : Option Addr) (sl sl2 : Array (Option Value)) (e t : Nat → Bool) (k : Nat) :
    ∀ i : Nat, min items.size items2.size - i = k → i ≤ min items.size items2.size → (∀ m, m < i → e m = true) → Meets (Builtin.«list.__eq__.loop» ⟨[.ref l, .ref b, rawInt i, rawInt 0], []⟩)
      (fun A R s => s.heap.get? l = some { cls := .type "list", dict := dd, data := .seq items n, slots := sl } ∧ s.heap.get? b = some { cls := .type "list", dict := dd2, data := .seq items2 n2, slots := sl2 } ∧
        (∀ j (h1 : j < items.size) (h2 : j < items2.size), EqAt A.in1 s items[j] items2[j] (e j)) ∧ (∀ j (h1 : j < items.size) (h2 : j < items2.size), (∀ m, m < j → e m = true) → e j = false → LtRc A.in1 s items[j] items2[j] (t j)) ∧
        R (.ok (.ret (.bool (lexF e t (decide (items.size < items2.size)) ((List.range (min items.size items2.size)).drop i))))) s) := by
  induction k with
  | zero =>
    intro i hk hle hal prog w A R s h
    obtain ⟨hp, g, d, tk, os⟩ := s; obtain ⟨hl, hb, he, ht, h⟩ := h
    wp_walk using wpAny_loadPart' hl, wpAny_loadPart' hb
    have hd : (List.range (min items.size items2.size)).drop i = [] := by simp; omega
    rw [hd] at h
    have hR : R (.ok (.ret (.bool (decide (items.size < items2.size))))) ⟨hp, g, d, tk, os⟩ := h
    by_cases c : i < items.size
    · have hi1 : items[((i : Nat) : Int).toNat]? = some items[i] := by simp [c]
      have hi2 : items2[((i : Nat) : Int).toNat]? = none := by simp; omega
      rw [hi1, hi2]
      wp_walk using wpAny_loadPart' hl, wpAny_loadPart' hb
      exact hR
    · have hi1 : items[((i : Nat) : Int).toNat]? = none := by simp; omega
      rw [hi1]
      by_cases c2 : i < items2.size
      · have hi2 : items2[((i : Nat) : Int).toNat]? = some items2[i] := by simp [c2]
        rw [hi2]
        wp_walk using wpAny_loadPart' hl, wpAny_loadPart' hb
        exact hR
      · have hi2 : items2[((i : Nat) : Int).toNat]? = none := by simp; omega
        rw [hi2]
        wp_walk using wpAny_loadPart' hl, wpAny_loadPart' hb
        exact hR
  | succ k ih =>
    intro i hk hle hal prog w A R s h
    obtain ⟨hp, g, d, tk, os⟩ := s; obtain ⟨hl, hb, he, ht, h⟩ := h
    wp_walk using wpAny_loadPart' hl, wpAny_loadPart' hb
    have hlt : i < items.size := by omega
    have hlt2 : i < items2.size := by omega
    have hi1 : items[((i : Nat) : Int).toNat]? = some items[i] := by simp [hlt]
    have hi2 : items2[((i : Nat) : Int).toNat]? = some items2[i] := by simp [hlt2]
    have hm : i < min items.size items2.size := by omega
    have hd : (List.range (min items.size items2.size)).drop i = i :: (List.range (min items.size items2.size)).drop (i + 1) := by simp [List.drop_eq_getElem_cons, hm]
    have hc : ((i : Int) + 1) = ((i + 1 : Nat) : Int) := by push_cast; rfl
    rw [hd] at h
    rw [hi1, hi2]
    refine wpAny_bind (he i hlt hlt2 prog w _ _ ?_)
    cases hb' : e i with
    | true =>
      have h : R (.ok (.ret (.bool (lexF e t (decide (items.size < items2.size)) ((List.range (min items.size items2.size)).drop (i + 1)))))) ⟨hp, g, d, tk, os⟩ := by
        simpa only [lexF, hb', if_true] using h
      wp_walk
      rw [hc]
      exact ⟨plainId_quiet plain_eq_loop _, codeAny_builtin entry_eq_loop (by
        rw [Around.under_plainId plain_eq_loop _]
        exact ih (i + 1) (by omega) (by omega) (fun m hm' => (Nat.lt_succ_iff_lt_or_eq.mp hm').elim (hal m) fun z => z ▸ hb') prog w A R _ ⟨hl, hb, he, ht, h⟩)⟩
    | false =>
      have h : R (.ok (.ret (.bool (t i)))) ⟨hp, g, d, tk, os⟩ := by
        simpa only [lexF, hb', Bool.false_eq_true, if_false] using h
      generalize hRC : richCompare = RC
      wp_walk using wpAny_loadPart' hl, wpAny_loadPart' hb
      rw [hi1, hi2]
      wp_walk
      subst hRC
      refine ht i hlt hlt2 hal hb' prog w _ _ ?_
      wp_walk
      exact h
theorem list_ltAt (l b : Addr) (items items2 : Array Value) (n n2 : Nat) (dd dd2 : Option Addr) (sl sl2 : Array (Option Value)) (e t : Nat → Bool) :
    Meets (Builtin.«list.__lt__» ⟨[.ref l, .ref b], []⟩)
      (fun A R s => s.heap.get? l = some { cls := .type "list", dict := dd, data := .seq items n, slots := sl } ∧ s.heap.get? b = some { cls := .type "list", dict := dd2, data := .seq items2 n2, slots := sl2 } ∧
        (∀ j (h1 : j < items.size) (h2 : j < items2.size), EqAt A.in1 s items[j] items2[j] (e j)) ∧ (∀ j (h1 : j < items.size) (h2 : j < items2.size), (∀ m, m < j → e m = true) → e j = false → LtRc A.in1 s items[j] items2[j] (t j)) ∧
        R (.ok (.ret (.bool (lexF e t (decide (items.size < items2.size)) (List.range (min items.size items2.size)))))) s) := by
  intro prog w A R s h
  obtain ⟨hp, g, d, tk, os⟩ := s; obtain ⟨hl, hb, he, ht, h⟩ := h
  have f3 := AutoSeq1.sub_list_list
  wp_walk using wpAny_loadPart' hl, wpAny_loadPart' hb
  exact ⟨plainId_quiet plain_eq_loop _, codeAny_builtin entry_eq_loop (by
    rw [Around.under_plainId plain_eq_loop _]
    exact lt_loopAt l b items items2 n n2 dd dd2 sl sl2 e t _ 0 rfl (Nat.zero_le _) (fun m hm => absurd hm (Nat.not_lt_zero m)) prog w A R _ ⟨hl, hb, he, ht, by simpa using h⟩)⟩
section
variable {A : Around} {s : Shared}
theorem LtRc.lists {l b : Addr} {items items2 : Array Value} {e t : Nat → Bool} (hl : s.heap.IsList l items) (hb : s.heap.IsList b items2) (hu : A.units < cLine)
    (he : ∀ j (h1 : j < items.size) (h2 : j < items2.size), EqAt A.in1 s items[j] items2[j] (e j)) (ht : ∀ j (h1 : j < items.size) (h2 : j < items2.size), (∀ m, m < j → e m = true) → e j = false → LtRc A.in1 s items[j] items2[j] (t j)) :
    LtRc A s (.ref l) (.ref b) (lexF e t (decide (items.size < items2.size)) (List.range (min items.size items2.size))) := fun prog w E Q h => by
  obtain ⟨⟨cls, dd, data, sl⟩, ho, hc, n, hd⟩ := id hl
  obtain ⟨⟨cls2, dd2, data2, sl2⟩, ho2, hc2, n2, hd2⟩ := id hb
  simp only at hc hd hc2 hd2
  subst hc hd hc2 hd2
  exact richCompare_meets_room (op := .Lt) ⟨_, ho, rfl⟩ ⟨_, ho2, rfl⟩ F.slot_list_lt F.entry_list_lt (F.args_list_lt_2 _ _) (list_ltAt l b items items2 n n2 dd dd2 sl sl2 e t)
    ⟨ho, ho2, he, ht, show Value.bool _ ≠ Value.notImplemented ∧ Q (.bool _) s from ⟨(fun x => nomatch x), h⟩⟩ hu
theorem LtRc.tuples {l b : Addr} {items items2 : Array Value} {e t : Nat → Bool} (hl : s.heap.IsTuple l items) (hb : s.heap.IsTuple b items2) (hu : A.units < cLine)
    (he : ∀ j (h1 : j < items.size) (h2 : j < items2.size), EqAt A.in1 s items[j] items2[j] (e j)) (ht : ∀ j (h1 : j < items.size) (h2 : j < items2.size), (∀ m, m < j → e m = true) → e j = false → LtRc A.in1 s items[j] items2[j] (t j)) :
    LtRc A s (.ref l) (.ref b) (lexF e t (decide (items.size < items2.size)) (List.range (min items.size items2.size))) := fun prog w E Q h => by
  obtain ⟨⟨cls, dd, data, sl⟩, ho, hc, n, hd⟩ := id hl
  obtain ⟨⟨cls2, dd2, data2, sl2⟩, ho2, hc2, n2, hd2⟩ := id hb
  simp only at hc hd hc2 hd2
  subst hc hd hc2 hd2
  exact richCompare_meets_room (op := .Lt) ⟨_, ho, rfl⟩ ⟨_, ho2, rfl⟩ F.slot_tuple_lt F.entry_tuple_lt (F.args_tuple_lt_2 _ _) (tuple_ltAt l b items items2 n n2 dd dd2 sl sl2 e t)
    ⟨ho, ho2, he, ht, show Value.bool _ ≠ Value.notImplemented ∧ Q (.bool _) s from ⟨(fun x => nomatch x), h⟩⟩ hu
theorem LtRc.int (a b : Int) (t u : Tok) : LtRc A s (.int a t) (.int b u) (decide (a < b)) := fun prog w E Q h => PyProof.Rows.lt_int h
theorem LtRc.str (a b : Str) (t u : Tok) : LtRc A s (.str a t) (.str b u) (decide (a.cps.toList < b.cps.toList)) := fun prog w E Q h => PyProof.Rows.lt_str h
end
end L2
set_option Elab.async false
set_option linter.all false
set_option maxRecDepth 100000
set_option maxHeartbeats 4000000
namespace L2
open PySem PySem.Spec PySem.W PyProof.Rows
mutual
def ltA : D → D → Option Bool
  | .int i, y => match y with | .int j => some (decide (i < j)) | _ => none
  | .str x, y => match y with | .str z => some (decide (x.cps.toList < z.cps.toList)) | _ => none
  | .tup xs, y => match y with | .tup ys => ltAs xs ys | _ => none
  | .lst xs, y => match y with | .lst ys => ltAs xs ys | _ => none
  | .non, _ => none
  | .bl _, _ => none
  | .dic _ _, _ => none
def ltAs : List D → List D → Option Bool
  | [], ys => some (!ys.isEmpty)
  | x :: xs, ys => match ys with | [] => some false | y :: ys => if eqA x y = true then ltAs xs ys else ltA x y
end
def ltE : D → D → Option D := fun x y => if plainN 8 x = true ∧ plainN 8 y = true then (ltA x y).map .bl else none
def isnB : D → D → Option D | .bl i, .bl j => some (.bl (!(i == j))) | _, _ => none
def notA (x y : D) : Option D := (isN true x y).or (isnB x y)
end L2
set_option Elab.async false
set_option linter.all false
set_option maxRecDepth 100000
set_option maxHeartbeats 4000000
namespace L2
open PySem PySem.Spec PyProof.Rows
theorem lexF_map (e t : Nat → Bool) (fin : Bool) (f : Nat → Nat) : ∀ l : List Nat, lexF e t fin (l.map f) = lexF (fun j => e (f j)) (fun j => t (f j)) fin l
  | [] => rfl
  | j :: l => by
    simp only [List.map_cons, lexF]
    rw [lexF_map e t fin f l]
def eAt (xs ys : List D) (j : Nat) : Bool := eqA (xs.getD j .non) (ys.getD j .non)
def tAt (xs ys : List D) (j : Nat) : Bool := (ltA (xs.getD j .non) (ys.getD j .non)).getD false
theorem lex_ltAs : ∀ {xs ys : List D} {b : Bool}, ltAs xs ys = some b → lexF (eAt xs ys) (tAt xs ys) (decide (xs.length < ys.length)) (List.range (min xs.length ys.length)) = b
  | [], ys, b, h => by
    simp only [ltAs, Option.some.injEq] at h
    simp only [List.length_nil, Nat.zero_min, List.range_zero, lexF]
    rw [← h]
    cases ys <;> simp
  | x :: xs, [], b, h => by
    simp only [ltAs, Option.some.injEq] at h
    simp only [List.length_nil, Nat.min_zero, List.range_zero, lexF]
    rw [← h]
    simp
  | x :: xs, y :: ys, b, h => by
    simp only [ltAs] at h
    have e1 : min (x :: xs).length (y :: ys).length = min xs.length ys.length + 1 := by simp only [List.length_cons]; omega
    rw [e1, List.range_succ_eq_map, lexF, lexF_map]
    by_cases c : eqA x y = true
    · rw [if_pos c] at h
      rw [if_pos (show eAt (x :: xs) (y :: ys) 0 = true from c)]
      have := lex_ltAs h
      have e2 : decide ((x :: xs).length < (y :: ys).length) = decide (xs.length < ys.length) := by simp only [List.length_cons, Nat.add_lt_add_iff_right]
      rw [e2]
      exact this
    · rw [if_neg c] at h
      rw [if_neg (show ¬ eAt (x :: xs) (y :: ys) 0 = true from c)]
      show (ltA x y).getD false = b
      rw [h]; rfl
theorem first_ltAs : ∀ {xs ys : List D} {b : Bool}, ltAs xs ys = some b → ∀ j, j < xs.length → j < ys.length → (∀ m, m < j → eAt xs ys m = true) → eAt xs ys j = false → ltA (xs.getD j .non) (ys.getD j .non) = some (tAt xs ys j)
  | [], ys, b, h, j, h1, h2, ha, hf => absurd h1 (Nat.not_lt_zero j)
  | x :: xs, [], b, h, j, h1, h2, ha, hf => absurd h2 (Nat.not_lt_zero j)
  | x :: xs, y :: ys, b, h, 0, h1, h2, ha, hf => by
    simp only [ltAs] at h
    rw [if_neg (show ¬ eqA x y = true from fun z => by rw [show eAt (x :: xs) (y :: ys) 0 = true from z] at hf; cases hf)] at h
    show ltA x y = some ((ltA x y).getD false)
    rw [h]; rfl
  | x :: xs, y :: ys, b, h, j + 1, h1, h2, ha, hf => by
    simp only [ltAs] at h
    rw [if_pos (show eqA x y = true from ha 0 (Nat.zero_lt_succ j))] at h
    exact first_ltAs h j (by simpa using h1) (by simpa using h2) (fun m hm => ha (m + 1) (by omega)) hf
section
variable {X : Cx} {pins : List (Addr × Obj)} {σ : St} {H : Hp} {s : Shared}
theorem ltRc_A (I : Inv X pins σ H s) : ∀ (n : Nat) {x y : D} {v v' : V} {u u' : Value} {A : Around} {b : Bool}, plainN n x = true → plainN n y = true → ltA x y = some b → Rep X.K H x v → Rep X.K H y v' → RelV v u → RelV v' u' → A.units + n < cLine → LtRc A s u u' b := by
  intro n
  have ff : ∀ {x y : D} {v v' : V} {u u' : Value} {A : Around} {b : Bool}, (∀ xs, x ≠ .tup xs) → (∀ xs, x ≠ .lst xs) → ltA x y = some b → Rep X.K H x v → Rep X.K H y v' → RelV v u → RelV v' u' → LtRc A s u u' b := by
    intro x y v v' u u' A b n1 n2 h rx ry r r'
    cases x with
    | tup xs => exact absurd rfl (n1 xs)
    | lst xs => exact absurd rfl (n2 xs)
    | non => simp only [ltA] at h; cases h
    | bl _ => simp only [ltA] at h; cases h
    | dic _ _ => simp only [ltA] at h; cases h
    | int i =>
      cases y <;> simp only [ltA] at h <;> cases h
      simp only [Rep] at rx ry
      subst rx ry
      obtain ⟨t, rfl⟩ := r
      obtain ⟨t', rfl⟩ := r'
      exact LtRc.int _ _ _ _
    | str i =>
      cases y <;> simp only [ltA] at h <;> cases h
      simp only [Rep] at rx ry
      subst rx ry
      obtain ⟨t, rfl⟩ := r
      obtain ⟨t', rfl⟩ := r'
      exact LtRc.str _ _ _ _
  induction n with
  | zero =>
    intro x y v v' u u' A b px py h rx ry r r' hu
    refine ff ?_ ?_ h rx ry r r'
    · intro xs e; subst e; cases px
    · intro xs e; subst e; cases px
  | succ n ih =>
    intro x y v v' u u' A b px py h rx ry r r' hu
    have items : ∀ {xs ys : List D} {vs us : List V} {its its2 : List Value}, ltAs xs ys = some b → xs.all (plainN n) = true → ys.all (plainN n) = true → RepL X.K H xs vs → RepL X.K H ys us → Vals vs its → Vals us its2 →
        ∀ j (h1 : j < its.toArray.size) (h2 : j < its2.toArray.size), (∀ m, m < j → eAt xs ys m = true) → eAt xs ys j = false → LtRc A.in1 s its.toArray[j] its2.toArray[j] (tAt xs ys j) := fun {xs ys vs us its its2} hlt p1 p2 r1 r2 v1 v2 j h1 h2 ha hf => by
      have l1 := r1.length
      have l2 := r2.length
      have l3 := v1.length
      have l4 := v2.length
      have j1 : j < xs.length := by simp at h1; omega
      have j2 : j < ys.length := by simp at h2; omega
      have e1 : xs[j]? = some (xs.getD j .non) := by rw [List.getD_eq_getElem?_getD, List.getElem?_eq_getElem j1]; rfl
      have e2 : ys[j]? = some (ys.getD j .non) := by rw [List.getD_eq_getElem?_getD, List.getElem?_eq_getElem j2]; rfl
      obtain ⟨w1, g1, q1⟩ := r1.get e1
      obtain ⟨w2, g2, q2⟩ := r2.get e2
      obtain ⟨u1, k1, k2⟩ := v1.get g1
      obtain ⟨u2, k3, k4⟩ := v2.get g2
      have t1 : its.toArray[j] = u1 := by
        obtain ⟨_, z⟩ := List.getElem?_eq_some_iff.mp k1
        simpa using z
      have t2 : its2.toArray[j] = u2 := by
        obtain ⟨_, z⟩ := List.getElem?_eq_some_iff.mp k3
        simpa using z
      rw [t1, t2]
      exact ih (List.all_eq_true.mp p1 _ (List.mem_of_getElem? e1)) (List.all_eq_true.mp p2 _ (List.mem_of_getElem? e2)) (first_ltAs hlt j j1 j2 ha hf) q1 q2 k2 k4 (by rw [in1_units]; omega)
    cases x with
    | tup xs =>
      cases y <;> simp only [ltA] at h <;> try cases h
      rename_i ys
      simp only [Rep] at rx ry
      obtain ⟨a, vs, rfl, h1, h2⟩ := rx
      obtain ⟨b', us, rfl, h3, h4⟩ := ry
      cases r
      cases r'
      obtain ⟨its, v1, p1, _⟩ := I.tuple h1
      obtain ⟨its2, v2, p2, _⟩ := I.tuple h3
      have q := LtRc.tuples (A := A) (e := eAt xs ys) (t := tAt xs ys) p1 p2 (by omega) (items_A I n (by rw [in1_units]; omega) px py h2 h4 v1 v2) (items h px py h2 h4 v1 v2)
      have z1 : its.toArray.size = xs.length := by simp [h2.length, v1.length]
      have z2 : its2.toArray.size = ys.length := by simp [h4.length, v2.length]
      rw [z1, z2, lex_ltAs h] at q
      exact q
    | lst xs =>
      cases y <;> simp only [ltA] at h <;> try cases h
      rename_i ys
      simp only [Rep] at rx ry
      obtain ⟨a, vs, rfl, h1, h2⟩ := rx
      obtain ⟨b', us, rfl, h3, h4⟩ := ry
      cases r
      cases r'
      obtain ⟨its, v1, p1, _⟩ := I.list h1
      obtain ⟨its2, v2, p2, _⟩ := I.list h3
      have q := LtRc.lists (A := A) (e := eAt xs ys) (t := tAt xs ys) p1.isList p2.isList (by omega) (items_A I n (by rw [in1_units]; omega) px py h2 h4 v1 v2) (items h px py h2 h4 v1 v2)
      have z1 : its.toArray.size = xs.length := by simp [h2.length, v1.length]
      have z2 : its2.toArray.size = ys.length := by simp [h4.length, v2.length]
      rw [z1, z2, lex_ltAs h] at q
      exact q
    | _ => exact ff (fun _ z => by cases z) (fun _ z => by cases z) h rx ry r r'
end
section
variable {X : Cx}
def rLtA (K : PySem.W.Frag) : R2 := fun v u H Q => ∃ x y b, Rep K H x v ∧ Rep K H y u ∧ plainN 8 x = true ∧ plainN 8 y = true ∧ ltA x y = some b ∧ Q (.bl b) H
theorem op_ltA (hu : X.A.units + 20 < cLine) : OpR X (compareOp .Lt) (rLtA X.K) := by
  intro pins s σ H x y v u Q I rx ry h
  obtain ⟨dx, dy, b, r1, r2, p1, p2, e, q⟩ := h
  exact ltRc_A I 8 p1 p2 e r1 r2 rx ry (by omega) X.prog X.w _ _ ⟨.bl b, H, I, rfl, q⟩
theorem od_ltE (hu : X.A.units + 20 < cLine) : OpD X (compareOp .Lt) ltE := by
  refine ⟨_, op_ltA hu, fun G H x y v u d Q sG rx ry e k => ?_⟩
  unfold ltE at e
  split at e
  · rename_i hc
    obtain ⟨b, e1, rfl⟩ := Option.map_eq_some_iff.mp e
    exact ⟨x, y, b, rx.all sG, ry.all sG, hc.1, hc.2, e1, k _ G H (Grow.refl sG) (by simp [Rep])⟩
  · cases e
end
end L2
set_option Elab.async false
set_option linter.all false
set_option maxRecDepth 100000
set_option maxHeartbeats 4000000
namespace L2
open PySem PySem.Spec PySem.W PyProof.Rows
section
variable {X : Cx} {pins : List (Addr × Obj)} {σ : St} {H : Hp} {s : Shared}
end
end L2
set_option Elab.async false
set_option linter.all false
set_option maxRecDepth 100000
set_option maxHeartbeats 4000000
namespace L2
open PySem PySem.Spec PySem.W PyProof.Rows
section
variable {X : Cx} {pins : List (Addr × Obj)} {σ : St} {H : Hp} {s : Shared}
end
end L2
set_option Elab.async false
set_option linter.all false
set_option maxRecDepth 100000
set_option maxHeartbeats 4000000
namespace L2
open PySem PySem.Spec PySem.W PyProof.Rows
structure STO {α : Type} (lt : α → α → Bool) : Prop where
  irr : ∀ a, lt a a = false
  tr : ∀ a b c, lt a b = true → lt b c = true → lt a c = true
  tri : ∀ a b, lt a b = false → lt b a = false → a = b
section
variable {α : Type} {lt : α → α → Bool}
theorem STO.ne (h : STO lt) {a b : α} (e : lt a b = false) (n : a ≠ b) : lt b a = true := by
  cases z : lt b a with
  | false => exact absurd (h.tri _ _ e z) n
  | true => rfl
variable [DecidableEq α]
end
theorem sto_int : STO (fun a b : Int => decide (a < b)) where
  irr := fun a => by simp
  tr := fun a b c h1 h2 => by simp only [decide_eq_true_eq] at *; omega
  tri := fun a b h1 h2 => by simp only [decide_eq_false_iff_not] at *; omega
def sLt (x y : Str) : Bool := decide (x.cps.toList < y.cps.toList)
theorem sto_str : STO sLt where
  irr := fun a => by simp [sLt]
  tr := fun a b c h1 h2 => by
    simp only [sLt, decide_eq_true_eq] at *
    exact List.lt_trans h1 h2
  tri := fun a b h1 h2 => by
    simp only [sLt, decide_eq_false_iff_not] at *
    have e : a.cps.toList = b.cps.toList := List.le_antisymm (List.not_lt.mp h2) (List.not_lt.mp h1)
    obtain ⟨a⟩ := a
    obtain ⟨b⟩ := b
    exact congrArg Str.mk (Array.toList_inj.mp e)
end L2
set_option Elab.async false
set_option linter.all false
set_option maxRecDepth 100000
set_option maxHeartbeats 4000000
namespace L2
open PySem PySem.Spec PySem.W PyProof.Rows
section
variable {X : Cx} {pins : List (Addr × Obj)} {σ : St} {H : Hp} {s : Shared}
end
end L2
set_option Elab.async false
set_option linter.all false
set_option maxRecDepth 100000
set_option maxHeartbeats 4000000
namespace L2
open PySem PySem.Spec PySem.W PyProof.Rows
section
variable {X : Cx} {e : Expr} {f : FE} {p1 p2 p3 p4 : Pos}
theorem op_isnB : OpR X (compareOp .IsNot) (fun x y H Q => ∃ i j, x = .bl i ∧ y = .bl j ∧ Q (.bl (!(i == j))) H) := by
  intro pins s σ H x y v u Q I rx ry h
  obtain ⟨i, j, rfl, rfl, q⟩ := h
  cases rx
  cases ry
  exact isnot_bool ⟨.bl _, H, I, rfl, q⟩
theorem od_isnB : OpD X (compareOp .IsNot) isnB := by
  refine ⟨_, op_isnB, fun G H x y v u d Q sG rx ry e k => ?_⟩
  unfold isnB at e
  split at e
  · cases e
    have rx := rx.flat rfl
    have ry := ry.flat rfl
    simp only [Rep] at rx ry
    exact ⟨_, _, rx, ry, k _ G H (Grow.refl sG) (by simp [Rep])⟩
  · cases e
theorem od_notA : OpD X (compareOp .IsNot) notA := od_notN.or od_isnB
end
end L2
set_option Elab.async false
set_option linter.all false
set_option maxRecDepth 100000
set_option maxHeartbeats 4000000
namespace L2
open PySem
theorem layNew_led (t : SetTable) (es : Array (Int × Value)) (h : Int) (x : Value) : (layNew t es h x).2.1.led = t.led := by
  unfold layNew
  split
  · show (SetTable.orStandIn (t.put _).1 _).led = t.led
    unfold SetTable.orStandIn
    split
    · rfl
    · rfl
  · rfl
theorem relayAll_led (t : SetTable) (es : Array (Int × Value)) (n : Nat) : (relayAll t es n).2.1.led = t.led ∧ (t.plain = false → (relayAll t es n).2.1.plain = false) := by
  unfold relayAll
  split
  · rename_i t' order e
    have e' : t'.led = t.led ∧ t'.plain = t.plain := by
      unfold SetTable.relaid SetTable.laid at e
      simp only [Option.bind_eq_bind, Option.bind_eq_some_iff] at e
      obtain ⟨ow, _, e⟩ := e
      cases e
      exact ⟨rfl, rfl⟩
    dsimp only
    split
    · exact ⟨e'.1, fun h => e'.2.trans h⟩
    · exact ⟨rfl, fun _ => rfl⟩
  · exact ⟨rfl, fun _ => rfl⟩
section
variable {prog : Program} {w : World} {K : Type} [DecidableEq K] {knd : KeyKind prog w K} {A : Around} {E : Value → Shared → Prop} {s : Shared}
def SetAt (knd : KeyKind prog w K) (h : Heap) (a : Addr) (es : Array (Int × Value)) (ep : Nat) (t : SetTable) : Prop :=
  ∃ o, h.get? a = some o ∧ o.ExactSet ∧ o.data = .set es ep t ∧ ElemsOf knd es.toList ∧ t.fits es.size = true
theorem setAdd_more {a : Addr} {es : Array (Int × Value)} {ep : Nat} {t : SetTable} {k : K} {x : Value} {Q : Bool → Shared → Prop} (hkey : knd.is k x = true) (hsc : x.scannable = true) (hS : SetAt knd s.heap a es ep t) (hroom : es.size + 1 < scanBound)
    (h1 : (∃ e ∈ es.toList, knd.is k e.2 = true) → Q false s)
    (h2 : (∀ e ∈ es.toList, knd.is k e.2 = false) → ∀ h' es' ep' t', Heap.SameBut a s.heap h' → SetAt knd h' a es' ep' t' → es'.toList.Perm (es.toList ++ [(knd.hash k, x)]) → t'.led = t.led → (plainKind x = false → t'.plain = false) → Q true { s with heap := h' }) :
    wpAny (model prog w) A (setAddHashed a x (knd.hash k)) Q E s := by
  obtain ⟨o, ho, hex, hd, hel, hf⟩ := hS
  have hb : es.size < scanBound := by omega
  unfold setAddHashed setAddHashedIn
  refine wpAny_holding (wpAny_bind (wpAny_setState_of ho hd hf ?_))
  dsimp only
  rw [byScan_of hsc hb hel]
  simp only [↓reduceIte]
  unfold setAddByScan
  refine wpAny_bind ?_
  refine wpAny_bind (wpAny_rule ?_)
  refine wpAny_bind (wpAny_setScan_of hkey ho hd hf hel ?_)
  cases hr : List.findIdx? (fun e => knd.is k e.2) es.toList with
  | some j =>
    dsimp only
    obtain ⟨hj, hpj, _⟩ := List.findIdx?_eq_some_iff_getElem.mp hr
    exact wpAny_pure (wpAny_pure (h1 ⟨es.toList[j], List.getElem_mem hj, hpj⟩))
  | none =>
    dsimp only
    have hno : ∀ e ∈ es.toList, knd.is k e.2 = false := fun e he => List.findIdx?_eq_none_iff.mp hr e he
    have hgw : ∀ (b : Bool) {s₁ : Shared} {Q' : Unit → Shared → Prop}, Q' () s₁ → wpAny (model prog w) A (match b with | true => rule "set.scan.the-table-gave-way" | false => pure ()) Q' E s₁ :=
      fun b s₁ Q' hq => by cases b <;> first | exact wpAny_pure hq | exact wpAny_rule hq
    have hperm := layNew_perm t es (knd.hash k) x
    have hfits := layNew_fits t es (knd.hash k) x
    have hled := layNew_led t es (knd.hash k) x
    generalize hL : layNew t es (knd.hash k) x = L at hperm hfits hled ⊢
    obtain ⟨es1, t1, wasDummy, gave⟩ := L
    dsimp only at hperm hfits hled ⊢
    rw [Array.toList_push] at hperm
    have hel1 : ElemsOf knd es1.toList := (hel.push hkey hsc).perm hperm
    have hsz1 : es1.size = es.size + 1 := by rw [← Array.length_toList, hperm.length_eq, List.length_append, Array.length_toList]; rfl
    have hb1 : es1.size < scanBound := by omega
    refine wpAny_bind (hgw _ ?_)
    -- the tail
    have tail : ∀ (t2 : SetTable), t2.fits es1.size = true → t2.led = t1.led → (plainKind x = false → t2.plain = false) → wpAny (model prog w) A (do
        storeSet a es1 t2
        if (!wasDummy && t2.tooFull) = true then do
            (match (relayAll t2 es1 (SetTable.grown es1.size)).2.2 with | true => rule "set.scan.the-table-gave-way" | false => pure ())
            storeSet a (relayAll t2 es1 (SetTable.grown es1.size)).1 (relayAll t2 es1 (SetTable.grown es1.size)).2.1
            pure (some true)
          else pure (some true)) (fun r s' => match r with | some b => Q b s' | none => False) E s := by
      intro t2 f2 l2 p2
      have hg : (s.heap.update a (Obj.putSet es1 t2)).get? a = some { o with data := .set es1 (ep + 1) t2 } := by
        have := Heap.get?_update_self (Obj.putSet es1 t2) ho (by rw [putSet_of es1 t2 hd]; rfl)
        rw [putSet_of es1 t2 hd] at this; exact this
      have sb1 := Heap.SameBut.update s.heap a (Obj.putSet es1 t2)
      refine wpAny_bind (wpAny_storeSet_of ho hd ?_ (fits_of_scanBound hb1))
      split
      · have hp := relayAll_perm t2 es1 (SetTable.grown es1.size)
        have hfr := relayAll_fits t2 es1 (SetTable.grown es1.size)
        have hlr := relayAll_led t2 es1 (SetTable.grown es1.size)
        generalize hRl : relayAll t2 es1 (SetTable.grown es1.size) = Rl at hp hfr hlr ⊢
        obtain ⟨es2, t3, gave2⟩ := Rl
        dsimp only at hp hfr hlr ⊢
        have hsz : es2.size = es1.size := by rw [← Array.length_toList, hp.length_eq, Array.length_toList]
        refine wpAny_bind (hgw _ ?_)
        refine wpAny_bind (wpAny_storeSet_of hg rfl ?_ (fits_of_scanBound (by omega)))
        have hg2 : ((s.heap.update a (Obj.putSet es1 t2)).update a (Obj.putSet es2 t3)).get? a = some { o with data := .set es2 (ep + 1 + 1) t3 } := by
          have := Heap.get?_update_self (Obj.putSet es2 t3) hg (by rw [putSet_of es2 t3 rfl]; rfl)
          rw [putSet_of es2 t3 rfl] at this; exact this
        exact wpAny_pure (h2 hno _ es2 (ep + 1 + 1) t3 (sb1.trans (Heap.SameBut.update _ a _)) ⟨_, hg2, hex, rfl, hel1.perm hp, hfr⟩ (hp.trans hperm) (hlr.1.trans (l2.trans hled)) fun z => hlr.2 (p2 z))
      · exact wpAny_pure (h2 hno _ es1 (ep + 1) t2 sb1 ⟨_, hg, hex, rfl, hel1, f2⟩ hperm (l2.trans hled) p2)
    split
    · refine wpAny_bind ?_
      rw [hashByValue_scannable 8 hsc]
      refine wpAny_pure ?_
      refine wpAny_mono (tail _ ?_ ?_ ?_) (fun r s' hq => ?_) fun _ _ z => z
      · split
        · exact hfits
        · exact SetTable.fits_plain_off hfits
      · split <;> rfl
      · intro z
        rw [z]
        rfl
      · cases r with
        | some b => exact wpAny_pure hq
        | none => exact hq.elim
    · rename_i hpl
      refine wpAny_bind (wpAny_pure ?_)
      simp only [↓reduceIte]
      refine wpAny_mono (tail _ hfits rfl fun _ => by simpa using hpl) (fun r s' hq => ?_) fun _ _ z => z
      cases r with
      | some b => exact wpAny_pure hq
      | none => exact hq.elim
end
end L2
set_option Elab.async false
set_option linter.all false
set_option maxRecDepth 100000
set_option maxHeartbeats 4000000
namespace L2
open PySem
section
variable {prog : Program} {w : World} {K : Type} [DecidableEq K] {knd : KeyKind prog w K} {A : Around} {E : Value → Shared → Prop} {s : Shared}
theorem SetAt.at {h h' : Heap} {a : Addr} {es : Array (Int × Value)} {ep : Nat} {t : SetTable} (x : SetAt knd h a es ep t) (k : ∀ o, h.get? a = some o → h'.get? a = some o) : SetAt knd h' a es ep t := let ⟨o, ho, r⟩ := x; ⟨o, k o ho, r⟩
end
end L2
set_option Elab.async false
set_option linter.all false
set_option maxRecDepth 100000
set_option maxHeartbeats 4000000
namespace L2
open PySem
section
variable {prog : Program} {w : World} {K : Type} [DecidableEq K] {knd : KeyKind prog w K} {A : Around} {E : Value → Shared → Prop} {s : Shared}
end
end L2
set_option Elab.async false
set_option linter.all false
set_option maxRecDepth 100000
set_option maxHeartbeats 4000000
namespace L2
open PySem
section
variable {prog : Program} {w : World} {K : Type} [DecidableEq K] {knd : KeyKind prog w K} {A : Around} {E : Value → Shared → Prop} {s : Shared}
end
end L2
set_option Elab.async false
set_option linter.all false
set_option maxRecDepth 100000
set_option maxHeartbeats 4000000
namespace L2
open PySem
section
variable {prog : Program} {w : World} {K : Type} [DecidableEq K] {knd : KeyKind prog w K} {A : Around} {E : Value → Shared → Prop} {s : Shared}
end
end L2
set_option Elab.async false
set_option linter.all false
set_option maxRecDepth 100000
set_option maxHeartbeats 4000000
namespace L2
open PySem
def kz (e : Int × Value) : Str := match e.2 with | .str z _ => z | _ => ""
structure StrsSet (prog : Program) (w : World) (h : Heap) (a : Addr) (xs : List Str) (es : Array (Int × Value)) : Prop where
  ex : ∃ ep t, SetAt (strKind prog w) h a es ep t ∧ t.led = !w.params.followText "set-order" ∧ (t.plain = false ∨ es.size = 0)
  txts : ∀ e ∈ es.toList, ∃ z tk, e.2 = .str z tk
  nd : (es.toList.map kz).Nodup
  mem : ∀ z, z ∈ es.toList.map kz ↔ z ∈ xs
  len : es.size ≤ xs.length
theorem isStr_kz {e : Int × Value} {z : Str} (h : ∃ z tk, e.2 = .str z tk) : Value.isStrOf z e.2 = true ↔ kz e = z := by
  obtain ⟨z', tk, e'⟩ := h
  unfold kz
  rw [e']
  refine ⟨fun h => ?_, fun h => ?_⟩
  · obtain ⟨t, e⟩ := Value.isStrOf_shape h
    injection e
  · have h : z' = z := h
    subst h
    simp [Value.isStrOf]
section
variable {prog : Program} {w : World} {A : Around} {E : Value → Shared → Prop} {s : Shared}
theorem strs_add {a : Addr} {xs : List Str} {es : Array (Int × Value)} {z : Str} {tk : Tok} {Q : Bool → Shared → Prop} (hS : StrsSet prog w s.heap a xs es) (hb : xs.length + 1 < 4096)
    (q : ∀ b h' es', Heap.SameBut a s.heap h' → StrsSet prog w h' a (xs ++ [z]) es' → Q b { s with heap := h' }) : wpAny (model prog w) A (setAddHashed a (.str z tk) ((strKind prog w).hash z)) Q E s := by
  obtain ⟨ep, t, hA, hl, hpl⟩ := hS.ex
  have hlen := hS.len
  refine setAdd_more (knd := strKind prog w) (k := z) (by show Value.isStrOf z (.str z tk) = true; simp [Value.isStrOf]) rfl hA (by show _ < 4096; omega) (fun ⟨e, he, hi⟩ => ?_) fun hno h' es' ep' t' sb hA' hp hl' hpl' => ?_
  · have hz : z ∈ xs := (hS.mem z).mp (List.mem_map.mpr ⟨e, he, (isStr_kz (hS.txts e he)).mp hi⟩)
    have e0 : s = { s with heap := s.heap } := by cases s; rfl
    rw [e0]
    refine q false s.heap es (Heap.SameBut.refl _ _) ⟨⟨ep, t, hA, hl, hpl⟩, hS.txts, hS.nd, fun y => ?_, by rw [List.length_append]; omega⟩
    rw [hS.mem y, List.mem_append, List.mem_singleton]
    exact ⟨.inl, fun h => h.elim id fun e => e ▸ hz⟩
  · have hz : z ∉ es.toList.map kz := fun hm => by
      obtain ⟨e, he, ek⟩ := List.mem_map.mp hm
      have := hno e he
      rw [show (strKind prog w).is z e.2 = true from (isStr_kz (hS.txts e he)).mpr ek] at this
      cases this
    have hpk : (es'.toList.map kz).Perm (es.toList.map kz ++ [z]) := by
      have := hp.map kz
      rw [List.map_append] at this
      exact this
    refine q true h' es' sb ⟨⟨ep', t', hA', hl'.trans hl, .inl (hpl' rfl)⟩, fun e he => ?_, ?_, fun y => ?_, ?_⟩
    · rcases List.mem_append.mp (hp.mem_iff.mp he) with he | he
      · exact hS.txts e he
      · rw [List.mem_singleton.mp he]; exact ⟨z, tk, rfl⟩
    · rw [hpk.nodup_iff, List.nodup_append]
      exact ⟨hS.nd, by simp, fun x hx y hy => by rw [List.mem_singleton.mp hy]; exact fun e => hz (e ▸ hx)⟩
    · rw [hpk.mem_iff, List.mem_append, List.mem_append, List.mem_singleton, hS.mem y]
    · rw [← Array.length_toList, hp.length_eq, List.length_append, Array.length_toList, List.length_append]
      simp only [List.length_singleton]
      omega
theorem strs_keep {h h' : Heap} {a : Addr} {xs : List Str} {es : Array (Int × Value)} (x : StrsSet prog w h a xs es) (k : ∀ o, h.get? a = some o → h'.get? a = some o) : StrsSet prog w h' a xs es :=
  ⟨let ⟨ep, t, hA, r⟩ := x.ex; ⟨ep, t, hA.at k, r⟩, x.txts, x.nd, x.mem, x.len⟩
end
end L2
set_option Elab.async false
set_option linter.all false
set_option maxRecDepth 100000
set_option maxHeartbeats 4000000
namespace L2
open PySem
section
variable {prog : Program} {w : World} {A : Around} {E : Value → Shared → Prop} {s : Shared}
end
end L2
set_option Elab.async false
set_option linter.all false
set_option maxRecDepth 100000
set_option maxHeartbeats 4000000
namespace L2
open PySem PyProof.Rows
section
variable {prog : Program} {w : World} {A : Around} {E : Value → Shared → Prop} {s : Shared}
end
end L2
set_option Elab.async false
set_option linter.all false
set_option maxRecDepth 100000
set_option maxHeartbeats 4000000
namespace L2
open PySem PySem.Spec PySem.W PyProof.Rows
def insS (z : Str) : List Str → List Str
  | [] => [z]
  | y :: ys => if z = y then y :: ys else if sLt z y = true then z :: y :: ys else y :: insS z ys
def sortS : List Str → List Str
  | [] => []
  | z :: zs => insS z (sortS zs)
theorem insS_mem {z x : Str} : ∀ {ys : List Str}, x ∈ insS z ys ↔ x = z ∨ x ∈ ys
  | [] => by simp [insS]
  | y :: ys => by
    unfold insS
    split
    · rename_i e; subst e; simp
    · split
      · simp
      · rw [List.mem_cons, insS_mem, List.mem_cons]
        constructor
        · rintro (h | h | h)
          · exact .inr (.inl h)
          · exact .inl h
          · exact .inr (.inr h)
        · rintro (h | h | h)
          · exact .inr (.inl h)
          · exact .inl h
          · exact .inr (.inr h)
theorem insS_ord {z : Str} : ∀ {ys : List Str}, ys.Pairwise (fun a b => sLt a b = true) → (insS z ys).Pairwise (fun a b => sLt a b = true)
  | [], _ => by simp [insS]
  | y :: ys, h => by
    have h' := List.pairwise_cons.mp h
    unfold insS
    split
    · exact h
    · rename_i ne
      split
      · rename_i lt
        refine List.pairwise_cons.mpr ⟨fun x hx => ?_, h⟩
        rcases List.mem_cons.mp hx with rfl | hx
        · exact lt
        · exact sto_str.tr _ _ _ lt (h'.1 x hx)
      · rename_i nlt
        refine List.pairwise_cons.mpr ⟨fun x hx => ?_, insS_ord h'.2⟩
        rcases insS_mem.mp hx with rfl | hx
        · exact sto_str.ne (by simpa using nlt) ne
        · exact h'.1 x hx
theorem sortS_ord : ∀ zs : List Str, (sortS zs).Pairwise (fun a b => sLt a b = true)
  | [] => List.Pairwise.nil
  | z :: zs => insS_ord (sortS_ord zs)
theorem sortS_mem {x : Str} : ∀ {zs : List Str}, x ∈ sortS zs ↔ x ∈ zs
  | [] => Iff.rfl
  | z :: zs => by show x ∈ insS z (sortS zs) ↔ _; rw [insS_mem, sortS_mem, List.mem_cons]
theorem ord_nodup {ys : List Str} (h : ys.Pairwise (fun a b => sLt a b = true)) : ys.Nodup := h.imp fun {a b} e z => by rw [z, sto_str.irr] at e; cases e
end L2
set_option Elab.async false
set_option linter.all false
set_option maxRecDepth 100000
set_option maxHeartbeats 4000000
namespace L2
open PySem PySem.Spec PyProof.Rows
def SetX (prog : Program) (w : World) (a : Addr) (zs : List Str) : Heap → Prop := fun h => ∃ es, StrsSet prog w h a zs es
theorem strs_vals {zs : List Str} {its : List Value} : Vals (zs.map V.str) its → ∀ (i : Nat) (v : Value), its.toArray[i]? = some v → ∃ z tk, zs[i]? = some z ∧ v = .str z tk := fun h i v e => by
  have e' : its[i]? = some v := by simpa using e
  have hl := h.length
  have hi : i < zs.length := by have := (List.getElem?_eq_some_iff.mp e').1; simp at hl; omega
  have e1 : (zs.map V.str)[i]? = some (V.str zs[i]) := by simp [hi]
  obtain ⟨u, e2, r⟩ := h.get e1
  rw [e'] at e2
  cases e2
  obtain ⟨t, rfl⟩ := r
  exact ⟨zs[i], t, List.getElem?_eq_getElem hi, rfl⟩
section
variable {X : Cx} {pins : List (Addr × Obj)} {σ : St} {H : Hp} {s : Shared}
section
variable {X : Cx} {e : Expr} {f : FE} {p1 p2 q1 q2 : Pos}
end
end
end L2
set_option Elab.async false
set_option linter.all false
set_option maxRecDepth 100000
set_option maxHeartbeats 4000000
namespace L2
open PySem PySem.Spec PyProof.Rows
section
variable {X : Cx}
end
end L2
set_option Elab.async false
set_option linter.all false
set_option maxRecDepth 100000
set_option maxHeartbeats 4000000
namespace L2
open PySem PySem.Spec PyProof.Rows
section
variable {X : Cx}
end
section
variable {X : Cx} {e : Expr} {es : List Expr} {pos p : Pos}
end
section
variable {δ : En} {i : Nat} {f : FE} {N : En → Prop} {T : Rs → En → Prop}
end
end L2
set_option Elab.async false
set_option linter.all false
set_option maxRecDepth 100000
set_option maxHeartbeats 4000000
namespace L2
open PySem PySem.Spec PyProof.Rows
section
variable {X : Cx}
end
section
variable {δ : En} {i j : Nat} {g : En → Option (List D)} {F : FS} {N : En → Prop} {T : Rs → En → Prop}
end
end L2
set_option Elab.async false
set_option linter.all false
set_option maxRecDepth 100000
set_option maxHeartbeats 4000000
namespace L2
open PySem PySem.Spec PyProof.Rows
def bmV : List Value := [.type "ValueError", .type "Exception", .type "BaseException", .type "object"]
theorem OwnTail.keeps {h h' : Heap} {bmB bm : List Value} (k : ∀ b o, h.get? b = some o → h'.get? b = some o) (t : OwnTail h bmB bm) : OwnTail h' bmB bm := by
  induction t with
  | base => exact .base
  | own e n i _ ih => obtain ⟨o, es, ep, ho, r⟩ := n; exact .own (k _ _ e) ⟨o, es, ep, k _ _ ho, r⟩ i ih
theorem ObjOk.is {P : Program} {w : World} {H : Hp} {h : Heap} {a : Addr} {o : HO} (x : ObjOk P w H h a o) : ∃ u, h.get? a = some u := by
  induction o with
  | lst xs => obtain ⟨_, _, _, _, e⟩ := x; exact ⟨_, e⟩
  | tup xs => obtain ⟨_, _, _, p⟩ := x; obtain ⟨o, e, _⟩ := p; exact ⟨_, e⟩
  | dK kvs => obtain ⟨_, _, _, _, o, _, _, e, _⟩ := x; exact ⟨_, e⟩
  | dT kvs => obtain ⟨_, _, _, _, o, _, _, e, _⟩ := x; exact ⟨_, e⟩
  | set S n => obtain ⟨o, _, _, _, e, _⟩ := x; exact ⟨_, e⟩
  | ins C dx fs => obtain ⟨_, _, _, e, _⟩ := x; exact ⟨_, e⟩
  | own y => exact x
  | xd fs => obtain ⟨_, e, _⟩ := x; obtain ⟨o, _, _, e, _⟩ := e; exact ⟨_, e⟩
  | rng lo hi => obtain ⟨_, _, _, e⟩ := x; exact ⟨_, e⟩
  | frz o u ih => exact ⟨_, x.1⟩
  | tbl ps => exact ⟨_, x⟩
  | met f y => exact ⟨_, x⟩
  | ext φ => exact x.2.1
section
variable {X : Cx} {e0 : Expr} {rest : List Expr} {np cpos pos : Pos} {g : En → Option (List D)} {c : Str}
end
end L2
set_option Elab.async false
set_option linter.all false
set_option maxRecDepth 100000
set_option maxHeartbeats 4000000
namespace L2
open PySem PySem.Spec PyProof.Rows
def FlyN (h0 : Heap) (H : Hp) (h : Heap) (e C : Addr) (od : Option Addr) : Prop := h0.get? e = none ∧ H e = none ∧ ∃ oe vs, h.get? e = some oe ∧ oe.cls = .ref C ∧ oe.dict = od ∧ oe.data = .fields vs ∧ (vs[1]? = some .none ∨
    ∃ T oT ts, vs[1]? = some (.ref T) ∧ T ≠ e ∧ h0.get? T = none ∧ H T = none ∧ h.get? T = some oT ∧ oT.data = .fields ts ∧ ts[3]? = some .none)
theorem Fly.toN {X : Cx} {H : Hp} {h : Heap} {e C : Addr} {od : Option Addr} (F : Fly X H h e C od) : FlyN X.s₀.heap H h e C od := by
  obtain ⟨o, f, oe, vs, h1, h2, h3, h4, h5⟩ := F
  refine ⟨o.2.1, f, oe, vs, h1, h2, h3, h4, ?_⟩
  rcases h5 with h5 | ⟨T, oT, ts, q1, q2, q3, q4⟩
  · exact .inl h5
  · exact .inr ⟨T, oT, ts, q1, q2, q3.2.1, q4⟩
theorem FlyN.to {X : Cx} {pins : List (Addr × Obj)} {σ : St} {H H' : Hp} {s : Shared} {h : Heap} {e C : Addr} {od : Option Addr} (F : FlyN s.heap H' h e C od) (I : Inv X pins σ H s) (hex : X.ex = []) : Fly X H' h e C od := by
  obtain ⟨o, f, oe, vs, h1, h2, h3, h4, h5⟩ := F
  refine ⟨Out1.of I hex o, f, oe, vs, h1, h2, h3, h4, ?_⟩
  rcases h5 with h5 | ⟨T, oT, ts, q1, q2, q3, q4⟩
  · exact .inl h5
  · exact .inr ⟨T, oT, ts, q1, q2, Out1.of I hex q3, q4⟩
def pr2 (C : Addr) (od : Option Addr) : Addr := 2 ^ C * (2 * (match od with | none => 0 | some d => d + 1) + 1)
theorem pr2_inj0 : ∀ (C C' a b : Nat), 2 ^ C * (2 * a + 1) = 2 ^ C' * (2 * b + 1) → C = C' ∧ a = b
  | 0, 0, a, b, h => ⟨rfl, by simp at h; omega⟩
  | 0, C' + 1, a, b, h => by
    rw [Nat.pow_succ] at h
    simp only [Nat.pow_zero, Nat.one_mul] at h
    have : 2 ^ C' * 2 * (2 * b + 1) = 2 * (2 ^ C' * (2 * b + 1)) := by rw [Nat.mul_comm (2 ^ C') 2, Nat.mul_assoc]
    omega
  | C + 1, 0, a, b, h => by
    rw [Nat.pow_succ] at h
    simp only [Nat.pow_zero, Nat.one_mul] at h
    have : 2 ^ C * 2 * (2 * a + 1) = 2 * (2 ^ C * (2 * a + 1)) := by rw [Nat.mul_comm (2 ^ C) 2, Nat.mul_assoc]
    omega
  | C + 1, C' + 1, a, b, h => by
    rw [Nat.pow_succ, Nat.pow_succ] at h
    have h1 : 2 ^ C * 2 * (2 * a + 1) = 2 * (2 ^ C * (2 * a + 1)) := by rw [Nat.mul_comm (2 ^ C) 2, Nat.mul_assoc]
    have h2 : 2 ^ C' * 2 * (2 * b + 1) = 2 * (2 ^ C' * (2 * b + 1)) := by rw [Nat.mul_comm (2 ^ C') 2, Nat.mul_assoc]
    obtain ⟨x, y⟩ := pr2_inj0 C C' a b (by omega)
    exact ⟨by omega, y⟩
theorem pr2_inj {C C' : Addr} {od od' : Option Addr} (h : pr2 C od = pr2 C' od') : C = C' ∧ od = od' := by
  unfold pr2 at h
  obtain ⟨x, y⟩ := pr2_inj0 _ _ _ _ h
  refine ⟨x, ?_⟩
  cases od <;> cases od' <;> simp_all
def CXR (P : Program) (w : World) : CXT := fun outer H s E ev s' => ∃ e C od H', ev = .ref e ∧ s'.os = s.os ∧ AllBare s'.gens ∧ Un (frs outer) [] H H' s.heap s'.heap ∧ HOk P w H' s'.heap ∧ FlyN s.heap H' s'.heap e C od ∧ E ev (some (pr2 C od)) H'
def spE (K : PySem.W.Frag) (M : List Sl → Option Ex) : Sp := fun vs H Q E => ∃ B G xs c, Same G H ∧ Same B H ∧ RepS K B G H (xs.map some) (vs.map some) ∧ M xs = some c ∧
  ∀ e C od G' H', PySem.W.nsIn K mainGlobals c.n = some (some (.ref C)) → Stp B G G' H' → Pay K G' c od → E (.ref e) (some (pr2 C od)) H'
def runE (N : List Str) (n : Nat) (fb : FS) : List Sl → Option Ex := fun xs => if xs.length = n then (match fb (startS N xs) with | some (.ex c _) => some c | _ => none) else none
def DefOkE (P : Program) (w : World) (K : PySem.W.Frag) (mg : Str → Option Value) (base : Heap) (k : Nat) (x : Str) (ps : List Str) (M : List Sl → Option Ex) : Prop :=
  ∃ f fd, FnOk P w K mg base (CXR P w) k f fd ps (spE K M) ∧ Binds K fd ps [] ∧ PySem.W.keepIn K (.ref f) = true ∧ mg x = some (.ref f)
abbrev cxE (P : Program) (w : World) (K : PySem.W.Frag) (mg : Str → Option Value) (base : Heap) (N : List Str) (x : Str) (scope : Scope) (f : Addr) (cdv : Value) (A : Around) (outer : List Env) (s : Shared) (H : Hp) (E : XK) : Cx :=
  cxOf (CXR P w) P w K mg base N x scope f cdv A outer s H E
section
variable {P : Program} {w : World} {K : PySem.W.Frag} {mg : Str → Option Value} {base : Heap}
theorem def_runE {x : Str} {st : Stmt} {N ps : List Str} {k : Nat} {fb : FS} (F : DefAt K mg x st) (S : FnScope N ps (defScope st))
    (hb : ∀ (kV doc pm : Value) (an : Option Addr) (cdv ct : Value) (us : List Value), us.length = ps.length → bindArgs (PySem.W.fnOf x x (defArgs st) (defBody st) (defScope st) .none kV doc pm an cdv ct) ⟨us, []⟩ = pure (ps.zip us))
    (hbody : ∀ (f : Addr) (cdv : Value) (A : Around) (outer : List Env) (s : Shared) (H : Hp) (E : XK), Room k (A.deeper (envOfC x (defScope st) s.heap.objs.size f cdv)) → PSsD (cxE P w K mg base N x (defScope st) f cdv A outer s H E) (defBody st) fb) :
    DefOkE P w K mg base (k + 1) x ps (runE N ps.length fb) := by
  obtain ⟨f, fd, F, hm⟩ := F
  refine ⟨f, fd, ?_, F.binds hb, F.kp, hm⟩
  obtain ⟨oc, od, kV, doc, pm, an, cdv, ct, osl, rfl, lk, hcd⟩ := F.ex
  refine fn_of lk hcd S (fun vs H Q E h => ?_) fun A outer s H vs Q E hr h => ?_
  · obtain ⟨B, G, xs, c, sG, sB, rs, e, _⟩ := h
    have hl := rs.len
    rw [List.length_map, List.length_map] at hl
    rw [← hl]
    unfold runE at e
    split at e
    · rename_i hl; exact hl
    · cases e
  · obtain ⟨B, G, xs, c, sG, sB, rs, e, q⟩ := h
    obtain ⟨t, pt, kt⟩ := hbody f cdv A outer s H E hr
    have hl := rs.len
    rw [List.length_map, List.length_map] at hl
    refine ⟨t, pt, ?_⟩
    have rs0 : RepS K B G H (startS N xs) (start N vs) := by
      unfold startS start
      rw [hl]
      exact rs.more _
    unfold runE at e
    split at e
    · split at e
      · rename_i eb
        cases e
        refine kt B G H _ _ _ _ sG sB rs0 eb ?_
        intro pins σ' G' H' s' e C od I st _ hC hP Fl
        refine leave_fly I rfl rfl Fl fun h' I' F' => ?_
        exact ⟨e, C, od, H', rfl, I'.os, I'.bare, I'.base, I'.hok, F'.toN, q e C od G' H' hC st hP⟩
      · cases e
    · cases e
end
section
variable {X : Cx} {k : Nat} {f : Addr} {fd : FuncData} {ps : List Str} {sp : Sp} {x : Str} {p pos : Pos} {e : Expr} {es : List Expr} {t : TA}
def tCallE (X : Cx) (sp : Sp) (t : TA) : TE := fun σ H Q => t σ H fun vs H1 => ∃ E : XK, sp vs H1 Q E ∧ ∀ pins s' e C od H', Inv X pins σ H' s' → Fly X H' s'.heap e C od → E (.ref e) (some (pr2 C od)) H' → X.xe (.ref e) s'
theorem pe_callE (F : FnOk X.prog X.w X.K X.mg X.base (CXR X.prog X.w) k f fd ps sp) (hr : Room k X.A) (hex : X.ex = []) (hg : Gl X x) (hm : X.mg x = some (.ref f)) (hk : PySem.W.keepIn X.K (.ref f) = true) (hb : Binds X.K fd ps [])
    (ha : PA X (e :: es) t) (hdb : (x == ("__debug__" : Str)) = false := by decide) (he : starEach (e :: es) X.env = (false, eval e X.env) :: starEach es X.env := by rfl) (hpl : (backTo pos (starEach es X.env)).any (·.1) = false := by rfl) :
    PE X (.Call (.Name x p) (e :: es) [] pos) (tCallE X sp t) := by
  intro pins s σ H Q I h
  refine wpAny_Call_Name_kw (ld_glob I hg hm ?_ hdb)
  refine PySem.W.callWith_K (h₀ := X.base) I.ok.mod.kin hk (thn (ha pos pins s σ H _ I h) fun us s1 ⟨vs, H1, I1, r, E, q, kx⟩ => ⟨I1.kIn, ?_⟩) he hpl
  have hl : us.length = ps.length := by rw [← r.length]; exact F.len _ _ _ _ q
  have bnd := hb s1 us I1.kIn (by rw [List.append_nil]; exact hl)
  rw [List.append_nil] at bnd
  refine wpAny_call (codeAny_mono (F.run X.A X.stack s1 H1 ⟨us, []⟩ us vs Q E hr I1.env0 bnd r q) fun r s' hq => ?_)
  cases r with
  | error ev =>
    obtain ⟨e, C, od, H', rfl, os, bare, un, hok, Fl, hE⟩ := hq
    have I2 : Inv X pins σ H' s' := I1.call' os un hok bare (fun b z => absurd z (by simp))
    exact kx pins s' e C od H' I2 (Fl.to I1 hex) hE
  | ok fl =>
    cases fl with
    | ret u => exact I1.after hq
    | next => exact False.elim hq
    | brk => exact False.elim hq
    | cont => exact False.elim hq
@[simp] def sOr (F F' : FS) : FS := fun δ => (F δ).or (F' δ)
theorem psd_or {st : Stmt} {F F' : FS} (h : PSD X st F) (h' : PSD X st F') : PSD X st (sOr F F') := by
  obtain ⟨t, pt, k⟩ := h
  obtain ⟨u, pu, l⟩ := h'
  refine ⟨fun D σ H => t D σ H ∨ u D σ H, fun pins s σ H D I q => q.elim (pt pins s σ H D I) (pu pins s σ H D I), fun B G H δ σ o D sG sB rs e w => ?_⟩
  have e : (F δ).or (F' δ) = some o := e
  cases eF : F δ with
  | some o1 => rw [eF] at e; cases e; exact .inl (k B G H δ σ _ D sG sB rs eF w)
  | none => rw [eF] at e; exact .inr (l B G H δ σ o D sG sB rs e w)
@[simp] def sCallE (M : List Sl → Option Ex) (g : En → Option (List D)) : FS := fun δ => (g δ).bind fun ds => (M (ds.map .sh)).map fun c => .ex c δ
theorem gives_callE {K : PySem.W.Frag} {M : List Sl → Option Ex} {g : En → Option (List D)} {B G H : Hp} {δ : En} {σ : St} {ds : List D} {c : Ex} {Q : VK} (hK : X.K = K)
    (ka : ∀ (B G H : Hp) (δ : En) (σ : St) (ds : List D) (Q : List V → Hp → Prop), Same G H → RepS X.K B G H δ σ → g δ = some ds → (∀ vs G' H', Grow G H G' H' → RepL X.K G' ds vs → Q vs H') → t σ H Q)
    (sG : Same G H) (sB : Same B H) (rs : RepS X.K B G H δ σ) (e1 : g δ = some ds) (e2 : M (ds.map .sh) = some c) {D : Ends} (w : Want X B G D (.ex c δ)) : tCallE X (spE X.K M) t σ H Q := by
  refine ka B G H δ σ ds _ sG rs e1 fun vs G1 H1 g1 r1 => ?_
  have rsA : RepS X.K H1 G1 H1 ((ds.map Sl.sh).map some) (vs.map some) := by
    refine ⟨by simp [r1.length], fun i x e => ?_, fun i j x y o o' hij f1 f2 => ?_⟩
    · rw [List.getElem?_map, List.getElem?_map] at e
      cases ed : ds[i]? with
      | none => rw [ed] at e; cases e
      | some d =>
        rw [ed] at e
        cases e
        obtain ⟨v, h1, h2⟩ := r1.get ed
        exact ⟨v, by rw [List.getElem?_map, h1]; rfl, h2⟩
    · rw [List.getElem?_map, List.getElem?_map] at f1
      cases ed : ds[i]? with
      | none => rw [ed] at f1; cases f1
      | some d => rw [ed] at f1; cases f1
  refine ⟨fun ev oc H' => ∃ C od G', oc = some (pr2 C od) ∧ PySem.W.nsIn X.K mainGlobals c.n = some (some (.ref C)) ∧ Stp H1 G1 G' H' ∧ Pay X.K G' c od, ⟨H1, G1, ds.map .sh, c, g1.s, Same.refl _, rsA, e2, fun e C od G' H' hC st hP => ⟨C, od, G', rfl, hC, st, hP⟩⟩, ?_⟩
  rintro pins s' e C od H' I Fl ⟨C', od', G', eC, hC, st, hP⟩
  obtain ⟨rfl, rfl⟩ := pr2_inj (Option.some.inj eC)
  have gr : Grow G H G' H' := g1.trans ⟨st.g, st.b, st.s, st.n⟩
  exact w pins σ G' H' s' e C od I (gr.stp sB) (rs.grow gr) hC hP Fl
theorem psd_setE (i : Nat) {y : Str} {pos' pos2 : Pos} {M : List Sl → Option Ex} {g : En → Option (List D)} (hN : X.N.Nodup) (F : DefOkE X.prog X.w X.K X.mg X.base k x ps M) (hr : Room k X.A) (ha : PAD X (e :: es) g) (hex : X.ex = [] := by rfl) (hg : Gl X x := by rfl)
    (hdb : (x == ("__debug__" : Str)) = false := by decide) (he : starEach (e :: es) X.env = (false, eval e X.env) :: starEach es X.env := by rfl) (hpl : (backTo pos (starEach es X.env)).any (·.1) = false := by rfl)
    (hi : X.N[i]? = some y := by rfl) (hx : Loc X.env.scope y := by first | exact Or.inl rfl | exact Or.inr rfl)
    (hs : swapsWith (.Call (.Name x p) (e :: es) [] pos) (some (.Name y pos')) pos2.line X.env = pure false := by rfl) (hf : X.fn y = true ∨ X.env.scope.names.lookup y = some .local := by first | exact .inl rfl | exact .inr rfl) :
    PSD X (.Assign [.Name y pos'] (.Call (.Name x p) (e :: es) [] pos) pos2) (sCallE M g) := by
  obtain ⟨f, fd, F, hb, hk, hm⟩ := F
  obtain ⟨ta, pa, ka⟩ := ha
  refine ⟨_, ps_set hN hi hx (pe_callE F hr hex hg hm hk hb pa hdb he hpl) hs hf, fun B G H δ σ o D sG sB rs ef w => ?_⟩
  unfold sCallE at ef
  obtain ⟨ds, e1, ef⟩ := Option.bind_eq_some_iff.mp ef
  obtain ⟨c, e2, rfl⟩ := Option.map_eq_some_iff.mp ef
  exact gives_callE rfl ka sG sB rs e1 e2 w
end
end L2
set_option Elab.async false
set_option linter.all false
set_option maxRecDepth 100000
set_option maxHeartbeats 4000000
namespace L2
open PySem PySem.Spec PyProof.Rows
abbrev Cx.held (X : Cx) (e : Addr) : Cx := { X with A := X.A.mark (some (.ref e)), calm := false, xe := fun _ _ => False }
section
variable {X : Cx} {pins : List (Addr × Obj)} {σ : St} {H : Hp} {s : Shared}
theorem Inv.held (I : Inv X pins σ H s) (e : Addr) : Inv (X.held e) pins σ H s :=
  ⟨⟨I.ok.mod, I.ok.kind, I.ok.glob, I.ok.blt, I.ok.above, I.ok.inj, I.ok.has, I.ok.cab, (fun z => Bool.noConfusion z), I.ok.frames, I.ok.stk, I.ok.exf, I.ok.bs, I.ok.bsz, I.ok.noex, I.ok.exfs, I.ok.funs, I.ok.frf⟩, I.os, I.bare, I.base, I.loc, I.cell, I.free, I.freeC, I.pin, I.hok, I.len⟩
theorem Inv.unheld {e : Addr} (I : Inv (X.held e) pins σ H s) (ok : X.Ok) : Inv X pins σ H s := ⟨ok, I.os, I.bare, I.base, I.loc, I.cell, I.free, I.freeC, I.pin, I.hok, I.len⟩
abbrev Cx.tried (X : Cx) (pn : List (Addr × Obj)) (xe : Value → Shared → Prop) : Cx := { X with pn := pn, xe := xe }
theorem Cx.Ok.tried (ok : X.Ok) (pn : List (Addr × Obj)) (xe : Value → Shared → Prop) : (X.tried pn xe).Ok :=
  ⟨ok.mod, ok.kind, ok.glob, ok.blt, ok.above, ok.inj, ok.has, ok.cab, ok.hd, ok.frames, ok.stk, ok.exf, ok.bs, ok.bsz, ok.noex, ok.exfs, ok.funs, ok.frf⟩
theorem Inv.tried (I : Inv X pins σ H s) (xe : Value → Shared → Prop) : Inv (X.tried (X.pn ++ pins) xe) [] σ H s :=
  ⟨I.ok.tried _ _, I.os, I.bare, I.base, I.loc, I.cell, I.free, I.freeC, fun p hp => I.pin p (by have hp : p ∈ (X.pn ++ pins) ++ [] := hp; simpa using hp), I.hok, I.len⟩
theorem Inv.untried {xe : Value → Shared → Prop} {pins' : List (Addr × Obj)} (I : Inv (X.tried (X.pn ++ pins) xe) pins' σ H s) (ok : X.Ok) : Inv X pins σ H s :=
  ⟨ok, I.os, I.bare, I.base, I.loc, I.cell, I.free, I.freeC, fun p hp => I.pin p (List.mem_append_left _ hp), I.hok, I.len⟩
theorem Inv.gone {j : Nat} {n : Str} {h' : Heap} {m : Str → Option Value} {v : Option Value} {t' : Nat} (I : Inv X pins σ H s) (hm : s.heap.Ns X.env.locals m) (hN : X.N.Nodup) (hj : X.N[j]? = some n) (hk : X.env.kindOf n = some .local) (hn : h'.Ns X.env.locals fun x => if x = n then v else m x) (hs : Heap.SameBut X.env.locals s.heap h') :
    Inv X pins (σ.set j none) H { s with heap := h', toks := t' } := by
  have old : ∀ b o, X.s₀.heap.get? b = some o → b ≠ X.env.locals := fun b o e => Nat.ne_of_lt (Nat.lt_of_lt_of_le (Heap.lt_size e) I.ok.above)
  obtain ⟨m0, hm0, hl⟩ := id I.loc
  obtain rfl : m0 = m := by
    obtain ⟨o, es, ep, h1, h2, h3, h4⟩ := hm0
    obtain ⟨o', es', ep', g1, g2, g3, g4⟩ := hm
    rw [h1] at g1; cases g1
    rw [h2] at g2; cases g2
    funext y
    rw [← h4, ← g4]
  refine ⟨I.ok, I.os, I.bare, ⟨fun b o e n hb hx => (hs.2 b (old b o e)).trans (I.base.keep b o e n hb hx), fun b o e n hb hx => ?_, I.base.free, fun b o e hx => ?_, I.base.tups, I.base.frzs, I.base.tbls⟩, ⟨_, hn, fun i y w e1 e2 e3 => ?_⟩, fun y c e => ?_, I.free, I.freeC, fun p hp => ?_, fun b u q => ?_, by simpa using I.len⟩
  · obtain ⟨sl, e1⟩ := I.base.slot b o e n hb hx
    exact ⟨sl, (hs.2 b (old b o e)).trans e1⟩
  · obtain ⟨o', e1⟩ := I.base.there b o e hx
    exact ⟨o', (hs.2 b (old b o e)).trans e1⟩
  · rcases get_set e2 with ⟨_, z⟩ | ⟨hij, e2⟩
    · cases z
    · obtain ⟨u, r, q⟩ := hl i y w e1 e2 e3
      refine ⟨u, r, ?_⟩
      have hy : y ≠ n := fun z => hij (nodup_ix hN hj (z ▸ e1))
      rcases q with ⟨k, e⟩ | ⟨k, c, e, z⟩
      · exact .inl ⟨k, by simp [hy, e]⟩
      · exact .inr ⟨k, c, e, z.sameBut hs (I.cne y c e)⟩
  · obtain ⟨w', z⟩ := I.cell y c e
    exact ⟨w', z.sameBut hs (I.cne y c e)⟩
  · obtain ⟨e, nn, ne, nf, d⟩ := I.pin p hp
    exact ⟨(hs.2 p.1 ne).trans e, nn, ne, nf, d⟩
  · refine (I.hok b u q).stay (fun c w' hc z => (hs.2 c ?_).trans z) (fun _ z => z) fun _ _ z => z
    rintro rfl
    have := I.free
    rcases hc with z | z
    · rw [← z, this] at q; cases q
    · rw [this] at z; cases z
end
def CatchC (K : PySem.W.Frag) (r c : Str) : Prop := ∃ R C, PySem.W.nsIn K mainGlobals r = some (some (.ref R)) ∧ PySem.W.nsIn K mainGlobals c = some (some (.ref C)) ∧ ExcC K C ∧ PySem.W.exmOne K (.ref C) (.ref R) = some true
section
variable {X : Cx} {r n : Str} {j : Nat} {F Fh : FS} {cs : List Str} {body suite : List Stmt} {b₀ : Stmt} {np hpos pos : Pos}
@[simp] def sTry (cs : List Str) (j : Nat) (F Fh : FS) : FS := fun δ => match F δ with
  | some (.ex c δ') => if cs.contains c.n = true then (match Fh (δ'.set j (some (.ob c))) with | some (.nx δ2) => some (.nx (δ2.set j none)) | _ => none) else none
  | o => o
theorem RepS.gone {K : PySem.W.Frag} {B G H : Hp} {δ : En} {σ : St} (rs : RepS K B G H δ σ) (j : Nat) : RepS K B G H (δ.set j none) (σ.set j none) := by
  refine ⟨by simp [rs.len], fun i x e => ?_, fun i l x y o o' hil e1 e2 => ?_⟩
  · rcases get_set e with ⟨_, z⟩ | ⟨hj, e⟩
    · cases z
    · obtain ⟨v, h1, h2⟩ := rs.at_ i x e
      exact ⟨v, by rw [List.getElem?_set_ne hj]; exact h1, h2⟩
  · rcases get_set e1 with ⟨_, z⟩ | ⟨hj, e1⟩
    · cases z
    · rcases get_set e2 with ⟨_, z⟩ | ⟨hj2, e2⟩
      · cases z
      · rw [List.getElem?_set_ne hj, List.getElem?_set_ne hj2]
        exact rs.ap i l x y o o' hil e1 e2
theorem psd_try (j : Nat) (hN : X.N.Nodup) (hb : ∀ pn xe, PSsD (X.tried pn xe) body F) (hh : ∀ e, PSsD (X.held e) (b₀ :: suite) Fh) (hcs : ∀ c ∈ cs, CatchC X.K r c)
    (hst : X.stack = X.env :: X.outer := by rfl) (hfr : X.env.frame = some X.env.locals := by rfl) (hg : Gl X r := by rfl) (hdb : (r == ("__debug__" : Str)) = false := by decide)
    (hj : X.N[j]? = some n := by rfl) (hk : X.env.scope.names.lookup n = some .local := by rfl) :
    PSD X (.Try body [.ExceptHandler (some (.Name r np)) (some n) (b₀ :: suite) hpos] [] [] pos) (sTry cs j F Fh) := by
  refine ⟨fun D σ H => ∃ B G δ o, Same G H ∧ Same B H ∧ RepS X.K B G H δ σ ∧ sTry cs j F Fh δ = some o ∧ Want X B G D o, ?_, fun B G H δ σ o D sG sB rs e w => ⟨B, G, δ, o, sG, sB, rs, e, w⟩⟩
  intro pins s σ H D I ⟨B, G, δ, o, sG, sB, rs, e, w⟩
  refine wpAny_Try_except ?_
  have key : ∀ f s1, SP (X.tried (X.pn ++ pins) (fun ev s₁ => wpAny (model X.prog X.w) X.A (noteFrame ev X.env) (fun _ s₂ => wpAny (model X.prog X.w) X.A (setFlight ev none) (fun _ s₃ => wpAny (model X.prog X.w) X.A (handleBy ev X.env [.ExceptHandler (some (.Name r np)) (some n) (b₀ :: suite) hpos]) (SP X pins D) X.xe s₃) X.xe s₂) X.xe s₁)) [] D f s1 → SP X pins D f s1 := by
    intro f s1 h
    cases f with
    | next => obtain ⟨σ', H', J, q⟩ := h; exact ⟨σ', H', J.untried I.ok, q⟩
    | brk => obtain ⟨σ', H', J, q⟩ := h; exact ⟨σ', H', J.untried I.ok, q⟩
    | cont => obtain ⟨σ', H', J, q⟩ := h; exact ⟨σ', H', J.untried I.ok, q⟩
    | ret u => obtain ⟨v, σ', H', J, rv, q⟩ := h; exact ⟨v, σ', H', J.untried I.ok, rv, q⟩
  obtain ⟨tb, pb, kb⟩ := hb (X.pn ++ pins) (fun ev s₁ => wpAny (model X.prog X.w) X.A (noteFrame ev X.env) (fun _ s₂ => wpAny (model X.prog X.w) X.A (setFlight ev none) (fun _ s₃ => wpAny (model X.prog X.w) X.A (handleBy ev X.env [.ExceptHandler (some (.Name r np)) (some n) (b₀ :: suite) hpos]) (SP X pins D) X.xe s₃) X.xe s₂) X.xe s₁)
  refine wpAny_mono (pb [] s σ H D (I.tried _) ?_) (fun f s1 h => ?_) fun ev s1 h => h
  · unfold sTry at e
    cases eF : F δ with
    | none => rw [eF] at e; cases e
    | some o1 =>
      rw [eF] at e
      refine kb B G H δ σ o1 D sG sB rs eF ?_
      cases o1 with
      | nx δ1 => cases e; exact w
      | bk δ1 => cases e; exact w
      | ct δ1 => cases e; exact w
      | rt rr δ1 => cases e; cases rr <;> exact w
      | ex c δ1 =>
        intro pins' σ' G' H' s' e' C' od I' st rs' hC' hP Fl
        dsimp only at e
        split at e
        case isFalse => cases e
        rename_i hcc
        obtain ⟨R, C, hR, hC, eC, hx⟩ := hcs c.n (by simpa using hcc)
        have hC' : PySem.W.nsIn X.K mainGlobals c.n = some (some (.ref C')) := hC'
        rw [hC] at hC'
        cases hC'
        refine leave_fly2 (X := X.tried (X.pn ++ pins) _) I' hst hfr Fl fun h1 I1 F1 => ?_
        refine wpAny_handleBy_cons ?_ (by intro z; cases z)
        -- the test
        refine codeAny_handlers_test ?_
        have I2 : Inv (X.held e') pins σ' H' { s' with heap := h1 } := (I1.untried I.ok).held e'
        refine ld_glob I2 hg (PySem.W.mg_of I.ok.mod.kin I.ok.mod.glob hR) ?_ hdb
        refine PySem.W.exm_one I2.kIn F1.inst.type hx _ _ _ _ (fun _ _ z => z) ?_
        show codeAny _ _ _ _ _
        refine codeAny_handlers_suite_as ?_
        refine flight_fly I1 F1 fun h2 I3 F3 => ?_
        have I4 := (I3.trackX F3)
        have I5 : Inv (X.held e') pins σ' (upd H' e' (.ext (ExO e' C' od))) { s' with heap := h2 } := (I4.untried I.ok).held e'
        refine store_ok (X := X.held e') (v := .ref e') I5 hN hj (.inl hk) rfl (fun s6 I6 => ?_) (.inr hk)
        have rs2 : RepS X.K B (upd G' e' (.ext (ExO e' C' od))) (upd H' e' (.ext (ExO e' C' od))) δ1 σ' := RepS.new rs' st.s F3.free _
        have st2 : Stp B G (upd G' e' (.ext (ExO e' C' od))) (upd H' e' (.ext (ExO e' C' od))) := stp_new st F3.free
        have rs3 : RepS X.K B (upd G' e' (.ext (ExO e' C' od))) (upd H' e' (.ext (ExO e' C' od))) (δ1.set j (some (.ob c))) (σ'.set j (some (.ref e'))) :=
          rs2.put j (x := .ob c) ⟨e', C', od, rfl, hC, eC, upd_same, hP.mono (same_new _ (st.s.free F3.free))⟩ fun m _ z => nomatch z
        split at e
        case h_2 => cases e
        rename_i δ2 eh
        cases e
        obtain ⟨th, ph, kh⟩ := hh e'
        refine wpAny_mono (ph pins s6 _ _ { nx := fun σ7 H7 => ∃ G7, Stp B G G7 H7 ∧ RepS X.K B G7 H7 δ2 σ7, rt := fun _ _ => False } I6 (kh B _ _ _ _ _ _ st2.s st2.b rs3 eh fun σ7 G7 H7 a ra => ⟨G7, st2.trans a, ra⟩)) (fun f s7 h => ?_) fun _ _ z => z.elim
        cases f with
        | next =>
          obtain ⟨σ7, H7, I7, G7, st7, rs7⟩ := h
          have I8 : Inv X pins σ7 H7 s7 := I7.unheld I.ok
          obtain ⟨m, hm, _⟩ := id I8.loc
          show wpAny _ _ (bindName X.env n Value.none >>= fun _ => unbindBehindTheSuite X.env n hpos) _ _ _
          refine wpAny_nameGoes_keeps hk hm (by rw [I.ok.kind]; rfl) fun h' v hn hs => ?_
          exact ⟨_, H7, I8.gone hm hN hj hk hn hs, w _ G7 H7 st7 (rs7.gone j)⟩
        | brk => obtain ⟨_, _, _, z⟩ := h; exact z.elim
        | cont => obtain ⟨_, _, _, z⟩ := h; exact z.elim
        | ret u => obtain ⟨_, _, _, _, _, z⟩ := h; exact z.elim
  · cases f with
    | next => exact wpAny_execs_nil (key _ _ h)
    | brk => exact key _ _ h
    | cont => exact key _ _ h
    | ret u => exact key _ _ h
end
end L2
set_option Elab.async false
set_option linter.all false
set_option maxRecDepth 100000
set_option maxHeartbeats 4000000
namespace L2
open PySem PySem.Spec PyProof.Rows
def ExH (H : Hp) (a C : Addr) : Prop := ∃ od, H a = some (.ext (ExO a C od)) ∧ ∀ dx, od = some dx → ∃ fs, H dx = some (.xd fs)
theorem ExH.i {X : Cx} {pins : List (Addr × Obj)} {σ : St} {H : Hp} {s : Shared} {a C : Addr} (x : ExH H a C) (I : Inv X pins σ H s) : ExI a C s.heap := by
  obtain ⟨od, h1, h2⟩ := x
  refine ExO.i (I.hok a _ h1).1 fun dx e => ?_
  obtain ⟨fs, h3⟩ := h2 dx e
  exact ObjOk.is (I.hok dx _ h3)
theorem ExH.of {K : PySem.W.Frag} {G H : Hp} {a C : Addr} {c : Ex} {od : Option Addr} (s : Same G H) (h : G a = some (.ext (ExO a C od))) (p : Pay K G c od) : ExH H a C :=
  ⟨od, s _ _ h, fun dx e => by subst e; obtain ⟨vs, q, _⟩ := p; exact ⟨_, s _ _ q⟩⟩
section
variable {X : Cx} {x y r : Str} {p px pr pos pos' : Pos} {e : Expr}
@[simp] def sCpy (i j : Nat) : FS := fun δ => match δ[j]? with | some (some (.ob c)) => some (.nx (δ.set i (some (.ob c)))) | _ => none
theorem pe_clsK {R : Addr} (hR : PySem.W.nsIn X.K mainGlobals r = some (some (.ref R))) (hg : Gl X r) (hd : (r == ("__debug__" : Str)) = false) : PE X (.Name r pr) (tC (.ref R)) :=
  fun pins s σ H Q I h => ld_glob I hg (PySem.W.mg_of I.ok.mod.kin I.ok.mod.glob hR) ⟨.ref R, H, I, rfl, h⟩ hd
@[simp] def fIsOb (i : Nat) (tbl : List (Str × Bool)) : FE := fun δ => match δ[i]? with | some (some (.ob c)) => (tbl.lookup c.n).map .bl | _ => none
def IsOb1 (K : PySem.W.Frag) (r : Str) (tbl : List (Str × Bool)) : Prop := ∃ R, PySem.W.nsIn K mainGlobals r = some (some (.ref R)) ∧ ∀ c b, tbl.lookup c = some b → ∃ C, PySem.W.nsIn K mainGlobals c = some (some (.ref C)) ∧ PySem.W.kitOne K (.ref C) (.ref R) = some b
theorem pd_isOb1 (i : Nat) {tbl : List (Str × Bool)} (hT : IsOb1 X.K r tbl) (hm : X.mg "isinstance" = none) (hi : X.N[i]? = some x := by rfl) (hv : Vis X.env.scope x := by first | exact Or.inl rfl | exact Or.inr (Or.inl rfl) | exact Or.inr (Or.inr rfl)) (hd : (x == ("__debug__" : Str)) = false := by decide)
    (hcd : (x == ("__classdict__" : Str)) = false := by decide) (hg : Gl X "isinstance" := by rfl) (hgr : Gl X r := by rfl) (hdr : (r == ("__debug__" : Str)) = false := by decide)
    (hs : starEach [.Name x px, .Name r pr] X.env = (false, eval (.Name x px) X.env) :: starEach [.Name r pr] X.env := by rfl) (hs2 : starEach [.Name r pr] X.env = (false, eval (.Name r pr) X.env) :: starEach [] X.env := by rfl) (hpl : (backTo pos (starEach [.Name r pr] X.env)).any (·.1) = false := by rfl)
    (hb : bootBuiltins "isinstance" = some (.builtin "isinstance") := by decide +kernel) : PD X (.Call (.Name "isinstance" p) [.Name x px, .Name r pr] [] pos) (fIsOb i tbl) := by
  obtain ⟨R, hR, hT⟩ := hT
  have hc : CallR X (.builtin "isinstance") (fun xs H Q => ∃ a C b, xs = [.ref a, .ref R] ∧ ExH H a C ∧ ExcC X.K C ∧ PySem.W.kitOne X.K (.ref C) (.ref R) = some b ∧ Q (.bl b) H) := by
    intro pins s σ H xs us Q I r h
    obtain ⟨a, C, b, rfl, hH, eC, hk, q⟩ := h
    obtain ⟨u, w', rfl, r1, r2⟩ := vals2 r
    cases (show u = Value.ref a from r1)
    cases (show w' = Value.ref R from r2)
    exact PySem.W.kia_one (kitx_exc eC) I.kIn (hH.i I) hk (by intro z; cases z) fun tk => ⟨.bl b, H, I.tok tk, rfl, q⟩
  refine ⟨_, pe_callB hc hg hm hb (pa_cons (pe_var hi hv hd hcd) (pa_cons (pe_clsK hR hgr hdr) pa_nil hs2) hs) (by decide) (by decide) hs hpl, fun B G H δ σ d Q sG rs ef k => ?_⟩
  unfold fIsOb at ef
  split at ef
  · rename_i c ed
    obtain ⟨b, e1, rfl⟩ := Option.map_eq_some_iff.mp ef
    obtain ⟨v, h1, a, C, od, rfl, hC, eC, hG, hP⟩ := rs.at_ i _ ed
    obtain ⟨C', hC', hk⟩ := hT c.n b e1
    rw [hC] at hC'
    cases hC'
    exact ⟨_, h1, a, C, b, rfl, ExH.of sG hG hP, eC, hk, k _ G H (Grow.refl sG) (by simp [Rep])⟩
  · cases ef
end
end L2
set_option Elab.async false
set_option linter.all false
set_option maxRecDepth 100000
set_option maxHeartbeats 4000000
namespace L2
open PySem PySem.Spec PyProof.Rows
def fz (a : Addr) (o : Obj) (u : HO) (H : Hp) : Hp := fun b => if b = a then (H a).map (fun _ => HO.frz o u) else H b
def th (a : Addr) (u : HO) (H : Hp) : Hp := fun b => if b = a then (H a).map (fun _ => u) else H b
theorem fz_ne {a b : Addr} {o : Obj} {u : HO} {H : Hp} (h : b ≠ a) : fz a o u H b = H b := if_neg h
theorem fz_at {a : Addr} {o : Obj} {u x : HO} {H : Hp} (h : H a = some x) : fz a o u H a = some (.frz o u) := by unfold fz; rw [if_pos rfl, h]; rfl
theorem fz_no {a b : Addr} {o : Obj} {u : HO} {H : Hp} (h : H b = none) : fz a o u H b = none := by
  unfold fz; split
  · rename_i e; rw [← e, h]; rfl
  · exact h
theorem th_ne {a b : Addr} {u : HO} {H : Hp} (h : b ≠ a) : th a u H b = H b := if_neg h
theorem th_at {a : Addr} {u x : HO} {H : Hp} (h : H a = some x) : th a u H a = some u := by unfold th; rw [if_pos rfl, h]; rfl
theorem th_no {a b : Addr} {u : HO} {H : Hp} (h : H b = none) : th a u H b = none := by
  unfold th; split
  · rename_i e; rw [← e, h]; rfl
  · exact h
structure FzL (a : Addr) (kvs : List (Key × V)) (G G' : Hp) : Prop where
  one : Rd G a (.dK kvs)
  two : Rd G' a (.dK kvs)
  oth : ∀ b, b ≠ a → G' b = G b
theorem Rd.det {H : Hp} {a : Addr} {kvs : List (Key × V)} {u : HO} (h : Rd H a (.dK kvs)) (h' : Rd H a u) (hu : ∀ o x, u ≠ .frz o x) : u = .dK kvs := by
  rcases h with h | ⟨o, h⟩
  · rcases h' with h' | ⟨o', h'⟩
    · rw [h] at h'; cases h'; rfl
    · rw [h] at h'; cases h'
  · rcases h' with h' | ⟨o', h'⟩
    · rw [h] at h'; cases h'; exact absurd rfl (hu _ _)
    · rw [h] at h'; cases h'; rfl
theorem FzL.rd {a b : Addr} {kvs : List (Key × V)} {G G' : Hp} {u : HO} (l : FzL a kvs G G') (h : Rd G b u) (hu : ∀ o x, u ≠ .frz o x) : Rd G' b u := by
  by_cases hb : b = a
  · subst hb; rw [l.one.det h hu]; exact l.two
  · rcases h with h | ⟨o, h⟩
    · exact .inl (by rw [l.oth b hb]; exact h)
    · exact .inr ⟨o, by rw [l.oth b hb]; exact h⟩
mutual
theorem FzL.rep {K : PySem.W.Frag} {a : Addr} {kvs : List (Key × V)} {G G' : Hp} (l : FzL a kvs G G') : ∀ {d : D} {v : V}, Rep K G d v → Rep K G' d v
  | .non, _, h => by simp only [Rep] at h ⊢; exact h
  | .bl b, _, h => by simp only [Rep] at h ⊢; exact h
  | .int i, _, h => by simp only [Rep] at h ⊢; exact h
  | .str x, _, h => by simp only [Rep] at h ⊢; exact h
  | .tup ds, _, h => by
    simp only [Rep] at h ⊢
    obtain ⟨a, vs, h1, h2, h3⟩ := h
    exact ⟨a, vs, h1, h2.elim (fun z => .inl (l.rd z (fun _ _ z => nomatch z))) .inr, FzL.repL l h3⟩
  | .lst ds, _, h => by
    simp only [Rep] at h ⊢
    obtain ⟨a, vs, h1, h2, h3⟩ := h
    exact ⟨a, vs, h1, h2.elim (fun z => .inl (l.rd z (fun _ _ z => nomatch z))) .inr, FzL.repL l h3⟩
  | .dic ks ds, _, h => by
    simp only [Rep] at h ⊢
    obtain ⟨a, vs, h1, h2, h3, h4, h5⟩ := h
    exact ⟨a, vs, h1, l.rd h2 (fun _ _ z => nomatch z), h3, h4, FzL.repL l h5⟩
theorem FzL.repL {K : PySem.W.Frag} {a : Addr} {kvs : List (Key × V)} {G G' : Hp} (l : FzL a kvs G G') : ∀ {ds : List D} {vs : List V}, RepL K G ds vs → RepL K G' ds vs
  | [], _, h => by simp only [RepL] at h ⊢; exact h
  | d :: ds, _, h => by
    simp only [RepL] at h ⊢
    obtain ⟨v, r, h1, h2, h3⟩ := h
    exact ⟨v, r, h1, FzL.rep l h2, FzL.repL l h3⟩
end
theorem FzL.pay {K : PySem.W.Frag} {a : Addr} {kvs : List (Key × V)} {G G' : Hp} (l : FzL a kvs G G') {c : Ex} {od : Option Addr} (q5 : Pay K G c od) : Pay K G' c od := by
  cases od with
  | none => exact q5
  | some dx =>
    obtain ⟨us, r1, r2, r3⟩ := q5
    have hn2 : dx ≠ a := fun z => by subst z; rcases l.one with h | ⟨o, h⟩ <;> rw [r1] at h <;> cases h
    exact ⟨us, by rw [l.oth _ hn2]; exact r1, r2, l.repL r3⟩
theorem FzL.repS {K : PySem.W.Frag} {a : Addr} {kvs : List (Key × V)} {B B' G G' H H' : Hp} {δ : En} {σ : St} (l : FzL a kvs G G') (hB : ∀ b, B b = none → B' b = none) (hH : ∀ b, b ≠ a → H' b = H b) (rs : RepS K B G H δ σ) : RepS K B' G' H' δ σ := by
  have ga : ∀ b, G b = none → b ≠ a := fun b e z => by subst z; rcases l.one with h | ⟨o, h⟩ <;> rw [e] at h <;> cases h
  refine ⟨rs.len, fun i x e => ?_, rs.ap⟩
  obtain ⟨v, h1, h2⟩ := rs.at_ i x e
  refine ⟨v, h1, ?_⟩
  cases x with
  | sh d => exact l.rep h2
  | tk P w ts =>
    obtain ⟨b, as, q1, q2, q3, q4, q5⟩ := h2
    have hne := ga b q3
    refine ⟨b, as, q1, hB b q2, by rw [l.oth _ hne]; exact q3, by rw [hH b hne]; exact q4, q5.sys, q5.nd, q5.len, fun p hp => ?_⟩
    have hk := q5.keys p hp
    have hn2 : p.2 ≠ a := fun z => by rw [z] at hk; rcases l.one with h | ⟨o, h⟩ <;> rw [hk] at h <;> cases h
    rw [l.oth _ hn2]; exact hk
  | ob c =>
    obtain ⟨e1, C, od, q1, q2, q3, q4, q5⟩ := h2
    have hne : e1 ≠ a := fun z => by subst z; rcases l.one with h | ⟨o, h⟩ <;> rw [q4] at h <;> cases h
    exact ⟨e1, C, od, q1, q2, q3, by rw [l.oth _ hne]; exact q4, l.pay q5⟩
  | pv m o =>
    obtain ⟨b, us, q1, q2, q3, q4, q5, q6, q7⟩ := h2
    have hne := ga b q3
    exact ⟨b, us, q1, hB b q2, by rw [l.oth _ hne]; exact q3, by rw [hH b hne]; exact q4, q5, l.repL q6, q7⟩
section
variable {X : Cx} {pins : List (Addr × Obj)} {σ : St} {H : Hp} {s : Shared} {a : Addr} {kvs : List (Key × V)} {o : Obj}
theorem Inv.fz (I : Inv X pins σ H s) (e : H a = some (.dK kvs)) (ho : s.heap.get? a = some o) : Inv X pins σ (fz a o (.dK kvs) H) s := by
  have ne : ∀ b u, H b = some u → (∀ k, u ≠ .dK k) → b ≠ a := fun b u q h z => by subst z; rw [e] at q; cases q; exact h _ rfl
  refine I.un (t' := s.toks) (h' := s.heap) ⟨fun _ _ q _ _ _ => q, fun _ o q _ _ _ => ⟨o.slots, q⟩, fun b o q n _ => fz_no n, fun _ o q _ => ⟨o, q⟩, fun b xs q => by rw [fz_ne (ne b _ q fun _ z => nomatch z)]; exact q, fun b o u q => by rw [fz_ne (ne b _ q fun _ z => nomatch z)]; exact q, fun b ps q => ⟨#[], by rw [fz_ne (ne b _ q fun _ z => nomatch z), q]; simp⟩⟩ fun b u q => ?_
  have st : ∀ {b : Addr} {u : HO}, ObjOk X.prog X.w H s.heap b u → ObjOk X.prog X.w (L2.fz a o (.dK kvs) H) s.heap b u := fun {b u} x => x.stay (fun _ _ _ z => z) (fun c z => by rw [fz_ne (ne c _ z fun _ z => nomatch z)]; exact z) fun c xs z => by rw [fz_ne (ne c _ z fun _ z => nomatch z)]; exact z
  by_cases hb : b = a
  · subst hb
    rw [fz_at e] at q
    cases q
    exact ⟨ho, st (I.hok _ _ e)⟩
  · rw [fz_ne hb] at q
    exact st (I.hok _ _ q)
theorem Inv.th (I : Inv X pins σ H s) (e : H a = some (.frz o (.dK kvs))) (h0 : ∀ o u, X.H₀ a ≠ some (.frz o u)) : Inv X pins σ (th a (.dK kvs) H) s := by
  have ne : ∀ b u, H b = some u → (∀ o k, u ≠ .frz o k) → b ≠ a := fun b u q h z => by subst z; rw [e] at q; cases q; exact h _ _ rfl
  refine ⟨I.ok, I.os, I.bare, ⟨I.base.keep, I.base.slot, fun b o q n x => th_no (I.base.free b o q n x), I.base.there, fun b xs q => by rw [th_ne (ne b _ (I.base.tups b xs q) fun _ _ z => nomatch z)]; exact I.base.tups b xs q, fun b o u q => ?_, fun b ps q => ?_⟩, I.loc, I.cell, th_no I.free, fun x c q => th_no (I.freeC x c q), fun p hp => let ⟨q1, q2, q3⟩ := I.pin p hp; ⟨q1, th_no q2, q3⟩, fun b u q => ?_, I.len⟩
  · have hb : b ≠ a := fun z => by subst z; exact h0 _ _ q
    rw [th_ne hb]; exact I.base.frzs b o u q
  · obtain ⟨more, q1⟩ := I.base.tbls b ps q
    exact ⟨more, by rw [th_ne (ne b _ q1 fun _ _ z => nomatch z)]; exact q1⟩
  · have st : ∀ {b : Addr} {u : HO}, ObjOk X.prog X.w H s.heap b u → ObjOk X.prog X.w (L2.th a (.dK kvs) H) s.heap b u := fun {b u} x => x.stay (fun _ _ _ z => z) (fun c z => by rw [th_ne (ne c _ z fun _ _ z => nomatch z)]; exact z) fun c xs z => by rw [th_ne (ne c _ z fun _ _ z => nomatch z)]; exact z
    by_cases hb : b = a
    · subst hb
      rw [th_at e] at q
      cases q
      exact st (I.hok _ _ e).2
    · rw [th_ne hb] at q
      exact st (I.hok _ _ q)
end
end L2
set_option Elab.async false
set_option linter.all false
set_option maxRecDepth 100000
set_option maxHeartbeats 4000000
namespace L2
open PySem PySem.Spec PyProof.Rows
def kD : Key → D | .inl i => .int i | .inr x => .str x
section
variable {X : Cx} {pins : List (Addr × Obj)} {σ : St} {H : Hp} {s : Shared} {a : Addr} {kvs : List (Key × V)} {o : Obj}
theorem dict_frz (I : Inv X pins σ H s) (e : H a = some (.frz o (.dK kvs))) : (a == sysModules) = false ∧ ∃ vs es ep, KV kvs vs ∧ o.data = .dict es ep ∧ Heap.DictAt (mixKind X.prog X.w) s.heap a vs ep := by
  obtain ⟨ho, z, hd, vs, rel, o', es, ep, h1, h2, h3, h4⟩ := I.hok a _ e
  rw [ho] at h1
  cases h1
  exact ⟨hd, vs, es, ep, rel, h3, o, es, ho, h2, h3, h4⟩
def Itd (vals : Bool) (a : Addr) (o : Obj) (kvs : List (Key × V)) : It :=
  ⟨fun i H => H a = some (.frz o (.dK kvs)) ∧ i < kvs.length, fun i H x H' => H' = H ∧ (kvs[i]?).map (fun kv => if vals then kv.2 else kV kv.1) = some x, fun i H => H a = some (.frz o (.dK kvs)) ∧ kvs.length ≤ i⟩
theorem KV.get : ∀ {kvs : List (Key × V)} {vs : List (Key × Value)} {i : Nat} {kv : Key × V}, KV kvs vs → kvs[i]? = some kv → ∃ v, vs[i]? = some (kv.1, v) ∧ RelV kv.2 v
  | [], _, _, _, _, e => by simp at e
  | p :: r, _, 0, kv, h, e => by
    cases h with
    | cons h1 h2 =>
      rename_i q qs
      simp at e; subst e
      obtain ⟨k, v⟩ := q
      exact ⟨v, by rw [List.getElem?_cons_zero]; rw [h1.1], h1.2⟩
  | p :: r, _, i + 1, kv, h, e => by
    cases h with
    | cons h1 h2 =>
      obtain ⟨v, q1, q2⟩ := KV.get (i := i) h2 (by simpa using e)
      exact ⟨v, by simpa using q1, q2⟩
theorem turn_dictK {P : Program} {w : World} {K : PySem.W.Frag} {tg : Expr} {es : Array DictEntry} {ep : Nat} (hd : o.data = .dict es ep) (a it : Addr) : Turn P w K tg (Itd false a o kvs) [it] it (fun i h => h.IsKeyIter it a i kvs.length ep) where
  mem := by simp
  obj := fun i h st b hb => by
    have e : b = it := by simpa using hb
    subst e
    obtain ⟨o, e, c, d⟩ := st
    exact ⟨o, e, fun v z => by rw [d] at z; cases z⟩
  keep := fun i h h' st k => by obtain ⟨o, e, r⟩ := st; exact ⟨o, k it (by simp) o e, r⟩
  item := by
    intro X hP hw hK hc i pins s σ H E I hf st hg
    subst hP hw hK
    obtain ⟨he, hi⟩ := hg
    obtain ⟨_, vs, es', ep', rel, hd', da⟩ := dict_frz I he
    rw [hd] at hd'
    cases hd'
    obtain ⟨kv, hkv⟩ : ∃ kv, kvs[i]? = some kv := ⟨_, List.getElem?_eq_getElem hi⟩
    obtain ⟨v, hv, rv⟩ := KV.get rel hkv
    obtain ⟨f0, f1, f2, f3, f4, f5⟩ := hf it (by simp)
    refine wpAny_pyNext_dict_item (knd := mixKind X.prog X.w) (by rw [← Paired.length rel]; exact st) da hv fun key h' hk st' sb => ?_
    have I1 : Inv X pins σ H { s with heap := h' } := I.turned (t' := s.toks) (fun b o hb e => (sb.2 b hb).trans e) f0 f1 f3 f4 f5
    obtain ⟨o2, e, c, d⟩ := id st'
    refine ⟨key, rfl, go_of (s := { s with heap := h' }) e c d (by decide) ⟨kV kv.1, H, I1, ?_, ⟨rfl, by rw [hkv]; rfl⟩, by rw [Paired.length rel]; exact st', fun b hb => (hf b hb).1⟩⟩
    rcases keyIs_shape hk with ⟨i, t, h1, h2⟩ | ⟨x, t, h1, h2⟩
    · rw [h1, h2]; exact ⟨t, rfl⟩
    · rw [h1, h2]; exact ⟨t, rfl⟩
  done := by
    intro X hP hw hK hc i pins s σ H E I hf st hg
    subst hP hw hK
    obtain ⟨he, hi⟩ := hg
    obtain ⟨_, vs, es', ep', rel, hd', da⟩ := dict_frz I he
    rw [hd] at hd'
    cases hd'
    obtain ⟨f0, f1, f2, f3, f4, f5⟩ := hf it (by simp)
    exact wpAny_pyNext_dict_end (knd := mixKind X.prog X.w) (I.ok.hd hc) (by rw [← Paired.length rel]; exact st) da (List.getElem?_eq_none_iff.mpr (by rw [← Paired.length rel]; exact hi)) fun h' eb => ⟨rfl, I.turned (t' := s.toks) (fun b o hb e => eb b o hb e) f0 f1 f3 f4 f5⟩
  self := fun _ _ _ _ _ st h => wpAny_pyIter_keyiter st h
theorem turn_dictV {P : Program} {w : World} {K : PySem.W.Frag} {tg : Expr} {es : Array DictEntry} {ep : Nat} (hd : o.data = .dict es ep) (a it : Addr) : Turn P w K tg (Itd true a o kvs) [it] it (fun i h => h.IsValIter it a i kvs.length ep) where
  mem := by simp
  obj := fun i h st b hb => by
    have e : b = it := by simpa using hb
    subst e
    obtain ⟨o, e, c, d⟩ := st
    exact ⟨o, e, fun v z => by rw [d] at z; cases z⟩
  keep := fun i h h' st k => by obtain ⟨o, e, r⟩ := st; exact ⟨o, k it (by simp) o e, r⟩
  item := by
    intro X hP hw hK hc i pins s σ H E I hf st hg
    subst hP hw hK
    obtain ⟨he, hi⟩ := hg
    obtain ⟨_, vs, es', ep', rel, hd', da⟩ := dict_frz I he
    rw [hd] at hd'
    cases hd'
    obtain ⟨kv, hkv⟩ : ∃ kv, kvs[i]? = some kv := ⟨_, List.getElem?_eq_getElem hi⟩
    obtain ⟨v, hv, rv⟩ := KV.get rel hkv
    obtain ⟨f0, f1, f2, f3, f4, f5⟩ := hf it (by simp)
    refine wpAny_pyNext_values_item (knd := mixKind X.prog X.w) (by rw [← Paired.length rel]; exact st) da hv fun h' st' sb => ?_
    have I1 : Inv X pins σ H { s with heap := h' } := I.turned (t' := s.toks) (fun b o hb e => (sb.2 b hb).trans e) f0 f1 f3 f4 f5
    obtain ⟨o2, e, c, d⟩ := id st'
    exact ⟨v, rfl, go_of (s := { s with heap := h' }) e c d (by decide) ⟨kv.2, H, I1, rv, ⟨rfl, by rw [hkv]; rfl⟩, by rw [Paired.length rel]; exact st', fun b hb => (hf b hb).1⟩⟩
  done := by
    intro X hP hw hK hc i pins s σ H E I hf st hg
    subst hP hw hK
    obtain ⟨he, hi⟩ := hg
    obtain ⟨_, vs, es', ep', rel, hd', da⟩ := dict_frz I he
    rw [hd] at hd'
    cases hd'
    obtain ⟨f0, f1, f2, f3, f4, f5⟩ := hf it (by simp)
    exact wpAny_pyNext_values_end (knd := mixKind X.prog X.w) (I.ok.hd hc) (by rw [← Paired.length rel]; exact st) da (List.getElem?_eq_none_iff.mpr (by rw [← Paired.length rel]; exact hi)) fun h' eb => ⟨rfl, I.turned (t' := s.toks) (fun b o hb e => eb b o hb e) f0 f1 f3 f4 f5⟩
  self := fun _ _ _ _ _ st h => wpAny_pyIter_valiter st h
end
section
variable {X : Cx} {tg : Expr} {d : Str} {p pos apos : Pos}
def iDic (vals : Bool) (j : Nat) : TI := fun σ H R => ∃ a o kvs, σ[j]? = some (some (.ref a)) ∧ H a = some (.frz o (.dK kvs)) ∧ R (Itd vals a o kvs) H
theorem pi_dictK (j : Nat) (hj : X.N[j]? = some d) (hv : Vis X.env.scope d) (hd : (d == ("__debug__" : Str)) = false) (hcd : (d == ("__classdict__" : Str)) = false) : PI X tg (.Name d p) (iDic false j) := by
  intro pins s σ H R I ⟨a, o, kvs, hs, he, q⟩
  refine thn (pe_var hj hv hd hcd pins s σ H (fun v H' => v = .ref a ∧ H' = H) I ⟨_, hs, rfl, rfl⟩) fun v s1 ⟨x, H1, I1, r1, ex, eh⟩ => ?_
  subst ex eh
  obtain rfl : v = Value.ref a := r1
  obtain ⟨hm, vs, es, ep, rel, hdt, da⟩ := dict_frz I1 he
  refine wpAny_pyIter_dict hm da ?_
  refine ⟨s1.heap.objs.size, [s1.heap.objs.size], _, _, H1, rfl, I1.kept (t' := s1.toks) fun b o e => Heap.get?_push_of_some _ e, turn_dictK hdt a _, ⟨_, Heap.get?_push_size _ rfl, rfl, by rw [Paired.length rel]; rfl⟩, fun b hb => ?_, q⟩
  have e : b = s1.heap.objs.size := by simpa using hb
  subst e
  exact I1.fpOk (Nat.le_refl _) (I1.hok.fresh (Nat.le_refl _))
theorem pi_dictV (j : Nat) (hj : X.N[j]? = some d) (hv : Vis X.env.scope d) (hd : (d == ("__debug__" : Str)) = false) (hcd : (d == ("__classdict__" : Str)) = false)
    (hbase : attributeBase (.Name d p) "values" X.env (eval (.Name d p) X.env) = eval (.Name d p) X.env) (hline : (apos.endLine == pos.line) = true) : PI X tg (.Call (.Attribute (.Name d p) "values" apos) [] [] pos) (iDic true j) := by
  intro pins s σ H R I ⟨a, o, kvs, hs, he, q⟩
  refine wpAny_Call_method0_late hbase hline (thn (pe_var hj hv hd hcd pins s σ H (fun v H' => v = .ref a ∧ H' = H) I ⟨_, hs, rfl, rfl⟩) fun v s1 ⟨x, H1, I1, r1, ex, eh⟩ => ?_)
  subst ex eh
  obtain rfl : v = Value.ref a := r1
  obtain ⟨hm, vs, es, ep, rel, hdt, da⟩ := dict_frz I1 he
  obtain ⟨t1, t2, _⟩ := isD_at I1 (.inl ⟨kvs, .inr ⟨o, he⟩⟩)
  refine ⟨"dict", "dict.values", PySem.F.plainAttrs_dict, PySem.F.slot_dict_values, PySem.F.type_dict_values, t1, t2, Calls.callWith_builtin rfl (PySem.evalArgs_none ?_)⟩
  have dof : Heap.DictOf (mixKind X.prog X.w) s1.heap a vs := let ⟨o, es, r⟩ := da; ⟨o, es, ep, r⟩
  refine call_meetsIn PySem.F.slot_dict_values t1 PySem.F.entry_dict_values (PySem.F.args_dict_values_1 _) (meets_dict_values (mixKind X.prog X.w) a hm) ⟨⟨vs, dof⟩, ?_⟩
  obtain ⟨o', es', h1, h2⟩ := da
  refine wpAny_pyIter_values (knd := mixKind X.prog X.w) (d := a) (kvs := vs) (ep := ep) ⟨_, Heap.get?_push_size _ rfl, rfl, rfl⟩ ⟨o', es', Heap.get?_push_of_some _ h1, h2⟩ ?_
  have I2 : Inv X pins σ H1 { s1 with heap := s1.heap.push { cls := .type "dict_values", data := .fields #[.ref a] } } := I1.kept (t' := s1.toks) fun b o e => Heap.get?_push_of_some _ e
  refine ⟨_, [_], _, _, H1, rfl, I2.kept (t' := s1.toks) fun b o e => Heap.get?_push_of_some _ e, turn_dictV hdt a _, ⟨_, Heap.get?_push_size _ rfl, rfl, by rw [Paired.length rel]; rfl⟩, fun b hb => ?_, q⟩
  have e : b = _ := List.mem_singleton.mp hb
  subst e
  exact I2.fpOk (Nat.le_refl _) (I2.hok.fresh (Nat.le_refl _))
end
end L2
set_option Elab.async false
set_option linter.all false
set_option maxRecDepth 100000
set_option maxHeartbeats 4000000
namespace L2
open PySem PySem.Spec PyProof.Rows
section
variable {X : Cx} {F : FS} {B G H : Hp} {δ : En} {σ : St} {o : Out}
theorem for_run (i : Nat) {wi : TI} {tb : TS} {xs : List D} {E : Ends} (kb : GivesS X tb F) (sG : Same G H) (sB : Same B H) (rs : RepS X.K B G H δ σ)
    (hw : ∀ R : It → Hp → Prop, (∀ J G' H', Grow G H G' H' → Wk X.K J G' xs → R J H') → wi σ H R) (e : forL i F xs δ = some o) (w : Want X B G E o) : tFor wi (gName i) tb E σ H := by
  refine hw _ fun J G1 H1 g1 wk => ?_
  have st1 : Stp B G G1 H1 := g1.stp sB
  refine ⟨fun n m σ' H' => ∃ δ' G', m = xs.length - n ∧ n ≤ xs.length ∧ Stp B G1 G' H' ∧ RepS X.K B G' H' δ' σ' ∧ forL i F (xs.drop n) δ' = some o, ⟨_, δ, G1, rfl, Nat.zero_le _, Stp.refl st1.s st1.b, rs.grow g1, by simpa using e⟩, ?_⟩
  rintro n m σ' H' ⟨δ', G', rfl, hn, a1, rs', eo⟩
  by_cases hlt : n < xs.length
  · right
    obtain ⟨go, yl⟩ := wk.go n xs[n] G' H' (by simp [hlt]) a1.g a1.s
    rw [List.drop_eq_getElem_cons hlt] at eo
    unfold forL at eo
    refine ⟨go, fun σ2 H2 => ∃ m', m' < xs.length - n ∧ ∃ δ2 G2, m' = xs.length - (n + 1) ∧ n + 1 ≤ xs.length ∧ Stp B G1 G2 H2 ∧ RepS X.K B G2 H2 δ2 σ2 ∧ forL i F (xs.drop (n + 1)) δ2 = some o, fun σ2 H2 z => z, fun x H2 y => ?_⟩
    obtain ⟨rfl, rx⟩ := yl x H2 y
    show tb _ (σ'.set i (some x)) H2
    have again : ∀ {δ2 : En} {σ2 : St} {G2 H3 : Hp}, Stp B G' G2 H3 → RepS X.K B G2 H3 δ2 σ2 → forL i F (xs.drop (n + 1)) δ2 = some o →
        ∃ m', m' < xs.length - n ∧ ∃ δ2 G2, m' = xs.length - (n + 1) ∧ n + 1 ≤ xs.length ∧ Stp B G1 G2 H3 ∧ RepS X.K B G2 H3 δ2 σ2 ∧ forL i F (xs.drop (n + 1)) δ2 = some o :=
      fun {δ2 σ2 G2 H3} a r e => ⟨xs.length - (n + 1), by omega, δ2, G2, rfl, hlt, a1.trans a, r, e⟩
    cases eF : F (δ'.set i (some (.sh xs[n]))) with
    | none => rw [eF] at eo; cases eo
    | some o1 =>
      rw [eF] at eo
      refine kb B G' H2 _ _ o1 _ a1.s a1.b (rs'.set i rx) eF ?_
      cases o1 with
      | nx δ2 => exact fun σ2 G2 H3 a r => again a r eo
      | ct δ2 => exact fun σ2 G2 H3 a r => again a r eo
      | ex c δ2 =>
        cases eo
        exact fun pins σ2 G2 H3 s3 e C od I a => w pins σ2 G2 H3 s3 e C od I (st1.trans (a1.trans a))
      | bk δ2 =>
        cases eo
        exact fun σ2 G2 H3 a r => w σ2 G2 H3 (st1.trans (a1.trans a)) r
      | rt r δ2 =>
        cases eo
        cases r with
        | sh d => exact fun v σ2 G2 H3 a r => w v σ2 G2 H3 (st1.trans (a1.trans a)) r
        | fr m => exact fun p vs σ2 G2 H3 a => w p vs σ2 G2 H3 (st1.trans (a1.trans a))
  · left
    have hnn : n = xs.length := by omega
    subst hnn
    rw [List.drop_of_length_le (Nat.le_refl _)] at eo
    cases eo
    exact ⟨wk.stop G' H' a1.g a1.s, w σ' G' H' (st1.trans a1) rs'⟩
end
def dItems (vals : Bool) (ks : List Key) (ds : List D) : List D := if vals then ds else ks.map kD
theorem zip_get {ks : List Key} {vs : List V} {i : Nat} {kv : Key × V} (e : (ks.zip vs)[i]? = some kv) : ks[i]? = some kv.1 ∧ vs[i]? = some kv.2 := by
  rw [List.getElem?_zip_eq_some] at e
  exact e
theorem wk_dic {K : PySem.W.Frag} {G : Hp} {a : Addr} {o : Obj} {ks : List Key} {ds : List D} {vs : List V} (vals : Bool) (hG : G a = some (.frz o (.dK (ks.zip vs)))) (hl : ks.length = ds.length) (rl : RepL K G ds vs) : Wk K (Itd vals a o (ks.zip vs)) G (dItems vals ks ds) := by
  have hlz : (ks.zip vs).length = ds.length := by rw [List.length_zip, ← rl.length, hl]; simp
  have hli : (dItems vals ks ds).length = ds.length := by unfold dItems; split <;> simp [hl]
  refine ⟨fun i d G' H' ed a1 b1 => ⟨⟨b1 _ _ (a1 _ _ hG), ?_⟩, fun x H2 y => ⟨y.1, ?_⟩⟩, fun G' H' a1 b1 => ⟨b1 _ _ (a1 _ _ hG), by rw [hlz, hli]; exact Nat.le_refl _⟩⟩
  · have := (List.getElem?_eq_some_iff.mp ed).1
    rw [hlz]; rw [hli] at this; exact this
  · obtain ⟨kv, e1, e2⟩ := Option.map_eq_some_iff.mp y.2
    obtain ⟨hk, hv⟩ := zip_get e1
    cases vals with
    | true =>
      have ed : ds[i]? = some d := ed
      obtain ⟨v, q1, q2⟩ := rl.get ed
      rw [q1] at hv
      cases hv
      rw [← e2]
      exact q2.mono a1
    | false =>
      have ed : (ks.map kD)[i]? = some d := ed
      rw [List.getElem?_map, hk] at ed
      cases ed
      rw [← e2]
      show Rep K G' (kD kv.1) (kV kv.1)
      cases kv.1 <;> simp [kD, kV, Rep]
section
variable {X : Cx} {F : FS} {x d : Str} {p pos pos' apos cpos : Pos} {body : List Stmt}
@[simp] def sForD (vals : Bool) (i j : Nat) (F : FS) : FS := fun δ => match δ[j]? with
  | some (some (.sh (.dic ks ds))) => forL i F (dItems vals ks ds) δ
  | _ => none
theorem psd_forDI (vals : Bool) (i j : Nat) {iter : Expr} (hN : X.N.Nodup) (hc : X.calm = true) (hp : PassesOwn (model X.prog X.w) X.A X.env X.xe) (hi : PI X (.Name x pos') iter (iDic vals j)) (hb : PSsD X body F)
    (hix : X.N[i]? = some x) (hx : Loc X.env.scope x) (hf : X.fn x = true ∨ X.env.scope.names.lookup x = some .local) (hs : ∀ x, foldedSetIterable iter X.env x = pure x) : PSD X (.For (.Name x pos') iter body [] pos) (sForD vals i j F) := by
  obtain ⟨tb, pb, kb⟩ := hb
  have pfor := ps_for (pos := pos) hp hc hi (pg_name hN hix hx hf) pb hs
  refine ⟨fun E σ H => ∃ B G δ o, Same G H ∧ Same B H ∧ RepS X.K B G H δ σ ∧ sForD vals i j F δ = some o ∧ Want X B G E o, ?_, fun B G H δ σ o D sG sB rs e w => ⟨B, G, δ, o, sG, sB, rs, e, w⟩⟩
  intro pins s σ H E I ⟨B, G, δ, o', sG, sB, rs, e, w⟩
  unfold sForD at e
  split at e
  case h_2 => cases e
  rename_i ks ds ed
  obtain ⟨v, h1, h2⟩ := rs.at_ j _ ed
  have h2 : Rep X.K G (.dic ks ds) v := h2
  simp only [Rep] at h2
  obtain ⟨a, vs, rfl, hrd, hl, nd, rl⟩ := h2
  rcases hrd with hG | ⟨o, hG⟩
  · have hH := sG _ _ hG
    obtain ⟨o, ho⟩ := ObjOk.is (I.hok a _ hH)
    have h0 : ∀ o u, X.H₀ a ≠ some (.frz o u) := fun o u z => by have := I.base.frzs a o u z; rw [hH] at this; cases this
    have lkG : FzL a (ks.zip vs) G (fz a o (.dK (ks.zip vs)) G) := ⟨.inl hG, .inr ⟨o, fz_at hG⟩, fun b hb => fz_ne hb⟩
    have rs1 : RepS X.K (fz a o (.dK (ks.zip vs)) B) (fz a o (.dK (ks.zip vs)) G) (fz a o (.dK (ks.zip vs)) H) δ σ := lkG.repS (fun b e => fz_no e) (fun b hb => fz_ne hb) rs
    have same : ∀ {P Q : Hp}, Same P Q → Same (fz a o (.dK (ks.zip vs)) P) (fz a o (.dK (ks.zip vs)) Q) := fun {P Q} s b u z => by
      by_cases hb : b = a
      · subst hb
        cases e : P b with
        | none => rw [fz_no e] at z; cases z
        | some y => rw [fz_at e] at z; cases z; exact fz_at (s _ _ e)
      · rw [fz_ne hb] at z ⊢; exact s b u z
    have sG1 := same sG
    have sB1 := same sB
    have fzN : ∀ {P : Hp} {b : Addr}, fz a o (.dK (ks.zip vs)) P b = none → P b = none := fun {P b} z => by
      by_cases hb : b = a
      · subst hb
        cases e : P b with
        | none => rfl
        | some y => rw [fz_at e] at z; cases z
      · rw [fz_ne hb] at z; exact z
    have at' : ∀ {G' H' : Hp}, Stp (fz a o (.dK (ks.zip vs)) B) (fz a o (.dK (ks.zip vs)) G) G' H' → G' a = some (.frz o (.dK (ks.zip vs))) ∧ H' a = some (.frz o (.dK (ks.zip vs))) := fun {G' H'} st => ⟨st.g _ _ (fz_at hG), st.s _ _ (st.g _ _ (fz_at hG))⟩
    have stp : ∀ {G' H' : Hp}, Stp (fz a o (.dK (ks.zip vs)) B) (fz a o (.dK (ks.zip vs)) G) G' H' → Stp B G (th a (.dK (ks.zip vs)) G') (th a (.dK (ks.zip vs)) H') := fun {G' H'} st => by
      obtain ⟨q1, q2⟩ := at' st
      refine ⟨fun b u z => ?_, fun b u z => ?_, fun b u z => ?_, fun b u z n => ?_⟩
      · by_cases hb : b = a
        · subst hb; rw [hG] at z; cases z; exact th_at q1
        · rw [th_ne hb]; exact st.g b u (by rw [fz_ne hb]; exact z)
      · by_cases hb : b = a
        · subst hb; rw [th_at q1] at z; cases z; exact th_at q2
        · rw [th_ne hb] at z ⊢; exact st.s b u z
      · by_cases hb : b = a
        · subst hb
          have := sB _ _ z
          rw [hH] at this
          cases this
          exact th_at q2
        · rw [th_ne hb]; exact st.b b u (by rw [fz_ne hb]; exact z)
      · have hb : b ≠ a := fun y => by subst y; rw [hG] at n; cases n
        rw [th_ne hb]
        exact st.n b u (by rw [fz_ne hb]; exact z) (by rw [fz_ne hb]; exact n)
    have lkT : ∀ {G' : Hp}, G' a = some (.frz o (.dK (ks.zip vs))) → FzL a (ks.zip vs) G' (th a (.dK (ks.zip vs)) G') := fun {G'} q => ⟨.inr ⟨o, q⟩, .inl (th_at q), fun b hb => th_ne hb⟩
    have rst : ∀ {G' H' : Hp} {δ' : En} {σ' : St}, Stp (fz a o (.dK (ks.zip vs)) B) (fz a o (.dK (ks.zip vs)) G) G' H' → RepS X.K (fz a o (.dK (ks.zip vs)) B) G' H' δ' σ' → RepS X.K B (th a (.dK (ks.zip vs)) G') (th a (.dK (ks.zip vs)) H') δ' σ' :=
      fun st rs' => (lkT (at' st).1).repS (fun b z => fzN z) (fun b hb => th_ne hb) rs'
    have w1 : Want X (fz a o (.dK (ks.zip vs)) B) (fz a o (.dK (ks.zip vs)) G) { nx := fun σ' H' => H' a = some (.frz o (.dK (ks.zip vs))) ∧ E.nx σ' (th a (.dK (ks.zip vs)) H'), rt := fun v H' => H' a = some (.frz o (.dK (ks.zip vs))) ∧ E.rt v (th a (.dK (ks.zip vs)) H'), bk := fun σ' H' => H' a = some (.frz o (.dK (ks.zip vs))) ∧ E.bk σ' (th a (.dK (ks.zip vs)) H'), ct := fun σ' H' => H' a = some (.frz o (.dK (ks.zip vs))) ∧ E.ct σ' (th a (.dK (ks.zip vs)) H') } o' := by
      cases o' with
      | nx δ' => exact fun σ' G' H' st rs' => ⟨(at' st).2, w σ' _ _ (stp st) (rst st rs')⟩
      | bk δ' => exact fun σ' G' H' st rs' => ⟨(at' st).2, w σ' _ _ (stp st) (rst st rs')⟩
      | ct δ' => exact fun σ' G' H' st rs' => ⟨(at' st).2, w σ' _ _ (stp st) (rst st rs')⟩
      | ex c δ' =>
        intro pins' σ' G' H' s' e' C od I' st rs' hC hP Fl
        obtain ⟨q1, q2, oe, ovs, q3, q4, q5, q6, q7⟩ := Fl
        refine w pins' σ' _ _ s' e' C od (I'.th (at' st).2 h0) (stp st) (rst st rs') hC ((lkT (at' st).1).pay hP) ⟨q1, th_no q2, oe, ovs, q3, q4, q5, q6, ?_⟩
        rcases q7 with q7 | ⟨T, oT, ts, r1, r2, r3, r4, r5⟩
        · exact .inl q7
        · exact .inr ⟨T, oT, ts, r1, r2, r3, th_no r4, r5⟩
      | rt r δ' =>
        cases r with
        | sh dd => exact fun v σ' G' H' st rs' rv => ⟨(at' st).2, w v σ' _ _ (stp st) (rst st rs') ((lkT (at' st).1).rep rv)⟩
        | fr m =>
          intro p us σ' G' H' st rs' hp ok rl'
          have hpa : a ≠ p := ne_of_none (at' st).2 hp
          refine ⟨by rw [upd_ne hpa]; exact (at' st).2, ?_⟩
          have := w p us σ' _ _ (stp st) (rst st rs') (th_no hp) ok ((lkT (at' st).1).repL rl')
          rw [show th a (.dK (ks.zip vs)) (upd H' p (m.ho us)) = upd (th a (.dK (ks.zip vs)) H') p (m.ho us) from ?_]
          · exact this
          · funext b
            by_cases hb : b = p
            · subst hb; rw [th_ne (Ne.symm hpa), upd_same, upd_same]
            · rw [upd_ne hb]
              by_cases hba : b = a
              · subst hba; rw [th_at (at' st).2, th_at (x := .frz o (.dK (ks.zip vs))) (by rw [upd_ne hb]; exact (at' st).2)]
              · rw [th_ne hba, th_ne hba, upd_ne hb]
    have rl1 := lkG.repL rl
    refine thn (pfor pins s σ _ _ (I.fz hH ho) (for_run i kb sG1 sB1 rs1 (fun R k => ⟨a, o, _, h1, sG1 _ _ (fz_at hG), k _ _ _ (Grow.refl sG1) (wk_dic vals (fz_at hG) hl rl1)⟩) e w1)) fun f s' h => ?_
    cases f with
    | next => obtain ⟨σ', H', J, q, r⟩ := h; exact ⟨σ', _, J.th q h0, r⟩
    | brk => obtain ⟨σ', H', J, q, r⟩ := h; exact ⟨σ', _, J.th q h0, r⟩
    | cont => obtain ⟨σ', H', J, q, r⟩ := h; exact ⟨σ', _, J.th q h0, r⟩
    | ret u => obtain ⟨v, σ', H', J, rv, q, r⟩ := h; exact ⟨v, σ', _, J.th q h0, rv, r⟩
  · exact pfor pins s σ H E I (for_run i kb sG sB rs (fun R k => ⟨a, o, _, h1, sG _ _ hG, k _ _ _ (Grow.refl sG) (wk_dic vals hG hl rl)⟩) e w)
theorem psd_forDK (i j : Nat) (hN : X.N.Nodup) (hc : X.calm = true) (hp : PassesOwn (model X.prog X.w) X.A X.env X.xe) (hb : PSsD X body F)
    (hj : X.N[j]? = some d := by rfl) (hv : Vis X.env.scope d := by first | exact Or.inl rfl | exact Or.inr (Or.inl rfl) | exact Or.inr (Or.inr rfl)) (hd : (d == ("__debug__" : Str)) = false := by decide) (hcd : (d == ("__classdict__" : Str)) = false := by decide)
    (hix : X.N[i]? = some x := by rfl) (hx : Loc X.env.scope x := by first | exact Or.inl rfl | exact Or.inr rfl) (hf : X.fn x = true ∨ X.env.scope.names.lookup x = some .local := by first | exact .inl rfl | exact .inr rfl)
    (hs : ∀ x, foldedSetIterable (.Name d p) X.env x = pure x := by intro _; rfl) : PSD X (.For (.Name x pos') (.Name d p) body [] pos) (sForD false i j F) :=
  psd_forDI false i j hN hc hp (pi_dictK j hj hv hd hcd) hb hix hx hf hs
theorem psd_forDV (i j : Nat) (hN : X.N.Nodup) (hc : X.calm = true) (hp : PassesOwn (model X.prog X.w) X.A X.env X.xe) (hb : PSsD X body F)
    (hj : X.N[j]? = some d := by rfl) (hv : Vis X.env.scope d := by first | exact Or.inl rfl | exact Or.inr (Or.inl rfl) | exact Or.inr (Or.inr rfl)) (hd : (d == ("__debug__" : Str)) = false := by decide) (hcd : (d == ("__classdict__" : Str)) = false := by decide)
    (hbase : attributeBase (.Name d p) "values" X.env (eval (.Name d p) X.env) = eval (.Name d p) X.env := by rfl) (hline : (apos.endLine == cpos.line) = true := by rfl)
    (hix : X.N[i]? = some x := by rfl) (hx : Loc X.env.scope x := by first | exact Or.inl rfl | exact Or.inr rfl) (hf : X.fn x = true ∨ X.env.scope.names.lookup x = some .local := by first | exact .inl rfl | exact .inr rfl)
    (hs : ∀ x, foldedSetIterable (.Call (.Attribute (.Name d p) "values" apos) [] [] cpos) X.env x = pure x := by intro _; rfl) : PSD X (.For (.Name x pos') (.Call (.Attribute (.Name d p) "values" apos) [] [] cpos) body [] pos) (sForD true i j F) :=
  psd_forDI true i j hN hc hp (pi_dictV j hj hv hd hcd hbase hline) hb hix hx hf hs
end
end L2
set_option Elab.async false
set_option linter.all false
set_option maxRecDepth 100000
set_option maxHeartbeats 4000000
namespace L2
open PySem PySem.Spec PyProof.Rows
section
variable {X : Cx} {a b e c : Expr} {pos : Pos} {F F' : FS}
end
section
variable {X : Cx} {a b e c : Expr} {pos p1 p2 : Pos} {f : FE}
end
end L2
set_option Elab.async false
set_option linter.all false
set_option maxRecDepth 100000
set_option maxHeartbeats 4000000
namespace L2
open PySem PySem.Spec PyProof.Rows
section
variable {K : PySem.W.Frag} {c r : Str} {C R R1 R2 R3 R4 R5 : Addr} {b : Bool}
theorem excC_mk (h1 : PySem.W.findIn K (.ref C) "__getattribute__" = some (some (.builtin "BaseException.__getattribute__"))) (h2 : PySem.W.findIn K (.ref C) "__getattr__" = some none)
    (h3 : ∀ od, PySem.W.findObj K C od "__class__" = some (.bind (.builtin "getset_descriptor.__get__") (.builtin "object.__class__"))) (h4 : PySem.W.mroIn K C (.type "object") = some true) (h5 : PySem.W.mroIn K C (.type "BaseException") = some true)
    (h6 : PySem.W.kitCls K (.ref C) (.ref C) = some true) : ExcC K C := ⟨h1, h2, h3, h4, h5, h6⟩
theorem catch_nil : ∀ c ∈ ([] : List Str), CatchC K r c := fun _ h => nomatch h
theorem catch_cons {cs : List Str} (a : PySem.W.nsIn K mainGlobals r = some (some (.ref R))) (a2 : PySem.W.nsIn K mainGlobals c = some (some (.ref C))) (e : ExcC K C) (x : PySem.W.exmOne K (.ref C) (.ref R) = some true) (t : ∀ c ∈ cs, CatchC K r c) : ∀ c' ∈ c :: cs, CatchC K r c' := fun c' h => by
  rcases List.mem_cons.mp h with rfl | h
  · exact ⟨R, C, a, a2, e, x⟩
  · exact t c' h
theorem lk1 {c c' : Str} {b b' : Bool} (h : List.lookup c' [(c, b)] = some b') : c' = c ∧ b' = b := by
  unfold List.lookup at h
  split at h
  · rename_i e; cases h; exact ⟨by simpa using e, rfl⟩
  · cases h
theorem isOb1_mk (a : PySem.W.nsIn K mainGlobals r = some (some (.ref R))) (a2 : PySem.W.nsIn K mainGlobals c = some (some (.ref C))) (k : PySem.W.kitOne K (.ref C) (.ref R) = some b) : IsOb1 K r [(c, b)] :=
  ⟨R, a, fun c' b' h => by obtain ⟨rfl, rfl⟩ := lk1 h; exact ⟨C, a2, k⟩⟩
end
end L2
set_option Elab.async false
set_option linter.all false
set_option maxRecDepth 100000
set_option maxHeartbeats 4000000
namespace L2
open PySem PySem.Spec PyProof.Rows
abbrev xiT (us : List Value) : Obj := { cls := .type "tuple", data := .seq us.toArray }
abbrev xiE (C n : Addr) : Obj := { cls := .ref C, data := .fields #[.ref n, .none, .none, .none, .bool false, .none] }
structure XiC (h : Heap) (C fI : Addr) : Prop where
  is : ∃ (B newId initId : String) (bmB : List Value) (_ : ExcBaseFacts B newId initId bmB) (nm q : Str) (N : Addr) (bs bm : List Value) (hdct : Bool) (sn : List Str) (sub : List Value) (ab : Bool) (col : Option Bool) (dd : Option Addr) (k0 k1 k2 k3 k5 : Option Value) (mN : Str → Option Value) (oI : Obj),
    OwnTail h bmB bm ∧ bm.contains (.type "BaseException") = true ∧ h.get? C = some (excClassObj nm q C N bs bm hdct sn sub ab col dd k0 k1 k2 k3 k5 newId) ∧ h.Ns N mN ∧ mN "__init__" = some (.ref fI) ∧ h.get? fI = some oI ∧ oI.cls = .type "function"
section
variable {prog : Program} {w : World} {A : Around} {E : Value → Shared → Prop} {h : Heap} {g : Array GenState} {d : Drawn} {t : Nat} {os : OsState} {C fI : Addr}
theorem xi_type {us : List Value} {Q : Fin → Shared → Prop} (X : XiC h C fI) (hl : us.length ≤ sizeLine)
    (k : wpAny (model prog w) A (call (.ref fI) (.ref (h.objs.size + 1) :: us)) (fun r s' => r = .none ∧ Q (.done (.ret (.ref (h.objs.size + 1)))) s') E ⟨(h.push (xiT us)).push (xiE C h.objs.size), g, d, t, os⟩) :
    wpAny (model prog w) A (Builtin.«type.__call__» ⟨.ref C :: us, []⟩) Q E ⟨h, g, d, t, os⟩ := by
  obtain ⟨B, nI, iI, bmB, F, nm, q, N, bs, bm, hdct, sn, sub, ab, col, dd, k0, k1, k2, k3, k5, mN, oI, T, hb, hC, hN, hi, hf, hfc⟩ := X.is
  repeat (first | with_reducible refine wpAny_loadPart_at hC ?_ | with_reducible refine wpAny_madeBy_exc hC ?_ | wp_step)
  refine codeAny_call_builtin_code (Code.quiet_builtin _ F.quiet) (wpAny_check_new_subT F T hC ?_)
  refine codeAny_exc_new_subT F T hC ?_ hl
  show wpAny _ _ _ _ _ ⟨(h.push (xiT us)).push (xiE C h.objs.size), g, d, t, os⟩
  have up : ∀ b o, h.get? b = some o → ((h.push (xiT us)).push (xiE C h.objs.size)).get? b = some o := fun b o e => Heap.get?_push_of_some _ (Heap.get?_push_of_some _ e)
  have at1 : ((h.push (xiT us)).push (xiE C h.objs.size)).get? (h.objs.size + 1) = some (xiE C h.objs.size) := Heap.get?_push_at (by simp [Heap.size_push]) rfl
  have N1 : ((h.push (xiT us)).push (xiE C h.objs.size)).Ns N mN := let ⟨o, es, ep, e, r⟩ := hN; ⟨o, es, ep, up _ _ e, r⟩
  have T1 := OwnTail.keeps up T
  have own : (Value.ref C :: bm).contains (.ref C) = true := by simp
  unfold isInstance
  repeat (first | (with_reducible refine wpAny_loadPart_at at1 ?_; dsimp only) | (with_reducible refine wpAny_isSubtype_exc (up _ _ hC) ?_; rw [own]) | wp_step)
  show wpAny _ _ (typeLookup (.ref C) _) _ _ _
  refine wpAny_typeLookup_tail (up _ _ hC) N1 T1 F.mroIs F.init.lookup ?_
  rw [hi]
  refine wpAny_holding (wpAny_bind ?_)
  unfold bindSpecial
  refine wpAny_bind (wpAny_typeOf (T := "function") ⟨_, up _ _ hf, hfc⟩ ?_)
  rw [if_pos (by decide)]
  refine wpAny_pure (wpAny_bind (wpAny_mono k (fun r s' hr => ?_) fun _ _ x => x))
  obtain ⟨rfl, hQ⟩ := hr
  wp_walk
  exact hQ
theorem xi_call {us : List Value} {Q : Value → Shared → Prop} (X : XiC h C fI) (hl : us.length ≤ sizeLine)
    (k : wpAny (model prog w) (A.under (.builtin "type.__call__" ⟨.ref C :: us, []⟩)) (call (.ref fI) (.ref (h.objs.size + 1) :: us)) (fun r s' => r = .none ∧ Q (.ref (h.objs.size + 1)) s') E ⟨(h.push (xiT us)).push (xiE C h.objs.size), g, d, t, os⟩) :
    wpAny (model prog w) A (call (.ref C) us) Q E ⟨h, g, d, t, os⟩ := by
  obtain ⟨B, nI, iI, bmB, F, nm, q, N, bs, bm, hdct, sn, sub, ab, col, dd, k0, k1, k2, k3, k5, mN, oI, T, hb, hC, hN, hi, hf, hfc⟩ := X.is
  have f1 := tc_lookup
  have f2 := tc_bind (.ref C)
  have hT : (⟨h, g, d, t, os⟩ : Shared).TypeIs (.ref C) "type" := ⟨_, hC, rfl⟩
  refine wpAny_call (codeAny_of_tree ?_)
  show wpAny _ _ (callAny (.ref C) _) _ _ _
  repeat (any_goals (first | assumption | with_reducible refine wpAny_loadPart_at hC ?_ | wp_step))
  refine ⟨rfl, ?_⟩
  exact codeAny_call_builtin_at (Code.quiet_builtin _ (by decide +kernel)) entry_typeCall (wpAny_check_type_call_sub hC (xi_type X hl k))
theorem xi_raise {s : Shared} {x : Sem Value} {env : Env} {Q : Flow → Shared → Prop} (hh : A.handled = none)
    (k : wpAny (model prog w) A x (fun v s1 => ∃ e oe vs, v = .ref e ∧ XiC s1.heap C fI ∧ s1.heap.get? e = some oe ∧ oe.cls = .ref C ∧ oe.data = .fields vs ∧ vs[1]? = some .none ∧ E (.ref e) s1) E s) :
    wpAny (model prog w) A (raiseStmt env (some x) none) Q E s := by
  unfold raiseStmt
  refine wpAny_bind (wpAny_mono k (fun v s1 h1 => ?_) fun _ _ x => x)
  obtain ⟨e, oe, vs, rfl, X, he, hc, hd, hv, hE⟩ := h1
  obtain ⟨B, nI, iI, bmB, F, nm, q, N, bs, bm, hdct, sn, sub, ab, col, dd, k0, k1, k2, k3, k5, mN, oI, T, hb, hC, hN, hi, hf, hfc⟩ := X.is
  have hcB : (Value.ref C :: bm).contains (.type "BaseException") = true := by rw [List.contains_cons, hb, Bool.or_true]
  obtain ⟨hp, g, d, tk, os⟩ := s1
  obtain ⟨c0, dd0, dt0, sl0⟩ := oe
  cases hc
  cases hd
  repeat (first | with_reducible refine wpAny_loadPart_at he ?_ | with_reducible refine wpAny_loadPart_at hC ?_ | (with_reducible refine wpAny_isSubtype_exc hC ?_; rw [hcB]) | wp_step)
  rw [hv]
  exact wpAny_pure (wpAny_ite_false rfl (wpAny_pure (wpAny_raiseNew_none hh hE)))
theorem xi_exec {s : Shared} {env : Env} {x : Str} {np cpos pos : Pos} {args : List Expr} {Q : Flow → Shared → Prop} (hh : A.handled = none) (hpl : (backTo cpos (starEach args env)).any (·.1) = false)
    (k : wpAny (model prog w) A (eval (.Name x np) env) (fun f s1 => f = .ref C ∧ wpAny (model prog w) A (evalArgs (.ref C) true (backTo cpos (starEach args env)) [])
      (fun a s2 => a.kw = [] ∧ a.pos.length ≤ sizeLine ∧ XiC s2.heap C fI ∧ wpAny (model prog w) (A.under (.builtin "type.__call__" ⟨.ref C :: a.pos, []⟩)) (call (.ref fI) (.ref (s2.heap.objs.size + 1) :: a.pos))
        (fun r s' => r = .none ∧ ∃ oe vs, XiC s'.heap C fI ∧ s'.heap.get? (s2.heap.objs.size + 1) = some oe ∧ oe.cls = .ref C ∧ oe.data = .fields vs ∧ vs[1]? = some .none ∧ E (.ref (s2.heap.objs.size + 1)) s') E
        { s2 with heap := (s2.heap.push (xiT a.pos)).push (xiE C s2.heap.objs.size) }) E s1) E s) :
    wpAny (model prog w) A (exec (.Raise (some (.Call (.Name x np) args [] cpos)) none pos) env) Q E s := by
  rw [arm_exec_Raise]
  refine wpAny_bind (wpAny_standAt (xi_raise (C := C) (fI := fI) hh ?_))
  refine wpAny_bind (wpAny_mono (wpAny_Call_ofName (wpAny_mono k (fun f s1 h1 => ?_) fun _ _ x => x)) (fun v s3 h3 => wpAny_bind (wpAny_standAt (wpAny_pure h3))) fun _ _ x => x)
  obtain ⟨rfl, h1⟩ := h1
  unfold callWith
  refine wpAny_bind (wpAny_holding (wpAny_mono h1 (fun a s2 h2 => wpAny_bind (wpAny_standAt ?_)) fun _ _ x => x))
  obtain ⟨apos, akw⟩ := a
  obtain ⟨hkw, hl, X, h2⟩ := h2
  cases (show akw = [] from hkw)
  obtain ⟨hp, g, d, tk, os⟩ := s2
  simp only [hpl]
  obtain ⟨B, nI, iI, bmB, F, nm, q, N, bs, bm, hdct, sn, sub, ab, col, dd, k0, k1, k2, k3, k5, mN, oI, T, hb, hC, hN, hi, hf, hfc⟩ := X.is
  refine wpAny_bind (wpAny_keeperOf_exc hC ?_)
  refine wpAny_bind (xi_call X hl (wpAny_mono h2 (fun r s' hr => ?_) fun _ _ x => x))
  obtain ⟨rfl, oe, vs, X', he, hc, hd, hv, hE⟩ := hr
  exact ⟨rfl, wpAny_bind (wpAny_holding (wpAny_point (wpAny_pure ⟨_, oe, vs, rfl, X', he, hc, hd, hv, hE⟩)))⟩
end
end L2
set_option Elab.async false
set_option linter.all false
set_option maxRecDepth 100000
set_option maxHeartbeats 4000000
namespace L2
open PySem PySem.Spec PyProof.Rows PySem.Builtin PySem.Builtin.ObjectAttr
def excMro : List Value → Bool
  | .ref _ :: r => excMro r
  | l => l == bmV
theorem refuse_exc (self : Value) : ∀ {l : List Value}, excMro l = true → refuseLoop self "__setattr__" l = pure ()
  | .ref c :: r, e => by rw [refuseLoop_ref]; exact refuse_exc self (by simpa [excMro] using e)
  | [], e => by simp [excMro, bmV] at e
  | .type n :: r, e => by
    have e2 : (Value.type n :: r) = bmV := by simpa [excMro] using e
    rw [e2]; exact PySem.F.store_ValueError.passes self
  | .none :: r, e => by simp [excMro, bmV] at e
  | .bool b :: r, e => by simp [excMro, bmV] at e
  | .int i t :: r, e => by simp [excMro, bmV] at e
  | .str i t :: r, e => by simp [excMro, bmV] at e
  | .builtin i :: r, e => by simp [excMro, bmV] at e
section
variable {prog : Program} {w : World} {A : Around} {E : Value → Shared → Prop} {s : Shared} {K : PySem.W.Frag} {e C : Addr} {ox : Obj} {name : Str} {v : Value}
structure ExcS (K : PySem.W.Frag) (C : Addr) (name : Str) : Prop where
  st : PySem.W.findIn K (.ref C) "__setattr__" = some (some (.builtin "object.__setattr__"))
  mr : (PySem.W.clsIn K C).any (fun cd => excMro cd.mro && cd.hasDict) = true
  ob : PySem.W.mroIn K C (.type "object") = some true
  no : PySem.W.findIn K (.ref C) name = some none
theorem exs_set {vs : Array Value} {Q : Unit → Shared → Prop} (KX : K.In s.heap) (c : ExcS K C name) (hx : s.heap.get? e = some ox) (hc : ox.cls = .ref C) (hdn : ox.dict = none) (hdt : ox.data = .fields vs)
    (k : ∀ h', h'.get? e = some { ox with dict := some s.heap.objs.size } → h'.Ns1 s.heap.objs.size (fun y => if y = name then some v else none) → (∀ b o, b ≠ e → s.heap.get? b = some o → h'.get? b = some o) → h'.objs.size = s.heap.objs.size + 1 → Q () { s with heap := h', toks := s.toks + 2 }) :
    wpAny (model prog w) A (setAttr (.ref e) name v) Q E s := by
  obtain ⟨oc, od, odt, osl⟩ := ox
  cases hc
  cases hdn
  cases hdt
  have I : PySem.W.InstAt s.heap e ⟨.ref C, none, .fields vs, osl⟩ C none := ⟨hx, rfl, rfl, trivial⟩
  obtain ⟨cd, hcd, hm⟩ := PySem.W.any_some c.mr
  rw [Bool.and_eq_true] at hm
  have SF := PySem.F.store_ValueError
  have sub : PySem.W.Looks (model prog w) s.heap (isInstance (.ref e) (.type "object")) true := I.type.andThen (PySem.W.looks_mroIn KX c.ob)
  refine PySem.W.set_plain KX I c.st ?_
  refine codeAny_call_builtin SF.slot.plain SF.entry (@PySem.W.check_slot (model prog w) _ _ { s with toks := s.toks + 1 } "object.__setattr__" "object" "__setattr__" (.ref e) [.str name s.toks, v] [] _ SF.kind SF.split sub (SF.args (.ref e) (.str name s.toks) v) ?_)
  have hmr : PySem.W.Looks (model prog w) s.heap (mroOf (.ref C)) cd.mro := (PySem.W.looks_clsIn KX hcd).andThen .now
  rw [PySem.W.osa_eq, refuse_eq]
  have I1 : PySem.W.Looks (model prog w) ({ s with toks := s.toks + 1 } : Shared).heap (typeOf (.ref e)) (.ref C) := I.type
  have m1 : PySem.W.Looks (model prog w) ({ s with toks := s.toks + 1 } : Shared).heap (mroOf (.ref C)) cd.mro := hmr
  have f1 : PySem.W.Looks (model prog w) ({ s with toks := s.toks + 1 } : Shared).heap (typeLookup (.ref C) name) none := PySem.W.looks_findIn KX c.no
  have d1 : PySem.W.Looks (model prog w) ({ s with toks := s.toks + 1 } : Shared).heap (classData C) cd := PySem.W.looks_clsIn KX hcd
  refine wpAny_bind (wpAny_bind (I1.here (wpAny_bind (m1.here ?_))))
  rw [refuse_exc _ hm.1]
  refine wpAny_pure (wpAny_bind (I1.here (wpAny_bind (f1.here (wpAny_bind (wpAny_pure ?_))))))
  show wpAny _ _ (storeInOwnDict (.ref e) (.ref C) (.str name s.toks) name v false) _ _ _
  unfold storeInOwnDict
  refine wpAny_bind (wpAny_pure ?_)
  refine wpAny_bind ?_
  show wpAny _ _ (instanceDict e true) _ _ _
  unfold instanceDict
  refine wpAny_bind (wpAny_loadPart hx (wpAny_bind (d1.here ?_)))
  rw [hm.2]
  have ne : e ≠ s.heap.objs.size := Nat.ne_of_lt (Heap.lt_size hx)
  have p1 := Heap.get?_push_of_some PySem.W.emptyDict hx
  refine (show wpAny _ _ (alloc PySem.W.emptyDict >>= fun d => update e (fun o => { o with dict := some d }) >>= fun _ => dictMade (.ref C) e d) _ _ _ from ?_)
  refine wpAny_bind (wpAny_alloc (wpAny_bind (wpAny_update p1 (wpAny_pure ?_))))
  have g0 : ((s.heap.push PySem.W.emptyDict).update e fun o => { o with dict := some s.heap.objs.size }).get? s.heap.objs.size = some PySem.W.emptyDict := Heap.get?_update_of_ne _ ne (Heap.get?_push_size s.heap rfl)
  have g1 : ((s.heap.push PySem.W.emptyDict).update e fun o => { o with dict := some s.heap.objs.size }).get? e = some ⟨.ref C, some s.heap.objs.size, .fields vs, osl⟩ := Heap.get?_update_self _ p1 rfl
  have n0 : ((s.heap.push PySem.W.emptyDict).update e fun o => { o with dict := some s.heap.objs.size }).Ns1 s.heap.objs.size (fun _ => none) := Heap.Ns1.of_empty ⟨_, #[], _, g0, rfl, fun z hz => absurd hz (by simp), fun _ => rfl⟩
  show wpAny _ _ (storeInDict s.heap.objs.size (.str name s.toks) name v) _ _ _
  unfold storeInDict newKeyGuard
  refine wpAny_bind (wpAny_pure (wpAny_bind (wpAny_nsSet1 n0 fun h' n1 sb => ?_)))
  obtain ⟨oD, esD, epD, hoD, hdD, hcD⟩ := n1.count (PySem.Within.cons name v PySem.Within.nil)
  refine wpAny_bind (wpAny_lookBehind hoD (by rw [hdD]; exact pastItsLine_dict (Nat.le_trans hcD (by rw [List.length_cons, List.length_nil, sizeLine_eq]; omega))) ?_)
  refine wpAny_pure (k h' ((sb.2 e ne).trans g1) n1 (fun b o hb z => (sb.2 b (Nat.ne_of_lt (Heap.lt_size z))).trans (Heap.get?_update_of_ne _ (Ne.symm hb) (Heap.get?_push_of_some _ z))) ?_)
  rw [sb.1, Heap.size_update, Heap.size_push]
end
end L2
set_option Elab.async false
set_option linter.all false
set_option maxRecDepth 100000
set_option maxHeartbeats 4000000
namespace L2
open PySem PySem.Spec PyProof.Rows
theorem exg_sigN (e : Addr) (name : Str) (t : Tok) : (match Manifest.signature? "BaseException.__getattribute__" with | some sig => Bind.checkArgs "BaseException.__getattribute__" sig ⟨[.ref e, .str name t], []⟩ | _ => pure ()) = (pure () : Sem Unit) := by rfl
theorem exc_get {prog : Program} {w : World} {A : Around} {E : Value → Shared → Prop} {s : Shared} {K : PySem.W.Frag} {e C : Addr} {ox : Obj} {od : Option Obj} {name : Str} {v : Value} {expr : Bool} {Q : Value → Shared → Prop}
    (KX : K.In s.heap) (I : PySem.W.InstAt s.heap e ox C od) (h1 : PySem.W.findIn K (.ref C) "__getattribute__" = some (some (.builtin "BaseException.__getattribute__"))) (h0 : PySem.W.findIn K (.ref C) "__getattr__" = some none)
    (h2 : PySem.W.findObj K C od name = some (.value v)) (h4 : PySem.W.mroIn K C (.type "BaseException") = some true) (hv : PySem.W.handedIn v = true)
    (q : Q v { s with toks := s.toks + 1 }) : wpAny (model prog w) A (getAttr (.ref e) name expr) Q E s := by
  have T1 : PySem.W.Looks (model prog w) ({ s with toks := s.toks + 1 } : Shared).heap (typeOf (.ref e)) (.ref C) := I.type
  have L1 : PySem.W.Looks (model prog w) ({ s with toks := s.toks + 1 } : Shared).heap (typeLookup (.ref C) "__getattribute__") (some (.builtin "BaseException.__getattribute__")) := PySem.W.looks_findIn KX h1
  have L0 : PySem.W.Looks (model prog w) ({ s with toks := s.toks + 1 } : Shared).heap (typeLookup (.ref C) "__getattr__") none := PySem.W.looks_findIn KX h0
  have L4 : PySem.W.Looks (model prog w) ({ s with toks := s.toks + 1 } : Shared).heap (isSubtype (.ref C) (.type "BaseException")) true := PySem.W.looks_mroIn KX h4
  have LF : PySem.W.Looks (model prog w) ({ s with toks := s.toks + 1 } : Shared).heap (Builtin.ObjectAttr.find (.ref e) (.ref C) name) (.value v) := PySem.W.looks_find KX I h2
  unfold getAttr getAttrBy
  refine wpAny_bind (wpAny_mkText (wpAny_holding (wpAny_bind (T1.here (wpAny_bind (L1.here ?_))))))
  show wpAny _ _ (getAttrByItsOwn _ _ _ _ _ _) _ _ _
  unfold getAttrByItsOwn
  refine wpAny_bind ?_
  unfold hookBefore
  rw [if_pos (by rfl)]
  refine L0.here (wpAny_bind (wpAny_attempt (wpAny_holding ?_)))
  unfold callGetattribute
  rw [if_neg (by cases expr <;> exact Bool.false_ne_true)]
  unfold boundAndCalled
  rw [exg_bind]
  refine wpAny_bind (wpAny_pure ?_)
  show wpAny _ _ (call (.builtin "BaseException.__getattribute__") [.ref e, .str name s.toks]) _ _ _
  refine wpAny_call (codeAny_call_builtin exg_plain exg_entry ?_)
  have chk : ∀ (A' : Around) (Q' : Unit → Shared → Prop) (E' : Value → Shared → Prop), Q' () { s with toks := s.toks + 1 } → wpAny (model prog w) A' (checkBuiltinCall "BaseException.__getattribute__" ⟨[.ref e, .str name s.toks], []⟩) Q' E' { s with toks := s.toks + 1 } := by
    intro A' Q' E' k
    unfold checkBuiltinCall
    rw [exg_kind, exg_split]
    show wpAny _ _ (isInstance (.ref e) (.type "BaseException") >>= _) _ _ _
    refine wpAny_bind ?_
    unfold isInstance
    refine wpAny_bind (T1.here (L4.here ?_))
    show wpAny _ _ (match Manifest.signature? "BaseException.__getattribute__" with | some sig => Bind.checkArgs "BaseException.__getattribute__" sig ⟨[.ref e, .str name s.toks], []⟩ | _ => pure ()) _ _ _
    rw [exg_sigN]
    exact wpAny_pure k
  refine chk _ _ _ ?_
  unfold Builtin.«object.__getattribute__»
  refine wpAny_bind (wpAny_pure ?_)
  refine wpAny_bind (wpAny_pure ?_)
  refine wpAny_bind (T1.here (wpAny_bind (LF.here (wpAny_pure ?_))))
  show wpAny _ _ (handedOut v) _ _ _
  rw [PySem.W.handedOut_of hv]
  exact wpAny_pure q
end L2
set_option Elab.async false
set_option linter.all false
set_option maxRecDepth 100000
set_option maxHeartbeats 4000000
namespace L2
open PySem PySem.Spec PyProof.Rows
def ExF (e C : Addr) (od : Option Addr) (h : Heap) : Prop := ∃ ox vs, h.get? e = some ox ∧ ox.cls = .ref C ∧ ox.dict = od ∧ ox.data = .fields vs ∧ vs[1]? = some .none
theorem exF_ok {P : Program} {w : World} {H : Hp} {h : Heap} {e C : Addr} {od : Option Addr} (x : ExF e C od h) : ObjOk P w H h e (.ext (ExF e C od)) :=
  ⟨x, let ⟨ox, _, h1, _⟩ := x; ⟨ox, h1⟩, fun h1 h2 ⟨ox, vs, a, b⟩ k => ⟨ox, vs, k _ a, b⟩⟩
def sFldX (K : PySem.W.Frag) (ta tv : TE) (f : Str) : TS := fun D σ H => tv σ H fun y H1 => ta σ H1 fun x H2 => ∃ e C, x = .ref e ∧ H2 e = some (.ext (ExF e C none)) ∧ ExcS K C f ∧ ∀ dx, H2 dx = none → D.nx σ (upd (upd H2 dx (.xd [(f, y)])) e (.ext (ExF e C (some dx))))
section
variable {X : Cx} {o value : Expr} {f : Str} {pos pos' : Pos} {ta tv : TE}
theorem ps_fldX (ha : PE X o ta) (hv : PE X value tv) (hs : swapsWith value (some (.Attribute o f pos')) pos.line X.env = pure false) : PS X (.Assign [.Attribute o f pos'] value pos) (sFldX X.K ta tv f) := by
  intro pins s σ H D I h
  refine plainObj_wpAny_Assign_Attribute (thn (hv pins s σ H _ I h) fun u s1 ⟨y, H1, I1, ry, q⟩ => thn (ha pins s1 σ H1 _ I1 q) fun ov s2 ⟨x, H2, I2, rx, e, C, ex, he, c, q2⟩ => ?_) hs
  subst ex
  obtain rfl : ov = Value.ref e := rx
  obtain ⟨ox, vs, hx, hc, hd, hdt, hv1⟩ := (I2.hok e _ he).1
  refine exs_set I2.kIn c hx hc hd hdt fun h' g1 n1 kp sz => ?_
  have fr : H2 s2.heap.objs.size = none := I2.hok.fresh (Nat.le_refl _)
  have ne : s2.heap.objs.size ≠ e := fun z => by rw [← z] at he; rw [fr] at he; cases he
  have big : ∀ b o, s2.heap.get? b = some o → b ≠ s2.heap.objs.size := fun b o z => Nat.ne_of_lt (Heap.lt_size z)
  refine ⟨σ, _, I2.un (t' := s2.toks + 2) ⟨fun b o z n _ _ => kp b o (fun y => by subst y; rw [he] at n; cases n) z, fun b o z n _ _ => ⟨o.slots, kp b o (fun y => by subst y; rw [he] at n; cases n) z⟩, fun b o z n _ => ?_, fun b o z _ => ?_, fun b xs z => ?_, fun b o u z => ?_, fun b ps z => ⟨#[], ?_⟩⟩ (fun b u z => ?_), q2 _ fr⟩
  · rw [upd_ne (fun y => by subst y; rw [he] at n; cases n), upd_ne (big b o z)]; exact n
  · by_cases hb : b = e
    · subst hb; exact ⟨_, g1⟩
    · exact ⟨o, kp b o hb z⟩
  · rw [upd_ne (fun y => by subst y; rw [he] at z; cases z), upd_ne (fun y => by subst y; rw [fr] at z; cases z)]; exact z
  · rw [upd_ne (fun y => by subst y; rw [he] at z; cases z), upd_ne (fun y => by subst y; rw [fr] at z; cases z)]; exact z
  · rw [upd_ne (fun y => by subst y; rw [he] at z; cases z), upd_ne (fun y => by subst y; rw [fr] at z; cases z), z]; simp
  · by_cases hb : b = e
    · subst hb
      rw [upd_same] at z
      cases z
      exact exF_ok ⟨_, vs, g1, hc, rfl, hdt, hv1⟩
    · rw [upd_ne hb] at z
      by_cases hb2 : b = s2.heap.objs.size
      · subst hb2
        rw [upd_same] at z
        cases z
        refine ⟨_, n1, fun g => ?_⟩
        by_cases hg : g = f
        · subst hg
          simp [List.lookup, RelO]
          exact ry
        · have : (g == f) = false := by simpa using hg
          simp [List.lookup, this, hg, RelO]
      · rw [upd_ne hb2] at z
        have nown : ∀ c, H2 c = some (.own b) → upd (upd H2 s2.heap.objs.size (.xd [(f, y)])) e (.ext (ExF e C (some s2.heap.objs.size))) c = some (.own b) := fun c q => by
          rw [upd_ne (fun y => by subst y; rw [he] at q; cases q), upd_ne (fun y => by subst y; rw [fr] at q; cases q)]; exact q
        refine (I2.hok b u z).stay (fun c v hc' q => kp c v (fun y => ?_) q) nown fun c xs q => ?_
        · subst y
          rcases hc' with rfl | hc'
          · exact hb rfl
          · rw [he] at hc'; cases hc'
        · rw [upd_ne (fun y => by subst y; rw [he] at q; cases q), upd_ne (fun y => by subst y; rw [fr] at q; cases q)]; exact q
end
end L2
set_option Elab.async false
set_option linter.all false
set_option maxRecDepth 100000
set_option maxHeartbeats 4000000
namespace L2
open PySem PySem.Spec PyProof.Rows
def xiIn (K : PySem.W.Frag) (C fI : Addr) : Bool := match K.lookup C with
  | some ⟨.type "type", _, .cls cd, sl⟩ => (match cd.mro, sl.toList with
    | .ref C' :: bm, [_, _, _, _, some (.builtin n), _] => C' == C && n == "ValueError.__new__" && !cd.hasDel && PySem.W.tailIn K bmV bm && PySem.W.nsOkIn K cd.ns && PySem.W.nsIn K cd.ns "__init__" == some (some (.ref fI))
    | _, _ => false)
  | _ => false
theorem nsv_of {K : PySem.W.Frag} {h : Heap} {N : Addr} {mN : Str → Option Value} {n : Str} {v : Value} (KX : K.In h) (G : h.Ns N mN) (e : PySem.W.nsIn K N n = some (some v)) : mN n = some v := by
  obtain ⟨o, es, ep, ho, hd, _, hf⟩ := G
  unfold PySem.W.nsIn at e
  split at e
  · rename_i c d es' n' sl q
    have h1 := KX _ _ q
    rw [ho] at h1; cases h1; cases hd
    split at e
    · rename_i y hy
      rw [← hf n]
      unfold nsFind findBy
      rw [← Array.find?_toList, hy]
      simpa using e
    · split at e <;> cases e
  · cases e
theorem xiK {K : PySem.W.Frag} {h : Heap} {C fI : Addr} {oI : Obj} (KX : K.In h) (hx : xiIn K C fI = true) (hf : K.lookup fI = some oI) (hc : oI.cls = .type "function") : XiC h C fI := by
  unfold xiIn at hx
  split at hx
  · rename_i dd cd sl hl
    split at hx
    · rename_i C' bm k0 k1 k2 k3 n k5 hm hs
      simp only [Bool.and_eq_true, Bool.not_eq_true', beq_iff_eq] at hx
      obtain ⟨⟨⟨⟨⟨rfl, rfl⟩, hd⟩, ht⟩, hn⟩, hi⟩ := hx
      obtain ⟨mN, hN⟩ := ns_okIn KX hn
      rcases cd with ⟨nm, bs, mro, ns, q, hdct, sn, sub, ab, col, hdel⟩
      cases hm
      cases hd
      have hT := PySem.W.tail_of_in KX ht
      have hC : h.get? C' = some (excClassObj nm q C' ns bs bm hdct sn sub ab col dd k0 k1 k2 k3 k5 "ValueError.__new__") := by
        rw [KX _ _ hl]
        have : sl = #[k0, k1, k2, k3, some (Value.builtin "ValueError.__new__"), k5] := by rw [← Array.toArray_toList (xs := sl), hs]
        rw [this]
      exact ⟨_, _, _, _, PySem.F.excBase_ValueError, nm, q, ns, bs, bm, hdct, sn, sub, ab, col, dd, k0, k1, k2, k3, k5, mN, oI, hT, tail_has hT (by decide), hC, hN, nsv_of KX hN hi, KX _ _ hf, hc⟩
    · cases hx
  · cases hx
theorem Inv.loseX {X : Cx} {pins : List (Addr × Obj)} {σ : St} {H : Hp} {s : Shared} {e : Addr} {φ : Heap → Prop} (I : Inv X pins σ (upd H e (.ext φ)) s) (hn : H e = none) : Inv X pins σ H s := by
  have ne : ∀ b u, H b = some u → b ≠ e := fun b u z y => by rw [y, hn] at z; cases z
  have nx : ∀ b u, upd H e (.ext φ) b = some u → (∀ ψ, u ≠ .ext ψ) → H b = some u := fun b u z h => by
    by_cases hb : b = e
    · subst hb; rw [upd_same] at z; cases z; exact absurd rfl (h φ)
    · rw [upd_ne hb] at z; exact z
  refine I.un (t' := s.toks) (h' := s.heap) (H' := H) ⟨fun b o q _ _ _ => q, fun b o q _ _ _ => ⟨o.slots, q⟩, fun b o q n _ => ?_, fun b o q _ => ⟨o, q⟩, fun b xs q => nx b _ q (fun _ z => nomatch z), fun b o u q => nx b _ q (fun _ z => nomatch z), fun b ps q => ⟨#[], by rw [nx b _ q (fun _ z => nomatch z)]; simp⟩⟩ fun b u z => ?_
  · by_cases hb : b = e
    · rw [hb]; exact hn
    · rw [upd_ne hb] at n; exact n
  · exact (I.hok b u (by rw [upd_ne (ne b u z)]; exact z)).stay (fun _ _ _ q => q) (fun c q => nx c _ q (fun _ z => nomatch z)) fun c xs q => nx c _ q (fun _ z => nomatch z)
structure RaiseI (K : PySem.W.Frag) (c attr : Str) (C f : Addr) : Prop where
  ns : PySem.W.nsIn K mainGlobals c = some (some (.ref C))
  ex : ExcC K C
  st : ExcS K C attr
  xi : xiIn K C f = true
  fn : ∃ oI, K.lookup f = some oI ∧ oI.cls = .type "function"
def spXi (K : PySem.W.Frag) (attr : Str) : Sp := fun vs H Q E => ∃ e C v, vs = [.ref e, v] ∧ H e = some (.ext (ExF e C none)) ∧ ExcS K C attr ∧ ∀ dx, H dx = none → Q .non (upd (upd H dx (.xd [(attr, v)])) e (.ext (ExF e C (some dx))))
theorem spXi_len {K : PySem.W.Frag} {attr : Str} : ∀ vs H Q E, spXi K attr vs H Q E → vs.length = 2 := fun vs H Q E ⟨e, C, v, h, _⟩ => by rw [h]; rfl
def tRaiseI (X : Cx) (attr : Str) (C : Addr) (ta : TA) : TS := fun D σ H => ta σ H fun vs H1 => ∃ v, vs = [v] ∧ ∀ pins s' e dx, H1 dx = none → H1 e = none → dx ≠ e → Inv X pins σ (upd H1 dx (.xd [(attr, v)])) s' → Fly X (upd H1 dx (.xd [(attr, v)])) s'.heap e C (some dx) → X.xe (.ref e) s'
section
variable {X : Cx} {e0 : Expr} {np cpos pos : Pos} {c attr : Str} {C f : Addr} {fd : FuncData} {ps : List Str} {k : Nat} {ta : TA}
theorem ps_raiseI (R : RaiseI X.K c attr C f) (F : FnOk X.prog X.w X.K X.mg X.base CX0 k f fd ps (spXi X.K attr)) (hr : Room (k + 1) X.A) (hb : Binds X.K fd ps []) (hex : X.ex = []) (hc : X.calm = true) (ha : PA X [e0] ta) (hg : Gl X c) (hdb : (c == ("__debug__" : Str)) = false)
    (he : starEach [e0] X.env = (false, eval e0 X.env) :: starEach [] X.env) (hpl : (backTo cpos (starEach [e0] X.env)).any (·.1) = false) :
    PS X (.Raise (some (.Call (.Name c np) [e0] [] cpos)) none pos) (tRaiseI X attr C ta) := by
  intro pins s σ H D I h
  obtain ⟨hC, eC, eS, hx, oI, hfI, hcI⟩ := R
  refine xi_exec (C := C) (fI := f) (I.ok.hd hc) hpl ?_
  refine ld_glob I hg (PySem.W.mg_of I.ok.mod.kin I.ok.mod.glob hC) ⟨rfl, ?_⟩ hdb
  obtain ⟨x0, hbk⟩ : ∃ x0, backTo cpos (starEach [e0] X.env) = (false, x0) :: backTo cpos (starEach [] X.env) := ⟨_, by rw [he]; rfl⟩
  rw [hbk]
  refine Calls.evalArgs_plain ?_
  rw [← hbk]
  refine thn (ha cpos pins s σ H _ I h) fun us s2 ⟨vs, H1, I1, r1, v, hv, q1⟩ => ?_
  subst hv
  obtain ⟨u, rfl, ru⟩ : ∃ u, us = [u] ∧ RelV v u := by
    cases r1 with
    | cons a b => cases b; exact ⟨_, rfl, a⟩
  refine ⟨rfl, by show 1 ≤ sizeLine; decide, xiK I1.kIn hx hfI hcI, ?_⟩
  have fe : H1 (s2.heap.objs.size + 1) = none := I1.hok.fresh (Nat.le_succ _)
  have I2 : Inv X pins σ (upd H1 (s2.heap.objs.size + 1) (.ext (ExF (s2.heap.objs.size + 1) C none))) { s2 with heap := (s2.heap.push (xiT [u])).push (xiE C s2.heap.objs.size) } :=
    I1.laid (t' := s2.toks) (fun b o z => Heap.get?_push_of_some _ (Heap.get?_push_of_some _ z)) (Nat.le_succ _) (exF_ok ⟨xiE C s2.heap.objs.size, _, Heap.get?_push_at (by simp [Heap.size_push]) rfl, rfl, rfl, rfl, rfl⟩)
  have r2 : Vals [V.ref (s2.heap.objs.size + 1), v] [Value.ref (s2.heap.objs.size + 1), u] := .cons rfl (.cons ru .nil)
  have hl : 2 = ps.length := by
    have := F.len [V.ref (s2.heap.objs.size + 1), v] (upd H1 (s2.heap.objs.size + 1) (.ext (ExF (s2.heap.objs.size + 1) C none))) (fun _ _ => True) E0 ⟨_, C, v, rfl, upd_same, eS, fun _ _ => trivial⟩
    exact this
  have bnd := hb { s2 with heap := (s2.heap.push (xiT [u])).push (xiE C s2.heap.objs.size) } [Value.ref (s2.heap.objs.size + 1), u] I2.kIn (by simpa using hl)
  rw [List.append_nil] at bnd
  refine wpAny_call (codeAny_mono (F.run _ X.stack _ _ ⟨[Value.ref (s2.heap.objs.size + 1), u], []⟩ [Value.ref (s2.heap.objs.size + 1), u] [V.ref (s2.heap.objs.size + 1), v]
    (fun v' H' => v' = .non ∧ ∃ dx, upd H1 (s2.heap.objs.size + 1) (.ext (ExF (s2.heap.objs.size + 1) C none)) dx = none ∧ H' = upd (upd (upd H1 (s2.heap.objs.size + 1) (.ext (ExF (s2.heap.objs.size + 1) C none))) dx (.xd [(attr, v)])) (s2.heap.objs.size + 1) (.ext (ExF (s2.heap.objs.size + 1) C (some dx)))) E0
    (hr.make C [u] []) (I2.env0.make C [u] []) bnd r2 ⟨_, C, v, rfl, upd_same, eS, fun dx hd => ⟨rfl, dx, hd, rfl⟩⟩) fun r s' hq => ?_)
  cases r with
  | error ev => exact pass0 (X := X) pins σ _ _ ev s' I2 hq
  | ok fl =>
    cases fl with
    | ret w' =>
      obtain ⟨v', H', I3, rv, ev, dx, hdx, eH⟩ := I2.after hq
      subst ev
      have ne : dx ≠ s2.heap.objs.size + 1 := fun z => by rw [z, upd_same] at hdx; cases hdx
      rw [upd_ne ne] at hdx
      have eH2 : H' = upd (upd H1 dx (.xd [(attr, v)])) (s2.heap.objs.size + 1) (.ext (ExF (s2.heap.objs.size + 1) C (some dx))) := by
        rw [eH]
        funext b
        by_cases hb1 : b = s2.heap.objs.size + 1
        · rw [hb1, upd_same, upd_same]
        · rw [upd_ne hb1, upd_ne hb1]
          by_cases hb2 : b = dx
          · rw [hb2, upd_same, upd_same]
          · rw [upd_ne hb2, upd_ne hb2, upd_ne hb1]
      rw [eH2] at I3
      have fe2 : upd H1 dx (.xd [(attr, v)]) (s2.heap.objs.size + 1) = none := by rw [upd_ne (Ne.symm ne)]; exact fe
      obtain ⟨ox, ovs, g1, g2, g3, g4, g5⟩ := (I3.hok (s2.heap.objs.size + 1) _ upd_same).1
      refine ⟨rv, ox, ovs, xiK I3.kIn hx hfI hcI, g1, g2, g4, g5, ?_⟩
      exact q1 pins s' _ dx hdx fe ne (I3.loseX fe2) ⟨Out1.of I1 hex (Heap.get?_none_of_le (Nat.le_succ _)), fe2, ox, ovs, g1, g2, g3, g4, .inl g5⟩
    | next => exact False.elim hq
    | brk => exact False.elim hq
    | cont => exact False.elim hq
@[simp] def sRaiseI (c attr : Str) (g : FE) : FS := fun δ => (g δ).map fun d => .ex ⟨c, [attr], [d]⟩ δ
theorem psd_raiseI {g : FE} (R : RaiseI X.K c attr C f) (F : FnOk X.prog X.w X.K X.mg X.base CX0 k f fd ps (spXi X.K attr)) (hr : Room (k + 1) X.A) (hb : Binds X.K fd ps []) (ha : PD X e0 g) (hex : X.ex = [] := by rfl) (hc : X.calm = true := by rfl) (hg : Gl X c := by rfl) (hdb : (c == ("__debug__" : Str)) = false := by decide)
    (he : starEach [e0] X.env = (false, eval e0 X.env) :: starEach [] X.env := by rfl) (hpl : (backTo cpos (starEach [e0] X.env)).any (·.1) = false := by rfl) :
    PSD X (.Raise (some (.Call (.Name c np) [e0] [] cpos)) none pos) (sRaiseI c attr g) := by
  obtain ⟨t, pt, kt⟩ := ha
  refine ⟨_, ps_raiseI R F hr hb hex hc (pa_cons pt pa_nil he) hg hdb he hpl, fun B G H δ σ o D sG sB rs e w => ?_⟩
  unfold sRaiseI at e
  obtain ⟨d, e1, rfl⟩ := Option.map_eq_some_iff.mp e
  refine kt B G H δ σ d _ sG rs e1 fun v G1 H1 g1 r1 => ?_
  refine ⟨v, rfl, fun pins s' e dx hdx hee hne I Fl => ?_⟩
  have g2 : Grow G1 H1 (upd G1 dx (.xd [(attr, v)])) (upd H1 dx (.xd [(attr, v)])) := Grow.laid g1.s _ hdx
  exact w pins σ _ _ s' e C (some dx) I ((g1.trans g2).stp sB) (rs.grow (g1.trans g2)) R.ns ⟨[v], upd_same, rfl, by simp only [RepL]; exact ⟨v, [], rfl, r1.mono g2.g, rfl⟩⟩ Fl
end
end L2
set_option Elab.async false
set_option linter.all false
set_option maxRecDepth 100000
set_option maxHeartbeats 4000000
namespace L2
open PySem PySem.Spec PyProof.Rows
@[simp] def fAtt (j : Nat) (cs : List Str) (attr : Str) : FE := fun δ => match δ[j]? with | some (some (.ob c)) => if cs.contains c.n = true then (c.ks.zip c.ds).lookup attr else none | _ => none
structure AttC (K : PySem.W.Frag) (c attr : Str) : Prop where
  at_ : ∀ C, PySem.W.nsIn K mainGlobals c = some (some (.ref C)) → PySem.W.findIn K (.ref C) attr = some none ∧ PySem.W.hasDictIn K C = true
theorem lookup_zip {K : PySem.W.Frag} {G : Hp} {attr : Str} {d : D} : ∀ {ks : List Str} {ds : List D} {vs : List V}, RepL K G ds vs → (ks.zip ds).lookup attr = some d → ∃ v, (ks.zip vs).lookup attr = some v ∧ Rep K G d v
  | [], _, _, _, h => by simp at h
  | k :: ks, [], _, _, h => by simp at h
  | k :: ks, x :: ds, _, r, h => by
    simp only [RepL] at r
    obtain ⟨v, us, rfl, r1, r2⟩ := r
    simp only [List.zip_cons_cons, List.lookup] at h ⊢
    cases e : attr == k with
    | true => rw [e] at h; cases h; exact ⟨v, rfl, r1⟩
    | false => rw [e] at h; exact lookup_zip r2 h
def tAttX (K : PySem.W.Frag) (ta : TE) (attr : Str) : TE := fun σ H Q => ta σ H fun x H1 => ∃ e C dx fs v, x = .ref e ∧ H1 e = some (.ext (ExO e C (some dx))) ∧ H1 dx = some (.xd fs) ∧ ExcC K C ∧ PySem.W.findIn K (.ref C) attr = some none ∧ PySem.W.hasDictIn K C = true ∧ fs.lookup attr = some v ∧ Q v H1
section
variable {X : Cx} {x attr : Str} {e : Expr} {p pos : Pos} {ta : TE}
theorem pe_attX (he : PE X e ta) (hb : attributeBase e attr X.env (eval e X.env) = eval e X.env) : PE X (.Attribute e attr pos) (tAttX X.K ta attr) := by
  intro pins s σ H Q I h
  refine attr_of hb (thn (he pins s σ H _ I h) fun u s1 ⟨x, H1, I1, rx, a, C, dx, fs, v, ex, h1, h2, eC, hf, hd, hl, q⟩ => ?_)
  subst ex
  obtain rfl : u = Value.ref a := rx
  obtain ⟨ox, g1, g2, g3, g4⟩ := (I1.hok a _ h1).1
  obtain ⟨mA, n1, r⟩ := I1.hok dx _ h2
  obtain ⟨od, ho, hlk⟩ := lookIn_ns n1
  obtain ⟨u, hu, ru⟩ := RelO.some_of (v := v) (o := mA attr) (by rw [← hl]; exact r attr)
  have J : PySem.W.InstAt s1.heap a ox C (some od) := ⟨g1, g2, g3, by rw [g4]; exact ho⟩
  exact exc_get I1.kIn J eC.ga eC.gx (PySem.W.findObj_own hd hf rfl (by rw [hlk, hu])) eC.be (handed_of ru) ⟨v, H1, I1.tok _, ru, q⟩
theorem pd_att (j : Nat) (cs : List Str) (hcs : ∀ c ∈ cs, AttC X.K c attr) (hj : X.N[j]? = some x := by rfl) (hv : Vis X.env.scope x := by first | exact Or.inl rfl | exact Or.inr (Or.inl rfl) | exact Or.inr (Or.inr rfl)) (hd : (x == ("__debug__" : Str)) = false := by decide) (hcd : (x == ("__classdict__" : Str)) = false := by decide)
    (hb : attributeBase (.Name x p) attr X.env (eval (.Name x p) X.env) = eval (.Name x p) X.env := by rfl) : PD X (.Attribute (.Name x p) attr pos) (fAtt j cs attr) := by
  refine ⟨_, pe_attX (pe_var hj hv hd hcd) hb, fun B G H δ σ d Q sG rs ef k => ?_⟩
  unfold fAtt at ef
  split at ef
  · rename_i c ed
    split at ef
    · rename_i hc
      obtain ⟨v, h1, a, C, od, rfl, hC, eC, hG, hP⟩ := rs.at_ j _ ed
      obtain ⟨q1, q2⟩ := (hcs c.n (by simpa using hc)).at_ C hC
      cases od with
      | none =>
        obtain ⟨z1, z2⟩ := hP
        rw [z1] at ef
        simp at ef
      | some dx =>
        obtain ⟨vs, r1, r2, r3⟩ := hP
        obtain ⟨w, l1, l2⟩ := lookup_zip r3 ef
        exact ⟨_, h1, a, C, dx, _, w, rfl, sG _ _ hG, sG _ _ r1, eC, q1, q2, l1, k w G H (Grow.refl sG) l2⟩
    · cases ef
  · cases ef
end
end L2
set_option Elab.async false
set_option linter.all false
set_option maxRecDepth 100000
set_option maxHeartbeats 4000000
namespace L2
open PySem PySem.Spec PyProof.Rows
def whileN (c : En → Option Bool) (F : FS) : Nat → FS
  | 0 => fun _ => none
  | n + 1 => fun δ => match c δ with
    | some false => some (.nx δ)
    | some true => match F δ with
      | some (.nx δ') => whileN c F n δ'
      | some (.ct δ') => whileN c F n δ'
      | some (.bk δ') => some (.nx δ')
      | some (.ex x δ') => some (.ex x δ')
      | some (.rt d δ') => some (.rt d δ')
      | none => none
    | none => none
@[simp] def sWhile (c : En → Option Bool) (F : FS) : FS := whileN c F 1000
section
variable {X : Cx} {c : En → Option Bool} {F : FS} {e : Expr} {body : List Stmt} {pos : Pos}
theorem psd_while (hp : PassesOwn (model X.prog X.w) X.A X.env X.xe) (hc : PDT X e c) (hb : PSsD X body F) : PSD X (.While e body [] pos) (sWhile c F) := by
  obtain ⟨tc, pc, kc⟩ := hc
  obtain ⟨tb, pb, kb⟩ := hb
  refine ⟨_, ps_while hp pc pb, fun B G H δ σ o D sG sB rs e w => ?_⟩
  unfold sWhile at e
  refine ⟨fun m σ' H' => ∃ G' δ', Stp B G G' H' ∧ RepS X.K B G' H' δ' σ' ∧ whileN c F m δ' = some o, ⟨1000, G, δ, Stp.refl sG sB, rs, e⟩, ?_⟩
  rintro m σ1 H1 ⟨G1, δ1, st1, rs1, e1⟩
  cases m with
  | zero => cases e1
  | succ m =>
    unfold whileN at e1
    cases ec : c δ1 with
    | none => rw [ec] at e1; cases e1
    | some b =>
      rw [ec] at e1
      refine kc B G1 H1 δ1 σ1 b _ st1.s rs1 ec fun G2 H2 g2 => ?_
      have st2 : Stp B G G2 H2 := st1.trans (g2.stp st1.b)
      cases b with
      | false =>
        cases e1
        exact w σ1 G2 H2 st2 (rs1.grow g2)
      | true =>
        rw [if_pos rfl]
        dsimp only at e1
        refine ⟨fun σ' H' => ∃ m', m' < m + 1 ∧ ∃ G' δ', Stp B G G' H' ∧ RepS X.K B G' H' δ' σ' ∧ whileN c F m' δ' = some o, fun _ _ h => h, ?_⟩
        cases eF : F δ1 with
        | none => rw [eF] at e1; cases e1
        | some u =>
          rw [eF] at e1
          refine kb B G2 H2 δ1 σ1 u _ st2.s st2.b (rs1.grow g2) eF ?_
          cases u with
          | nx δ2 => exact fun σ' G' H' a r => ⟨m, Nat.lt_succ_self m, G', δ2, st2.trans a, r, e1⟩
          | ct δ2 => exact fun σ' G' H' a r => ⟨m, Nat.lt_succ_self m, G', δ2, st2.trans a, r, e1⟩
          | bk δ2 => cases e1; exact fun σ' G' H' a r => w σ' G' H' (st2.trans a) r
          | ex x δ2 => cases e1; exact fun pins σ' G' H' s' e C od I a => w pins σ' G' H' s' e C od I (st2.trans a)
          | rt r δ2 =>
            cases e1
            cases r with
            | sh d => exact fun v σ' G' H' a => w v σ' G' H' (st2.trans a)
            | fr m => exact fun p vs σ' G' H' a => w p vs σ' G' H' (st2.trans a)
end
end L2
set_option Elab.async false
set_option linter.all false
set_option maxRecDepth 100000
set_option maxHeartbeats 4000000
namespace L2
open PySem PySem.Spec PyProof.Rows
def tripD : D → Option (D × D × D) | .tup [a, b, c] => some (a, b, c) | _ => none
def tripsD : List D → Option (List (D × D × D))
  | [] => some []
  | d :: ds => (tripD d).bind fun p => (tripsD ds).map (p :: ·)
theorem tripsD_map (ps : List (D × D × D)) : tripsD (ps.map fun p => .tup [p.1, p.2.1, p.2.2]) = some ps := by
  induction ps with
  | nil => rfl
  | cons p ps ih => simp [tripsD, tripD, ih]
theorem tripsD_is : ∀ {xs : List D} {ps : List (D × D × D)}, tripsD xs = some ps → xs = ps.map fun p => .tup [p.1, p.2.1, p.2.2]
  | [], ps, h => by cases h; rfl
  | d :: ds, ps, h => by
    unfold tripsD at h
    obtain ⟨p, e1, h⟩ := Option.bind_eq_some_iff.mp h
    obtain ⟨qs, e2, rfl⟩ := Option.map_eq_some_iff.mp h
    unfold tripD at e1
    split at e1
    · cases e1
      rw [tripsD_is e2]
      rfl
    · cases e1
def forL3 (i j l : Nat) (F : FS) : List (D × D × D) → FS
  | [], δ => some (.nx δ)
  | x :: xs, δ => match F (((δ.set i (some (.sh x.1))).set j (some (.sh x.2.1))).set l (some (.sh x.2.2))) with
    | some (.nx δ') => forL3 i j l F xs δ'
    | some (.ct δ') => forL3 i j l F xs δ'
    | some (.ex c δ') => some (.ex c δ')
    | some (.bk δ') => some (.nx δ')
    | some (.rt d δ') => some (.rt d δ')
    | none => none
section
variable {X : Cx}
@[simp] def sForT (i j l : Nat) (g : En → Option (List D)) (F : FS) : FS := fun δ => (g δ).bind fun xs => (tripsD xs).bind fun ps => forL3 i j l F ps δ
theorem psd_forT (i j l : Nat) {x y z : Str} {px py pz pt pf : Pos} {k : Nat} {iter : Expr} {g : En → Option (List D)} {F : FS} {body : List Stmt} (hN : X.N.Nodup) (hc : X.calm = true) (hp : PassesOwn (model X.prog X.w) X.A X.env X.xe)
    (hi : PID X (.Tuple [.Name x px, .Name y py, .Name z pz] k pt) iter g) (hbody : PSsD X body F)
    (hix : X.N[i]? = some x := by rfl) (hx : Loc X.env.scope x := by first | exact Or.inl rfl | exact Or.inr rfl) (hfx : X.fn x = true ∨ X.env.scope.names.lookup x = some .local := by first | exact .inl rfl | exact .inr rfl)
    (hjy : X.N[j]? = some y := by rfl) (hy : Loc X.env.scope y := by first | exact Or.inl rfl | exact Or.inr rfl) (hfy : X.fn y = true ∨ X.env.scope.names.lookup y = some .local := by first | exact .inl rfl | exact .inr rfl)
    (hlz : X.N[l]? = some z := by rfl) (hz : Loc X.env.scope z := by first | exact Or.inl rfl | exact Or.inr rfl) (hfz : X.fn z = true ∨ X.env.scope.names.lookup z = some .local := by first | exact .inl rfl | exact .inr rfl)
    (ht1 : (assignEach [.Name x px, .Name y py, .Name z pz] X.env).map (·.2) = assign (.Name x px) X.env :: (assignEach [.Name y py, .Name z pz] X.env).map (·.2) := by rfl) (ht2 : (assignEach [.Name y py, .Name z pz] X.env).map (·.2) = assign (.Name y py) X.env :: (assignEach [.Name z pz] X.env).map (·.2) := by rfl) (ht3 : (assignEach [.Name z pz] X.env).map (·.2) = assign (.Name z pz) X.env :: (assignEach [] X.env).map (·.2) := by rfl)
    (hn : (assignEach [.Name x px, .Name y py, .Name z pz] X.env).length = 3 := by rfl) (hst : (assignEach [.Name x px, .Name y py, .Name z pz] X.env).findIdx? (·.1) = none := by rfl)
    (hfold : ∀ x, foldedSetIterable iter X.env x = pure x := by intro _; rfl) :
    PSD X (.For (.Tuple [.Name x px, .Name y py, .Name z pz] k pt) iter body [] pf) (sForT i j l g F) := by
  obtain ⟨wi, pw, kw⟩ := hi
  obtain ⟨tb, pb, kb⟩ := hbody
  refine ⟨_, ps_for hp hc pw (pg_tup (n := 3) hc (pgs_cons (pg_name hN hix hx hfx) (pgs_cons (pg_name hN hjy hy hfy) (pgs_cons (pg_name hN hlz hz hfz) pgs_nil ht3) ht2) ht1) hn hst) pb hfold, fun B G H δ σ o D sG sB rs e w => ?_⟩
  unfold sForT at e
  obtain ⟨xs, e1, e⟩ := Option.bind_eq_some_iff.mp e
  obtain ⟨ps, e2, e3⟩ := Option.bind_eq_some_iff.mp e
  clear e
  have hxs := tripsD_is e2
  subst hxs
  refine kw B G H δ σ _ _ sG rs e1 fun J G1 H1 g1 wk => ?_
  have st1 : Stp B G G1 H1 := g1.stp sB
  refine ⟨fun n m σ' H' => ∃ δ' G', m = ps.length - n ∧ n ≤ ps.length ∧ Stp B G1 G' H' ∧ RepS X.K B G' H' δ' σ' ∧ forL3 i j l F (ps.drop n) δ' = some o, ⟨_, δ, G1, rfl, Nat.zero_le _, Stp.refl st1.s st1.b, rs.grow g1, by simpa using e3⟩, ?_⟩
  rintro n m σ' H' ⟨δ', G', rfl, hn', a1, rs', eo⟩
  by_cases hlt : n < ps.length
  · right
    obtain ⟨dx', dy', dz', ep⟩ : ∃ p q r, ps[n] = (p, q, r) := ⟨_, _, _, rfl⟩
    obtain ⟨go, yl⟩ := wk.go n (.tup [dx', dy', dz']) G' H' (by simp [hlt, ep]) a1.g a1.s
    rw [List.drop_eq_getElem_cons hlt, ep] at eo
    unfold forL3 at eo
    refine ⟨go, fun σ2 H2 => ∃ m', m' < ps.length - n ∧ ∃ δ2 G2, m' = ps.length - (n + 1) ∧ n + 1 ≤ ps.length ∧ Stp B G1 G2 H2 ∧ RepS X.K B G2 H2 δ2 σ2 ∧ forL3 i j l F (ps.drop (n + 1)) δ2 = some o, fun σ2 H2 z => z, fun x H2 y => ?_⟩
    obtain ⟨rfl, rx⟩ := yl x H2 y
    simp only [Rep, RepL] at rx
    obtain ⟨p, us, rfl, hp1, ux, r1, rfl, rvx, uy, r2, rfl, rvy, uz, r3, rfl, rvz, rfl⟩ := rx
    refine ⟨p, [ux, uy, uz], rfl, a1.s.sqT hp1, rfl, ux, [uy, uz], rfl, uy, [uz], rfl, uz, [], rfl, rfl, ?_⟩
    have again : ∀ {δ2 : En} {σ2 : St} {G2 H3 : Hp}, Stp B G' G2 H3 → RepS X.K B G2 H3 δ2 σ2 → forL3 i j l F (ps.drop (n + 1)) δ2 = some o →
        ∃ m', m' < ps.length - n ∧ ∃ δ2 G2, m' = ps.length - (n + 1) ∧ n + 1 ≤ ps.length ∧ Stp B G1 G2 H3 ∧ RepS X.K B G2 H3 δ2 σ2 ∧ forL3 i j l F (ps.drop (n + 1)) δ2 = some o :=
      fun {δ2 σ2 G2 H3} a r e => ⟨ps.length - (n + 1), by omega, δ2, G2, rfl, hlt, a1.trans a, r, e⟩
    cases eF : F (((δ'.set i (some (.sh dx'))).set j (some (.sh dy'))).set l (some (.sh dz'))) with
    | none => rw [eF] at eo; cases eo
    | some o1 =>
      rw [eF] at eo
      refine kb B G' _ _ _ o1 _ a1.s a1.b (((rs'.set i rvx).set j rvy).set l rvz) eF ?_
      cases o1 with
      | nx δ2 => exact fun σ2 G2 H3 a r => again a r eo
      | ct δ2 => exact fun σ2 G2 H3 a r => again a r eo
      | ex c δ2 =>
        cases eo
        exact fun pins σ2 G2 H3 s3 e C od I a => w pins σ2 G2 H3 s3 e C od I (st1.trans (a1.trans a))
      | bk δ2 =>
        cases eo
        exact fun σ2 G2 H3 a r => w σ2 G2 H3 (st1.trans (a1.trans a)) r
      | rt r δ2 =>
        cases eo
        cases r with
        | sh d => exact fun v σ2 G2 H3 a r => w v σ2 G2 H3 (st1.trans (a1.trans a)) r
        | fr m => exact fun p vs σ2 G2 H3 a => w p vs σ2 G2 H3 (st1.trans (a1.trans a))
  · left
    have hnn : n = ps.length := by omega
    subst hnn
    rw [List.drop_of_length_le (Nat.le_refl _)] at eo
    cases eo
    have := wk.stop G' H' a1.g a1.s
    rw [List.length_map] at this
    exact ⟨this, w σ' G' H' (st1.trans a1) rs'⟩
end
end L2
set_option Elab.async false
set_option linter.all false
set_option maxRecDepth 100000
set_option maxHeartbeats 4000000
namespace L2
open PySem PySem.Spec PyProof.Rows
section
variable {X : Cx}
@[simp] def fGet1 (fd fk : FE) : FE := fun δ => (fd δ).bind fun d => (fk δ).bind fun k => get2D d k .non
theorem pd_get1 {o a : Expr} {fd fk : FE} {p1 p2 : Pos} (hu : X.A.units + 1 < cLine) (ho : PB X o fd) (ha : PB X a fk) (hm : M1 X o "get" p1 a p2 := by exact ⟨rfl, rfl, rfl, rfl⟩) : PD X (.Call (.Attribute o "get" p1) [a] [] p2) (fGet1 fd fk) := by
  obtain ⟨t1, q1, k1⟩ := ho
  obtain ⟨t2, q2, k2⟩ := ha
  refine ⟨_, pe_dget1 hu q1 q2 hm, fun B G H δ σ d Q sG rs ef k => ?_⟩
  unfold fGet1 at ef
  obtain ⟨dd, e1, ef⟩ := Option.bind_eq_some_iff.mp ef
  obtain ⟨kd, e2, ef⟩ := Option.bind_eq_some_iff.mp ef
  cases dd with
  | dic ks ds =>
    have ef : ((keyD kd).bind fun key => some ((valD ks ds key).getD .non)) = some d := ef
    obtain ⟨key, e4, ef⟩ := Option.bind_eq_some_iff.mp ef
    cases ef
    refine k1 B G H δ σ _ _ sG rs e1 fun v G1 H1 g1 r1 => ?_
    obtain ⟨a, vs, rfl, hd, _, _, _⟩ := r1.dic g1.s
    refine ⟨a, rfl, .inl ⟨_, hd⟩, k2 B G1 H1 δ σ _ _ g1.s (rs.grow g1) e2 fun kv G2 H2 g2 r2 => ?_⟩
    obtain ⟨a', vs', e5, hd', hl, nd, rl⟩ := (r1.grow g2).dic g2.s
    cases e5
    obtain rfl := keyD_rep e4 r2
    refine ⟨valV (ks.zip vs') key, .inl ⟨_, key, hd', rfl, rfl⟩, k _ G2 H2 (g1.trans g2) ?_⟩
    have hv := valD_rep key hl rl
    cases ev : valD ks ds key with
    | none => rw [hv.2 ev]; simp [Rep]
    | some y =>
      obtain ⟨w', e6, r6⟩ := hv.1 y ev
      rw [e6]
      exact r6
  | _ => cases ef
@[simp] def fDic1 (fk fv : FE) : FR := fun δ => (fk δ).bind fun kd => (fv δ).bind fun d => (keyD kd).map fun k => .fr (.dic [k] [d])
theorem pr_dic1 {a b : Expr} {fk fv : FE} {pos : Pos} (ha : PB X a fk) (hb : PD X b fv) : PR X (.Dict [some a] [b] pos) (fDic1 fk fv) := by
  obtain ⟨t1, q1, k1⟩ := ha
  obtain ⟨t2, q2, k2⟩ := hb
  refine ⟨_, pe_disp (pps_cons q1 q2 pps_nil) rfl rfl (by simp) (by simp), fun B G H δ σ r Q sG rs ef w => ?_⟩
  unfold fDic1 at ef
  obtain ⟨kd, e1, ef⟩ := Option.bind_eq_some_iff.mp ef
  obtain ⟨d, e2, ef⟩ := Option.bind_eq_some_iff.mp ef
  obtain ⟨key, e3, rfl⟩ := Option.map_eq_some_iff.mp ef
  intro p hp
  have s0 : Same G (upd H p (.dK [])) := sG.trans (same_new _ hp)
  have rs0 : RepS X.K B G (upd H p (.dK [])) δ σ := rs.grow ⟨Same.refl _, same_new _ hp, s0, fun _ _ _ n => n⟩
  refine k1 B G _ δ σ _ _ s0 rs0 e1 fun kv G1 H1 g1 r1 => k2 B G1 H1 δ σ _ _ g1.s (rs0.grow g1) e2 fun v G2 H2 g2 r2 => ?_
  have g := g1.trans g2
  have gp : G2 p = none := g.n p _ upd_same (sG.free hp)
  obtain rfl := keyD_rep e3 r1
  refine ⟨g.h _ _ upd_same, [(key, v)], rfl, by simp, ?_⟩
  have eH : upd H2 p (.dK (mergeK [] [(key, v)])) = upd (fun b => if b = p then none else H2 b) p (.dK ([key].zip [v])) := by
    funext b
    by_cases hb : b = p
    · rw [hb, upd_same, upd_same]; rfl
    · rw [upd_ne hb, upd_ne hb, if_neg hb]
  rw [eH]
  have gg : Grow G H G2 (fun b => if b = p then none else H2 b) := by
    refine ⟨g.g, fun b o e => ?_, fun b o e => ?_, fun a o e n => ?_⟩
    · have hb : b ≠ p := ne_of_none e hp
      show (if b = p then none else H2 b) = some o
      rw [if_neg hb]
      exact g.h b o (by rw [upd_ne hb]; exact e)
    · have hb : b ≠ p := fun z => by rw [z, gp] at e; cases e
      show (if b = p then none else H2 b) = some o
      rw [if_neg hb]
      exact g2.s b o e
    · exact g.n a o (by rw [upd_ne (ne_of_none e hp)]; exact e) n
  exact w p [v] G2 _ gg (if_pos rfl) ⟨rfl, by simp⟩ (by simp only [Mo.vals, RepL]; exact ⟨v, [], rfl, r2, rfl⟩)
end
end L2
set_option Elab.async false
set_option linter.all false
set_option maxRecDepth 100000
set_option maxHeartbeats 4000000
namespace L2
open PySem PySem.Spec PyProof.Rows
def maxTo (f : Nat → Int) : Nat → Int
  | 0 => f 0
  | k + 1 => if f (k + 1) > maxTo f k then f (k + 1) else maxTo f k
theorem argBest_max (f : Nat → Int) : ∀ k, f (argBest (fun i j => decide (f i > f j)) k) = maxTo f k
  | 0 => rfl
  | k + 1 => by
    have ih := argBest_max f k
    unfold argBest maxTo
    rw [← ih]
    by_cases h : f (k + 1) > f (argBest (fun i j => decide (f i > f j)) k)
    · rw [if_pos (by simpa using h), if_pos h]
    · rw [if_neg (by simpa using h), if_neg h]
def intsOf : List D → Option (List Int)
  | [] => some []
  | .int i :: ds => (intsOf ds).map (i :: ·)
  | _ :: _ => none
theorem intsOf_map : ∀ {ds : List D} {zs : List Int}, intsOf ds = some zs → ds = zs.map .int
  | [], zs, h => by cases h; rfl
  | .int i :: ds, zs, h => by
    unfold intsOf at h
    obtain ⟨ys, e, rfl⟩ := Option.map_eq_some_iff.mp h
    rw [intsOf_map e]
    rfl
  | .non :: _, _, h => by cases h
  | .bl _ :: _, _, h => by cases h
  | .str _ :: _, _, h => by cases h
  | .tup _ :: _, _, h => by cases h
  | .lst _ :: _, _, h => by cases h
  | .dic _ _ :: _, _, h => by cases h
theorem repL_intsX {K : PySem.W.Frag} {G : Hp} : ∀ {zs : List Int} {vs : List V}, RepL K G (zs.map .int) vs → vs = zs.map V.int
  | [], _, h => by simp only [List.map_nil, RepL] at h; exact h
  | z :: zs, _, h => by
    simp only [List.map_cons, RepL] at h
    obtain ⟨v, r, rfl, h1, h2⟩ := h
    simp only [Rep] at h1
    rw [h1, repL_intsX h2]
    rfl
def maxLD : List D → Option D
  | [.lst ds] => (intsOf ds).bind fun zs => if zs.length = 0 then none else some (.int (maxTo (fun i => zs.getD i 0) (zs.length - 1)))
  | _ => none
theorem vals_intsX : ∀ {zs : List Int} {its : List Value}, Vals (zs.map V.int) its → ∃ xs : List (Int × Tok), its = xs.map (fun p => Value.int p.1 p.2) ∧ xs.map (·.1) = zs
  | [], _, h => by cases h; exact ⟨[], rfl, rfl⟩
  | z :: zs, _, h => by
    cases h with
    | cons h1 h2 =>
      obtain ⟨t, rfl⟩ := h1
      obtain ⟨xs, rfl, e⟩ := vals_intsX h2
      exact ⟨(z, t) :: xs, rfl, by simp [e]⟩
section
variable {X : Cx}
theorem call_maxL (hc : X.calm = true) : CallR X (.builtin "max") (fun xs H Q => ∃ (l : Addr) (zs : List Int), xs = [.ref l] ∧ SqL X.K H l (zs.map V.int) ∧ 0 < zs.length ∧ Q (.int (maxTo (fun i => zs.getD i 0) (zs.length - 1))) H) := by
  intro pins s σ H xs us Q I r h
  obtain ⟨l, zs, rfl, hq, hz, q⟩ := h
  obtain ⟨u, rfl, rx⟩ := vals1 r
  cases rx
  obtain ⟨its, rv, pl, _⟩ := I.list hq
  obtain ⟨ps, rfl, ez⟩ := vals_intsX rv
  have hlen : ps.length = zs.length := by rw [← ez]; simp
  have hit : ((ps.map fun p => Value.int p.1 p.2).toArray) = intItems ps.toArray := by simp [intItems]
  have hl := pl.isList
  rw [hit] at hl
  refine max_intList (I.ok.hd hc) hl (by simpa using (by omega : 0 < ps.length)) fun v h' tk hv keep => ?_
  obtain ⟨t, rfl⟩ := intItems_at hv
  refine ⟨.int _, H, I.kept (t' := tk) keep, ⟨t, rfl⟩, ?_⟩
  rw [argBest_max (numAt ps.toArray)]
  have hf : numAt ps.toArray = fun i => zs.getD i 0 := by
    funext i
    unfold numAt
    rw [← ez]
    simp [List.getD_eq_getElem?_getD]
  rw [hf]
  simpa [hlen] using q
theorem cd_maxL (hc : X.calm = true) : CallD X (.builtin "max") maxLD := by
  refine ⟨_, call_maxL hc, fun G H ds vs d Q sG r e k => ?_⟩
  unfold maxLD at e
  split at e
  · obtain ⟨zs, e1, e⟩ := Option.bind_eq_some_iff.mp e
    split at e
    · cases e
    · rename_i hz
      cases e
      obtain ⟨v, rfl, r1⟩ := repLB_one r
      obtain ⟨a, us, rfl, q, rl⟩ := r1.lst sG
      rw [intsOf_map e1] at rl
      obtain rfl := repL_intsX rl
      exact ⟨a, zs, rfl, q, by omega, k _ G H (Grow.refl sG) (by simp [Rep])⟩
  · cases e
end
end L2
set_option Elab.async false
set_option linter.all false
set_option maxRecDepth 100000
set_option maxHeartbeats 4000000
namespace L2
open PySem PySem.Spec PyProof.Rows
def hasT (ts : List (List Key)) (k : List Key) : Bool := ts.any fun x => decide (x = k)
def putT (ts : List (List Key)) (k : List Key) : List (List Key) := if hasT ts k = true then ts else ts ++ [k]
def putTA (ts : List (List Key)) (as : List Addr) (k : List Key) (b : Addr) : List Addr := if hasT ts k = true then as else as ++ [b]
theorem hasT_iff {ts : List (List Key)} {k : List Key} : hasT ts k = true ↔ k ∈ ts := by
  unfold hasT
  rw [List.any_eq_true]
  constructor
  · rintro ⟨x, h, e⟩
    rw [← of_decide_eq_true e]; exact h
  · intro h
    exact ⟨k, h, decide_eq_true rfl⟩
theorem atKey_tkX {k : List Key} : ∀ {ts : List (List Key)} {as : List Addr}, as.length = ts.length → (atKey (tkX ts as) k).isSome = hasT ts k
  | [], [], _ => rfl
  | t :: ts, a :: as, h => by
    have ih := atKey_tkX (k := k) (ts := ts) (as := as) (by simpa using h)
    unfold atKey tkX hasT at *
    simp only [List.zip_cons_cons, List.map_cons, List.any_cons, List.find?_cons] at *
    by_cases e : t = k
    · simp [e]
    · simp only [e, decide_false, Bool.false_or]
      exact ih
theorem putAt_tkX {k : List Key} (ts : List (List Key)) (as : List Addr) : (tkX ts as).map (PySem.putAt k (.bool true)) = tkX ts as := by
  unfold tkX
  rw [List.map_map]
  refine List.map_congr_left fun p _ => ?_
  show PySem.putAt k (.bool true) (p.1, p.2, Value.bool true) = _
  unfold PySem.putAt
  split <;> rfl
theorem stored_tkX {ts : List (List Key)} {as : List Addr} {k : List Key} {b : Addr} (h : as.length = ts.length) : storedH (tkX ts as) k b (.bool true) = tkX (putT ts k) (putTA ts as k b) := by
  unfold storedH putT putTA
  rw [atKey_tkX h]
  cases e : hasT ts k with
  | true => simp only [if_true]; exact putAt_tkX ts as
  | false =>
    simp only [Bool.false_eq_true, if_false]
    unfold tkX
    rw [List.zip_append h.symm, List.map_append]
    rfl
theorem TkS.put {G : Hp} {a b : Addr} {ts : List (List Key)} {as : List Addr} {k : List Key} (S : TkS G a ts as) (hb : G b = some (.tup (k.map kV))) : TkS G a (putT ts k) (putTA ts as k b) := by
  unfold putT putTA
  cases e : hasT ts k with
  | true => exact S
  | false =>
    simp only [Bool.false_eq_true, if_false]
    have hn : k ∉ ts := fun z => by rw [hasT_iff.mpr z] at e; cases e
    refine ⟨S.sys, ?_, by simp [S.len], fun p hp => ?_⟩
    · rw [List.nodup_append]
      exact ⟨S.nd, by simp, fun x hx y hy => by rw [List.mem_singleton.mp hy]; exact fun z => hn (z ▸ hx)⟩
    · rw [List.zip_append S.len.symm] at hp
      rcases List.mem_append.mp hp with hp | hp
      · exact S.keys p hp
      · rw [show p = (k, b) by simpa using hp]; exact hb
theorem TkS.mono {G G' : Hp} {a : Addr} {ts : List (List Key)} {as : List Addr} (S : TkS G a ts as) (g : Same G G') : TkS G' a ts as := ⟨S.sys, S.nd, S.len, fun p hp => g _ _ (S.keys p hp)⟩
theorem tkO_ok {P P' : Program} {w w' : World} {H : Hp} {h : Heap} {a : Addr} {ts : List (List Key)} {as : List Addr} (x : TkO P' w' a ts as h) : ObjOk P w H h a (.ext (TkO P' w' a ts as)) :=
  ⟨x, let ⟨o, _, _, h1, _⟩ := x; ⟨o, h1⟩, fun h1 h2 ⟨o, es, ep, a1, b⟩ k => ⟨o, es, ep, k _ a1, b⟩⟩
theorem tk_dict {P : Program} {w : World} {H : Hp} {h : Heap} {a : Addr} {ts : List (List Key)} {as : List Addr} (ok : HOk P w H h) (x : TkO P w a ts as h) (S : TkS H a ts as) : h.DictOfH (tupleKind (mixKind P w)) a (tkX ts as) := by
  obtain ⟨o, es, ep, h1, h2, h3, h4⟩ := x
  refine ⟨o, es, ep, h1, h2, h3, h4, fun x hx => ?_, ?_⟩
  · obtain ⟨p, hp, rfl⟩ := List.mem_map.mp hx
    exact key_of ok (S.keys p hp)
  · have : (tkX ts as).map (·.1) = ts := by
      unfold tkX
      rw [List.map_map]
      show (ts.zip as).map (fun p => p.1) = ts
      exact List.map_fst_zip (by rw [S.len]; exact Nat.le_refl _)
    rw [this]
    exact S.nd
section
variable {X : Cx} {pins : List (Addr × Obj)} {σ : St} {H : Hp} {s : Shared} {a b : Addr} {A : Around} {E : Value → Shared → Prop} {ts : List (List Key)} {as : List Addr} {k : List Key}
theorem tk_setItem {Q : Unit → Shared → Prop} (hu : A.units + 1 < cLine) (I : Inv X pins σ H s) (ha : H a = some (.ext (TkO X.prog X.w a ts as))) (S : TkS H a ts as) (hb : H b = some (.tup (k.map kV))) (hl : ts.length ≤ sizeLine)
    (h : ∀ s', Inv X pins σ (upd H a (.ext (TkO X.prog X.w a (putT ts k) (putTA ts as k b)))) s' → Q () s') : wpAny (model X.prog X.w) A (setItem (.ref a) (.ref b) (.bool true)) Q E s := by
  have dd := tk_dict I.hok (I.hok a _ ha).1 S
  have hz : (tkX ts as).length ≤ sizeLine := by unfold tkX; rw [List.length_map, List.length_zip, S.len, Nat.min_self]; exact hl
  refine wpAny_setItem_heap (hsz := hz) (tupleKind_room_in1 hu) (key_of I.hok hb) dd fun h' dd' hs => h _ ?_
  rw [stored_tkX S.len] at dd'
  obtain ⟨q, es, ep, hq, h2, h3, h4, _, h5⟩ := dd'
  exact d_write I (by rw [ha]; exact True.intro) hs ⟨q, hq⟩ (tkO_ok ⟨q, es, ep, hq, h2, h3, h4⟩)
end
def tTkNew (P : Program) (w : World) : TE := fun _ H Q => ∀ p, H p = none → (p == sysModules) = false → Q (.ref p) (upd H p (.ext (TkO P w p [] [])))
def tTkPut (P : Program) (w : World) (td : TE) (ty : TE) : TS := fun D σ H => td σ H fun x H2 => ty σ H2 fun y H3 => ∃ a ts as b k, x = .ref a ∧ H3 a = some (.ext (TkO P w a ts as)) ∧ TkS H3 a ts as ∧ y = .ref b ∧ H3 b = some (.tup (k.map kV)) ∧ ts.length ≤ sizeLine ∧ D.nx σ (upd H3 a (.ext (TkO P w a (putT ts k) (putTA ts as k b))))
section
variable {X : Cx} {pos pos' : Pos} {o i : Expr} {td ty : TE}
theorem pe_tkNew : PE X (.Dict [] [] pos) (tTkNew X.prog X.w) := fun pins s σ H Q I h =>
  have hb : (s.heap.objs.size == sysModules) = false := beq_eq_false_iff_ne.mpr (Ne.symm (Nat.ne_of_lt I.big))
  wpAny_Dict_empty ⟨.ref s.heap.objs.size, _, I.laid (a := s.heap.objs.size) (o := .ext (TkO X.prog X.w s.heap.objs.size [] [])) (t' := s.toks) (fun _ _ q => Heap.get?_push_of_some _ q) (Nat.le_refl _) (tkO_ok ⟨_, #[], 0, Heap.get?_push_size _ rfl, ⟨rfl, rfl, rfl⟩, rfl, rfl⟩), rfl, h _ (I.hok.fresh (Nat.le_refl _)) hb⟩
theorem ps_tkPut {kd : Nat} {pv : Pos} (hu : X.A.units + 1 < cLine) (ho : PE X o td) (hi : PE X i ty) (hs : swapsWith (.Constant (.bool true) kd pv) (some (.Subscript o i pos')) pos.line X.env = pure false) :
    PS X (.Assign [.Subscript o i pos'] (.Constant (.bool true) kd pv) pos) (tTkPut X.prog X.w td ty) := by
  intro pins s σ H D I h
  have hv : PE X (.Constant (.bool true) kd pv) (tC (.bl true)) := pe_bl
  refine wpAny_Assign_Subscript (thn (hv pins s σ H (fun v H1 => v = .bl true ∧ tTkPut X.prog X.w td ty D σ H1) I ⟨rfl, h⟩) fun r s1 ⟨v, H1, I1, rv, ev, q1⟩ => ?_) hs
  subst ev
  obtain rfl : r = Value.bool true := rv
  refine thn (ho pins s1 σ H1 _ I1 q1) fun u s2 ⟨x, H2, I2, rx, q2⟩ => thn (hi pins s2 σ H2 _ I2 q2) fun iv s3 ⟨y, H3, I3, ry, a, ts, as, b, k, ex, ha, S, ey, hb, hl, q3⟩ => ?_
  subst ex ey
  obtain rfl : u = Value.ref a := rx
  obtain rfl : iv = Value.ref b := ry
  exact tk_setItem hu I3 ha S hb hl fun s4 I4 => ⟨σ, _, I4, q3⟩
end
end L2
set_option Elab.async false
set_option linter.all false
set_option maxRecDepth 100000
set_option maxHeartbeats 4000000
namespace L2
open PySem PySem.Spec PyProof.Rows
def keysT : List D → Option (List Key)
  | [] => some []
  | d :: ds => (keyD d).bind fun k => (keysT ds).map (k :: ·)
theorem keysT_rep {K : PySem.W.Frag} {G : Hp} : ∀ {ds : List D} {ks : List Key} {vs : List V}, keysT ds = some ks → RepL K G ds vs → vs = ks.map kV
  | [], _, _, e, r => by cases e; simp only [RepL] at r; exact r
  | d :: ds, ks, vs, e, r => by
    unfold keysT at e
    obtain ⟨k, e1, e⟩ := Option.bind_eq_some_iff.mp e
    obtain ⟨ks', e2, rfl⟩ := Option.map_eq_some_iff.mp e
    simp only [RepL] at r
    obtain ⟨v, us, rfl, r1, r2⟩ := r
    rw [keysT_rep e2 r2, keyD_rep (H := G) e1 (.inl r1)]
    rfl
def noTk (i : Nat) (δ : En) : Bool := (List.range δ.length).all fun j => j == i || !isTk δ[j]?
theorem noTk_at {i j : Nat} {δ : En} {P : Program} {w : World} {ts : List (List Key)} (h : noTk i δ = true) (e : δ[j]? = some (some (.tk P w ts))) : j = i := by
  have hl := (List.getElem?_eq_some_iff.mp e).1
  have := List.all_eq_true.mp h j (List.mem_range.mpr hl)
  rw [e] at this
  simpa [isTk] using this
theorem RepS.tkUpd {K : PySem.W.Frag} {B G H : Hp} {δ : En} {σ : St} (r : RepS K B G H δ σ) {i : Nat} {P : Program} {w : World} {ts ts' : List (List Key)} {as' : List Addr} {a : Addr} {φ : Heap → Prop} (em : δ[i]? = some (some (.tk P w ts))) (ea : σ[i]? = some (some (.ref a)))
    (hH : H a = some (.ext φ)) (hB : B a = none) (hG : G a = none) (no : noTk i δ = true) (S : TkS G a ts' as') : RepS K B G (L2.upd H a (.ext (TkO P w a ts' as'))) (δ.set i (some (.tk P w ts'))) σ := by
  refine ⟨by simp [r.len], fun j x e => ?_, fun j l x y o1 o2 hjl e1 e2 => ?_⟩
  · rcases get_set e with ⟨rfl, e'⟩ | ⟨hj, e'⟩
    · cases e'
      exact ⟨_, ea, a, as', rfl, hB, hG, upd_same, S⟩
    · obtain ⟨v, h1, h2⟩ := r.at_ j x e'
      refine ⟨v, h1, ?_⟩
      cases x with
      | sh d => exact h2
      | ob c => exact h2
      | tk P' w' ts2 => exact absurd (noTk_at no e').symm hj
      | pv m2 o2 =>
        obtain ⟨a2, us2, rfl, q1, q2, q3, q4, q5⟩ := h2
        have hne : a2 ≠ a := fun z => by subst z; rw [hH] at q3; cases m2 <;> cases q3
        exact ⟨a2, us2, rfl, q1, q2, by rw [upd_ne hne]; exact q3, q4, q5⟩
  · rcases get_set e1 with ⟨_, z⟩ | ⟨hj, e1⟩
    · cases z
    · rcases get_set e2 with ⟨_, z⟩ | ⟨hj2, e2⟩
      · cases z
      · exact r.ap j l x y o1 o2 hjl e1 e2
@[simp] def sTkNew (P : Program) (w : World) (i : Nat) : FS := fun δ => some (.nx (δ.set i (some (.tk P w []))))
open Classical in
noncomputable def sTkPut (P : Program) (w : World) (i : Nat) (g : En → Option (List D)) : FS := fun δ => match δ[i]? with
  | some (some (.tk P' w' ts)) => if P' = P ∧ w' = w then (g δ).bind fun ds => (keysT ds).bind fun k => if ds.length ≤ sizeLine ∧ ts.length ≤ sizeLine ∧ noTk i δ = true then some (.nx (δ.set i (some (.tk P w (putT ts k))))) else none else none
  | _ => none
section
variable {X : Cx} {x : Str} {pos pos' p pt pv : Pos}
theorem psd_tkNew (i : Nat) (hN : X.N.Nodup) (hi : X.N[i]? = some x := by rfl) (hx : Loc X.env.scope x := by first | exact Or.inl rfl | exact Or.inr rfl)
    (hs : swapsWith (.Dict [] [] pv) (some (.Name x pos')) pos.line X.env = pure false := by rfl) (hf : X.fn x = true ∨ X.env.scope.names.lookup x = some .local := by first | exact .inl rfl | exact .inr rfl) : PSD X (.Assign [.Name x pos'] (.Dict [] [] pv) pos) (sTkNew X.prog X.w i) := by
  refine ⟨_, ps_set hN hi hx pe_tkNew hs hf, fun B G H δ σ o D sG sB rs e w => ?_⟩
  cases e
  intro p hp hb
  have g2 : Grow G H G (upd H p (.ext (TkO X.prog X.w p [] []))) := ⟨Same.refl _, same_new _ hp, sG.trans (same_new _ hp), fun _ _ _ n => n⟩
  exact w _ G _ (g2.stp sB) ((rs.grow g2).put i (x := .tk X.prog X.w []) ⟨p, [], rfl, sB.free hp, sG.free hp, upd_same, hb, List.nodup_nil, rfl, fun q hq => nomatch hq⟩ fun m _ z => nomatch z)
theorem psd_tkPut (i : Nat) {es : List Expr} {k kd : Nat} {g : En → Option (List D)} (hu : X.A.units + 1 < cLine) (ha : PAD X es g) (hi : X.N[i]? = some x := by rfl) (hv : Vis X.env.scope x := by first | exact Or.inl rfl | exact Or.inr (Or.inl rfl) | exact Or.inr (Or.inr rfl))
    (hd : (x == ("__debug__" : Str)) = false := by decide) (hcd : (x == ("__classdict__" : Str)) = false := by decide)
    (hs : swapsWith (.Constant (.bool true) kd pv) (some (.Subscript (.Name x p) (.Tuple es k pt) pos')) pos.line X.env = pure false := by rfl) :
    PSD X (.Assign [.Subscript (.Name x p) (.Tuple es k pt) pos'] (.Constant (.bool true) kd pv) pos) (sTkPut X.prog X.w i g) := by
  obtain ⟨ta, pa, ka⟩ := ha
  refine ⟨_, ps_tkPut hu (pe_var hi hv hd hcd) (pe_tup pa) hs, fun B G H δ σ o D sG sB rs e w => ?_⟩
  unfold sTkPut at e
  split at e
  · rename_i P' w' ts ed
    split at e
    · rename_i hP
      obtain ⟨rfl, rfl⟩ := hP
      obtain ⟨ds, e1, e⟩ := Option.bind_eq_some_iff.mp e
      obtain ⟨ky, e2, e⟩ := Option.bind_eq_some_iff.mp e
      split at e
      · rename_i hc
        obtain ⟨c1, c2, c3⟩ := hc
        cases e
        obtain ⟨v, h1, a, as, rfl, hB, hG, hH, S⟩ := rs.at_ i _ ed
        refine ⟨_, h1, ka B G H δ σ ds _ sG rs e1 fun vs G1 H1 g1 r1 => ⟨by rw [← r1.length]; exact c1, fun p hp => ?_⟩⟩
        have g2 : Grow G1 H1 (upd G1 p (.tup vs)) (upd H1 p (.tup vs)) := Grow.laid g1.s _ hp
        have gg := g1.trans g2
        have hvs := keysT_rep e2 r1
        have hne : a ≠ p := ne_of_none (g1.h _ _ hH) hp
        have hHa := gg.h _ _ hH
        have hGa := gg.n a _ hH hG
        have S2 : TkS (upd G1 p (.tup vs)) a ts as := S.mono gg.g
        refine ⟨a, ts, as, p, ky, rfl, hHa, S2.mono gg.s, rfl, by rw [upd_same, hvs], c2, ?_⟩
        have rs2 := (rs.grow gg).tkUpd ed h1 hHa hB hGa c3 (S2.put (k := ky) (b := p) (by rw [upd_same, hvs]))
        exact w _ _ _ ((gg.stp sB).trans (stp_own gg.s (sB.trans gg.h) hB hGa)) rs2
      · cases e
    · cases e
  · cases e
end
end L2
set_option Elab.async false
set_option linter.all false
set_option maxRecDepth 100000
set_option maxHeartbeats 4000000
namespace L2
open PySem PySem.Spec PyProof.Rows
structure DicE (h : Heap) (d : Addr) (es : Array DictEntry) (ep : Nat) : Prop where
  at_ : ∃ o, h.get? d = some o ∧ o.ExactDict ∧ o.data = .dict es ep
theorem DicE.keep {h h' : Heap} {d : Addr} {es : Array DictEntry} {ep : Nat} (x : DicE h d es ep) (k : ∀ o, h.get? d = some o → h'.get? d = some o) : DicE h' d es ep := let ⟨o, a, b⟩ := x.at_; ⟨o, k _ a, b⟩
section
variable {prog : Program} {w : World} {A : Around} {E : Value → Shared → Prop} {s : Shared} {it d : Addr} {i ep : Nat} {es : Array DictEntry}
theorem DicE.ty (x : DicE s.heap d es ep) : s.TypeIs (.ref d) "dict" := let ⟨o, a, b, _⟩ := x.at_; ⟨o, a, b.1⟩
theorem de_iter {Q : Value → Shared → Prop} (hd : (d == sysModules) = false) (x : DicE s.heap d es ep)
    (k : Q (.ref s.heap.objs.size) { s with heap := s.heap.push { cls := .type "dict_keyiterator", data := .fields #[.ref d, .int 0 0, .int es.size 0, .int ep 0] } }) : wpAny (model prog w) A (pyIter (.ref d)) Q E s := by
  have T := x.ty
  obtain ⟨o, ho, _, hdat⟩ := x.at_
  refine wpAny_pyIter_slot T F.slot_dict_iter (wpAny_call_entry F.slot_dict_iter T F.entry_dict_iter ?_ (F.args_dict_iter_1 _))
  unfold Builtin.«dict.__iter__»
  refine wpAny_bind ?_
  unfold Builtin.Dict.dictSlotNone
  refine wpAny_bind (wpAny_notOrdered_dict T ?_)
  show wpAny _ _ (pure (Value.ref d)) _ _ s
  refine wpAny_pure ?_
  show wpAny _ _ (Builtin.Dict.showsAll d >>= _) _ _ s
  unfold Builtin.Dict.showsAll
  rw [if_neg (by rw [hd]; exact Bool.false_ne_true)]
  refine wpAny_bind (wpAny_pure (wpAny_bind (wpAny_dictEntries ho hdat (wpAny_bind (wpAny_dictEpoch ho hdat ?_)))))
  refine wpAny_bind (wpAny_newObj_type (wpAny_pure ⟨_, rfl, "dict_keyiterator", _, ⟨_, Heap.get?_push_size _ rfl, rfl⟩, F.slot_dict_keyiterator_next.lookup, ?_⟩))
  simpa [rawInt] using k
theorem de_item {Q : Option Value → Shared → Prop} (hit : s.heap.IsKeyIter it d i es.size ep) (x : DicE s.heap d es ep) (hlt : i < es.size)
    (k : ∀ h', h'.IsKeyIter it d (i + 1) es.size ep → Heap.SameBut it s.heap h' → Q (some es[i].key) { s with heap := h' }) : wpAny (model prog w) A (pyNext (.ref it)) Q E s := by
  obtain ⟨o, ho, hc, hd⟩ := id hit
  obtain ⟨od, hod, hcd, hdd⟩ := x.at_
  unfold pyNext
  refine wpAny_bind (wpAny_attempt (wpAny_callSpecial?_slot (name := Str.ofString "__next__") hit.typeIs F.slot_dict_keyiterator_next (wpAny_call_entry F.slot_dict_keyiterator_next hit.typeIs F.entry_dict_keyiterator_next ?_ (F.args_dict_keyiterator_next_1 _))))
  refine wpAny_bind (wpAny_pure (wpAny_bind (wpAny_bind ?_)))
  first | refine wpAny_bind (wpAny_typeNameOfWhole_keyiter hit.typeIs (wpAny_pure (wpAny_bind (wpAny_fieldsOf ho hd ?_)))) | refine wpAny_bind (wpAny_typeNameOf_keyiter hit.typeIs (wpAny_pure (wpAny_bind (wpAny_fieldsOf ho hd ?_))))
  simp only [show Builtin.Dict_items.ownsTuple "dict_keyiterator" = false by decide, Bool.false_eq_true, if_false]
  show wpAny _ _ (if (Value.ref d == Value.none) = true then _ else _) _ _ s
  rw [if_neg (show ¬ ((Value.ref d == Value.none) = true) from Bool.false_ne_true)]
  refine wpAny_bind (wpAny_pure (wpAny_bind (wpAny_dictEntries hod hdd ?_)))
  rw [if_neg (by simp)]
  refine wpAny_bind (wpAny_pure (wpAny_bind (wpAny_dictEpoch hod hdd ?_)))
  rw [if_neg (by simp)]
  refine wpAny_pure ?_
  simp only [show ¬ ((i : Int) < 0) from by omega, if_false, Int.toNat_natCast, Array.getElem?_eq_getElem hlt]
  refine wpAny_bind ?_
  first | refine wpAny_bind (wpAny_typeNameOfWhole_keyiter hit.typeIs (wpAny_pure (wpAny_bind (wpAny_isOneOf_keyiter hit.typeIs ?_)))) | refine wpAny_bind (wpAny_typeNameOf_keyiter hit.typeIs (wpAny_pure (wpAny_bind (wpAny_isOneOf_keyiter hit.typeIs ?_))))
  show wpAny _ _ (setField (.ref it) 1 (rawInt ((i : Int) + 1)) >>= _) _ _ s
  refine wpAny_bind (wpAny_setField ho hd (by simp) ?_)
  have hit' : (s.heap.update it (Obj.mapFields (·.setIfInBounds 1 (rawInt ((i : Int) + 1))))).IsKeyIter it d (i + 1) es.size ep :=
    ⟨_, Heap.get?_update_self _ ho (Obj.isFreed_of_fields (Obj.data_mapFields hd _)), (Obj.cls_mapFields ..).trans hc, by rw [Obj.data_mapFields hd]; simp [rawInt]⟩
  refine wpAny_bind (wpAny_holding (wpAny_bind (wpAny_isOneOf_keyiter (s := { s with heap := s.heap.update it (Obj.mapFields (·.setIfInBounds 1 (rawInt ((i : Int) + 1)))) }) hit'.typeIs ?_)))
  show wpAny _ _ (pure es[i].key) _ _ _
  exact wpAny_pure (wpAny_pure ⟨_, rfl, wpAny_pure (k _ hit' (Heap.SameBut.update ..))⟩)
theorem de_end {Q : Option Value → Shared → Prop} (hh : A.handled = none) (hit : s.heap.IsKeyIter it d i es.size ep) (x : DicE s.heap d es ep) (hge : es.size ≤ i)
    (k : ∀ h', Heap.ExtBut it s.heap h' → Q none { s with heap := h' }) : wpAny (model prog w) A (pyNext (.ref it)) Q E s := by
  obtain ⟨o, ho, hc, hd⟩ := id hit
  obtain ⟨od, hod, hcd, hdd⟩ := x.at_
  unfold pyNext
  refine wpAny_bind (wpAny_attempt (wpAny_callSpecial?_slot (name := Str.ofString "__next__") hit.typeIs F.slot_dict_keyiterator_next (wpAny_call_entry F.slot_dict_keyiterator_next hit.typeIs F.entry_dict_keyiterator_next ?_ (F.args_dict_keyiterator_next_1 _))))
  refine wpAny_bind (wpAny_pure (wpAny_bind (wpAny_bind ?_)))
  first | refine wpAny_bind (wpAny_typeNameOfWhole_keyiter hit.typeIs (wpAny_pure (wpAny_bind (wpAny_fieldsOf ho hd ?_)))) | refine wpAny_bind (wpAny_typeNameOf_keyiter hit.typeIs (wpAny_pure (wpAny_bind (wpAny_fieldsOf ho hd ?_))))
  simp only [show Builtin.Dict_items.ownsTuple "dict_keyiterator" = false by decide, Bool.false_eq_true, if_false]
  show wpAny _ _ (if (Value.ref d == Value.none) = true then _ else _) _ _ s
  rw [if_neg (show ¬ ((Value.ref d == Value.none) = true) from Bool.false_ne_true)]
  refine wpAny_bind (wpAny_pure (wpAny_bind (wpAny_dictEntries hod hdd ?_)))
  rw [if_neg (by simp)]
  refine wpAny_bind (wpAny_pure (wpAny_bind (wpAny_dictEpoch hod hdd ?_)))
  rw [if_neg (by simp)]
  refine wpAny_pure ?_
  simp only [show ¬ ((i : Int) < 0) from by omega, if_false, Int.toNat_natCast, Array.getElem?_eq_none hge]
  refine wpAny_bind ?_
  first | refine wpAny_bind (wpAny_typeNameOfWhole_keyiter hit.typeIs (wpAny_pure ?_)) | refine wpAny_bind (wpAny_typeNameOf_keyiter hit.typeIs (wpAny_pure ?_))
  show wpAny _ _ (setField (.ref it) 0 .none >>= _) _ _ s
  refine wpAny_bind (wpAny_setField ho hd (by simp) ?_)
  show wpAny _ _ (newExc (.type "StopIteration") [] >>= _) _ _ _
  refine wpAny_bind ?_
  simp only [newExc, newTuple]
  refine wpAny_bind (wpAny_newObj_type ?_ (by size_fits))
  refine wpAny_bind (m := firstArgMember _ _) (wpAny_of_eq (a := Value.none) (by first | rfl | (simp only [firstArgMember]; rfl)) (wpAny_newObj_type ?_ (by size_fits)))
  simp only [raiseNew]
  refine wpAny_bind (wpAny_handled ?_)
  rw [show A.in1.handled = none from hh]
  refine wpAny_bind (wpAny_pure (wpAny_throw ?_))
  refine wpAny_bind (wpAny_isInstance (T := "StopIteration") (b := true) ⟨_, Heap.get?_push_size _ rfl, rfl⟩ isSubtype_stop ?_)
  exact wpAny_pure (k _ (((Heap.SameBut.update ..).extBut.push _).push _))
theorem de_walks (hh : A.handled = none) (I d : Addr) (hne : d ≠ I) (es : Array DictEntry) (ep : Nat) :
    Walks prog w A I [I, d] [I] es.size (fun i v => ∃ h : i < es.size, v = es[i].key) (fun i h => h.IsKeyIter I d i es.size ep ∧ DicE h d es ep) where
  sub := fun b hb => by simp at hb; simp [hb]
  frame := fun _ _ _ st hk => ⟨st.1.at fun o e => hk I (by simp) o e, st.2.keep fun o e => hk d (by simp) o e⟩
  item := fun i s Q E hi st hQ => de_item st.1 st.2 hi fun h' hit' hs' => hQ _ h' s.toks ⟨hi, rfl⟩ ⟨hit', st.2.keep fun o e => hs'.extBut d o hne e⟩ fun b o hb e => hs'.extBut b o (fun h => hb (by simp [h])) e
  done := fun s Q E st hQ => de_end hh st.1 st.2 (Nat.le_refl _) fun h' he' => hQ h' s.toks fun b o hb e => he' b o (fun h => hb (by simp [h])) e
  self := fun _ _ _ _ st hQ => wpAny_pyIter_keyiter st.1 hQ
theorem de_hint {Q : Bool → Shared → Prop} (x : DicE s.heap d es ep) (k : Q false s) : wpAny (model prog w) A (Builtin.List.listLengthHint (.ref d)) Q E s := by
  unfold Builtin.List.listLengthHint
  refine wpAny_bind (wpAny_specialOf x.ty F.slot_dict_len.lookup ?_)
  generalize hid : ("dict.__len__" : String) = id0
  wp_delta
  rw [show splitId id0 = some ("dict", "__len__") from by subst hid; decide +kernel]
  subst hid
  refine wpAny_bind (wpAny_isInstance (T := "dict") (b := true) x.ty (by rw [isSubtype_type]; kernel_rfl) ?_)
  refine wpAny_ite_split (fun hab => absurd hab (by decide)) (fun _ => ?_)
  refine wpAny_ite_split (fun _ => ?_) (fun hab => absurd (by decide +kernel) hab)
  refine wpAny_bind (wpAny_typeOf x.ty ?_)
  exact wpAny_pure k
theorem de_extend {R : Result → Shared → Prop} (hh : A.handled = none) (hd : (d == sysModules) = false) (x : DicE s.heap d es ep) (hlen : es.size ≤ 2 ^ 24) (S : Addr) (res : Value) (c0 : Nat) (hS : s.heap.get? S = some { cls := .type "list", data := .seq #[] c0 })
    (k : ∀ h' tk acc c, (∀ b o, b ≠ S → s.heap.get? b = some o → h'.get? b = some o) → h'.get? S = some { cls := .type "list", dict := none, data := .seq acc c, slots := #[] } → ItemsOf (fun i v => ∃ h : i < es.size, v = es[i].key) acc es.size → R (.ok (.ret res)) { s with heap := h', toks := tk }) :
    wpAny (model prog w) A.in1 (Builtin.List.listExtendWith (.ref S) (.ref d) res) (fun fin s' => match fin with | .done f => R (.ok f) s' | .again c' => c'.quiet = true ∧ codeAny (model prog w) A c' R s') (fun e s' => R (.error e) s') s := by
  obtain ⟨o, ho, hex, hdat⟩ := x.at_
  have hSd : S ≠ d := fun e => by rw [e, ho] at hS; cases hS; cases hdat
  have hSI : S ≠ s.heap.objs.size := Nat.ne_of_lt (Heap.lt_size hS)
  have hdI : d ≠ s.heap.objs.size := Nat.ne_of_lt (Heap.lt_size ho)
  have W := (de_walks (prog := prog) (w := w) (A := A.in1) hh s.heap.objs.size d hdI es ep).toS
  unfold Builtin.List.listExtendWith
  refine wpAny_bind (wpAny_typeOf x.ty ?_)
  simp only [show Builtin.List.listSameRef (.ref S) (.ref d) = false by simp [Builtin.List.listSameRef, hSd], show (Value.type "dict" == Value.type "list") = false by decide, show (Value.type "dict" == Value.type "tuple") = false by decide, Bool.or_false, Bool.false_eq_true, if_false]
  refine wpAny_bind (de_iter hd x ?_)
  refine wpAny_bind (wpAny_holding (de_hint (x.keep fun o e => Heap.get?_push_of_some _ e) ?_))
  have hS1 := Heap.get?_push_of_some { cls := .type "dict_keyiterator", data := .fields #[.ref d, .int 0 0, .int es.size 0, .int ep 0] } hS
  refine wpAny_ite_split (fun _ => wpAny_bind (wpAny_rule (wpAny_bind ?_))) (fun hab => absurd (by decide +kernel) hab)
  show wpAny _ _ (updateSeq S (·.push .none) >>= fun _ => updateSeq S (·.pop)) _ _ _
  refine wpAny_bind (wpAny_updateSeq hS1 rfl ?_)
  have hS2 := Heap.get?_update_self (Obj.mapSeq (·.push Value.none)) hS1 rfl
  refine wpAny_updateSeq (hz := by seq_fits) hS2 rfl ?_
  have hS3 := Heap.get?_update_self (Obj.mapSeq (·.pop)) hS2 rfl
  have oth : ∀ b o, b ≠ S → (s.heap.push { cls := .type "dict_keyiterator", data := .fields #[.ref d, .int 0 0, .int es.size 0, .int ep 0] }).get? b = some o → (((s.heap.push { cls := .type "dict_keyiterator", data := .fields #[.ref d, .int 0 0, .int es.size 0, .int ep 0] }).update S (Obj.mapSeq (·.push Value.none))).update S (Obj.mapSeq (·.pop))).get? b = some o :=
    fun b o hb e => (Heap.get?_update_other _ _ (Ne.symm hb)).trans ((Heap.get?_update_other _ _ (Ne.symm hb)).trans e)
  refine wpAny_pure ⟨plainId_quiet F.plain_extend_loop _, ?_⟩
  refine codeAny_extend_loopS W (by rw [sizeLine_eq]; omega) S (by simp [hSI, hSd]) res es.size 0 _ #[] _ rfl (Nat.zero_le _) ⟨⟨_, oth _ _ (Ne.symm hSI) (Heap.get?_push_size _ rfl), rfl, rfl⟩, x.keep fun o e => oth _ _ (Ne.symm hSd) (Heap.get?_push_of_some _ e)⟩ hS3 (ItemsOf.nil _) fun s' acc c hm hS' hacc => ?_
  rw [Moved.eq_with hm]
  refine k s'.heap s'.toks acc c (fun b o hb e => hm.heap b o (fun hmem => ?_) (oth b o hb (Heap.get?_push_of_some _ e))) hS' hacc
  rcases List.mem_cons.mp hmem with e' | hmem
  · exact hb e'
  · exact absurd (Heap.lt_size e) (by rw [List.mem_singleton.mp hmem]; exact Nat.lt_irrefl _)
theorem de_init {R : Result → Shared → Prop} (hh : A.handled = none) (hd : (d == sysModules) = false) (x : DicE s.heap d es ep) (hlen : es.size ≤ 2 ^ 24) (S : Addr) (hS : s.heap.get? S = some { cls := .type "list", data := .seq #[] })
    (k : ∀ h' tk acc c, (∀ b o, b ≠ S → s.heap.get? b = some o → h'.get? b = some o) → h'.get? S = some { cls := .type "list", dict := none, data := .seq acc c, slots := #[] } → ItemsOf (fun i v => ∃ h : i < es.size, v = es[i].key) acc es.size → R (.ok (.ret .none)) { s with heap := h', toks := tk }) :
    wpAny (model prog w) A.in1 (Builtin.«list.__init__» ⟨[.ref S, .ref d], []⟩) (fun fin s' => match fin with | .done f => R (.ok f) s' | .again c' => c'.quiet = true ∧ codeAny (model prog w) A c' R s') (fun e s' => R (.error e) s') s := by
  obtain ⟨o, ho, hex, hdat⟩ := x.at_
  have hSd : S ≠ d := fun e => by rw [e, ho] at hS; cases hS; cases hdat
  show wpAny _ _ (do let old ← Builtin.List.listItems (.ref S); Builtin.List.listUpdate (.ref S) (fun _ => #[]); letGo old.toList.reverse; Builtin.List.listExtendWith (.ref S) (.ref d) .none) _ _ s
  refine wpAny_bind ?_
  unfold Builtin.List.listItems
  refine wpAny_bind (wpAny_seqItems hS rfl (wpAny_pure ?_))
  show wpAny _ _ (updateSeq S (fun _ => #[]) >>= fun _ => letGo (#[] : Array Value).toList.reverse >>= fun _ => Builtin.List.listExtendWith (.ref S) (.ref d) .none) _ _ s
  refine wpAny_bind (wpAny_updateSeq hS rfl ?_)
  have hS2 := Heap.get?_update_self (Obj.mapSeq (fun _ => (#[] : Array Value))) hS rfl
  have oth : ∀ b o, b ≠ S → s.heap.get? b = some o → (s.heap.update S (Obj.mapSeq (fun _ => (#[] : Array Value)))).get? b = some o := fun b o hb e => (Heap.get?_update_other _ _ (Ne.symm hb)).trans e
  refine wpAny_bind (wpAny_letGo (de_extend hh hd (x.keep fun o e => oth d o (Ne.symm hSd) e) hlen S .none _ hS2 fun h' tk acc c hk hS' hacc => ?_))
  exact k h' tk acc c (fun b o hb e => hk b o hb (oth b o hb e)) hS' hacc
theorem call_listE {Q : Value → Shared → Prop} (hh : A.handled = none) (hd : (d == sysModules) = false) (x : DicE s.heap d es ep) (hlen : es.size ≤ 2 ^ 24)
    (k : ∀ h' tk acc c, (∀ b o, s.heap.get? b = some o → h'.get? b = some o) → h'.get? s.heap.objs.size = some { cls := .type "list", dict := none, data := .seq acc c, slots := #[] } → ItemsOf (fun i v => ∃ h : i < es.size, v = es[i].key) acc es.size → Q (.ref s.heap.objs.size) { s with heap := h', toks := tk }) :
    wpAny (model prog w) A (call (.type "list") [.ref d]) Q E s := by
  refine callType_codes (Q₁ := fun obj s1 => obj = .ref s.heap.objs.size ∧ s1 = { s with heap := s.heap.push { cls := .type "list", data := .seq #[] } }) F.called_list (F.typeCall_list_1 _) F.entry_list_init (code_list_new _ ⟨rfl, rfl⟩) fun obj s1 h1 => ?_
  obtain ⟨rfl, rfl⟩ := h1
  have hS : (s.heap.push { cls := .type "list", data := .seq #[] }).get? s.heap.objs.size = some { cls := .type "list", data := .seq #[] } := Heap.get?_push_size _ rfl
  refine ⟨⟨_, hS, rfl⟩, F.args_list_init_2 _ _, de_init (A := A.in1) hh hd (x.keep fun o e => Heap.get?_push_of_some _ e) hlen _ hS fun h' tk acc c hk hS' hacc => ?_⟩
  exact ⟨rfl, k h' tk acc c (fun b o e => hk b o (Nat.ne_of_lt (Heap.lt_size e)) (Heap.get?_push_of_some _ e)) hS' hacc⟩
end
end L2
set_option Elab.async false
set_option linter.all false
set_option maxRecDepth 100000
set_option maxHeartbeats 4000000
namespace L2
open PySem PySem.Spec PyProof.Rows
@[simp] def fTkL (i : Nat) : FR := fun δ => match δ[i]? with
  | some (some (.tk _ _ ts)) => if ts.length ≤ 1000000 then some (.fr (.lst (ts.map fun t => .tup (t.map kD)))) else none
  | _ => none
theorem vals_of_get : ∀ {as : List Addr} {us : List Value}, us.length = as.length → (∀ (i : Nat) (b : Addr), as[i]? = some b → us[i]? = some (Value.ref b)) → Vals (as.map V.ref) us
  | [], [], _, _ => .nil
  | a :: as, u :: us, hl, h => by
    have h0 := h 0 a rfl
    simp at h0
    rw [h0]
    exact .cons rfl (vals_of_get (by simpa using hl) fun i b e => by simpa using h (i + 1) b (by simpa using e))
theorem repL_keys {K : PySem.W.Frag} {G : Hp} : ∀ (t : List Key), RepL K G (t.map kD) (t.map kV)
  | [] => by simp [RepL]
  | k :: t => by
    simp only [List.map_cons, RepL]
    exact ⟨_, _, rfl, by cases k <;> simp [Rep, kD, kV], repL_keys t⟩
theorem repL_tk {K : PySem.W.Frag} {G : Hp} : ∀ {ts : List (List Key)} {as : List Addr}, as.length = ts.length → (∀ p ∈ ts.zip as, G p.2 = some (.tup (p.1.map kV))) → RepL K G (ts.map fun t => .tup (t.map kD)) (as.map V.ref)
  | [], [], _, _ => by simp [RepL]
  | t :: ts, a :: as, hl, h => by
    simp only [List.map_cons, RepL]
    refine ⟨_, _, rfl, ?_, repL_tk (by simpa using hl) fun p hp => h p (by simp [hp])⟩
    simp only [Rep]
    exact ⟨a, t.map kV, rfl, .inl (.inl (h (t, a) (by simp))), repL_keys t⟩
section
variable {X : Cx}
theorem call_listTk (hc : X.calm = true) : CallR X (.type "list") (fun xs H Q => ∃ (P : Program) (w : World) (a : Addr) (ts : List (List Key)) (as : List Addr), xs = [.ref a] ∧ H a = some (.ext (TkO P w a ts as)) ∧ (a == sysModules) = false ∧ as.length = ts.length ∧ ts.length ≤ 1000000 ∧ ∀ p, H p = none → Q (.ref p) (upd H p (.lst (as.map V.ref)))) := by
  intro pins s σ H xs us Q I r h
  obtain ⟨P, w, a, ts, as, rfl, ha, hd, hl, hz, q⟩ := h
  obtain ⟨u, rfl, rx⟩ := vals1 r
  cases rx
  obtain ⟨o, es, ep, h1, h2, h3, h4⟩ := (I.hok a _ ha).1
  have hes : es.size = as.length := by
    have := congrArg List.length h4
    unfold tkX at this
    simp only [List.length_map, List.length_zip, Array.length_toList] at this
    omega
  refine call_listE (I.ok.hd hc) hd ⟨o, h1, h2, h3⟩ (by omega) fun h' tk acc c hk hS hacc => ?_
  have hn : H s.heap.objs.size = none := I.hok.fresh (Nat.le_refl _)
  refine ⟨.ref _, _, I.laid (o := .lst (as.map V.ref)) (t' := tk) (h' := h') hk (Nat.le_refl _) ⟨?_, acc.toList, c, ?_, ?_⟩, rfl, q _ hn⟩
  · rw [List.length_map, sizeLine_eq]; omega
  · obtain ⟨n1, n2⟩ := hacc
    refine vals_of_get (by rw [Array.length_toList, n1, hes]) fun i b e => ?_
    have hi : i < as.length := (List.getElem?_eq_some_iff.mp e).1
    have hi2 : i < acc.size := by rw [n1, hes]; exact hi
    obtain ⟨hi3, ev⟩ := n2 i acc[i] (Array.getElem?_eq_getElem hi2)
    rw [Array.getElem?_toList, Array.getElem?_eq_getElem hi2, ev]
    have hi4 : i < ts.length := by omega
    have ek : es.toList[i]? = some es[i] := by rw [Array.getElem?_toList, Array.getElem?_eq_getElem hi3]
    rw [h4] at ek
    unfold tkX at ek
    rw [List.getElem?_map, List.getElem?_map] at ek
    have ez : (ts.zip as)[i]? = some (ts[i], b) := by
      rw [List.getElem?_zip_eq_some]
      exact ⟨List.getElem?_eq_getElem hi4, e⟩
    rw [ez] at ek
    simp only [Option.map_some, Option.some.injEq] at ek
    rw [← ek]
    rfl
  · rw [hS]
theorem pr_tkList (i : Nat) {x : Str} {p px pos : Pos} (hc : X.calm = true) (hm : X.mg "list" = none) (hi : X.N[i]? = some x := by rfl) (hv : Vis X.env.scope x := by first | exact Or.inl rfl | exact Or.inr (Or.inl rfl) | exact Or.inr (Or.inr rfl)) (hd : (x == ("__debug__" : Str)) = false := by decide)
    (hcd : (x == ("__classdict__" : Str)) = false := by decide) (hg : Gl X "list" := by rfl) (hs : starEach [.Name x px] X.env = (false, eval (.Name x px) X.env) :: starEach [] X.env := by rfl) (hpl : (backTo pos (starEach [] X.env)).any (·.1) = false := by rfl)
    (hb : bootBuiltins "list" = some (.type "list") := by decide +kernel) : PR X (.Call (.Name "list" p) [.Name x px] [] pos) (fTkL i) := by
  refine ⟨_, pe_callTy (call_listTk hc) hg hm hb (pa_cons (pe_var hi hv hd hcd) pa_nil hs) (by decide) (by decide) hs hpl, fun B G H δ σ r Q sG rs ef w => ?_⟩
  unfold fTkL at ef
  split at ef
  · rename_i P' w' ts ed
    split at ef
    · rename_i hl
      cases ef
      obtain ⟨v, h1, a, as, rfl, hB, hG, hH, S⟩ := rs.at_ i _ ed
      refine ⟨_, h1, P', w', a, ts, as, rfl, hH, S.sys, S.len, hl, fun p hp => ?_⟩
      exact w p (as.map V.ref) G H (Grow.refl sG) hp trivial (repL_tk S.len S.keys)
    · cases ef
  · cases ef
end
end L2
set_option Elab.async false
set_option linter.all false
set_option maxRecDepth 100000
set_option maxHeartbeats 4000000
namespace L2
open PySem
section
variable {prog : Program} {w : World} {A : Around} {E : Value → Shared → Prop} {s : Shared}
theorem update_loopT {R : Result → Shared → Prop} (S I l : Addr) (hSI : S ≠ I) (hSl : S ≠ l) (hlI : l ≠ I) (hh : A.handled = none) {items : Array Value} {zs : List Str} (hz : ∀ (i : Nat) v, items[i]? = some v → ∃ z tk, zs[i]? = some z ∧ v = .str z tk) (hzl : zs.length = items.size) (hb : items.size + 1 < 4096) :
    ∀ (k i : Nat) (s : Shared) (es : Array (Int × Value)), items.size - i = k → i ≤ items.size → s.heap.IsTupleIter I l i → s.heap.IsTuple l items → StrsSet prog w s.heap S (zs.take i) es →
      (∀ h' tk es', (∀ b o, b ≠ S → b ≠ I → s.heap.get? b = some o → h'.get? b = some o) → StrsSet prog w h' S zs es' → R (.ok (.ret .none)) { s with heap := h', toks := tk }) →
      codeAny (model prog w) A (.builtin "set.update.loop" ⟨[.ref S, .ref I], []⟩) R s := by
  intro k
  induction k with
  | zero =>
    intro i s es hk hi hit hl hS hR
    have hin : i = items.size := by omega
    subst hin
    refine codeAny_builtin PyProof.Rows.F.entry_set_update_loop ?_
    rw [Around.under_plainId PyProof.Rows.F.plain_set_update_loop _]
    show wpAny _ A.in1 (pyNext (.ref I) >>= _) _ _ s
    refine wpAny_bind (wpAny_pyNext_tuple_end hh hit hl (by simp) fun h' he => ?_)
    show wpAny _ A.in1 (ret Value.none) _ _ _
    exact wpAny_pure (hR h' s.toks es (fun b o _ hb e => he b o hb e) (by rw [← hzl, List.take_length] at hS; exact strs_keep hS fun o e => he S o hSI e))
  | succ k ih =>
    intro i s es hk hi hit hl hS hR
    have hlt : i < items.size := by omega
    obtain ⟨z, tk, hzi, hv⟩ := hz i items[i] (Array.getElem?_eq_getElem hlt)
    refine codeAny_builtin PyProof.Rows.F.entry_set_update_loop ?_
    rw [Around.under_plainId PyProof.Rows.F.plain_set_update_loop _]
    show wpAny _ A.in1 (pyNext (.ref I) >>= _) _ _ s
    refine wpAny_bind (wpAny_pyNext_tuple_item hit hl (Array.getElem?_eq_getElem hlt) fun h' hit' sb => ?_)
    rw [hv]
    show wpAny _ A.in1 (holding [Value.str z tk] (setAdd S (.str z tk)) >>= _) _ _ _
    refine wpAny_bind (wpAny_holding ?_)
    unfold setAdd
    refine wpAny_holding ?_
    refine wpAny_bind ((strKind prog w).pyHash (k := z) (by show Value.isStrOf z (.str z tk) = true; simp [Value.isStrOf]) ?_)
    have hS' : StrsSet prog w h' S (zs.take i) es := strs_keep hS fun o e => (sb.2 S hSI).trans e
    refine strs_add (s := { s with heap := h', toks := _ }) hS' (by rw [List.length_take]; omega) fun b h2 es2 sb2 hS2 => ?_
    have e2 : zs.take i ++ [z] = zs.take (i + 1) := by rw [List.take_add_one, hzi]; rfl
    rw [e2] at hS2
    refine wpAny_pure ⟨plainId_quiet PyProof.Rows.F.plain_set_update_loop _, ih (i + 1) _ es2 (by omega) hlt ?_ ?_ hS2 fun h3 tk3 es3 k3 hS3 => ?_⟩
    · obtain ⟨o, e, r⟩ := hit'
      exact ⟨o, (sb2.2 I (Ne.symm hSI)).trans e, r⟩
    · obtain ⟨o, e, r⟩ := hl
      exact ⟨o, (sb2.2 l (Ne.symm hSl)).trans ((sb.2 l hlI).trans e), r⟩
    · exact hR h3 tk3 es3 (fun b o hb1 hb2 e => k3 b o hb1 hb2 ((sb2.2 b hb1).trans ((sb.2 b hb2).trans e))) hS3
theorem call_set_strsT {l : Addr} {items : Array Value} {zs : List Str} {Q : Value → Shared → Prop} (hh : A.handled = none) (hl : s.heap.IsTuple l items) (hz : ∀ (i : Nat) v, items[i]? = some v → ∃ z tk, zs[i]? = some z ∧ v = .str z tk) (hzl : zs.length = items.size) (hb : items.size + 1 < 4096)
    (h : ∀ (h' : Heap) (tk : Nat) es, StrsSet prog w h' s.heap.objs.size zs es → (∀ b o, b < s.heap.objs.size → s.heap.get? b = some o → h'.get? b = some o) → Q (.ref s.heap.objs.size) { s with heap := h', toks := tk }) :
    wpAny (model prog w) A (call (.type "set") [.ref l]) Q E s := by
  obtain ⟨c, tl, hmro⟩ := F.called_set.mro
  have hmade := F.called_set.made
  have hsub := F.called_set.sub
  refine wpAny_call (codeAny_of_tree ?_)
  show wpAny _ _ (callAny (.type "set") _) _ _ _
  refine wpAny_pure ⟨Code.quiet_builtin _ (by decide +kernel), codeAny_builtin F.entry_type_call ?_⟩
  rw [Around.under_plain (weight_type_call_type "set" [.ref l] []) rfl]
  have h1 := F.called_set.notType
  have h2 := F.called_set.canCreate
  have hct := F.typeCall_set_1 (.ref l)
  repeat (any_goals (first | assumption | wp_step))
  have hnew : codeAny (model prog w) A.in1 (.call (.builtin "set.__new__") ⟨[.type "set", .ref l], []⟩) (wants (fun obj s₁ => obj = .ref s.heap.objs.size ∧ s₁ = { s with heap := s.heap.push { cls := .type "set", dict := none, data := .set #[] 0 (.fresh 0 0 (!w.params.followText "set-order")) } }) E) s := by
    refine codeAny_of_tree ?_
    show wpAny _ _ (do checkBuiltinCall "set.__new__" ⟨[.type "set", .ref l], []⟩; again (.builtin "set.__new__" ⟨[.type "set", .ref l], []⟩)) _ _ s
    refine wpAny_bind (wpAny_of_eq (F.newCall_set_1 (.ref l)) (wpAny_pure ⟨plainId_quiet F.plain_set_new _, codeAny_builtin F.entry_set_new ?_⟩))
    rw [Around.under_plainId F.plain_set_new _]
    unfold Builtin.«set.__new__» Builtin.Frozenset.newClass
    have hsub := sub_set_self
    obtain ⟨hp, g, d, tk, os⟩ := s
    dsimp only
    wp_walk
    refine wpAny_askSetting (wpAny_pure ?_)
    dsimp only
    simp only [newObj]
    refine wpAny_bind (wpAny_alloc (wpAny_pure ?_))
    exact wpAny_pure ⟨rfl, rfl⟩
  refine codeAny_mono hnew fun r s₁ hr => ?_
  cases r with
  | error e => exact hr
  | ok fl =>
    cases fl with
    | ret obj =>
      obtain ⟨rfl, rfl⟩ := hr
      generalize hled : (!w.params.followText "set-order") = led at *
      have hS : (s.heap.push { cls := .type "set", dict := none, data := .set #[] 0 (.fresh 0 0 led) }).get? s.heap.objs.size = some { cls := .type "set", dict := none, data := .set #[] 0 (.fresh 0 0 led) } := Heap.get?_push_size _ rfl
      have hT : Shared.TypeIs { s with heap := s.heap.push { cls := .type "set", dict := none, data := .set #[] 0 (.fresh 0 0 led) } } (.ref s.heap.objs.size) "set" := ⟨_, hS, rfl⟩
      have hli := F.called_set.init.lookup
      have hbi := F.called_set.init.bind (.ref s.heap.objs.size)
      repeat (any_goals (first | assumption | wp_step))
      refine codeAny_mono (codeAny_call_builtin (R := wants (fun r s₂ => r = .none ∧ ∃ h' tk es, s₂ = { s with heap := h', toks := tk } ∧ StrsSet prog w h' s.heap.objs.size zs es ∧
          (∀ b o, b < s.heap.objs.size → s.heap.get? b = some o → h'.get? b = some o)) E) F.called_set.init.plain F.entry_set_init (check_set_init_1 hT ?_)) fun r₂ s₂ hr₂ => ?_
      · obtain ⟨ol, hol, hcl, nl, hdl⟩ := hl
        obtain ⟨ocls, odict, odata, oslots⟩ := ol
        simp only at hcl hdl
        subst hcl; subst hdl
        have hol' : (s.heap.push { cls := .type "set", dict := none, data := .set #[] 0 (.fresh 0 0 led) }).get? l = some { cls := .type "tuple", dict := odict, data := .seq items nl, slots := oslots } := Heap.get?_push_of_some _ hol
        have hsls := F.sub_tuple_set
        have hslf := F.sub_tuple_frozenset
        have hne : (Value.type "tuple" == Value.type "dict") = false := by decide
        have hl1 : (s.heap.push { cls := .type "set", dict := none, data := .set #[] 0 (.fresh 0 0 led) }).IsTuple l items := ⟨_, hol', rfl, nl, rfl⟩
        unfold Builtin.«set.__init__» noKeywords Builtin.Frozenset.updateFrom
        generalize hPI : pyIter = PI
        wp_walk
        subst hPI
        refine wpAny_pyIter_tuple hl1 ?_
        refine wpAny_bind (wpAny_runValue ?_)
        have hlS : l < s.heap.objs.size := Heap.lt_size hol
        have hlI : l ≠ (s.heap.push { cls := .type "set", dict := none, data := .set #[] 0 (.fresh 0 0 led) }).objs.size := by
          rw [Heap.size_push]; exact Nat.ne_of_lt (Nat.lt_succ_of_lt hlS)
        have hSI : s.heap.objs.size ≠ (s.heap.push { cls := .type "set", dict := none, data := .set #[] 0 (.fresh 0 0 led) }).objs.size := by
          rw [Heap.size_push]; exact Nat.ne_of_lt (Nat.lt_succ_self _)
        refine update_loopT (es := #[]) s.heap.objs.size _ l hSI (Nat.ne_of_gt hlS) hlI (by simp [hh]) hz hzl hb items.size 0 _ (by omega) (Nat.zero_le _) ⟨_, Heap.get?_push_size _ rfl, rfl, rfl⟩ (hl1.push _) ?hS0 ?hR
        case hS0 =>
          refine ⟨⟨0, _, ⟨_, Heap.get?_push_of_some _ hS, ⟨rfl, rfl, rfl⟩, rfl, fun e he => by simp at he, rfl⟩, hled.symm, .inr rfl⟩, fun e he => by simp at he, by simp, fun z => by simp, by simp⟩
        case hR =>
          intro h' tk' es' hk hS'
          refine wpAny_pure ?_
          show wpAny _ _ (ret Value.none) _ _ _
          refine wpAny_pure ⟨rfl, h', tk', es', rfl, hS', fun b o hb' e => ?_⟩
          refine hk b o (Nat.ne_of_lt hb') (fun z => ?_) (Heap.get?_push_of_some _ (Heap.get?_push_of_some _ e))
          rw [z, Heap.size_push] at hb'
          exact absurd hb' (Nat.not_lt.mpr (Nat.le_succ _))
      · cases r₂ with
        | error e => exact hr₂
        | ok fl₂ =>
          cases fl₂ with
          | ret r =>
            obtain ⟨rfl, h', tk, es', rfl, hS', hk'⟩ := hr₂
            repeat (any_goals (first | assumption | wp_step))
            exact h _ _ _ hS' hk'
          | _ => exact hr₂.elim
    | _ => exact hr.elim
end
end L2
namespace L2
open PySem PySem.Spec PyProof.Rows
section
variable {X : Cx}
theorem call_setT (hc : X.calm = true) : CallR X (.type "set") (fun xs H Q => ∃ (l : Addr) (zs : List Str), xs = [.ref l] ∧ SqT X.K H l (zs.map V.str) ∧ zs.length < 4000 ∧ ∀ p, H p = none → Q (.ref p) (upd H p (.ext (SetX X.prog X.w p zs)))) := by
  intro pins s σ H xs us Q I r h
  obtain ⟨l, zs, rfl, hq, hz, q⟩ := h
  obtain ⟨u, rfl, rx⟩ := vals1 r
  cases rx
  obtain ⟨its, rv, pl, _⟩ := I.tuple hq
  have hlen : zs.length = its.length := by have := rv.length; simpa using this
  refine call_set_strsT (I.ok.hd hc) pl (strs_vals rv) (by simpa using hlen) (by rw [List.size_toArray]; omega) fun h' tk es hS keep => ?_
  have hn : H s.heap.objs.size = none := I.hok.fresh (Nat.le_refl _)
  refine ⟨.ref _, _, I.laid (t' := tk) (h' := h') (fun b o e => keep b o (Heap.lt_size e) e) (Nat.le_refl _) ?_, rfl, q _ hn⟩
  obtain ⟨ep, t, ⟨o, ho, _⟩, _⟩ := hS.ex
  exact ⟨⟨es, hS⟩, ⟨o, ho⟩, fun h1 h2 ⟨es', S'⟩ k => ⟨es', strs_keep S' k⟩⟩
theorem call_lenSet : CallR X (.builtin "len") (fun xs H Q => ∃ (a : Addr) (zs : List Str), xs = [.ref a] ∧ H a = some (.ext (SetX X.prog X.w a zs)) ∧ zs.length < 4000 ∧ Q (.int (sortS zs).length) H) := by
  intro pins s σ H xs us Q I r h
  obtain ⟨a, zs, rfl, ha, hz, q⟩ := h
  obtain ⟨u, rfl, rx⟩ := vals1 r
  cases rx
  obtain ⟨es, S⟩ := (I.hok a _ ha).1
  obtain ⟨ep, t, ⟨o, ho, hex, hd, _, hf⟩, _⟩ := S.ex
  have hlen : es.size = (sortS zs).length := by
    have h1 : (es.toList.map kz).Perm (sortS zs) := (List.perm_ext_iff_of_nodup S.nd (ord_nodup (sortS_ord zs))).mpr fun z => by rw [S.mem, sortS_mem]
    have := h1.length_eq
    simpa using this
  refine call_len_set ho hex hd hf (by have := S.len; omega) ?_
  rw [hlen]
  exact ⟨.int _, H, I.tok _, ⟨_, rfl⟩, q⟩
@[simp] def fLenSet (f : FE) : FE := fun δ => (f δ).bind fun d => match d with | .tup ds => (strsD ds).bind fun zs => if zs.length < 4000 then some (.int (sortS zs).length) else none | _ => none
theorem pd_lenSet {e : Expr} {f : FE} {p p2 pos pos2 : Pos} (hc : X.calm = true) (hm1 : X.mg "len" = none) (hm2 : X.mg "set" = none) (he : PB X e f) (hg1 : Gl X "len" := by rfl) (hg2 : Gl X "set" := by rfl)
    (h1 : starEach [.Call (.Name "set" p2) [e] [] pos2] X.env = (false, eval (.Call (.Name "set" p2) [e] [] pos2) X.env) :: starEach [] X.env := by rfl) (h2 : starEach [e] X.env = (false, eval e X.env) :: starEach [] X.env := by rfl) :
    PD X (.Call (.Name "len" p) [.Call (.Name "set" p2) [e] [] pos2] [] pos) (fLenSet f) := by
  obtain ⟨t, pe, k⟩ := he
  refine ⟨_, pe_callB call_lenSet hg1 hm1 boot_len (pa_cons (pe_callTy (call_setT hc) hg2 hm2 boot_set (pa_cons pe pa_nil h2) (by decide) (by decide) h2) pa_nil h1) (by decide) (by decide) h1, fun B G H δ σ d Q sG rs ef w => ?_⟩
  unfold fLenSet at ef
  obtain ⟨dd, e1, ef⟩ := Option.bind_eq_some_iff.mp ef
  cases dd with
  | tup ds =>
    obtain ⟨zs, e2, ef⟩ := Option.bind_eq_some_iff.mp (show ((strsD ds).bind fun zs => if zs.length < 4000 then some (D.int (sortS zs).length) else none) = some d from ef)
    split at ef
    · rename_i hz
      cases ef
      refine k B G H δ σ _ _ sG rs e1 fun v G1 H1 g1 r1 => ?_
      have r1 := r1.tup
      simp only [Rep] at r1
      obtain ⟨a, us, rfl, q, rl⟩ := r1
      obtain rfl := strsD_rep e2 rl
      refine ⟨a, zs, rfl, g1.s.sqT q, hz, fun p hp => ⟨p, zs, rfl, upd_same, hz, ?_⟩⟩
      have g2 : Grow G1 H1 G1 (upd H1 p (.ext (SetX X.prog X.w p zs))) := ⟨Same.refl _, same_new _ hp, g1.s.trans (same_new _ hp), fun _ _ _ n => n⟩
      exact w _ G1 _ (g1.trans g2) (by simp [Rep])
    · cases ef
  | _ => cases ef
end
end L2
set_option Elab.async false
set_option linter.all false
set_option maxRecDepth 100000
set_option maxHeartbeats 4000000
namespace L2
open PySem PySem.Spec PyProof.Rows
def clsBody : Stmt → List Stmt
  | .ClassDef _ _ _ b _ _ _ _ _ _ _ => b
  | _ => []
def clsAt (st : Stmt) (i : Nat) : Stmt := (clsBody st).getD i (.Pass ⟨0, 0, 0, 0⟩)
section
variable {X : Cx} {e0 : Expr} {np cpos pos : Pos} {c attr q par : Str} {st : Stmt} {g : FE}
theorem psd_raiseF (hx : ∃ C f fd, RaiseI X.K c attr C f ∧ Fun X.K "__init__" q st f fd) (hok : ∀ f fd, Fun X.K "__init__" q st f fd → FnOk X.prog X.w X.K X.mg X.base CX0 1 f fd ["self", par] (spXi X.K attr))
    (hbi : ∀ f fd, Fun X.K "__init__" q st f fd → Binds X.K fd ["self", par] []) (hr : Room 2 X.A) (ha : PD X e0 g) (hex : X.ex = [] := by rfl) (hc : X.calm = true := by rfl) (hg : Gl X c := by rfl) (hdb : (c == ("__debug__" : Str)) = false := by decide)
    (he : starEach [e0] X.env = (false, eval e0 X.env) :: starEach [] X.env := by rfl) (hpl : (backTo cpos (starEach [e0] X.env)).any (·.1) = false := by rfl) :
    PSD X (.Raise (some (.Call (.Name c np) [e0] [] cpos)) none pos) (sRaiseI c attr g) := by
  obtain ⟨C, f, fd, R, F⟩ := hx
  exact psd_raiseI R (hok f fd F) hr (hbi f fd F) ha hex hc hg hdb he hpl
end
end L2
set_option Elab.async false
set_option linter.all false
set_option maxRecDepth 100000
set_option maxHeartbeats 4000000
namespace L2
open PySem PySem.Spec PyProof.Rows
section
variable {K : PySem.W.Frag} {c attr q : Str} {C f : Addr} {st : Stmt} {od : Option Addr} {kV doc pm cdv ct : Value} {an : Option Addr} {osl : Array (Option Value)}
theorem raiseI_mk (a : PySem.W.nsIn K mainGlobals c = some (some (.ref C))) (i : PySem.W.findIn K (.ref C) "__init__" = some (some (.ref f))) (e : ExcC K C) (s1 : PySem.W.findIn K (.ref C) "__setattr__" = some (some (.builtin "object.__setattr__")))
    (s2 : (PySem.W.clsIn K C).any (fun cd => excMro cd.mro && cd.hasDict) = true) (s3 : PySem.W.mroIn K C (.type "object") = some true) (s4 : PySem.W.findIn K (.ref C) attr = some none) (xi : xiIn K C f = true)
    (l : K.lookup f = some ⟨.type "function", od, .func (PySem.W.fnOf "__init__" q (defArgs st) (defBody st) (defScope st) .none kV doc pm an cdv ct), osl⟩) (cd : PySem.W.codeIn K cdv q = true) (kp : PySem.W.keepIn K (.ref f) = true) :
    ∃ C f fd, RaiseI K c attr C f ∧ Fun K "__init__" q st f fd :=
  ⟨C, f, _, ⟨a, e, ⟨s1, s2, s3, s4⟩, xi, _, l, rfl⟩, ⟨⟨_, od, kV, doc, pm, an, cdv, ct, osl, rfl, l, cd⟩, kp⟩⟩
theorem att_nil : ∀ c ∈ ([] : List Str), AttC K c attr := fun _ h => nomatch h
theorem att_cons {cs : List Str} (a : PySem.W.nsIn K mainGlobals c = some (some (.ref C))) (h1 : PySem.W.findIn K (.ref C) attr = some none) (h2 : PySem.W.hasDictIn K C = true) (t : ∀ c ∈ cs, AttC K c attr) : ∀ c' ∈ c :: cs, AttC K c' attr := fun c' h => by
  rcases List.mem_cons.mp h with rfl | h
  · refine ⟨fun C' hC => ?_⟩
    rw [a] at hC
    cases hC
    exact ⟨h1, h2⟩
  · exact t c' h
end
end L2
set_option Elab.async false
set_option linter.all false
set_option maxRecDepth 100000
set_option maxHeartbeats 4000000
namespace K05
open PySem PySem.Spec PyProof.Rows L2
def top (i : Nat) : Stmt := PySem.Challenge.pw_reason_k05_layers_or_ring.main.body.getD i (.Pass ⟨0, 0, 0, 0⟩)
structure Txt (K : PySem.W.Frag) (mg : Str → Option Value) : Prop where
  d_is_group : DefAt K mg "is_group" (top 4)
  d_has_predicate : DefAt K mg "has_predicate" (top 5)
  d_steps_of : DefAt K mg "steps_of" (top 7)
  d_way_of : DefAt K mg "way_of" (top 8)
  d_ring_of : DefAt K mg "ring_of" (top 9)
  d_lifted : DefAt K mg "lifted" (top 10)
  d_layers_of : DefAt K mg "layers_of" (top 11)
  d__law_cell : DefAt K mg "_law_cell" (top 13)
  d__law_rule : DefAt K mg "_law_rule" (top 14)
  d__law_steps : DefAt K mg "_law_steps" (top 15)
  d__law_levels : DefAt K mg "_law_levels" (top 16)
  d__law_is_ring : DefAt K mg "_law_is_ring" (top 17)
  d__law_told : DefAt K mg "_law_told" (top 18)
  d_law : DefAt K mg "law" (top 19)
  m_bool : mg "bool" = none
  m_dict : mg "dict" = none
  m_int : mg "int" = none
  m_isinstance : mg "isinstance" = none
  m_len : mg "len" = none
  m_list : mg "list" = none
  m_max : mg "max" = none
  m_range : mg "range" = none
  m_set : mg "set" = none
  m_tuple : mg "tuple" = none
  t_bool : IsTyOk K "bool"
  t_dict : IsTyOk K "dict"
  t_int : IsTyOk K "int"
  t_list : IsTyOk K "list"
  t_tuple : IsTyOk K "tuple"
  x_0 : ∃ C f fd, RaiseI K "Ring" "ring" C f ∧ Fun K "__init__" "Ring.__init__" (clsAt (top 2) 0) f fd
  x_1 : ∀ c ∈ (["Ring"] : List Str), CatchC K "Ring" c
  x_2 : IsOb1 K "ReasonError" [("Ring", true)]
  x_3 : ∀ c ∈ (["Ring"] : List Str), AttC K c "ring"
noncomputable section
def fb_is_group : FS := (sSeq (sRet (fSh (fAnd (f2 (gtD) (fCallB lenD (fCons (f2 ixA (fVarB 0) (fC (.int 1))) fNil)) (fC (.int 0))) (fIs "tuple" (f2 ixA (f2 ixA (fVarB 0) (fC (.int 1))) (f1 negD (fC (.int 1))))))))
    sNil)
def M_is_group : List D → Option Rs := runF ["rule"] 1 fb_is_group
def fb_has_predicate : FS := (sSeq (sRet (fSh (f2 (inE false) (f2 ixA (fVarB 0) (fC (.int 0))) (fTup (fCons (fC (.str "yes")) (fCons (fC (.str "not")) fNil))))))
    sNil)
def M_has_predicate : List D → Option Rs := runF ["literal"] 1 fb_has_predicate
def fb_steps_of (P : Program) (w : World) : FS := (sSeq (sTkNew P w 1)
    (sSeq (sForD true 2 0 (sSeq (sFor 3 (oSeq (f2 ixA (fVarB 2) (fC (.int 2)))) (sSeq (sIf (fB (fPub (fCallR M_has_predicate (fCons (fVar 3) fNil)))) (sSeq (sSet 4 (fIf (bOr (fB (f2 (eqO false) (f2 ixA (fVarB 3) (fC (.int 0))) (fC (.str "not")))) (fB (fPub (fCallR M_is_group (fCons (fVar 2) fNil))))) (fC (.int 1)) (fC (.int 0))))
    (sSeq (sTkPut P w 1 (fCons (f2 ixA (fVarB 3) (fC (.int 1))) (fCons (f2 ixA (fVarB 2) (fC (.int 0))) (fCons (fVar 4) fNil))))
    sNil)) sNil)
    sNil))
    sNil))
    (sSeq (sRet (fTkL 1))
    sNil)))
def M_steps_of (P : Program) (w : World) : List D → Option Rs := runF ["rules", "steps", "rule", "literal", "rise"] 1 (fb_steps_of P w)
def fb_way_of : FS := (sSeq (sSetR 3 (fDic1 (fVarB 1) (fTup (fCons (fVar 1) fNil))))
    (sSeq (sSet 4 (fC (.bl true)))
    (sSeq (sWhile (bAnd (fB (fVar 4)) (fB (f2 (inE true) (fVarB 2) (fVarB 3)))) (sSeq (sSet 4 (fC (.bl false)))
    (sSeq (sFor 5 (oSeq (fVar 0)) (sSeq (sIf (bAnd (fB (f2 (inE false) (f2 ixA (fVarB 5) (fC (.int 0))) (fVarB 3))) (fB (f2 (inE true) (f2 ixA (fVarB 5) (fC (.int 1))) (fVarB 3)))) (sSeq (sDPutM 3 (f2 ixA (fVarB 5) (fC (.int 1))) (f2 addD (f2 ixA (fVarB 3) (f2 ixA (fVarB 5) (fC (.int 0)))) (fTup (fCons (f2 ixA (fVarB 5) (fC (.int 1))) fNil))))
    (sSeq (sSet 4 (fC (.bl true)))
    sNil)) sNil)
    sNil))
    sNil)))
    (sSeq (sRet (fSh (fGet1 (fVarB 3) (fVarB 2))))
    sNil))))
def M_way_of : List D → Option Rs := runF ["steps", "start", "goal", "ways", "grows", "step"] 3 fb_way_of
def fb_ring_of : FS := (sSeq (sFor 1 (oSeq (fVar 0)) (sSeq (sIf (fB (f2 (eqO false) (f2 ixA (fVarB 1) (fC (.int 2))) (fC (.int 1)))) (sSeq (sSet 2 (fPub (fCallR M_way_of (fCons (fVar 0) (fCons (f2 ixA (fVarB 1) (fC (.int 1))) (fCons (f2 ixA (fVarB 1) (fC (.int 0))) fNil))))))
    (sSeq (sIf (fB (f2 (notA) (fVarB 2) (fC .non))) (sSeq (sRetV 2)
    sNil) sNil)
    sNil)) sNil)
    sNil))
    (sSeq (sRet (fSh (fC .non)))
    sNil))
def M_ring_of : List D → Option Rs := runF ["steps", "step", "way"] 1 fb_ring_of
def fb_lifted : FS := (sSeq (sSetR 2 (fCallN dicN (fCons (fVarB 0) fNil)))
    (sSeq (sSet 3 (fC (.bl true)))
    (sSeq (sWhile (fB (fVar 3)) (sSeq (sSet 3 (fC (.bl false)))
    (sSeq (sFor 4 (oSeq (fVar 1)) (sSeq (sSet 5 (f2 addD (f2 ixA (fVarB 2) (f2 ixA (fVarB 4) (fC (.int 0)))) (f2 ixA (fVarB 4) (fC (.int 2)))))
    (sSeq (sIf (fB (f2 (ltE) (f2 ixA (fVarB 2) (f2 ixA (fVarB 4) (fC (.int 1)))) (fVarB 5))) (sSeq (sDPutM 2 (f2 ixA (fVarB 4) (fC (.int 1))) (fVar 5))
    (sSeq (sSet 3 (fC (.bl true)))
    sNil)) sNil)
    sNil)))
    sNil)))
    (sSeq (sRetV 2)
    sNil))))
def M_lifted : List D → Option Rs := runF ["layers", "steps", "lifted_layers", "grows", "step", "least"] 2 fb_lifted
def fb_layers_of (P : Program) (w : World) : FS := (sSeq (sSet 1 (fPub (fCallR (M_steps_of P w) (fCons (fVar 0) fNil))))
    (sSeq (sSet 2 (fPub (fCallR M_ring_of (fCons (fVar 1) fNil))))
    (sSeq (sIf (fB (f2 (notA) (fVarB 2) (fC .non))) (sSeq (sRaiseI "Ring" "ring" (fVar 2))
    sNil) sNil)
    (sSeq (sSetR 3 fDicR)
    (sSeq (sForD true 4 0 (sSeq (sDPutM 3 (f2 ixA (fVarB 4) (fC (.int 0))) (fC (.int 0)))
    sNil))
    (sSeq (sFor 5 (oSeq (fVar 1)) (sSeq (sDPutM 3 (f2 ixA (fVarB 5) (fC (.int 0))) (fC (.int 0)))
    sNil))
    (sSeq (fun δ => (sRet (fCallR M_lifted (fCons (fVar 3) (fCons (fVar 1) fNil)))) (pubS 3 δ))
    sNil)))))))
def M_layers_of (P : Program) (w : World) : List D → Option Rs := runF ["rules", "steps", "ring", "layers", "rule", "step"] 1 (fb_layers_of P w)
def Mx_layers_of (P : Program) (w : World) : List Sl → Option Ex := runE ["rules", "steps", "ring", "layers", "rule", "step"] 1 (fb_layers_of P w)
def fb__law_cell : FS := (sSeq (sIf (fB (f2 (ltE) (fVarB 1) (fCallB lenD (fCons (fVarB 0) fNil)))) (sSeq (sRet (fSh (f2 ixA (fVarB 0) (fVarB 1))))
    sNil) sNil)
    (sSeq (sSet 2 (f2 addD (f2 mulD (fVarB 1) (fC (.int 7919))) (fC (.int 5))))
    (sSeq (sIf (fB (f2 (gtD) (fCallB lenD (fCons (fVarB 0) fNil)) (fC (.int 0)))) (sSeq (sSet 2 (f2 modD (f2 addD (f2 mulD (f2 ixA (fVarB 0) (f2 modD (f2 mulD (fVarB 1) (fC (.int 7))) (fCallB lenD (fCons (fVarB 0) fNil)))) (fC (.int 48271))) (f2 mulD (fVarB 1) (fC (.int 7919)))) (fC (.int 2147483647))))
    sNil) sNil)
    (sSeq (sRet (fSh (f2 modD (f2 mulD (fVarB 2) (fVarB 2)) (fC (.int 2147483629)))))
    sNil))))
def M__law_cell : List D → Option Rs := runF ["_law_script", "_law_k", "_law_number"] 2 fb__law_cell
def fb__law_rule : FS := (sSeq (sSet 2 (fPub (fLstR (fCons (fC (.str "p")) (fCons (fC (.str "q")) (fCons (fC (.str "r")) (fCons (fC (.str "s")) (fCons (fC (.str "t")) (fCons (fC (.str "u")) (fCons (fC (.str "v")) fNil))))))))))
    (sSeq (sSet 3 (f2 modD (fVarB 0) (fC (.int 7))))
    (sSeq (sSet 4 (f2 (eqO false) (f2 modD (f2 fdivD (fVarB 0) (fC (.int 7))) (fC (.int 5))) (fC (.int 4))))
    (sSeq (sSet 5 (f2 modD (f2 fdivD (fVarB 0) (fC (.int 35))) (fC (.int 3))))
    (sSeq (sSet 0 (f2 fdivD (fVarB 0) (fC (.int 105))))
    (sSeq (sSet 6 (fC (.int 7)))
    (sSeq (sIf (bAnd (fB (fVar 1)) (fB (fVar 4))) (sSeq (sSet 6 (fVar 3))
    sNil) sNil)
    (sSeq (sIf (fB (f2 (eqO false) (fVarB 6) (fC (.int 0)))) (sSeq (sSet 4 (fC (.bl false)))
    (sSeq (sSet 6 (fC (.int 7)))
    sNil)) sNil)
    (sSeq (sSet 7 (fTup (fCons (fTup (fCons (fC (.str "yes")) (fCons (f2 ixA (fVarB 2) (f2 modD (fVarB 0) (fVarB 6))) (fCons (fTup (fCons (fC (.str "X")) fNil)) fNil)))) fNil)))
    (sSeq (sFor 8 (oRng (fVar 5)) (sSeq (sSet 0 (f2 fdivD (fVarB 0) (fC (.int 7))))
    (sSeq (sSet 9 (f2 ixA (fPub (fLstR (fCons (fC (.str "yes")) (fCons (fC (.str "not")) fNil)))) (f2 modD (fVarB 0) (fC (.int 2)))))
    (sSeq (sSet 0 (f2 fdivD (fVarB 0) (fC (.int 2))))
    (sSeq (sSet 10 (fVar 6))
    (sSeq (sIf (bAnd (fB (fVar 1)) (fB (f2 (eqO false) (fVarB 9) (fC (.str "not"))))) (sSeq (sSet 10 (fVar 3))
    sNil) sNil)
    (sSeq (sIf (fB (f2 (eqO false) (fVarB 10) (fC (.int 0)))) (sSeq (sSet 9 (fC (.str "yes")))
    (sSeq (sSet 10 (fC (.int 7)))
    sNil)) sNil)
    (sSeq (sSet 7 (f2 addD (fVarB 7) (fTup (fCons (fTup (fCons (fVar 9) (fCons (f2 ixA (fVarB 2) (f2 modD (fVarB 0) (fVarB 10))) (fCons (fTup (fCons (fC (.str "X")) fNil)) fNil)))) fNil))))
    sNil))))))))
    (sSeq (sRet (fSh (fTup (fCons (f2 ixA (fVarB 2) (fVarB 3)) (fCons (f2 ixA (fPub (fLstR (fCons (fTup (fCons (fC (.str "X")) fNil)) (fCons (fTup (fCons (fTup (fCons (fC (.str "count")) fNil)) fNil)) fNil)))) (fCallB intD (fCons (fVarB 4) fNil))) (fCons (fVar 7) fNil))))))
    sNil)))))))))))
def M__law_rule : List D → Option Rs := runF ["_law_cell_here", "_law_tame", "_law_names", "_law_head", "_law_group", "_law_many", "_law_below", "_law_body", "_law_k", "_law_kind", "_law_here"] 2 fb__law_rule
def fb__law_steps : FS := (sSeq (sSetR 1 (fLstR fNil))
    (sSeq (sForD false 2 0 (sSeq (sUnp [3, 4, 5] (xD (f2 ixA (fVarB 0) (fVarB 2))))
    (sSeq (sSet 6 (fIs "tuple" (f2 ixA (fVarB 4) (fC (.int 0)))))
    (sSeq (sFor 7 (oSeq (fVar 5)) (sSeq (sApp 1 (fTup (fCons (f2 ixA (fVarB 7) (fC (.int 1))) (fCons (fVar 3) (fCons (fCallB intD (fCons (fOr (fVar 6) (f2 (eqO false) (f2 ixA (fVarB 7) (fC (.int 0))) (fC (.str "not")))) fNil)) fNil)))))
    sNil))
    sNil))))
    (sSeq (sRetV 1)
    sNil)))
def M__law_steps : List D → Option Rs := runF ["_law_rules", "_law_steps_here", "_law_number", "_law_head", "_law_terms", "_law_body", "_law_strict", "_law_literal"] 1 fb__law_steps
def fb__law_levels : FS := (sSeq (sSetR 1 fDicR)
    (sSeq (sForT 2 3 4 (oSeq (fVar 0)) (sSeq (sDPutM 1 (fVar 2) (fC (.int 0)))
    (sSeq (sDPutM 1 (fVar 3) (fC (.int 0)))
    sNil)))
    (sSeq (sFor 5 (oRng (f2 addD (fCallB lenD (fCons (fVarB 1) fNil)) (fC (.int 1)))) (sSeq (sFor 6 (oRng (fCallB lenD (fCons (fVarB 1) fNil))) (sSeq (sForT 2 3 4 (oSeq (fVar 0)) (sSeq (sDPutM 1 (fVar 3) (fCallB maxD (fCons (f2 ixA (fVarB 1) (fVarB 3)) (fCons (f2 addD (f2 ixA (fVarB 1) (fVarB 2)) (fVarB 4)) fNil))))
    sNil))
    sNil))
    sNil))
    (sSeq (fun δ => (sForD false 7 1 (sSeq (sIf (fB (f2 (gtD) (f2 ixA (fVarB 1) (fVarB 7)) (fCallB lenD (fCons (fVarB 1) fNil)))) (sSeq (sRet (fSh (fC .non)))
    sNil) sNil)
    sNil)) (pubS 1 δ))
    (sSeq (sForT 2 3 4 (oSeq (fVar 0)) (sSeq (sIf (fB (f2 (ltE) (f2 ixA (fVarB 1) (fVarB 3)) (f2 addD (f2 ixA (fVarB 1) (fVarB 2)) (fVarB 4)))) (sSeq (sRet (fSh (fC .non)))
    sNil) sNil)
    sNil))
    (sSeq (sRetV 1)
    sNil))))))
def M__law_levels : List D → Option Rs := runF ["_law_steps_here", "_law_levels_here", "_law_one", "_law_other", "_law_strict", "_law_k", "_law_j", "_law_head"] 1 fb__law_levels
def fb__law_is_ring : FS := (sSeq (sIf (bOr (bNot (fB (fIs "tuple" (fVarB 1)))) (bOr (fB (f2 (eqO false) (fVarB 1) (fTup fNil))) (fB (f2 (neE) (fLenSet (fVarB 1)) (fCallB lenD (fCons (fVarB 1) fNil)))))) (sSeq (sRet (fSh (fC (.bl false))))
    sNil) sNil)
    (sSeq (sSet 2 (fC (.int 0)))
    (sSeq (sFor 3 (oRng (fCallB lenD (fCons (fVarB 1) fNil))) (sSeq (sSet 4 (f2 ixA (fVarB 1) (fVarB 3)))
    (sSeq (sSet 5 (f2 ixA (fVarB 1) (f2 modD (f2 addD (fVarB 3) (fC (.int 1))) (fCallB lenD (fCons (fVarB 1) fNil)))))
    (sSeq (sSet 6 (fPub (fComp 1 [4, 5] 0 (oSeq (fVar 0)) (bAnd (fB (f2 (eqO false) (f2 ixA (fVarB 0) (fC (.int 0))) (fVarB 1))) (fB (f2 (eqO false) (f2 ixA (fVarB 0) (fC (.int 1))) (fVarB 2)))) (f2 ixA (fVarB 0) (fC (.int 2))))))
    (sSeq (sIf (fB (f2 (eqO false) (fVarB 6) (fPub (fLstR fNil)))) (sSeq (sRet (fSh (fC (.bl false))))
    sNil) sNil)
    (sSeq (sSet 2 (fCallB maxLD (fCons (f2 addD (fPub (fLstR (fCons (fVar 2) fNil))) (fVarB 6)) fNil)))
    sNil))))))
    (sSeq (sRet (fSh (f2 (eqO false) (fVarB 2) (fC (.int 1)))))
    sNil))))
def M__law_is_ring : List D → Option Rs := runF ["_law_steps_here", "_law_ring", "_law_strict", "_law_k", "_law_one", "_law_other", "_law_some"] 2 fb__law_is_ring
def fb__law_told (P : Program) (w : World) : FS := (sSeq (sSet 1 (fC .non))
    (sSeq (sSet 2 (fC .non))
    (sSeq (sSet 3 (fC (.bl true)))
    (sSeq (sTry ["Ring"] 4 (sSeq (sOr (sSet 1 (fPub (fCallR (M_layers_of P w) (fCons (fVar 0) fNil)))) (sCallE (Mx_layers_of P w) (fCons (fVar 0) fNil)))
    sNil) (sSeq (sSet 2 (fAtt 4 ["Ring"] "ring"))
    (sSeq (sSet 3 (fIsOb 4 [("Ring", true)]))
    sNil)))
    (sSeq (sRet (fSh (fTup (fCons (fVar 1) (fCons (fVar 2) (fCons (fVar 3) fNil))))))
    sNil)))))
def M__law_told (P : Program) (w : World) : List D → Option Rs := runF ["_law_rules", "_law_found", "_law_ring", "_law_good", "e"] 1 (fb__law_told P w)
def fb_law (P : Program) (w : World) : FS := (sSeq (sSet 1 (f2 (eqO false) (f2 modD (fPub (fCallR M__law_cell (fCons (fVar 0) (fCons (fC (.int 0)) fNil)))) (fC (.int 2))) (fC (.int 1))))
    (sSeq (sSetR 2 fDicR)
    (sSeq (sFor 3 (oRng (f2 modD (fPub (fCallR M__law_cell (fCons (fVar 0) (fCons (fC (.int 1)) fNil)))) (fC (.int 13)))) (sSeq (sDPutM 2 (f2 addD (fC (.int 1)) (f2 mulD (fVarB 3) (f2 addD (fC (.int 1)) (f2 modD (f2 fdivD (fPub (fCallR M__law_cell (fCons (fVar 0) (fCons (fC (.int 0)) fNil)))) (fC (.int 2))) (fC (.int 9)))))) (fPub (fCallR M__law_rule (fCons (fPub (fCallR M__law_cell (fCons (fVar 0) (fCons (f2 addD (fC (.int 2)) (fVarB 3)) fNil)))) (fCons (fVar 1) fNil)))))
    sNil))
    (sSeq (fun δ => (sSet 4 (fPub (fCallR M__law_steps (fCons (fVar 2) fNil)))) (pubS 2 δ))
    (sSeq (sSet 5 (fPub (fCallR M__law_levels (fCons (fVar 4) fNil))))
    (sSeq (sSet 6 (fPub (fCallN dicN (fCons (fVarB 2) fNil))))
    (sSeq (sUnp [7, 8, 9] (xD (fPub (fCallR (M__law_told P w) (fCons (fVar 6) fNil)))))
    (sSeq (sIf (bOr (fB (f2 (neE) (fVarB 6) (fVarB 2))) (bNot (fB (fVar 9)))) (sSeq (sRet (fSh (fC (.bl false))))
    sNil) sNil)
    (sSeq (sIf (fB (f2 (isA) (fVarB 5) (fC .non))) (sSeq (sRet (fSh (fAnd (f2 (isA) (fVarB 7) (fC .non)) (fAnd (f2 (notA) (fVarB 8) (fC .non)) (fPub (fCallR M__law_is_ring (fCons (fVar 4) (fCons (fVar 8) fNil))))))))
    sNil) sNil)
    (sSeq (sIf (bOr (bNot (fB (fIs "dict" (fVarB 7)))) (fB (f2 (neE) (fVarB 7) (fVarB 5)))) (sSeq (sRet (fSh (fC (.bl false))))
    sNil) sNil)
    (sSeq (sForD false 10 7 (sSeq (sIf (bOr (bNot (fB (fIs "int" (f2 ixA (fVarB 7) (fVarB 10))))) (fB (fIs "bool" (f2 ixA (fVarB 7) (fVarB 10))))) (sSeq (sRet (fSh (fC (.bl false))))
    sNil) sNil)
    sNil))
    (sSeq (sRet (fSh (fC (.bl true))))
    sNil))))))))))))
def M_law (P : Program) (w : World) : List D → Option Rs := runF ["_law_script", "_law_tame", "_law_rules", "_law_k", "_law_steps_here", "_law_due", "_law_handed", "_law_found", "_law_ring", "_law_good", "_law_head"] 1 (fb_law P w)
end
theorem hu_of2 {k : Nat} {A : Around} (r : Room k A) : A.units + 20 < cLine := by have := r.un; omega
theorem sci_Ring : FnScope ["self", "ring"] ["self", "ring"] (defScope (clsAt (top 2) 0)) := ⟨rfl, rfl, rfl, by decide +kernel, rfl, by decide +kernel, by decide +kernel⟩
theorem ini_Ring {P : Program} {w : World} {K : PySem.W.Frag} {mg : Str → Option Value} {base : Heap} {f : Addr} {fd : FuncData} (F : Fun K "__init__" "Ring.__init__" (clsAt (top 2) 0) f fd) : FnOk P w K mg base CX0 1 f fd ["self", "ring"] (spXi K "ring") :=
  F.ok sci_Ring spXi_len fun cdv A outer s H vs Q E hr h => ⟨_, pss_cons (ps_fldX (pv 0) (pv 1) rfl) pss_nil, by
    obtain ⟨e, C, v, rfl, he, c, q⟩ := h
    exact ⟨v, rfl, .ref e, rfl, e, C, rfl, he, c, q⟩⟩
theorem inib_Ring {K : PySem.W.Frag} {f : Addr} {fd : FuncData} (F : Fun K "__init__" "Ring.__init__" (clsAt (top 2) 0) f fd) : Binds K fd ["self", "ring"] [] := F.binds fun _ _ _ _ _ _ us hl => match us, hl with | [_, _], _ => rfl
end K05
set_option Elab.async false
set_option linter.all false
set_option maxRecDepth 100000
set_option maxHeartbeats 4000000
namespace K05
open PySem PySem.Spec PyProof.Rows L2
theorem sc_is_group : FnScope ["rule"] ["rule"] (defScope (top 4)) := ⟨rfl, rfl, rfl, by decide +kernel, rfl, by decide +kernel, by decide +kernel⟩
theorem mk_is_group {P : Program} {w : World} {K : PySem.W.Frag} {mg : Str → Option Value} {base : Heap} (T : Txt K mg)  : DefOk P w K mg base 1 "is_group" ["rule"] M_is_group :=
  def_run T.d_is_group sc_is_group (fun _ _ _ _ _ _ us hl => match us, hl with | [_], _ => rfl) fun f cdv A outer s H E hr => by
    have nd : (["rule"] : List Str).Nodup := sc_is_group.nd
    have hu := hu_of2 hr
    exact (psd_cons (psd_ret (PD.pr (pd_and (pd_cmp od_gt (PD.pb (pd_callB cd_len T.m_len boot_len (pab_cons (PD.pb (pd_ix (Nat.lt_of_le_of_lt (Nat.add_le_add_left (by decide) _) hu) (pb_var 0) (PD.pb pd_int))) pab_nil))) (PD.pb pd_int)) (pd_one (pd_is "tuple" T.t_tuple T.m_isinstance T.m_tuple boot_tuple (PD.pb (pd_ix (Nat.lt_of_le_of_lt (Nat.add_le_add_left (by decide) _) hu) (PD.pb (pd_ix (Nat.lt_of_le_of_lt (Nat.add_le_add_left (by decide) _) hu) (pb_var 0) (PD.pb pd_int))) (PD.pb (pd_neg pd_int)))))))))
    psd_nil)
theorem sc_has_predicate : FnScope ["literal"] ["literal"] (defScope (top 5)) := ⟨rfl, rfl, rfl, by decide +kernel, rfl, by decide +kernel, by decide +kernel⟩
theorem mk_has_predicate {P : Program} {w : World} {K : PySem.W.Frag} {mg : Str → Option Value} {base : Heap} (T : Txt K mg)  : DefOk P w K mg base 1 "has_predicate" ["literal"] M_has_predicate :=
  def_run T.d_has_predicate sc_has_predicate (fun _ _ _ _ _ _ us hl => match us, hl with | [_], _ => rfl) fun f cdv A outer s H E hr => by
    have nd : (["literal"] : List Str).Nodup := sc_has_predicate.nd
    have hu := hu_of2 hr
    exact (psd_cons (psd_ret (PD.pr (pd_cmp (od_inE hu) (PD.pb (pd_ix (Nat.lt_of_le_of_lt (Nat.add_le_add_left (by decide) _) hu) (pb_var 0) (PD.pb pd_int))) (PD.pb (pd_tup (pad_cons pd_str (pad_cons pd_str pad_nil)))))))
    psd_nil)
theorem sc_steps_of : FnScope ["rules", "steps", "rule", "literal", "rise"] ["rules"] (defScope (top 7)) := ⟨rfl, rfl, rfl, by decide +kernel, rfl, by decide +kernel, by decide +kernel⟩
theorem mk_steps_of {P : Program} {w : World} {K : PySem.W.Frag} {mg : Str → Option Value} {base : Heap} (T : Txt K mg) (ok_has_predicate : DefOk P w K mg base 1 "has_predicate" ["literal"] M_has_predicate) (ok_is_group : DefOk P w K mg base 1 "is_group" ["rule"] M_is_group) : DefOk P w K mg base 2 "steps_of" ["rules"] (M_steps_of P w) :=
  def_run T.d_steps_of sc_steps_of (fun _ _ _ _ _ _ us hl => match us, hl with | [_], _ => rfl) fun f cdv A outer s H E hr => by
    have nd : (["rules", "steps", "rule", "literal", "rise"] : List Str).Nodup := sc_steps_of.nd
    have hu := hu_of2 hr
    exact (psd_cons (psd_tkNew 1 nd)
    (psd_cons (psd_forDV 2 0 nd rfl PassesOwn.never (psd_cons (psd_for 3 nd rfl PassesOwn.never (pid_seq (pd_ix (Nat.lt_of_le_of_lt (Nat.add_le_add_left (by decide) _) hu) (pb_var 2) (PD.pb pd_int))) (psd_cons (psd_if (pdt_val (PR.pd (pr_call ok_has_predicate (hr.mono (by decide)) (pad_cons (pd_var 3) pad_nil)))) (psd_cons (psd_set 4 nd (pd_if (PDW.pdt (pdw_or (pdt_cmp (od_eqO hu) (PD.pb (pd_ix (Nat.lt_of_le_of_lt (Nat.add_le_add_left (by decide) _) hu) (pb_var 3) (PD.pb pd_int))) (PD.pb pd_str)) (pdw_or1 (pdt_val (PR.pd (pr_call ok_is_group (hr.mono (by decide)) (pad_cons (pd_var 2) pad_nil))))))) pd_int pd_int))
    (psd_cons (psd_tkPut 1 (Nat.lt_of_le_of_lt (Nat.add_le_add_left (by decide) _) hu) (pad_cons (pd_ix (Nat.lt_of_le_of_lt (Nat.add_le_add_left (by decide) _) hu) (pb_var 3) (PD.pb pd_int)) (pad_cons (pd_ix (Nat.lt_of_le_of_lt (Nat.add_le_add_left (by decide) _) hu) (pb_var 2) (PD.pb pd_int)) (pad_cons (pd_var 4) pad_nil))))
    psd_nil)) psd_nil)
    psd_nil))
    psd_nil))
    (psd_cons (psd_ret (pr_tkList 1 rfl T.m_list))
    psd_nil)))
theorem sc_way_of : FnScope ["steps", "start", "goal", "ways", "grows", "step"] ["steps", "start", "goal"] (defScope (top 8)) := ⟨rfl, rfl, rfl, by decide +kernel, rfl, by decide +kernel, by decide +kernel⟩
theorem mk_way_of {P : Program} {w : World} {K : PySem.W.Frag} {mg : Str → Option Value} {base : Heap} (T : Txt K mg)  : DefOk P w K mg base 1 "way_of" ["steps", "start", "goal"] M_way_of :=
  def_run T.d_way_of sc_way_of (fun _ _ _ _ _ _ us hl => match us, hl with | [_, _, _], _ => rfl) fun f cdv A outer s H E hr => by
    have nd : (["steps", "start", "goal", "ways", "grows", "step"] : List Str).Nodup := sc_way_of.nd
    have hu := hu_of2 hr
    exact (psd_cons (psd_setR 3 nd (pr_dic1 (pb_var 1) (pd_tup (pad_cons (pd_var 1) pad_nil))))
    (psd_cons (psd_set 4 nd pd_bl)
    (psd_cons (psd_while PassesOwn.never (PDW.pdt (pdw_and (pdt_val (pd_var 4)) (pdw_and1 (pdt_cmp (od_notinE hu) (pb_var 2) (pb_var 3))))) (psd_cons (psd_set 4 nd pd_bl)
    (psd_cons (psd_for 5 nd rfl PassesOwn.never (pid_seq (pd_var 0)) (psd_cons (psd_if (PDW.pdt (pdw_and (pdt_cmp (od_inE hu) (PD.pb (pd_ix (Nat.lt_of_le_of_lt (Nat.add_le_add_left (by decide) _) hu) (pb_var 5) (PD.pb pd_int))) (pb_var 3)) (pdw_and1 (pdt_cmp (od_notinE hu) (PD.pb (pd_ix (Nat.lt_of_le_of_lt (Nat.add_le_add_left (by decide) _) hu) (pb_var 5) (PD.pb pd_int))) (pb_var 3))))) (psd_cons (psd_dput 3 (Nat.lt_of_le_of_lt (Nat.add_le_add_left (by decide) _) hu) (pd_ix (Nat.lt_of_le_of_lt (Nat.add_le_add_left (by decide) _) hu) (pb_var 5) (PD.pb pd_int)) (pd_op od_add (PD.pb (pd_ix (Nat.lt_of_le_of_lt (Nat.add_le_add_left (by decide) _) hu) (pb_var 3) (PD.pb (pd_ix (Nat.lt_of_le_of_lt (Nat.add_le_add_left (by decide) _) hu) (pb_var 5) (PD.pb pd_int))))) (PD.pb (pd_tup (pad_cons (pd_ix (Nat.lt_of_le_of_lt (Nat.add_le_add_left (by decide) _) hu) (pb_var 5) (PD.pb pd_int)) pad_nil)))))
    (psd_cons (psd_set 4 nd pd_bl)
    psd_nil)) psd_nil)
    psd_nil))
    psd_nil)))
    (psd_cons (psd_ret (PD.pr (pd_get1 (Nat.lt_of_le_of_lt (Nat.add_le_add_left (by decide) _) hu) (pb_var 3) (pb_var 2))))
    psd_nil))))
theorem sc_ring_of : FnScope ["steps", "step", "way"] ["steps"] (defScope (top 9)) := ⟨rfl, rfl, rfl, by decide +kernel, rfl, by decide +kernel, by decide +kernel⟩
theorem mk_ring_of {P : Program} {w : World} {K : PySem.W.Frag} {mg : Str → Option Value} {base : Heap} (T : Txt K mg) (ok_way_of : DefOk P w K mg base 1 "way_of" ["steps", "start", "goal"] M_way_of) : DefOk P w K mg base 2 "ring_of" ["steps"] M_ring_of :=
  def_run T.d_ring_of sc_ring_of (fun _ _ _ _ _ _ us hl => match us, hl with | [_], _ => rfl) fun f cdv A outer s H E hr => by
    have nd : (["steps", "step", "way"] : List Str).Nodup := sc_ring_of.nd
    have hu := hu_of2 hr
    exact (psd_cons (psd_for 1 nd rfl PassesOwn.never (pid_seq (pd_var 0)) (psd_cons (psd_if (pdt_cmp (od_eqO hu) (PD.pb (pd_ix (Nat.lt_of_le_of_lt (Nat.add_le_add_left (by decide) _) hu) (pb_var 1) (PD.pb pd_int))) (PD.pb pd_int)) (psd_cons (psd_set 2 nd (PR.pd (pr_call ok_way_of (hr.mono (by decide)) (pad_cons (pd_var 0) (pad_cons (pd_ix (Nat.lt_of_le_of_lt (Nat.add_le_add_left (by decide) _) hu) (pb_var 1) (PD.pb pd_int)) (pad_cons (pd_ix (Nat.lt_of_le_of_lt (Nat.add_le_add_left (by decide) _) hu) (pb_var 1) (PD.pb pd_int)) pad_nil))))))
    (psd_cons (psd_if (pdt_cmp od_notA (pb_var 2) (PD.pb pd_non)) (psd_cons (psd_retV 2)
    psd_nil) psd_nil)
    psd_nil)) psd_nil)
    psd_nil))
    (psd_cons (psd_ret (PD.pr pd_non))
    psd_nil))
theorem sc_lifted : FnScope ["layers", "steps", "lifted_layers", "grows", "step", "least"] ["layers", "steps"] (defScope (top 10)) := ⟨rfl, rfl, rfl, by decide +kernel, rfl, by decide +kernel, by decide +kernel⟩
theorem mk_lifted {P : Program} {w : World} {K : PySem.W.Frag} {mg : Str → Option Value} {base : Heap} (T : Txt K mg)  : DefOk P w K mg base 1 "lifted" ["layers", "steps"] M_lifted :=
  def_run T.d_lifted sc_lifted (fun _ _ _ _ _ _ us hl => match us, hl with | [_, _], _ => rfl) fun f cdv A outer s H E hr => by
    have nd : (["layers", "steps", "lifted_layers", "grows", "step", "least"] : List Str).Nodup := sc_lifted.nd
    have hu := hu_of2 hr
    exact (psd_cons (psd_setR 2 nd (pr_callTy cn_dict T.m_dict boot_dict (pab_cons (pb_var 0) pab_nil)))
    (psd_cons (psd_set 3 nd pd_bl)
    (psd_cons (psd_while PassesOwn.never (pdt_val (pd_var 3)) (psd_cons (psd_set 3 nd pd_bl)
    (psd_cons (psd_for 4 nd rfl PassesOwn.never (pid_seq (pd_var 1)) (psd_cons (psd_set 5 nd (pd_op od_add (PD.pb (pd_ix (Nat.lt_of_le_of_lt (Nat.add_le_add_left (by decide) _) hu) (pb_var 2) (PD.pb (pd_ix (Nat.lt_of_le_of_lt (Nat.add_le_add_left (by decide) _) hu) (pb_var 4) (PD.pb pd_int))))) (PD.pb (pd_ix (Nat.lt_of_le_of_lt (Nat.add_le_add_left (by decide) _) hu) (pb_var 4) (PD.pb pd_int)))))
    (psd_cons (psd_if (pdt_cmp (od_ltE hu) (PD.pb (pd_ix (Nat.lt_of_le_of_lt (Nat.add_le_add_left (by decide) _) hu) (pb_var 2) (PD.pb (pd_ix (Nat.lt_of_le_of_lt (Nat.add_le_add_left (by decide) _) hu) (pb_var 4) (PD.pb pd_int))))) (pb_var 5)) (psd_cons (psd_dput 2 (Nat.lt_of_le_of_lt (Nat.add_le_add_left (by decide) _) hu) (pd_ix (Nat.lt_of_le_of_lt (Nat.add_le_add_left (by decide) _) hu) (pb_var 4) (PD.pb pd_int)) (pd_var 5))
    (psd_cons (psd_set 3 nd pd_bl)
    psd_nil)) psd_nil)
    psd_nil)))
    psd_nil)))
    (psd_cons (psd_retV 2)
    psd_nil))))
theorem sc_layers_of : FnScope ["rules", "steps", "ring", "layers", "rule", "step"] ["rules"] (defScope (top 11)) := ⟨rfl, rfl, rfl, by decide +kernel, rfl, by decide +kernel, by decide +kernel⟩
theorem mk_layers_of {P : Program} {w : World} {K : PySem.W.Frag} {mg : Str → Option Value} {base : Heap} (T : Txt K mg) (ok_lifted : DefOk P w K mg base 1 "lifted" ["layers", "steps"] M_lifted) (ok_ring_of : DefOk P w K mg base 2 "ring_of" ["steps"] M_ring_of) (ok_steps_of : DefOk P w K mg base 2 "steps_of" ["rules"] (M_steps_of P w)) : DefOk P w K mg base 3 "layers_of" ["rules"] (M_layers_of P w) :=
  def_run T.d_layers_of sc_layers_of (fun _ _ _ _ _ _ us hl => match us, hl with | [_], _ => rfl) fun f cdv A outer s H E hr => by
    have nd : (["rules", "steps", "ring", "layers", "rule", "step"] : List Str).Nodup := sc_layers_of.nd
    have hu := hu_of2 hr
    exact (psd_cons (psd_set 1 nd (PR.pd (pr_call ok_steps_of (hr.mono (by decide)) (pad_cons (pd_var 0) pad_nil))))
    (psd_cons (psd_set 2 nd (PR.pd (pr_call ok_ring_of (hr.mono (by decide)) (pad_cons (pd_var 1) pad_nil))))
    (psd_cons (psd_if (pdt_cmp od_notA (pb_var 2) (PD.pb pd_non)) (psd_cons (psd_raiseF T.x_0 (fun _ _ F => ini_Ring F) (fun _ _ F => inib_Ring F) (hr.mono (by decide)) (pd_var 2))
    psd_nil) psd_nil)
    (psd_cons (psd_setR 3 nd pr_dnew)
    (psd_cons (psd_forDV 4 0 nd rfl PassesOwn.never (psd_cons (psd_dput 3 (Nat.lt_of_le_of_lt (Nat.add_le_add_left (by decide) _) hu) (pd_ix (Nat.lt_of_le_of_lt (Nat.add_le_add_left (by decide) _) hu) (pb_var 4) (PD.pb pd_int)) pd_int)
    psd_nil))
    (psd_cons (psd_for 5 nd rfl PassesOwn.never (pid_seq (pd_var 1)) (psd_cons (psd_dput 3 (Nat.lt_of_le_of_lt (Nat.add_le_add_left (by decide) _) hu) (pd_ix (Nat.lt_of_le_of_lt (Nat.add_le_add_left (by decide) _) hu) (pb_var 5) (PD.pb pd_int)) pd_int)
    psd_nil))
    (psd_cons (psd_pub 3 (psd_ret (pr_call ok_lifted (hr.mono (by decide)) (pad_cons (pd_var 3) (pad_cons (pd_var 1) pad_nil)))))
    psd_nil)))))))
theorem mkE_layers_of {P : Program} {w : World} {K : PySem.W.Frag} {mg : Str → Option Value} {base : Heap} (T : Txt K mg) (ok_lifted : DefOk P w K mg base 1 "lifted" ["layers", "steps"] M_lifted) (ok_ring_of : DefOk P w K mg base 2 "ring_of" ["steps"] M_ring_of) (ok_steps_of : DefOk P w K mg base 2 "steps_of" ["rules"] (M_steps_of P w)) : DefOkE P w K mg base 3 "layers_of" ["rules"] (Mx_layers_of P w) :=
  def_runE T.d_layers_of sc_layers_of (fun _ _ _ _ _ _ us hl => match us, hl with | [_], _ => rfl) fun f cdv A outer s H E hr => by
    have nd : (["rules", "steps", "ring", "layers", "rule", "step"] : List Str).Nodup := sc_layers_of.nd
    have hu := hu_of2 hr
    exact (psd_cons (psd_set 1 nd (PR.pd (pr_call ok_steps_of (hr.mono (by decide)) (pad_cons (pd_var 0) pad_nil))))
    (psd_cons (psd_set 2 nd (PR.pd (pr_call ok_ring_of (hr.mono (by decide)) (pad_cons (pd_var 1) pad_nil))))
    (psd_cons (psd_if (pdt_cmp od_notA (pb_var 2) (PD.pb pd_non)) (psd_cons (psd_raiseF T.x_0 (fun _ _ F => ini_Ring F) (fun _ _ F => inib_Ring F) (hr.mono (by decide)) (pd_var 2))
    psd_nil) psd_nil)
    (psd_cons (psd_setR 3 nd pr_dnew)
    (psd_cons (psd_forDV 4 0 nd rfl PassesOwn.leaving (psd_cons (psd_dput 3 (Nat.lt_of_le_of_lt (Nat.add_le_add_left (by decide) _) hu) (pd_ix (Nat.lt_of_le_of_lt (Nat.add_le_add_left (by decide) _) hu) (pb_var 4) (PD.pb pd_int)) pd_int)
    psd_nil))
    (psd_cons (psd_for 5 nd rfl PassesOwn.leaving (pid_seq (pd_var 1)) (psd_cons (psd_dput 3 (Nat.lt_of_le_of_lt (Nat.add_le_add_left (by decide) _) hu) (pd_ix (Nat.lt_of_le_of_lt (Nat.add_le_add_left (by decide) _) hu) (pb_var 5) (PD.pb pd_int)) pd_int)
    psd_nil))
    (psd_cons (psd_pub 3 (psd_ret (pr_call ok_lifted (hr.mono (by decide)) (pad_cons (pd_var 3) (pad_cons (pd_var 1) pad_nil)))))
    psd_nil)))))))
theorem sc__law_cell : FnScope ["_law_script", "_law_k", "_law_number"] ["_law_script", "_law_k"] (defScope (top 13)) := ⟨rfl, rfl, rfl, by decide +kernel, rfl, by decide +kernel, by decide +kernel⟩
theorem mk__law_cell {P : Program} {w : World} {K : PySem.W.Frag} {mg : Str → Option Value} {base : Heap} (T : Txt K mg)  : DefOk P w K mg base 1 "_law_cell" ["_law_script", "_law_k"] M__law_cell :=
  def_run T.d__law_cell sc__law_cell (fun _ _ _ _ _ _ us hl => match us, hl with | [_, _], _ => rfl) fun f cdv A outer s H E hr => by
    have nd : (["_law_script", "_law_k", "_law_number"] : List Str).Nodup := sc__law_cell.nd
    have hu := hu_of2 hr
    exact (psd_cons (psd_if (pdt_cmp (od_ltE hu) (pb_var 1) (PD.pb (pd_callB cd_len T.m_len boot_len (pab_cons (pb_var 0) pab_nil)))) (psd_cons (psd_ret (PD.pr (pd_ix (Nat.lt_of_le_of_lt (Nat.add_le_add_left (by decide) _) hu) (pb_var 0) (pb_var 1))))
    psd_nil) psd_nil)
    (psd_cons (psd_set 2 nd (pd_op od_add (PD.pb (pd_op od_mul (pb_var 1) (PD.pb pd_int))) (PD.pb pd_int)))
    (psd_cons (psd_if (pdt_cmp od_gt (PD.pb (pd_callB cd_len T.m_len boot_len (pab_cons (pb_var 0) pab_nil))) (PD.pb pd_int)) (psd_cons (psd_set 2 nd (pd_op od_mod (PD.pb (pd_op od_add (PD.pb (pd_op od_mul (PD.pb (pd_ix (Nat.lt_of_le_of_lt (Nat.add_le_add_left (by decide) _) hu) (pb_var 0) (PD.pb (pd_op od_mod (PD.pb (pd_op od_mul (pb_var 1) (PD.pb pd_int))) (PD.pb (pd_callB cd_len T.m_len boot_len (pab_cons (pb_var 0) pab_nil))))))) (PD.pb pd_int))) (PD.pb (pd_op od_mul (pb_var 1) (PD.pb pd_int))))) (PD.pb pd_int)))
    psd_nil) psd_nil)
    (psd_cons (psd_ret (PD.pr (pd_op od_mod (PD.pb (pd_op od_mul (pb_var 2) (pb_var 2))) (PD.pb pd_int))))
    psd_nil))))
theorem sc__law_rule : FnScope ["_law_cell_here", "_law_tame", "_law_names", "_law_head", "_law_group", "_law_many", "_law_below", "_law_body", "_law_k", "_law_kind", "_law_here"] ["_law_cell_here", "_law_tame"] (defScope (top 14)) := ⟨rfl, rfl, rfl, by decide +kernel, rfl, by decide +kernel, by decide +kernel⟩
theorem mk__law_rule {P : Program} {w : World} {K : PySem.W.Frag} {mg : Str → Option Value} {base : Heap} (T : Txt K mg)  : DefOk P w K mg base 1 "_law_rule" ["_law_cell_here", "_law_tame"] M__law_rule :=
  def_run T.d__law_rule sc__law_rule (fun _ _ _ _ _ _ us hl => match us, hl with | [_, _], _ => rfl) fun f cdv A outer s H E hr => by
    have nd : (["_law_cell_here", "_law_tame", "_law_names", "_law_head", "_law_group", "_law_many", "_law_below", "_law_body", "_law_k", "_law_kind", "_law_here"] : List Str).Nodup := sc__law_rule.nd
    have hu := hu_of2 hr
    exact (psd_cons (psd_set 2 nd (PR.pd (pr_lst (pad_cons pd_str (pad_cons pd_str (pad_cons pd_str (pad_cons pd_str (pad_cons pd_str (pad_cons pd_str (pad_cons pd_str pad_nil))))))))))
    (psd_cons (psd_set 3 nd (pd_op od_mod (pb_var 0) (PD.pb pd_int)))
    (psd_cons (psd_set 4 nd (pd_cmp (od_eqO hu) (PD.pb (pd_op od_mod (PD.pb (pd_op od_fdiv (pb_var 0) (PD.pb pd_int))) (PD.pb pd_int))) (PD.pb pd_int)))
    (psd_cons (psd_set 5 nd (pd_op od_mod (PD.pb (pd_op od_fdiv (pb_var 0) (PD.pb pd_int))) (PD.pb pd_int)))
    (psd_cons (psd_set 0 nd (pd_op od_fdiv (pb_var 0) (PD.pb pd_int)))
    (psd_cons (psd_set 6 nd pd_int)
    (psd_cons (psd_if (PDW.pdt (pdw_and (pdt_val (pd_var 1)) (pdw_and1 (pdt_val (pd_var 4))))) (psd_cons (psd_set 6 nd (pd_var 3))
    psd_nil) psd_nil)
    (psd_cons (psd_if (pdt_cmp (od_eqO hu) (pb_var 6) (PD.pb pd_int)) (psd_cons (psd_set 4 nd pd_bl)
    (psd_cons (psd_set 6 nd pd_int)
    psd_nil)) psd_nil)
    (psd_cons (psd_set 7 nd (pd_tup (pad_cons (pd_tup (pad_cons pd_str (pad_cons (pd_ix (Nat.lt_of_le_of_lt (Nat.add_le_add_left (by decide) _) hu) (pb_var 2) (PD.pb (pd_op od_mod (pb_var 0) (pb_var 6)))) (pad_cons (pd_tup (pad_cons pd_str pad_nil)) pad_nil)))) pad_nil)))
    (psd_cons (psd_for 8 nd rfl PassesOwn.never (pid_range T.m_range (pd_var 5)) (psd_cons (psd_set 0 nd (pd_op od_fdiv (pb_var 0) (PD.pb pd_int)))
    (psd_cons (psd_set 9 nd (pd_ix (Nat.lt_of_le_of_lt (Nat.add_le_add_left (by decide) _) hu) (PD.pb (PR.pd (pr_lst (pad_cons pd_str (pad_cons pd_str pad_nil))))) (PD.pb (pd_op od_mod (pb_var 0) (PD.pb pd_int)))))
    (psd_cons (psd_set 0 nd (pd_op od_fdiv (pb_var 0) (PD.pb pd_int)))
    (psd_cons (psd_set 10 nd (pd_var 6))
    (psd_cons (psd_if (PDW.pdt (pdw_and (pdt_val (pd_var 1)) (pdw_and1 (pdt_cmp (od_eqO hu) (pb_var 9) (PD.pb pd_str))))) (psd_cons (psd_set 10 nd (pd_var 3))
    psd_nil) psd_nil)
    (psd_cons (psd_if (pdt_cmp (od_eqO hu) (pb_var 10) (PD.pb pd_int)) (psd_cons (psd_set 9 nd pd_str)
    (psd_cons (psd_set 10 nd pd_int)
    psd_nil)) psd_nil)
    (psd_cons (psd_set 7 nd (pd_op od_add (pb_var 7) (PD.pb (pd_tup (pad_cons (pd_tup (pad_cons (pd_var 9) (pad_cons (pd_ix (Nat.lt_of_le_of_lt (Nat.add_le_add_left (by decide) _) hu) (pb_var 2) (PD.pb (pd_op od_mod (pb_var 0) (pb_var 10)))) (pad_cons (pd_tup (pad_cons pd_str pad_nil)) pad_nil)))) pad_nil)))))
    psd_nil))))))))
    (psd_cons (psd_ret (PD.pr (pd_tup (pad_cons (pd_ix (Nat.lt_of_le_of_lt (Nat.add_le_add_left (by decide) _) hu) (pb_var 2) (pb_var 3)) (pad_cons (pd_ix (Nat.lt_of_le_of_lt (Nat.add_le_add_left (by decide) _) hu) (PD.pb (PR.pd (pr_lst (pad_cons (pd_tup (pad_cons pd_str pad_nil)) (pad_cons (pd_tup (pad_cons (pd_tup (pad_cons pd_str pad_nil)) pad_nil)) pad_nil))))) (PD.pb (pd_callTy cd_int T.m_int boot_int (pab_cons (pb_var 4) pab_nil)))) (pad_cons (pd_var 7) pad_nil))))))
    psd_nil)))))))))))
theorem sc__law_steps : FnScope ["_law_rules", "_law_steps_here", "_law_number", "_law_head", "_law_terms", "_law_body", "_law_strict", "_law_literal"] ["_law_rules"] (defScope (top 15)) := ⟨rfl, rfl, rfl, by decide +kernel, rfl, by decide +kernel, by decide +kernel⟩
theorem mk__law_steps {P : Program} {w : World} {K : PySem.W.Frag} {mg : Str → Option Value} {base : Heap} (T : Txt K mg)  : DefOk P w K mg base 1 "_law_steps" ["_law_rules"] M__law_steps :=
  def_run T.d__law_steps sc__law_steps (fun _ _ _ _ _ _ us hl => match us, hl with | [_], _ => rfl) fun f cdv A outer s H E hr => by
    have nd : (["_law_rules", "_law_steps_here", "_law_number", "_law_head", "_law_terms", "_law_body", "_law_strict", "_law_literal"] : List Str).Nodup := sc__law_steps.nd
    have hu := hu_of2 hr
    exact (psd_cons (psd_setR 1 nd (pr_lst pad_nil))
    (psd_cons (psd_forDK 2 0 nd rfl PassesOwn.never (psd_cons (psd_unp3 3 4 5 nd rfl (PD.px (pd_ix (Nat.lt_of_le_of_lt (Nat.add_le_add_left (by decide) _) hu) (pb_var 0) (pb_var 2))))
    (psd_cons (psd_set 6 nd (pd_is "tuple" T.t_tuple T.m_isinstance T.m_tuple boot_tuple (PD.pb (pd_ix (Nat.lt_of_le_of_lt (Nat.add_le_add_left (by decide) _) hu) (pb_var 4) (PD.pb pd_int)))))
    (psd_cons (psd_for 7 nd rfl PassesOwn.never (pid_seq (pd_var 5)) (psd_cons (psd_app 1 (pd_tup (pad_cons (pd_ix (Nat.lt_of_le_of_lt (Nat.add_le_add_left (by decide) _) hu) (pb_var 7) (PD.pb pd_int)) (pad_cons (pd_var 3) (pad_cons (pd_callTy cd_int T.m_int boot_int (pab_cons (PD.pb (pd_or (pd_var 6) (pd_one (pd_cmp (od_eqO hu) (PD.pb (pd_ix (Nat.lt_of_le_of_lt (Nat.add_le_add_left (by decide) _) hu) (pb_var 7) (PD.pb pd_int))) (PD.pb pd_str))))) pab_nil)) pad_nil)))))
    psd_nil))
    psd_nil))))
    (psd_cons (psd_retV 1)
    psd_nil)))
theorem sc__law_levels : FnScope ["_law_steps_here", "_law_levels_here", "_law_one", "_law_other", "_law_strict", "_law_k", "_law_j", "_law_head"] ["_law_steps_here"] (defScope (top 16)) := ⟨rfl, rfl, rfl, by decide +kernel, rfl, by decide +kernel, by decide +kernel⟩
theorem mk__law_levels {P : Program} {w : World} {K : PySem.W.Frag} {mg : Str → Option Value} {base : Heap} (T : Txt K mg)  : DefOk P w K mg base 1 "_law_levels" ["_law_steps_here"] M__law_levels :=
  def_run T.d__law_levels sc__law_levels (fun _ _ _ _ _ _ us hl => match us, hl with | [_], _ => rfl) fun f cdv A outer s H E hr => by
    have nd : (["_law_steps_here", "_law_levels_here", "_law_one", "_law_other", "_law_strict", "_law_k", "_law_j", "_law_head"] : List Str).Nodup := sc__law_levels.nd
    have hu := hu_of2 hr
    exact (psd_cons (psd_setR 1 nd pr_dnew)
    (psd_cons (psd_forT 2 3 4 nd rfl PassesOwn.never (pid_seq (pd_var 0)) (psd_cons (psd_dput 1 (Nat.lt_of_le_of_lt (Nat.add_le_add_left (by decide) _) hu) (pd_var 2) pd_int)
    (psd_cons (psd_dput 1 (Nat.lt_of_le_of_lt (Nat.add_le_add_left (by decide) _) hu) (pd_var 3) pd_int)
    psd_nil)))
    (psd_cons (psd_for 5 nd rfl PassesOwn.never (pid_range T.m_range (pd_op od_add (PD.pb (pd_callB cd_len T.m_len boot_len (pab_cons (pb_var 1) pab_nil))) (PD.pb pd_int))) (psd_cons (psd_for 6 nd rfl PassesOwn.never (pid_range T.m_range (pd_callB cd_len T.m_len boot_len (pab_cons (pb_var 1) pab_nil))) (psd_cons (psd_forT 2 3 4 nd rfl PassesOwn.never (pid_seq (pd_var 0)) (psd_cons (psd_dput 1 (Nat.lt_of_le_of_lt (Nat.add_le_add_left (by decide) _) hu) (pd_var 3) (pd_callB (cd_max rfl) T.m_max boot_max (pab_cons (PD.pb (pd_ix (Nat.lt_of_le_of_lt (Nat.add_le_add_left (by decide) _) hu) (pb_var 1) (pb_var 3))) (pab_cons (PD.pb (pd_op od_add (PD.pb (pd_ix (Nat.lt_of_le_of_lt (Nat.add_le_add_left (by decide) _) hu) (pb_var 1) (pb_var 2))) (pb_var 4))) pab_nil))))
    psd_nil))
    psd_nil))
    psd_nil))
    (psd_cons (psd_pub 1 (psd_forDK 7 1 nd rfl PassesOwn.never (psd_cons (psd_if (pdt_cmp od_gt (PD.pb (pd_ix (Nat.lt_of_le_of_lt (Nat.add_le_add_left (by decide) _) hu) (pb_var 1) (pb_var 7))) (PD.pb (pd_callB cd_len T.m_len boot_len (pab_cons (pb_var 1) pab_nil)))) (psd_cons (psd_ret (PD.pr pd_non))
    psd_nil) psd_nil)
    psd_nil)))
    (psd_cons (psd_forT 2 3 4 nd rfl PassesOwn.never (pid_seq (pd_var 0)) (psd_cons (psd_if (pdt_cmp (od_ltE hu) (PD.pb (pd_ix (Nat.lt_of_le_of_lt (Nat.add_le_add_left (by decide) _) hu) (pb_var 1) (pb_var 3))) (PD.pb (pd_op od_add (PD.pb (pd_ix (Nat.lt_of_le_of_lt (Nat.add_le_add_left (by decide) _) hu) (pb_var 1) (pb_var 2))) (pb_var 4)))) (psd_cons (psd_ret (PD.pr pd_non))
    psd_nil) psd_nil)
    psd_nil))
    (psd_cons (psd_retV 1)
    psd_nil))))))
theorem sc__law_is_ring : FnScope ["_law_steps_here", "_law_ring", "_law_strict", "_law_k", "_law_one", "_law_other", "_law_some"] ["_law_steps_here", "_law_ring"] (defScope (top 17)) := ⟨rfl, rfl, rfl, by decide +kernel, rfl, by decide +kernel, by decide +kernel⟩
theorem mk__law_is_ring {P : Program} {w : World} {K : PySem.W.Frag} {mg : Str → Option Value} {base : Heap} (T : Txt K mg)  : DefOk P w K mg base 1 "_law_is_ring" ["_law_steps_here", "_law_ring"] M__law_is_ring :=
  def_run T.d__law_is_ring sc__law_is_ring (fun _ _ _ _ _ _ us hl => match us, hl with | [_, _], _ => rfl) fun f cdv A outer s H E hr => by
    have nd : (["_law_steps_here", "_law_ring", "_law_strict", "_law_k", "_law_one", "_law_other", "_law_some"] : List Str).Nodup := sc__law_is_ring.nd
    have hu := hu_of2 hr
    exact (psd_cons (psd_if (PDW.pdt (pdw_or (pdt_not (pdt_val (pd_is "tuple" T.t_tuple T.m_isinstance T.m_tuple boot_tuple (pb_var 1)))) (pdw_or (pdt_cmp (od_eqO hu) (pb_var 1) (PD.pb (pd_tup pad_nil))) (pdw_or1 (pdt_cmp (od_neE hu) (PD.pb (pd_lenSet rfl T.m_len T.m_set (pb_var 1))) (PD.pb (pd_callB cd_len T.m_len boot_len (pab_cons (pb_var 1) pab_nil)))))))) (psd_cons (psd_ret (PD.pr pd_bl))
    psd_nil) psd_nil)
    (psd_cons (psd_set 2 nd pd_int)
    (psd_cons (psd_for 3 nd rfl PassesOwn.never (pid_range T.m_range (pd_callB cd_len T.m_len boot_len (pab_cons (pb_var 1) pab_nil))) (psd_cons (psd_set 4 nd (pd_ix (Nat.lt_of_le_of_lt (Nat.add_le_add_left (by decide) _) hu) (pb_var 1) (pb_var 3)))
    (psd_cons (psd_set 5 nd (pd_ix (Nat.lt_of_le_of_lt (Nat.add_le_add_left (by decide) _) hu) (pb_var 1) (PD.pb (pd_op od_mod (PD.pb (pd_op od_add (pb_var 3) (PD.pb pd_int))) (PD.pb (pd_callB cd_len T.m_len boot_len (pab_cons (pb_var 1) pab_nil)))))))
    (psd_cons (psd_setC 6 (N := ["_law_step", "_law_one", "_law_other"]) (js := [4, 5]) (i := 0) nd rfl (compOkF (sn := (defScope (top 17)).names) rfl rfl (by decide +kernel) rfl (by decide +kernel) (by decide +kernel) rfl (by intro k j x e1 e2; rcases k with _ | _ | k <;> first | (cases e1; cases e2; exact ⟨rfl, (by first | exact Or.inl rfl | exact Or.inr rfl), (by first | exact Or.inl rfl | exact Or.inr (Or.inl rfl) | exact Or.inr (Or.inr rfl)), (by first | exact Or.inl rfl | exact Or.inr rfl)⟩) | (simp at e1))) (pid_seq (pd_var 0)) (by decide) (by decide) rfl rfl (by decide) (fun _ _ _ _ => pifd_one (PDW.pdt (pdw_and (pdt_cmp (od_eqO hu) (PD.pb (pd_ix (Nat.lt_of_le_of_lt (Nat.add_le_add_left (by decide) _) hu) (pb_var 0) (PD.pb pd_int))) (pb_var 1)) (pdw_and1 (pdt_cmp (od_eqO hu) (PD.pb (pd_ix (Nat.lt_of_le_of_lt (Nat.add_le_add_left (by decide) _) hu) (pb_var 0) (PD.pb pd_int))) (pb_var 2)))))) (fun _ _ _ _ => (pd_ix (Nat.lt_of_le_of_lt (Nat.add_le_add_left (by decide) _) hu) (pb_var 0) (PD.pb pd_int))))
    (psd_cons (psd_if (pdt_cmp (od_eqO hu) (pb_var 6) (PD.pb (PR.pd (pr_lst pad_nil)))) (psd_cons (psd_ret (PD.pr pd_bl))
    psd_nil) psd_nil)
    (psd_cons (psd_set 2 nd (pd_callB (cd_maxL rfl) T.m_max boot_max (pab_cons (PD.pb (pd_op od_add (PD.pb (PR.pd (pr_lst (pad_cons (pd_var 2) pad_nil)))) (pb_var 6))) pab_nil)))
    psd_nil))))))
    (psd_cons (psd_ret (PD.pr (pd_cmp (od_eqO hu) (pb_var 2) (PD.pb pd_int))))
    psd_nil))))
theorem sc__law_told : FnScope ["_law_rules", "_law_found", "_law_ring", "_law_good", "e"] ["_law_rules"] (defScope (top 18)) := ⟨rfl, rfl, rfl, by decide +kernel, rfl, by decide +kernel, by decide +kernel⟩
theorem mk__law_told {P : Program} {w : World} {K : PySem.W.Frag} {mg : Str → Option Value} {base : Heap} (T : Txt K mg) (ok_layers_of : DefOk P w K mg base 3 "layers_of" ["rules"] (M_layers_of P w)) (okE_layers_of : DefOkE P w K mg base 3 "layers_of" ["rules"] (Mx_layers_of P w)) : DefOk P w K mg base 4 "_law_told" ["_law_rules"] (M__law_told P w) :=
  def_run T.d__law_told sc__law_told (fun _ _ _ _ _ _ us hl => match us, hl with | [_], _ => rfl) fun f cdv A outer s H E hr => by
    have nd : (["_law_rules", "_law_found", "_law_ring", "_law_good", "e"] : List Str).Nodup := sc__law_told.nd
    have hu := hu_of2 hr
    exact (psd_cons (psd_set 1 nd pd_non)
    (psd_cons (psd_set 2 nd pd_non)
    (psd_cons (psd_set 3 nd pd_bl)
    (psd_cons (psd_try 4 nd (fun _ _ => (psd_cons (psd_or (psd_set 1 nd (PR.pd (pr_call ok_layers_of (hr.mono (by decide)) (pad_cons (pd_var 0) pad_nil)))) (psd_setE 1 nd okE_layers_of (hr.mono (by decide)) (pad_cons (pd_var 0) pad_nil)))
    psd_nil)) (fun _ => (psd_cons (psd_set 2 nd (pd_att 4 _ T.x_3))
    (psd_cons (psd_set 3 nd (pd_isOb1 4 T.x_2 T.m_isinstance))
    psd_nil))) T.x_1)
    (psd_cons (psd_ret (PD.pr (pd_tup (pad_cons (pd_var 1) (pad_cons (pd_var 2) (pad_cons (pd_var 3) pad_nil))))))
    psd_nil)))))
theorem sc_law : FnScope ["_law_script", "_law_tame", "_law_rules", "_law_k", "_law_steps_here", "_law_due", "_law_handed", "_law_found", "_law_ring", "_law_good", "_law_head"] ["_law_script"] (defScope (top 19)) := ⟨rfl, rfl, rfl, by decide +kernel, rfl, by decide +kernel, by decide +kernel⟩
theorem mk_law {P : Program} {w : World} {K : PySem.W.Frag} {mg : Str → Option Value} {base : Heap} (T : Txt K mg) {f : Addr} {fd : FuncData} (F : Fun K "law" "law" (top 19) f fd) (ok__law_cell : DefOk P w K mg base 1 "_law_cell" ["_law_script", "_law_k"] M__law_cell) (ok__law_is_ring : DefOk P w K mg base 1 "_law_is_ring" ["_law_steps_here", "_law_ring"] M__law_is_ring) (ok__law_levels : DefOk P w K mg base 1 "_law_levels" ["_law_steps_here"] M__law_levels) (ok__law_rule : DefOk P w K mg base 1 "_law_rule" ["_law_cell_here", "_law_tame"] M__law_rule) (ok__law_steps : DefOk P w K mg base 1 "_law_steps" ["_law_rules"] M__law_steps) (ok__law_told : DefOk P w K mg base 4 "_law_told" ["_law_rules"] (M__law_told P w)) : FnOk P w K mg base CX0 5 f fd ["_law_script"] (spD K (M_law P w)) :=
  def_runF F sc_law fun f cdv A outer s H E hr => by
    have nd : (["_law_script", "_law_tame", "_law_rules", "_law_k", "_law_steps_here", "_law_due", "_law_handed", "_law_found", "_law_ring", "_law_good", "_law_head"] : List Str).Nodup := sc_law.nd
    have hu := hu_of2 hr
    exact (psd_cons (psd_set 1 nd (pd_cmp (od_eqO hu) (PD.pb (pd_op od_mod (PD.pb (PR.pd (pr_call ok__law_cell (hr.mono (by decide)) (pad_cons (pd_var 0) (pad_cons pd_int pad_nil))))) (PD.pb pd_int))) (PD.pb pd_int)))
    (psd_cons (psd_setR 2 nd pr_dnew)
    (psd_cons (psd_for 3 nd rfl PassesOwn.never (pid_range T.m_range (pd_op od_mod (PD.pb (PR.pd (pr_call ok__law_cell (hr.mono (by decide)) (pad_cons (pd_var 0) (pad_cons pd_int pad_nil))))) (PD.pb pd_int))) (psd_cons (psd_dput 2 (Nat.lt_of_le_of_lt (Nat.add_le_add_left (by decide) _) hu) (pd_op od_add (PD.pb pd_int) (PD.pb (pd_op od_mul (pb_var 3) (PD.pb (pd_op od_add (PD.pb pd_int) (PD.pb (pd_op od_mod (PD.pb (pd_op od_fdiv (PD.pb (PR.pd (pr_call ok__law_cell (hr.mono (by decide)) (pad_cons (pd_var 0) (pad_cons pd_int pad_nil))))) (PD.pb pd_int))) (PD.pb pd_int)))))))) (PR.pd (pr_call ok__law_rule (hr.mono (by decide)) (pad_cons (PR.pd (pr_call ok__law_cell (hr.mono (by decide)) (pad_cons (pd_var 0) (pad_cons (pd_op od_add (PD.pb pd_int) (pb_var 3)) pad_nil)))) (pad_cons (pd_var 1) pad_nil)))))
    psd_nil))
    (psd_cons (psd_pub 2 (psd_set 4 nd (PR.pd (pr_call ok__law_steps (hr.mono (by decide)) (pad_cons (pd_var 2) pad_nil)))))
    (psd_cons (psd_set 5 nd (PR.pd (pr_call ok__law_levels (hr.mono (by decide)) (pad_cons (pd_var 4) pad_nil))))
    (psd_cons (psd_set 6 nd (PR.pd (pr_callTy cn_dict T.m_dict boot_dict (pab_cons (pb_var 2) pab_nil))))
    (psd_cons (psd_unp3 7 8 9 nd rfl (PD.px (PR.pd (pr_call ok__law_told (hr.mono (by decide)) (pad_cons (pd_var 6) pad_nil)))))
    (psd_cons (psd_if (PDW.pdt (pdw_or (pdt_cmp (od_neE hu) (pb_var 6) (pb_var 2)) (pdw_or1 (pdt_not (pdt_val (pd_var 9)))))) (psd_cons (psd_ret (PD.pr pd_bl))
    psd_nil) psd_nil)
    (psd_cons (psd_if (pdt_cmp od_isA (pb_var 5) (PD.pb pd_non)) (psd_cons (psd_ret (PD.pr (pd_and (pd_cmp od_isA (pb_var 7) (PD.pb pd_non)) (pd_and (pd_cmp od_notA (pb_var 8) (PD.pb pd_non)) (pd_one (PR.pd (pr_call ok__law_is_ring (hr.mono (by decide)) (pad_cons (pd_var 4) (pad_cons (pd_var 8) pad_nil)))))))))
    psd_nil) psd_nil)
    (psd_cons (psd_if (PDW.pdt (pdw_or (pdt_not (pdt_val (pd_is "dict" T.t_dict T.m_isinstance T.m_dict boot_dict (pb_var 7)))) (pdw_or1 (pdt_cmp (od_neE hu) (pb_var 7) (pb_var 5))))) (psd_cons (psd_ret (PD.pr pd_bl))
    psd_nil) psd_nil)
    (psd_cons (psd_forDK 10 7 nd rfl PassesOwn.never (psd_cons (psd_if (PDW.pdt (pdw_or (pdt_not (pdt_val (pd_is "int" T.t_int T.m_isinstance T.m_int boot_int (PD.pb (pd_ix (Nat.lt_of_le_of_lt (Nat.add_le_add_left (by decide) _) hu) (pb_var 7) (pb_var 10)))))) (pdw_or1 (pdt_val (pd_is "bool" T.t_bool T.m_isinstance T.m_bool boot_bool (PD.pb (pd_ix (Nat.lt_of_le_of_lt (Nat.add_le_add_left (by decide) _) hu) (pb_var 7) (pb_var 10)))))))) (psd_cons (psd_ret (PD.pr pd_bl))
    psd_nil) psd_nil)
    psd_nil))
    (psd_cons (psd_ret (PD.pr pd_bl))
    psd_nil))))))))))))
end K05
set_option Elab.async false
set_option linter.all false
set_option maxRecDepth 100000
set_option maxHeartbeats 4000000
namespace K05
open PySem PySem.Spec PyProof.Rows L2
abbrev Tr := Str × Str × Int
inductive Reach (S : List Tr) (a : Str) : Str → Prop where
  | refl : Reach S a a
  | step {b c : Str} {r : Int} : Reach S a b → (b, c, r) ∈ S → Reach S a c
theorem Reach.trans {S : List Tr} {a b c : Str} (h : Reach S a b) (k : Reach S b c) : Reach S a c := by
  induction k with
  | refl => exact h
  | step _ e ih => exact .step ih e
theorem Reach.congr {S S' : List Tr} (h : ∀ t, t ∈ S → t ∈ S') {a b : Str} (k : Reach S a b) : Reach S' a b := by
  induction k with
  | refl => exact .refl
  | step _ e ih => exact .step ih (h _ e)
def HasRing (S : List Tr) : Prop := ∃ u v, (u, v, (1 : Int)) ∈ S ∧ Reach S v u
def Feas (S : List Tr) (f : Str → Int) : Prop := ∀ u v r, (u, v, r) ∈ S → f u + r ≤ f v
structure Steps (S : List Tr) : Prop where
  two : ∀ u v r, (u, v, r) ∈ S → r = 0 ∨ r = 1
theorem feas_reach {S : List Tr} (hS : Steps S) {f : Str → Int} (h : Feas S f) {a b : Str} (k : Reach S a b) : f a ≤ f b := by
  induction k with
  | refl => exact Int.le_refl _
  | step _ e ih =>
    have := h _ _ _ e
    rcases hS.two _ _ _ e with z | z <;> omega
theorem feas_no {S : List Tr} (hS : Steps S) {f : Str → Int} (h : Feas S f) : ¬ HasRing S := fun ⟨u, v, e, k⟩ => by
  have h1 := feas_reach hS h k
  have h2 := h _ _ _ e
  omega
open Classical in
noncomputable def pot (S : List Tr) (N : List Str) (x : Str) : Nat := (N.filter fun v => decide ((∃ u, (u, v, (1 : Int)) ∈ S) ∧ Reach S v x)).length
theorem filter_le {p q : Str → Bool} (h : ∀ v, p v = true → q v = true) : ∀ N : List Str, (N.filter p).length ≤ (N.filter q).length
  | [] => by simp
  | x :: N => by
    have ih := filter_le h N
    rw [List.filter_cons, List.filter_cons]
    cases e : p x with
    | true => rw [h x e]; simp; omega
    | false => cases q x <;> simp <;> omega
theorem filter_lt {p q : Str → Bool} (h : ∀ v, p v = true → q v = true) {z : Str} (hz : q z = true) (hp : p z = false) : ∀ N : List Str, z ∈ N → (N.filter p).length + 1 ≤ (N.filter q).length
  | [], hm => nomatch hm
  | x :: N, hm => by
    rw [List.filter_cons, List.filter_cons]
    rcases List.mem_cons.mp hm with rfl | hm
    · rw [hz, hp]
      have := filter_le h N
      simp
      omega
    · have ih := filter_lt h hz hp N hm
      cases e : p x with
      | true => rw [h x e]; simp; omega
      | false => cases q x <;> simp <;> omega
open Classical in
theorem pot_feas {S : List Tr} (hS : Steps S) {N : List Str} (hN : ∀ u v r, (u, v, r) ∈ S → v ∈ N) (no : ¬ HasRing S) : Feas S fun x => (pot S N x : Int) := fun u v r e => by
  have sub : ∀ y, decide ((∃ u, (u, y, (1 : Int)) ∈ S) ∧ Reach S y u) = true → decide ((∃ u, (u, y, (1 : Int)) ∈ S) ∧ Reach S y v) = true := fun y h => by
    have h := of_decide_eq_true h
    exact decide_eq_true ⟨h.1, .step h.2 e⟩
  rcases hS.two _ _ _ e with rfl | rfl
  · have := filter_le (p := fun y => decide ((∃ u, (u, y, (1 : Int)) ∈ S) ∧ Reach S y u)) (q := fun y => decide ((∃ u, (u, y, (1 : Int)) ∈ S) ∧ Reach S y v)) sub N
    show ((pot S N u : Nat) : Int) + 0 ≤ ((pot S N v : Nat) : Int)
    unfold pot
    omega
  · have := filter_lt (p := fun y => decide ((∃ u, (u, y, (1 : Int)) ∈ S) ∧ Reach S y u)) (q := fun y => decide ((∃ u, (u, y, (1 : Int)) ∈ S) ∧ Reach S y v)) sub (z := v) (decide_eq_true ⟨⟨u, e⟩, .refl⟩) (decide_eq_false fun z => no ⟨u, v, e, z.2⟩) N (hN _ _ _ e)
    show ((pot S N u : Nat) : Int) + 1 ≤ ((pot S N v : Nat) : Int)
    unfold pot
    omega
theorem pot_le (S : List Tr) (N : List Str) (x : Str) : pot S N x ≤ N.length := List.length_filter_le _ _
abbrev Lv := Str → Int
def rlx (L : Lv) (t : Tr) : Lv := fun x => if x = t.2.1 then max (L t.2.1) (L t.1 + t.2.2) else L x
def swp (S : List Tr) (L : Lv) : Lv := S.foldl rlx L
def swpN (S : List Tr) : Nat → Lv → Lv
  | 0, L => L
  | k + 1, L => swpN S k (swp S L)
theorem rlx_ge (L : Lv) (t : Tr) (x : Str) : L x ≤ rlx L t x := by
  unfold rlx
  split
  · rename_i h; rw [h]; exact Int.le_max_left _ _
  · exact Int.le_refl _
theorem swp_ge : ∀ (S : List Tr) (L : Lv) (x : Str), L x ≤ swp S L x
  | [], _, _ => Int.le_refl _
  | t :: S, L, x => Int.le_trans (rlx_ge L t x) (swp_ge S (rlx L t) x)
theorem rlx_le {L ψ : Lv} {t : Tr} (h : ∀ x, L x ≤ ψ x) (hf : ψ t.1 + t.2.2 ≤ ψ t.2.1) (x : Str) : rlx L t x ≤ ψ x := by
  unfold rlx
  split
  · rename_i e
    rw [e]
    have h1 := h t.2.1
    have h2 := h t.1
    exact Int.max_le.mpr ⟨h1, by omega⟩
  · exact h x
theorem swp_le {ψ : Lv} : ∀ {S : List Tr} {L : Lv}, (∀ x, L x ≤ ψ x) → (∀ t ∈ S, ψ t.1 + t.2.2 ≤ ψ t.2.1) → ∀ x, swp S L x ≤ ψ x
  | [], _, h, _, x => h x
  | t :: S, L, h, hf, x => swp_le (S := S) (rlx_le h (hf t (by simp))) (fun t' h' => hf t' (List.mem_cons_of_mem _ h')) x
theorem Feas.t {S : List Tr} {ψ : Lv} (h : Feas S ψ) : ∀ t ∈ S, ψ t.1 + t.2.2 ≤ ψ t.2.1 := fun t ht => h t.1 t.2.1 t.2.2 ht
theorem swpN_le {S : List Tr} {ψ : Lv} (hf : Feas S ψ) : ∀ (k : Nat) {L : Lv}, (∀ x, L x ≤ ψ x) → ∀ x, swpN S k L x ≤ ψ x
  | 0, _, h, x => h x
  | k + 1, _, h, x => swpN_le hf k (swp_le h hf.t) x
theorem swpN_ge {S : List Tr} : ∀ (k : Nat) (L : Lv) (x : Str), L x ≤ swpN S k L x
  | 0, _, _ => Int.le_refl _
  | k + 1, L, x => Int.le_trans (swp_ge S L x) (swpN_ge k (swp S L) x)
theorem swp_fix : ∀ {S : List Tr} {L : Lv}, (∀ x, swp S L x = L x) → Feas S L
  | [], _, _ => fun _ _ _ h => nomatch h
  | t :: S, L, h => by
    have e1 : rlx L t = L := by
      funext x
      have a := rlx_ge L t x
      have b := swp_ge S (rlx L t) x
      have c : swp S (rlx L t) x = L x := h x
      omega
    have h2 : ∀ x, swp S L x = L x := fun x => by
      have c : swp S (rlx L t) x = L x := h x
      rw [e1] at c
      exact c
    have ih := swp_fix h2
    intro u v r hm
    rcases List.mem_cons.mp hm with e | hm
    · have : rlx L t v = L v := by rw [e1]
      unfold rlx at this
      rw [← e] at this
      simp only [if_true] at this
      have := Int.le_max_right (L v) (L u + r)
      omega
    · exact ih u v r hm
theorem fix_of {S : List Tr} {L : Lv} (h : Feas S L) (x : Str) : swp S L x = L x := Int.le_antisymm (swp_le (fun _ => Int.le_refl _) h.t x) (swp_ge S L x)
theorem swpN_fix {S : List Tr} {L : Lv} (h : Feas S L) : ∀ k, swpN S k L = L
  | 0 => rfl
  | k + 1 => by
    have : swp S L = L := funext (fix_of h)
    show swpN S k (swp S L) = L
    rw [this]
    exact swpN_fix h k
def tot (N : List Str) (L : Lv) : Int := (N.map L).sum
theorem tot_le {L L' : Lv} (h : ∀ x, L x ≤ L' x) : ∀ N : List Str, tot N L ≤ tot N L'
  | [] => Int.le_refl _
  | x :: N => by
    have := tot_le h N
    unfold tot at *
    simp only [List.map_cons, List.sum_cons]
    have := h x
    omega
theorem tot_lt {L L' : Lv} (h : ∀ x, L x ≤ L' x) {z : Str} (hz : L z < L' z) : ∀ N : List Str, z ∈ N → tot N L + 1 ≤ tot N L'
  | [], hm => nomatch hm
  | x :: N, hm => by
    have hx := h x
    rcases List.mem_cons.mp hm with rfl | hm
    · have := tot_le h N
      unfold tot at *
      simp only [List.map_cons, List.sum_cons]
      omega
    · have := tot_lt h hz N hm
      unfold tot at *
      simp only [List.map_cons, List.sum_cons]
      omega
theorem tot_const {L : Lv} {c : Int} (h : ∀ x, L x ≤ c) : ∀ N : List Str, tot N L ≤ c * N.length
  | [] => by simp [tot]
  | x :: N => by
    have := tot_const h N
    have := h x
    unfold tot at *
    have e : c * ((x :: N).length : Int) = c * (N.length : Int) + c := by
      rw [List.length_cons, Int.natCast_add, Int.mul_add]
      simp
    rw [e]
    simp only [List.map_cons, List.sum_cons]
    omega
theorem swpN_end {S : List Tr} : ∀ (k : Nat) (L : Lv), swpN S (k + 1) L = swp S (swpN S k L)
  | 0, _ => rfl
  | k + 1, L => swpN_end k (swp S L)
theorem swp_out {x : Str} : ∀ {S : List Tr} {L : Lv}, (∀ u v r, (u, v, r) ∈ S → x ≠ v) → swp S L x = L x
  | [], _, _ => rfl
  | t :: S, L, h => by
    have e : rlx L t x = L x := by
      unfold rlx
      rw [if_neg (h t.1 t.2.1 t.2.2 (by simp))]
    show swp S (rlx L t) x = L x
    rw [swp_out fun u v r m => h u v r (List.mem_cons_of_mem _ m), e]
def L0 : Lv := fun _ => 0
theorem rise {S : List Tr} {N : List Str} (hN : ∀ u v r, (u, v, r) ∈ S → v ∈ N) : ∀ k : Nat, Feas S (swpN S k L0) ∨ (k : Int) ≤ tot N (swpN S k L0)
  | 0 => .inr (by
    have : ∀ M : List Str, tot M L0 = 0 := fun M => by
      unfold tot
      induction M with
      | nil => rfl
      | cons x M ih => simp only [List.map_cons, List.sum_cons, ih]; rfl
    show ((0 : Nat) : Int) ≤ tot N L0
    rw [this]; decide)
  | k + 1 => by
    rcases rise hN k with h | h
    · rw [swpN_end, show swp S (swpN S k L0) = swpN S k L0 from funext (fix_of h)]
      exact .inl h
    · by_cases hf : ∀ x, swp S (swpN S k L0) x = swpN S k L0 x
      · rw [swpN_end, show swp S (swpN S k L0) = swpN S k L0 from funext hf]
        exact .inl (swp_fix hf)
      · obtain ⟨x, hx⟩ := Classical.not_forall.mp hf
        refine .inr ?_
        have hm : x ∈ N := Classical.byContradiction fun hm => hx (swp_out fun u v r e z => hm (by rw [z]; exact hN u v r e))
        have g := swp_ge S (swpN S k L0)
        have := tot_lt (L := swpN S k L0) (L' := swp S (swpN S k L0)) g (z := x) (by have := g x; omega) N hm
        rw [swpN_end]
        rw [Int.natCast_add]
        omega
theorem conv {S : List Tr} {N : List Str} (hS : Steps S) (hN : ∀ u v r, (u, v, r) ∈ S → v ∈ N) (no : ¬ HasRing S) {k : Nat} (hk : N.length * N.length < k) : Feas S (swpN S k L0) := by
  rcases rise hN k with h | h
  · exact h
  · have pf := pot_feas hS hN no
    have b1 : ∀ x, swpN S k L0 x ≤ (N.length : Int) := fun x => Int.le_trans (swpN_le pf k (L := L0) (fun y => by show (0 : Int) ≤ (pot S N y : Int); omega) x) (by have := pot_le S N x; omega)
    have b2 := tot_const b1 N
    have e : (N.length : Int) * (N.length : Int) = ((N.length * N.length : Nat) : Int) := by rw [Int.natCast_mul]
    rw [e] at b2
    omega
theorem swpN_top {S : List Tr} {N : List Str} (hS : Steps S) (hN : ∀ u v r, (u, v, r) ∈ S → v ∈ N) (no : ¬ HasRing S) (k : Nat) (x : Str) : swpN S k L0 x ≤ (N.length : Int) :=
  Int.le_trans (swpN_le (pot_feas hS hN no) k (L := L0) (fun y => by show (0 : Int) ≤ (pot S N y : Int); omega) x) (by have := pot_le S N x; omega)
theorem least_le {S S' : List Tr} (h : ∀ t, t ∈ S → t ∈ S') {k k' : Nat} (f' : Feas S' (swpN S' k' L0)) (x : Str) : swpN S k L0 x ≤ swpN S' k' L0 x :=
  swpN_le (S := S) (fun u v r e => f' u v r (h _ e)) k (L := L0) (fun y => swpN_ge k' L0 y) x
theorem least_eq {S S' : List Tr} (h : ∀ t, t ∈ S ↔ t ∈ S') {k k' : Nat} (f : Feas S (swpN S k L0)) (f' : Feas S' (swpN S' k' L0)) : swpN S k L0 = swpN S' k' L0 :=
  funext fun x => Int.le_antisymm (least_le (fun t => (h t).mp) f' x) (least_le (fun t => (h t).mpr) f x)
theorem HasRing.congr {S S' : List Tr} (h : ∀ t, t ∈ S → t ∈ S') (k : HasRing S) : HasRing S' := by
  obtain ⟨u, v, e, r⟩ := k
  exact ⟨u, v, h _ e, r.congr h⟩
def Chain (S : List Tr) : List Str → Prop
  | [] => True
  | [_] => True
  | a :: b :: p => (∃ r, (a, b, r) ∈ S) ∧ Chain S (b :: p)
theorem Chain.snoc {S : List Tr} {b c : Str} (hc : ∃ r, (b, c, r) ∈ S) : ∀ {p : List Str}, Chain S (p ++ [b]) → Chain S (p ++ [b, c])
  | [], _ => ⟨hc, True.intro⟩
  | [x], h => ⟨h.1, hc, True.intro⟩
  | x :: y :: p, h => ⟨h.1, Chain.snoc hc (p := y :: p) h.2⟩
theorem Chain.at_ {S : List Tr} : ∀ {p : List Str}, Chain S p → ∀ (k : Nat) (a b : Str), p[k]? = some a → p[k + 1]? = some b → ∃ r, (a, b, r) ∈ S
  | [], _, k, a, b, h, _ => by simp at h
  | [_], _, k, a, b, _, h => by simp at h
  | x :: y :: p, hc, 0, a, b, h1, h2 => by
    simp at h1 h2
    rw [← h1, ← h2]
    exact hc.1
  | x :: y :: p, hc, k + 1, a, b, h1, h2 => Chain.at_ (p := y :: p) hc.2 k a b (by simpa using h1) (by simpa using h2)
structure Way (S : List Tr) (a b : Str) (p : List Str) : Prop where
  hd : p.head? = some a
  nd : p.Nodup
  ch : Chain S p
  ls : ∃ q, p = q ++ [b]
theorem Way.one {S : List Tr} (a : Str) : Way S a a [a] := ⟨rfl, by simp, True.intro, [], rfl⟩
theorem Way.more {S : List Tr} {a b c : Str} {r : Int} {p : List Str} (h : Way S a b p) (e : (b, c, r) ∈ S) (hc : c ∉ p) : Way S a c (p ++ [c]) := by
  obtain ⟨q, rfl⟩ := h.ls
  refine ⟨?_, ?_, ?_, q ++ [b], rfl⟩
  · have := h.hd
    cases q with
    | nil => exact this
    | cons x q => exact this
  · rw [List.nodup_append]
    refine ⟨h.nd, by simp, fun x hx y hy z => ?_⟩
    rw [List.mem_singleton.mp hy] at z
    rw [z] at hx
    exact hc hx
  · rw [List.append_assoc]
    exact Chain.snoc ⟨r, e⟩ h.ch
theorem closed_reach {S : List Tr} {K : Str → Prop} {a b : Str} (ha : K a) (h : ∀ u v r, (u, v, r) ∈ S → K u → K v) (r : Reach S a b) : K b := by
  induction r with
  | refl => exact ha
  | step _ e ih => exact h _ _ _ e ih
end K05
set_option Elab.async false
set_option linter.all false
set_option maxRecDepth 100000
set_option maxHeartbeats 4000000
namespace K05
open PySem PySem.Spec PyProof.Rows L2
theorem callR_eq {M : List D → Option Rs} {ga : En → Option (List D)} {δ : En} {ds : List D} (h : ga δ = some ds) : fPub (fCallR M ga) δ = (M ds).map Rs.d := by
  unfold fPub fCallR
  rw [h]
  rfl
theorem callR_of {M : List D → Option Rs} {ga : En → Option (List D)} {δ : En} {ds : List D} {r : Rs} (h : ga δ = some ds) (k : M ds = some r) : fPub (fCallR M ga) δ = some r.d := by
  rw [callR_eq h, k]
  rfl
theorem seq_nx {F G : FS} {δ δ' : En} (h : F δ = some (.nx δ')) : sSeq F G δ = G δ' := by unfold sSeq; rw [h]
theorem seq_rt {F G : FS} {δ δ' : En} {d : Rs} (h : F δ = some (.rt d δ')) : sSeq F G δ = some (.rt d δ') := by unfold sSeq; rw [h]
theorem seq_ex {F G : FS} {δ δ' : En} {d : Ex} (h : F δ = some (.ex d δ')) : sSeq F G δ = some (.ex d δ') := by unfold sSeq; rw [h]
theorem seq1 {F : FS} {δ : En} : sSeq F sNil δ = F δ := by
  unfold sSeq
  split
  · rename_i h; rw [h]; rfl
  · rfl
theorem if_no {c : En → Option Bool} {F G : FS} {δ : En} (h : c δ = some false) : sIf c F G δ = G δ := by unfold sIf; rw [h]; rfl
theorem if_yes {c : En → Option Bool} {F G : FS} {δ : En} (h : c δ = some true) : sIf c F G δ = F δ := by unfold sIf; rw [h]; rfl
theorem fB_of {f : FE} {δ : En} {b : Bool} (h : f δ = some (.bl b)) : fB f δ = some b := by unfold fB; rw [h]
theorem f2_of {o : D → D → Option D} {f g : FE} {δ : En} {x y z : D} (h1 : f δ = some x) (h2 : g δ = some y) (h3 : o x y = some z) : f2 o f g δ = some z := by unfold f2; rw [h1, Option.bind_some, h2, Option.bind_some, h3]
theorem set_of {i : Nat} {f : FE} {δ : En} {d : D} (h : f δ = some d) : sSet i f δ = some (.nx (δ.set i (some (.sh d)))) := by unfold sSet; rw [h]; rfl
theorem ret_of {f : FE} {δ : En} {d : D} (h : f δ = some d) : sRet (fSh f) δ = some (.rt (.sh d) δ) := by unfold sRet fSh; rw [h]; rfl
theorem cons1 {f : FE} {δ : En} {x : D} (h : f δ = some x) : fCons f fNil δ = some [x] := by unfold fCons; rw [h]; rfl
theorem cons2 {f g : FE} {δ : En} {x y : D} (h : f δ = some x) (h' : g δ = some y) : fCons f (fCons g fNil) δ = some [x, y] := by unfold fCons; rw [h, h']; rfl
theorem cons3 {f g h : FE} {δ : En} {x y z : D} (e1 : f δ = some x) (e2 : g δ = some y) (e3 : h δ = some z) : fCons f (fCons g (fCons h fNil)) δ = some [x, y, z] := by unfold fCons; rw [e1, e2, e3]; rfl
theorem tup_of {ga : En → Option (List D)} {δ : En} {ds : List D} (h : ga δ = some ds) (hl : ds.length ≤ 1000) : fTup ga δ = some (.tup ds) := by
  unfold fTup
  rw [h]
  exact if_pos (Nat.le_trans hl (by decide))
theorem or_no {c c' : En → Option Bool} {δ : En} {b : Bool} (h : c δ = some false) (h' : c' δ = some b) : bOr c c' δ = some b := by unfold bOr; rw [h]; exact h'
theorem or_yes {c c' : En → Option Bool} {δ : En} (h : c δ = some true) : bOr c c' δ = some true := by unfold bOr; rw [h]; rfl
theorem and_no {c c' : En → Option Bool} {δ : En} (h : c δ = some false) : bAnd c c' δ = some false := by unfold bAnd; rw [h]; rfl
theorem and_yes {c c' : En → Option Bool} {δ : En} {b : Bool} (h : c δ = some true) (h' : c' δ = some b) : bAnd c c' δ = some b := by unfold bAnd; rw [h]; exact h'
theorem and_of {c c' : En → Option Bool} {δ : En} {a b : Bool} (h : c δ = some a) (h' : c' δ = some b) : bAnd c c' δ = some (a && b) := by
  cases a
  · exact and_no h
  · exact and_yes h h'
theorem or_of {c c' : En → Option Bool} {δ : En} {a b : Bool} (h : c δ = some a) (h' : c' δ = some b) : bOr c c' δ = some (a || b) := by
  cases a
  · exact or_no h h'
  · exact or_yes h
theorem not_of {c : En → Option Bool} {δ : En} {a : Bool} (h : c δ = some a) : bNot c δ = some (!a) := by unfold bNot; rw [h]; rfl
theorem eq_int (a b : Int) : eqO false (.int a) (.int b) = some (.bl (decide (a = b))) := by
  have : eqO false (.int a) (.int b) = some (.bl (decide (V.int a = V.int b))) := rfl
  rw [this]
  by_cases h : a = b
  · simp [h]
  · have : ¬ V.int a = V.int b := fun z => h (V.int.inj z)
    simp [h, this]
theorem eq_str (a b : Str) : eqO false (.str a) (.str b) = some (.bl (decide (a = b))) := by
  have : eqO false (.str a) (.str b) = some (.bl (decide (V.str a = V.str b))) := rfl
  rw [this]
  by_cases h : a = b
  · simp [h]
  · have : ¬ V.str a = V.str b := fun z => h (V.str.inj z)
    simp [h, this]
theorem lt_int (a b : Int) : ltE (.int a) (.int b) = some (.bl (decide (a < b))) := by simp [ltE, plainN, ltA]
section
variable {α : Type} {i : Nat} {F : FS} {g : α → D}
theorem forL_nx (I : List α → En → Prop) : ∀ (ts pre : List α) (δ : En), I pre δ → (∀ p, ∀ x ∈ ts, ∀ δ, I p δ → ∃ δ', F (δ.set i (some (.sh (g x)))) = some (.nx δ') ∧ I (p ++ [x]) δ') → ∃ δ', forL i F (ts.map g) δ = some (.nx δ') ∧ I (pre ++ ts) δ'
  | [], pre, δ, h, _ => ⟨δ, rfl, by simpa using h⟩
  | x :: ts, pre, δ, h, st => by
    obtain ⟨δ1, e1, h1⟩ := st pre x (by simp) δ h
    obtain ⟨δ2, e2, h2⟩ := forL_nx I ts (pre ++ [x]) δ1 h1 fun p y hy => st p y (List.mem_cons_of_mem _ hy)
    refine ⟨δ2, ?_, by simpa using h2⟩
    rw [List.map_cons]
    unfold forL
    rw [e1]
    exact e2
theorem forL_pq (I : List α → En → Prop) : ∀ (ts pre : List α) (δ : En), I pre δ → (∀ p x q, pre ++ ts = p ++ x :: q → ∀ δ, I p δ → ∃ δ', F (δ.set i (some (.sh (g x)))) = some (.nx δ') ∧ I (p ++ [x]) δ') → ∃ δ', forL i F (ts.map g) δ = some (.nx δ') ∧ I (pre ++ ts) δ'
  | [], pre, δ, h, _ => ⟨δ, rfl, by simpa using h⟩
  | x :: ts, pre, δ, h, st => by
    obtain ⟨δ1, e1, h1⟩ := st pre x ts rfl δ h
    obtain ⟨δ2, e2, h2⟩ := forL_pq I ts (pre ++ [x]) δ1 h1 fun p y q hy => st p y q (by rw [← hy]; simp)
    refine ⟨δ2, ?_, by simpa using h2⟩
    rw [List.map_cons]
    unfold forL
    rw [e1]
    exact e2
theorem forL_rt (I : List α → En → Prop) (T : Rs → Prop) : ∀ (ts pre : List α) (δ : En), I pre δ → (∀ p, ∀ x ∈ ts, ∀ δ, I p δ → (∃ δ', F (δ.set i (some (.sh (g x)))) = some (.nx δ') ∧ I (p ++ [x]) δ') ∨ ∃ r δ', F (δ.set i (some (.sh (g x)))) = some (.rt r δ') ∧ T r) →
    (∃ δ', forL i F (ts.map g) δ = some (.nx δ') ∧ I (pre ++ ts) δ') ∨ ∃ r δ', forL i F (ts.map g) δ = some (.rt r δ') ∧ T r
  | [], pre, δ, h, _ => .inl ⟨δ, rfl, by simpa using h⟩
  | x :: ts, pre, δ, h, st => by
    rcases st pre x (by simp) δ h with ⟨δ1, e1, h1⟩ | ⟨r, δ1, e1, h1⟩
    · rcases forL_rt I T ts (pre ++ [x]) δ1 h1 fun p y hy => st p y (List.mem_cons_of_mem _ hy) with ⟨δ2, e2, h2⟩ | ⟨r, δ2, e2, h2⟩
      · refine .inl ⟨δ2, ?_, by simpa using h2⟩
        rw [List.map_cons]
        unfold forL
        rw [e1]
        exact e2
      · refine .inr ⟨r, δ2, ?_, h2⟩
        rw [List.map_cons]
        unfold forL
        rw [e1]
        exact e2
    · refine .inr ⟨r, δ1, ?_, h1⟩
      rw [List.map_cons]
      unfold forL
      rw [e1]
end
section
variable {i j l : Nat} {F : FS}
def tT (t : Tr) : D × D × D := (.str t.1, .str t.2.1, .int t.2.2)
def sD (t : Tr) : D := .tup [.str t.1, .str t.2.1, .int t.2.2]
theorem trips_s (ts : List Tr) : tripsD (ts.map sD) = some (ts.map tT) := by
  have := tripsD_map (ts.map tT)
  rw [List.map_map] at this
  exact this
theorem forL3_rt (I : List Tr → En → Prop) (T : Rs → Prop) : ∀ (ts pre : List Tr) (δ : En), I pre δ → (∀ p, ∀ x ∈ ts, ∀ δ, I p δ → (∃ δ', F (((δ.set i (some (.sh (.str x.1)))).set j (some (.sh (.str x.2.1)))).set l (some (.sh (.int x.2.2)))) = some (.nx δ') ∧ I (p ++ [x]) δ') ∨ ∃ r δ', F (((δ.set i (some (.sh (.str x.1)))).set j (some (.sh (.str x.2.1)))).set l (some (.sh (.int x.2.2)))) = some (.rt r δ') ∧ T r) →
    (∃ δ', forL3 i j l F (ts.map tT) δ = some (.nx δ') ∧ I (pre ++ ts) δ') ∨ ∃ r δ', forL3 i j l F (ts.map tT) δ = some (.rt r δ') ∧ T r
  | [], pre, δ, h, _ => .inl ⟨δ, rfl, by simpa using h⟩
  | x :: ts, pre, δ, h, st => by
    rcases st pre x (by simp) δ h with ⟨δ1, e1, h1⟩ | ⟨r, δ1, e1, h1⟩
    · rcases forL3_rt I T ts (pre ++ [x]) δ1 h1 fun p y hy => st p y (List.mem_cons_of_mem _ hy) with ⟨δ2, e2, h2⟩ | ⟨r, δ2, e2, h2⟩
      · refine .inl ⟨δ2, ?_, by simpa using h2⟩
        rw [List.map_cons]
        unfold forL3 tT
        rw [e1]
        exact e2
      · refine .inr ⟨r, δ2, ?_, h2⟩
        rw [List.map_cons]
        unfold forL3 tT
        rw [e1]
        exact e2
    · refine .inr ⟨r, δ1, ?_, h1⟩
      rw [List.map_cons]
      unfold forL3 tT
      rw [e1]
theorem forL3_nx (I : List Tr → En → Prop) (ts pre : List Tr) (δ : En) (h : I pre δ) (st : ∀ p, ∀ x ∈ ts, ∀ δ, I p δ → ∃ δ', F (((δ.set i (some (.sh (.str x.1)))).set j (some (.sh (.str x.2.1)))).set l (some (.sh (.int x.2.2)))) = some (.nx δ') ∧ I (p ++ [x]) δ') : ∃ δ', forL3 i j l F (ts.map tT) δ = some (.nx δ') ∧ I (pre ++ ts) δ' := by
  rcases forL3_rt I (fun _ => False) ts pre δ h fun p x hx δ hI => .inl (st p x hx δ hI) with h | ⟨_, _, _, h⟩
  · exact h
  · exact h.elim
end
def dK (ks : List Str) : List Key := ks.map .inr
theorem val_s {f : Str → D} {x : Str} : ∀ {ks : List Str}, valD (dK ks) (ks.map f) (.inr x) = if x ∈ ks then some (f x) else none
  | [] => rfl
  | k :: ks => by
    have ih := val_s (f := f) (x := x) (ks := ks)
    unfold valD dK at *
    simp only [List.map_cons, List.zip_cons_cons, List.find?_cons]
    by_cases h : k = x
    · subst h; simp
    · have h1 : ¬ (Sum.inr k : Key) = .inr x := fun z => h (Sum.inr.inj z)
      have h2 : ¬ x = k := fun z => h z.symm
      simp only [h1, decide_false, List.mem_cons, h2, false_or]
      exact ih
theorem ix_s {f : Str → D} {x : Str} {ks : List Str} (h : x ∈ ks) : ixA (.dic (dK ks) (ks.map f)) (.str x) = some (f x) := by
  show valD (dK ks) (ks.map f) (.inr x) = _
  rw [val_s, if_pos h]
theorem in_s {f : Str → D} {x : Str} {ks : List Str} : inE false (.str x) (.dic (dK ks) (ks.map f)) = some (.bl (decide (x ∈ ks))) := by
  show some (D.bl (valD (dK ks) (ks.map f) (.inr x)).isSome) = _
  rw [val_s]
  by_cases h : x ∈ ks <;> simp [h]
theorem nin_s {f : Str → D} {x : Str} {ks : List Str} : inE true (.str x) (.dic (dK ks) (ks.map f)) = some (.bl (!decide (x ∈ ks))) := by
  show some (D.bl (!(valD (dK ks) (ks.map f) (.inr x)).isSome)) = _
  rw [val_s]
  by_cases h : x ∈ ks <;> simp [h]
theorem get_s {f : Str → D} {x : Str} {ks : List Str} : get2D (.dic (dK ks) (ks.map f)) (.str x) .non = some (if x ∈ ks then f x else .non) := by
  show some ((valD (dK ks) (ks.map f) (.inr x)).getD .non) = _
  rw [val_s]
  by_cases h : x ∈ ks <;> simp [h]
def addK (ks : List Str) (x : Str) : List Str := if x ∈ ks then ks else ks ++ [x]
def upF (f : Str → D) (x : Str) (d : D) : Str → D := fun y => if y = x then d else f y
theorem addK_mem {ks : List Str} {x y : Str} : y ∈ addK ks x ↔ y ∈ ks ∨ y = x := by
  unfold addK
  by_cases h : x ∈ ks
  · rw [if_pos h]
    exact ⟨.inl, fun z => z.elim id fun e => e ▸ h⟩
  · rw [if_neg h]; simp
theorem addK_nd {ks : List Str} {x : Str} (n : ks.Nodup) : (addK ks x).Nodup := by
  unfold addK
  by_cases h : x ∈ ks
  · rw [if_pos h]; exact n
  · rw [if_neg h, List.nodup_append]
    refine ⟨n, by simp, fun a ha b hb z => ?_⟩
    rw [List.mem_singleton.mp hb] at z
    rw [z] at ha
    exact h ha
theorem putK_s {ks : List Str} {x : Str} : putKeys (dK ks) (.inr x) = dK (addK ks x) := by
  unfold putKeys addK dK
  by_cases h : x ∈ ks
  · rw [if_pos h, if_pos (List.mem_map.mpr ⟨x, h, rfl⟩)]
  · rw [if_neg h, if_neg]
    · simp
    · intro hm
      obtain ⟨y, hy, e⟩ := List.mem_map.mp hm
      exact h (Sum.inr.inj e ▸ hy)
theorem map_upF {f : Str → D} {x : Str} {d : D} {ks : List Str} (h : x ∉ ks) : ks.map (upF f x d) = ks.map f := by
  refine List.map_congr_left fun y hy => ?_
  have hn : ¬ y = x := fun z => h (z ▸ hy)
  unfold upF
  rw [if_neg hn]
theorem putV_s {f : Str → D} {x : Str} {d : D} : ∀ {ks : List Str}, ks.Nodup → putVals (dK ks) (ks.map f) (.inr x) d = (addK ks x).map (upF f x d)
  | [], _ => by simp [dK, putVals, addK, upF]
  | k :: ks, n => by
    rw [List.nodup_cons] at n
    have ih := putV_s (f := f) (x := x) (d := d) (ks := ks) n.2
    show putVals (.inr k :: dK ks) (f k :: ks.map f) (.inr x) d = _
    unfold putVals
    by_cases h : k = x
    · subst h
      rw [if_pos rfl]
      unfold addK
      rw [if_pos (by simp), List.map_cons, map_upF n.1]
      simp [upF]
    · rw [if_neg fun z => h (Sum.inr.inj z), ih]
      have h2 : ¬ x = k := fun z => h z.symm
      have e : addK (k :: ks) x = k :: addK ks x := by
        unfold addK
        by_cases hm : x ∈ ks
        · rw [if_pos hm, if_pos (List.mem_cons_of_mem _ hm)]
        · rw [if_neg hm, if_neg (by simp [h2, hm])]; rfl
      rw [e, List.map_cons]
      congr 1
      unfold upF
      rw [if_neg h]
def dM (ks : List Str) (f : Str → D) : Mo := .dic (dK ks) (ks.map f)
theorem put_of {i : Nat} {fk fv : FE} {δ : En} {ks : List Str} {f : Str → D} {o : Option Addr} {x : Str} {d : D} (h : δ[i]? = some (some (.pv (dM ks f) o))) (hk : fk δ = some (.str x)) (hv : fv δ = some d) (nd : ks.Nodup) (hl : ks.length ≤ 900) :
    sDPutM i fk fv δ = some (.nx (δ.set i (some (.pv (dM (addK ks x) (upF f x d)) o)))) := by
  unfold sDPutM
  rw [h]
  unfold dM
  dsimp only
  rw [hv, hk, Option.bind_some, Option.bind_some]
  show (if (ks.map f).length < sizeLine then _ else _) = _
  rw [if_pos (by rw [List.length_map]; exact Nat.lt_of_le_of_lt hl (by decide)), putK_s, putV_s nd]
def nm : List Str := ["p", "q", "r", "s", "t", "u", "v"]
theorem nd_len : ∀ {ks M : List Str}, ks.Nodup → (∀ x ∈ ks, x ∈ M) → ks.length ≤ M.length
  | [], _, _, _ => Nat.zero_le _
  | k :: ks, M, n, h => by
    rw [List.nodup_cons] at n
    have := nd_len (ks := ks) (M := M.filter fun y => decide (y ≠ k)) n.2 fun x hx => by
      rw [List.mem_filter]
      exact ⟨h x (List.mem_cons_of_mem _ hx), by simp; intro z; exact n.1 (z ▸ hx)⟩
    have h2 : (M.filter fun y => decide (y ≠ k)).length < M.length := List.length_filter_lt_length_iff_exists.mpr ⟨k, h k (by simp), by simp⟩
    simp only [List.length_cons]
    omega
theorem nm_len {ks : List Str} (n : ks.Nodup) (h : ∀ x ∈ ks, x ∈ nm) : ks.length ≤ 7 := nd_len n h
structure Okay (S : List Tr) : Prop extends Steps S where
  nms : ∀ t ∈ S, t.1 ∈ nm ∧ t.2.1 ∈ nm
end K05
set_option Elab.async false
set_option linter.all false
set_option maxRecDepth 100000
set_option maxHeartbeats 4000000
namespace K05
open PySem PySem.Spec PyProof.Rows L2
theorem add_tup {xs ys : List D} (h : xs.length + ys.length ≤ 1000) : addD (.tup xs) (.tup ys) = some (.tup (xs ++ ys)) := by
  have : tupAdd (.tup xs) (.tup ys) = some (.tup (xs ++ ys)) := if_pos (Nat.le_trans h (by decide))
  unfold addD
  rw [this]
  rfl
def pT (P : Str → List Str) : Str → D := fun x => .tup ((P x).map .str)
structure WI (S : List Tr) (a : Str) (ks : List Str) (P : Str → List Str) : Prop where
  nd : ks.Nodup
  st : a ∈ ks
  nms : ∀ x ∈ ks, x ∈ nm
  way : ∀ x ∈ ks, Way S a x (P x)
  ins : ∀ x ∈ ks, ∀ y ∈ P x, y ∈ ks
def upP (P : Str → List Str) (v : Str) (p : List Str) : Str → List Str := fun x => if x = v then p else P x
theorem upF_pT {P : Str → List Str} {v : Str} {p : List Str} : upF (pT P) v (.tup (p.map .str)) = pT (upP P v p) := by
  funext x
  unfold upF pT upP
  by_cases h : x = v
  · rw [if_pos h, if_pos h]
  · rw [if_neg h, if_neg h]
theorem WI.more {S : List Tr} {a : Str} {ks : List Str} {P : Str → List Str} (w : WI S a ks P) (ok : Okay S) {u v : Str} {r : Int} (e : (u, v, r) ∈ S) (hu : u ∈ ks) (hv : v ∉ ks) : WI S a (ks ++ [v]) (upP P v (P u ++ [v])) := by
  have hadd : addK ks v = ks ++ [v] := by unfold addK; rw [if_neg hv]
  have old : ∀ x ∈ ks, upP P v (P u ++ [v]) x = P x := fun x hx => by
    have : ¬ x = v := fun z => hv (z ▸ hx)
    unfold upP
    rw [if_neg this]
  have new : upP P v (P u ++ [v]) v = P u ++ [v] := by unfold upP; rw [if_pos rfl]
  refine ⟨by rw [← hadd]; exact addK_nd w.nd, List.mem_append_left _ w.st, fun x hx => ?_, fun x hx => ?_, fun x hx y hy => ?_⟩
  · rcases List.mem_append.mp hx with hx | hx
    · exact w.nms x hx
    · rw [List.mem_singleton.mp hx]; exact (ok.nms _ e).2
  · rcases List.mem_append.mp hx with hx | hx
    · rw [old x hx]; exact w.way x hx
    · rw [List.mem_singleton.mp hx, new]
      exact (w.way u hu).more e fun z => hv (w.ins u hu v z)
  · rcases List.mem_append.mp hx with hx | hx
    · rw [old x hx] at hy; exact List.mem_append_left _ (w.ins x hx y hy)
    · rw [List.mem_singleton.mp hx, new] at hy
      rcases List.mem_append.mp hy with hy | hy
      · exact List.mem_append_left _ (w.ins u hu y hy)
      · exact List.mem_append_right _ hy
theorem WI.len {S : List Tr} {a : Str} {ks : List Str} {P : Str → List Str} (w : WI S a ks P) : ks.length ≤ 7 := nm_len w.nd w.nms
theorem WI.plen {S : List Tr} {a : Str} {ks : List Str} {P : Str → List Str} (w : WI S a ks P) {u : Str} (hu : u ∈ ks) : (P u).length ≤ 7 := nm_len (w.way u hu).nd fun x hx => w.nms x (w.ins u hu x hx)
def wCond : En → Option Bool := bAnd (fB (f2 (inE false) (f2 ixA (fVarB 5) (fC (.int 0))) (fVarB 3))) (fB (f2 (inE true) (f2 ixA (fVarB 5) (fC (.int 1))) (fVarB 3)))
def wKey : FE := f2 ixA (fVarB 5) (fC (.int 1))
def wVal : FE := f2 addD (f2 ixA (fVarB 3) (f2 ixA (fVarB 5) (fC (.int 0)))) (fTup (fCons (f2 ixA (fVarB 5) (fC (.int 1))) fNil))
def wIn : FS := sSeq (sDPutM 3 wKey wVal) (sSeq (sSet 4 (fC (.bl true))) sNil)
def wF : FS := sSeq (sIf wCond wIn sNil) sNil
def wHead : En → Option Bool := bAnd (fB (fVar 4)) (fB (f2 (inE true) (fVarB 2) (fVarB 3)))
def wTurn : FS := sSeq (sSet 4 (fC (.bl false))) (sSeq (sFor 5 (oSeq (fVar 0)) wF) sNil)
theorem fb_wayE : fb_way_of = sSeq (sSetR 3 (fDic1 (fVarB 1) (fTup (fCons (fVar 1) fNil)))) (sSeq (sSet 4 (fC (.bl true))) (sSeq (sWhile wHead wTurn) (sSeq (sRet (fSh (fGet1 (fVarB 3) (fVarB 2)))) sNil))) := rfl
def EW (S : List Tr) (a b : Str) (ks : List Str) (P : Str → List Str) (g : Bool) (x : Option Sl) : En := [some (.sh (.lst (S.map sD))), some (.sh (.str a)), some (.sh (.str b)), some (.pv (dM ks (pT P)) none), some (.sh (.bl g)), x]
theorem w_step {S : List Tr} {a b : Str} {ks : List Str} {P : Str → List Str} {g : Bool} (ok : Okay S) (w : WI S a ks P) (t : Tr) (ht : t ∈ S) :
    (t.1 ∈ ks ∧ t.2.1 ∉ ks ∧ wF (EW S a b ks P g (some (.sh (sD t)))) = some (.nx (EW S a b (ks ++ [t.2.1]) (upP P t.2.1 (P t.1 ++ [t.2.1])) true (some (.sh (sD t)))))) ∨ ((t.1 ∈ ks → t.2.1 ∈ ks) ∧ wF (EW S a b ks P g (some (.sh (sD t)))) = some (.nx (EW S a b ks P g (some (.sh (sD t)))))) := by
  obtain ⟨u, v, r⟩ := t
  have c1 : fB (f2 (inE false) (f2 ixA (fVarB 5) (fC (.int 0))) (fVarB 3)) (EW S a b ks P g (some (.sh (sD (u, v, r))))) = some (decide (u ∈ ks)) := fB_of (f2_of (x := .str u) rfl rfl in_s)
  have c2 : fB (f2 (inE true) (f2 ixA (fVarB 5) (fC (.int 1))) (fVarB 3)) (EW S a b ks P g (some (.sh (sD (u, v, r))))) = some (!decide (v ∈ ks)) := fB_of (f2_of (x := .str v) rfl rfl nin_s)
  have c : wCond (EW S a b ks P g (some (.sh (sD (u, v, r))))) = some (decide (u ∈ ks) && !decide (v ∈ ks)) := and_of c1 c2
  by_cases hc : u ∈ ks ∧ v ∉ ks
  · refine .inl ⟨hc.1, hc.2, ?_⟩
    have c : wCond (EW S a b ks P g (some (.sh (sD (u, v, r))))) = some true := by rw [c]; simp [hc.1, hc.2]
    have e1 : wVal (EW S a b ks P g (some (.sh (sD (u, v, r))))) = some (.tup ((P u ++ [v]).map .str)) := by
      refine f2_of (x := .tup ((P u).map .str)) (y := .tup [.str v]) (f2_of (y := .str u) rfl rfl (ix_s hc.1)) (tup_of (cons1 rfl) (by simp)) ?_
      have := w.plen hc.1
      rw [add_tup (by simp; omega)]
      simp
    have e2 : sDPutM 3 wKey wVal (EW S a b ks P g (some (.sh (sD (u, v, r))))) = some (.nx (EW S a b (ks ++ [v]) (upP P v (P u ++ [v])) g (some (.sh (sD (u, v, r)))))) := by
      rw [put_of (ks := ks) (f := pT P) (o := none) (x := v) rfl rfl e1 w.nd (by have := w.len; omega), upF_pT, show addK ks v = ks ++ [v] by unfold addK; rw [if_neg hc.2]]
      rfl
    unfold wF
    rw [seq1, if_yes c]
    unfold wIn
    rw [seq_nx e2]
    rfl
  · refine .inr ⟨fun h1 => Classical.byContradiction fun h2 => hc ⟨h1, h2⟩, ?_⟩
    have c : wCond (EW S a b ks P g (some (.sh (sD (u, v, r))))) = some false := by
      rw [c]
      by_cases h1 : u ∈ ks
      · have : v ∈ ks := Classical.byContradiction fun h2 => hc ⟨h1, h2⟩
        simp [this]
      · simp [h1]
    unfold wF
    rw [seq1, if_no c]
    rfl
def Closed (S : List Tr) (ks : List Str) : Prop := ∀ t ∈ S, t.1 ∈ ks → t.2.1 ∈ ks
theorem w_turn {S : List Tr} {a b : Str} {ks : List Str} {P : Str → List Str} {g : Bool} {x : Option Sl} (ok : Okay S) (w : WI S a ks P) : ∃ ks' P' g' x', wTurn (EW S a b ks P g x) = some (.nx (EW S a b ks' P' g' x')) ∧ WI S a ks' P' ∧ (g' = true → ks.length < ks'.length) ∧ (g' = false → Closed S ks') := by
  obtain ⟨δ, e, ks', P', g', x', rfl, w', h1, h2⟩ := forL_nx (i := 5) (F := wF) (g := sD) (fun pre δ => ∃ ks' P' g' x', δ = EW S a b ks' P' g' x' ∧ WI S a ks' P' ∧ (g' = true → ks.length < ks'.length) ∧ (g' = false → ks' = ks ∧ ∀ t ∈ pre, t.1 ∈ ks → t.2.1 ∈ ks)) S [] (EW S a b ks P false x) ⟨ks, P, false, x, rfl, w, (fun z => nomatch z), fun _ => ⟨rfl, fun t ht => nomatch ht⟩⟩ (by
    rintro p t ht δ ⟨ks1, P1, g1, x1, rfl, w1, h1, h2⟩
    have hg : ks.length ≤ ks1.length := by
      cases g1 with
      | true => exact Nat.le_of_lt (h1 rfl)
      | false => rw [(h2 rfl).1]; exact Nat.le_refl _
    rcases w_step (b := b) (g := g1) ok w1 t ht with ⟨k1, k2, e⟩ | ⟨k1, e⟩
    · exact ⟨_, e, _, _, _, _, rfl, w1.more ok (r := t.2.2) ht k1 k2, fun _ => by simp; omega, fun z => nomatch z⟩
    · refine ⟨_, e, _, _, _, _, rfl, w1, h1, fun z => ⟨(h2 z).1, fun t' ht' => ?_⟩⟩
      rcases List.mem_append.mp ht' with ht' | ht'
      · exact (h2 z).2 t' ht'
      · rw [List.mem_singleton.mp ht', ← (h2 z).1]; exact k1)
  refine ⟨ks', P', g', x', ?_, w', h1, fun z t ht => ?_⟩
  · unfold wTurn
    rw [seq_nx (δ' := EW S a b ks P false x) rfl, seq1]
    exact e
  · have := h2 z
    rw [this.1]
    exact this.2 t (by simpa using ht)
theorem w_head {S : List Tr} {a b : Str} {ks : List Str} {P : Str → List Str} {g : Bool} {x : Option Sl} : wHead (EW S a b ks P g x) = some (g && !decide (b ∈ ks)) := and_of (fB_of rfl) (fB_of (f2_of (x := .str b) rfl rfl nin_s))
theorem w_while {S : List Tr} {a b : Str} (ok : Okay S) : ∀ (n : Nat) (ks : List Str) (P : Str → List Str) (g : Bool) (x : Option Sl), WI S a ks P → (g = true → 9 - ks.length ≤ n) → (g = false → Closed S ks ∧ 1 ≤ n) →
    ∃ ks' P' g' x', whileN wHead wTurn n (EW S a b ks P g x) = some (.nx (EW S a b ks' P' g' x')) ∧ WI S a ks' P' ∧ (b ∈ ks' ∨ Closed S ks')
  | 0, ks, P, true, x, w, h1, _ => by have := w.len; have := h1 rfl; omega
  | 0, ks, P, false, x, w, _, h2 => by have := h2 rfl; omega
  | n + 1, ks, P, g, x, w, h1, h2 => by
    by_cases hc : (g && !decide (b ∈ ks)) = true
    · obtain ⟨ks1, P1, g1, x1, e1, w1, k1, k2⟩ := w_turn (b := b) (g := g) (x := x) ok w
      obtain rfl : g = true := by cases g <;> simp_all
      have := w.len
      have := h1 rfl
      obtain ⟨ks2, P2, g2, x2, e2, w2, k3⟩ := w_while (b := b) ok n ks1 P1 g1 x1 w1 (fun z => by have := k1 z; omega) fun z => ⟨k2 z, by omega⟩
      refine ⟨ks2, P2, g2, x2, ?_, w2, k3⟩
      unfold whileN
      rw [w_head, hc, e1]
      exact e2
    · refine ⟨ks, P, g, x, ?_, w, ?_⟩
      · unfold whileN
        rw [w_head, Bool.eq_false_iff.mpr hc]
      · by_cases hb : b ∈ ks
        · exact .inl hb
        · have : g = false := by cases g <;> simp_all
          exact .inr (h2 this).1
theorem way_go (s a b : D) : M_way_of [s, a, b] = (match fb_way_of [some (.sh s), some (.sh a), some (.sh b), none, none, none] with | some (.rt d _) => some d | some (.nx _) => some (.sh .non) | _ => none) := by
  unfold M_way_of runF
  exact if_pos rfl
theorem e_way {S : List Tr} (ok : Okay S) {a b : Str} (ha : a ∈ nm) : (∃ p, M_way_of [.lst (S.map sD), .str a, .str b] = some (.sh (.tup (p.map .str))) ∧ Way S a b p ∧ ∀ x ∈ p, x ∈ nm) ∨ (M_way_of [.lst (S.map sD), .str a, .str b] = some (.sh .non) ∧ ¬ Reach S a b) := by
  have w0 : WI S a [a] fun _ => [a] := ⟨by simp, by simp, fun x hx => by rw [List.mem_singleton.mp hx]; exact ha, fun x hx => by rw [List.mem_singleton.mp hx]; exact .one a, fun x hx y hy => hy⟩
  obtain ⟨ks, P, g, x, e, w, h⟩ := w_while (b := b) ok 1000 [a] (fun _ => [a]) true none w0 (fun _ => by simp) fun z => nomatch z
  have s1 : sSetR 3 (fDic1 (fVarB 1) (fTup (fCons (fVar 1) fNil))) [some (.sh (.lst (S.map sD))), some (.sh (.str a)), some (.sh (.str b)), none, none, none] = some (.nx [some (.sh (.lst (S.map sD))), some (.sh (.str a)), some (.sh (.str b)), some (.pv (dM [a] (pT fun _ => [a])) none), none, none]) := by
    have t : fTup (fCons (fVar 1) fNil) [some (.sh (.lst (S.map sD))), some (.sh (.str a)), some (.sh (.str b)), none, none, none] = some (.tup [.str a]) := tup_of (cons1 rfl) (by simp)
    unfold sSetR fDic1
    rw [show fVarB 1 [some (.sh (.lst (S.map sD))), some (.sh (.str a)), some (.sh (.str b)), none, none, none] = some (.str a) from rfl, t]
    rfl
  have s2 : sWhile wHead wTurn (EW S a b [a] (fun _ => [a]) true none) = some (.nx (EW S a b ks P g x)) := e
  have s3 : sRet (fSh (fGet1 (fVarB 3) (fVarB 2))) (EW S a b ks P g x) = some (.rt (.sh (if b ∈ ks then pT P b else .non)) (EW S a b ks P g x)) := by
    refine ret_of ?_
    show get2D (.dic (dK ks) (ks.map (pT P))) (.str b) .non = _
    exact get_s
  have all : M_way_of [.lst (S.map sD), .str a, .str b] = some (.sh (if b ∈ ks then pT P b else .non)) := by
    rw [way_go, fb_wayE, seq_nx s1, seq_nx (δ' := EW S a b [a] (fun _ => [a]) true none) rfl, seq_nx s2, seq_rt s3]
  by_cases hb : b ∈ ks
  · rw [if_pos hb] at all
    exact .inl ⟨P b, all, w.way b hb, fun y hy => w.nms y (w.ins b hb y hy)⟩
  · rw [if_neg hb] at all
    refine .inr ⟨all, fun r => hb ?_⟩
    have hc := h.resolve_left hb
    exact closed_reach (K := fun z => z ∈ ks) w.st (fun u v q m => hc (u, v, q) m) r
def Rg (S : List Tr) (p : List Str) : Prop := ∃ u v, (u, v, (1 : Int)) ∈ S ∧ Way S v u p ∧ ∀ x ∈ p, x ∈ nm
def rCond : En → Option Bool := fB (f2 (eqO false) (f2 ixA (fVarB 1) (fC (.int 2))) (fC (.int 1)))
def rSet : FS := sSet 2 (fPub (fCallR M_way_of (fCons (fVar 0) (fCons (f2 ixA (fVarB 1) (fC (.int 1))) (fCons (f2 ixA (fVarB 1) (fC (.int 0))) fNil)))))
def rIf : FS := sIf (fB (f2 (notA) (fVarB 2) (fC .non))) (sSeq (sRetV 2) sNil) sNil
def rF : FS := sSeq (sIf rCond (sSeq rSet (sSeq rIf sNil)) sNil) sNil
theorem fb_ringE : fb_ring_of = sSeq (sFor 1 (oSeq (fVar 0)) rF) (sSeq (sRet (fSh (fC .non))) sNil) := rfl
theorem ring_go (s : D) : M_ring_of [s] = (match fb_ring_of [some (.sh s), none, none] with | some (.rt d _) => some d | some (.nx _) => some (.sh .non) | _ => none) := by
  unfold M_ring_of runF
  exact if_pos rfl
theorem r_step {S : List Tr} (ok : Okay S) (x : Option Sl) (t : Tr) (ht : t ∈ S) :
    (∃ y, rF [some (.sh (.lst (S.map sD))), some (.sh (sD t)), x] = some (.nx [some (.sh (.lst (S.map sD))), some (.sh (sD t)), y]) ∧ ¬ (t.2.2 = 1 ∧ Reach S t.2.1 t.1)) ∨ ∃ p δ', rF [some (.sh (.lst (S.map sD))), some (.sh (sD t)), x] = some (.rt (.sh (.tup (p.map .str))) δ') ∧ Rg S p := by
  obtain ⟨u, v, r⟩ := t
  have c : rCond [some (.sh (.lst (S.map sD))), some (.sh (sD (u, v, r))), x] = some (decide (r = 1)) := fB_of (f2_of (x := .int r) (y := .int 1) rfl rfl (eq_int _ _))
  by_cases hr : r = 1
  · subst hr
    have c : rCond [some (.sh (.lst (S.map sD))), some (.sh (sD (u, v, 1))), x] = some true := c
    have go : rF [some (.sh (.lst (S.map sD))), some (.sh (sD (u, v, 1))), x] = sSeq rSet (sSeq rIf sNil) [some (.sh (.lst (S.map sD))), some (.sh (sD (u, v, 1))), x] := by
      unfold rF
      rw [seq1, if_yes c]
    have st : ∀ d, M_way_of [.lst (S.map sD), .str v, .str u] = some (.sh d) → rSet [some (.sh (.lst (S.map sD))), some (.sh (sD (u, v, 1))), x] = some (.nx [some (.sh (.lst (S.map sD))), some (.sh (sD (u, v, 1))), some (.sh d)]) := fun d e => by
      unfold rSet
      rw [set_of (d := d) (callR_of (cons3 rfl rfl rfl) e)]
      rfl
    rcases e_way ok (a := v) (b := u) (ok.nms _ ht).2 with ⟨p, e, w, hn⟩ | ⟨e, hno⟩
    · refine .inr ⟨p, [some (.sh (.lst (S.map sD))), some (.sh (sD (u, v, 1))), some (.sh (.tup (p.map .str)))], ?_, u, v, ht, w, hn⟩
      rw [go, seq_nx (st _ e), seq1]
      unfold rIf
      rw [if_yes (fB_of (f2_of (x := .tup (p.map .str)) (y := .non) rfl rfl rfl)), seq1]
      rfl
    · refine .inl ⟨some (.sh .non), ?_, fun z => hno z.2⟩
      rw [go, seq_nx (st _ e), seq1]
      unfold rIf
      rw [if_no (fB_of (f2_of (x := .non) (y := .non) rfl rfl rfl))]
      rfl
  · refine .inl ⟨x, ?_, fun z => hr z.1⟩
    unfold rF
    rw [seq1, if_no (by rw [c, decide_eq_false hr])]
    rfl
theorem e_ring {S : List Tr} (ok : Okay S) : (∃ p, M_ring_of [.lst (S.map sD)] = some (.sh (.tup (p.map .str))) ∧ Rg S p) ∨ (M_ring_of [.lst (S.map sD)] = some (.sh .non) ∧ ¬ HasRing S) := by
  rcases forL_rt (i := 1) (F := rF) (g := sD) (fun pre δ => ∃ x y, δ = [some (.sh (.lst (S.map sD))), x, y] ∧ ∀ t ∈ pre, ¬ (t.2.2 = 1 ∧ Reach S t.2.1 t.1)) (fun r => ∃ p, r = .sh (.tup (p.map .str)) ∧ Rg S p) S [] [some (.sh (.lst (S.map sD))), none, none] ⟨none, none, rfl, fun t ht => nomatch ht⟩ (by
    rintro p t ht δ ⟨x, y, rfl, h⟩
    rcases r_step ok y t ht with ⟨y', e, k⟩ | ⟨q, δ', e, k⟩
    · refine .inl ⟨_, e, _, _, rfl, fun t' ht' => ?_⟩
      rcases List.mem_append.mp ht' with ht' | ht'
      · exact h t' ht'
      · rw [List.mem_singleton.mp ht']; exact k
    · exact .inr ⟨_, δ', e, q, rfl, k⟩) with ⟨δ, e, x, y, rfl, h⟩ | ⟨r, δ, e, p, rfl, k⟩
  · refine .inr ⟨?_, fun ⟨u, v, m, k⟩ => h (u, v, 1) (by simpa using m) ⟨rfl, k⟩⟩
    have e' : sFor 1 (oSeq (fVar 0)) rF [some (.sh (.lst (S.map sD))), none, none] = some (.nx [some (.sh (.lst (S.map sD))), x, y]) := e
    rw [ring_go, fb_ringE, seq_nx e']
    rfl
  · refine .inl ⟨p, ?_, k⟩
    have e' : sFor 1 (oSeq (fVar 0)) rF [some (.sh (.lst (S.map sD))), none, none] = some (.rt (.sh (.tup (p.map .str))) δ) := e
    rw [ring_go, fb_ringE, seq_rt e']
theorem Rg.ring {S : List Tr} {p : List Str} (h : Rg S p) : HasRing S := by
  obtain ⟨u, v, e, w, _⟩ := h
  refine ⟨u, v, e, ?_⟩
  have go : ∀ (q : List Str) (a b : Str), Chain S (a :: q) → (a :: q).getLast? = some b → Reach S a b := by
    intro q
    induction q with
    | nil => intro a b _ h; simp at h; rw [h]; exact .refl
    | cons c q ih =>
      intro a b hc hl
      obtain ⟨r, hr⟩ := hc.1
      exact (Reach.step .refl hr).trans (ih c b hc.2 (by simpa using hl))
  obtain ⟨q, hq⟩ := w.ls
  cases p with
  | nil => simp at hq
  | cons a p =>
    have ha : a = v := by have := w.hd; simpa using this
    subst ha
    exact go p a u w.ch (by rw [hq]; simp)
end K05
set_option Elab.async false
set_option linter.all false
set_option maxRecDepth 100000
set_option maxHeartbeats 4000000
namespace K05
open PySem PySem.Spec PyProof.Rows L2
def iV (L : Lv) : Str → D := fun x => .int (L x)
theorem up_iV {L : Lv} {v : Str} {z : Int} {L' : Lv} (h1 : L' v = z) (h2 : ∀ x, x ≠ v → L' x = L x) : upF (iV L) v (.int z) = iV L' := by
  funext x
  unfold upF iV
  by_cases h : x = v
  · rw [if_pos h, h, h1]
  · rw [if_neg h, h2 x h]
theorem rlx_at (L : Lv) (t : Tr) : rlx L t t.2.1 = max (L t.2.1) (L t.1 + t.2.2) := by unfold rlx; rw [if_pos rfl]
theorem rlx_off (L : Lv) (t : Tr) {x : Str} (h : x ≠ t.2.1) : rlx L t x = L x := by unfold rlx; rw [if_neg h]
theorem addK_in {ks : List Str} {x : Str} (h : x ∈ ks) : addK ks x = ks := by unfold addK; rw [if_pos h]
theorem swp_snoc (p : List Tr) (t : Tr) (L : Lv) : swp (p ++ [t]) L = rlx (swp p L) t := by unfold swp; rw [List.foldl_append]; rfl
def lLeast : FS := sSet 5 (f2 addD (f2 ixA (fVarB 2) (f2 ixA (fVarB 4) (fC (.int 0)))) (f2 ixA (fVarB 4) (fC (.int 2))))
def lCond : En → Option Bool := fB (f2 (ltE) (f2 ixA (fVarB 2) (f2 ixA (fVarB 4) (fC (.int 1)))) (fVarB 5))
def lPut : FS := sDPutM 2 (f2 ixA (fVarB 4) (fC (.int 1))) (fVar 5)
def lF : FS := sSeq lLeast (sSeq (sIf lCond (sSeq lPut (sSeq (sSet 3 (fC (.bl true))) sNil)) sNil) sNil)
def lTurn : FS := sSeq (sSet 3 (fC (.bl false))) (sSeq (sFor 4 (oSeq (fVar 1)) lF) sNil)
theorem fb_liftE : fb_lifted = sSeq (sSetR 2 (fCallN dicN (fCons (fVarB 0) fNil))) (sSeq (sSet 3 (fC (.bl true))) (sSeq (sWhile (fB (fVar 3)) lTurn) (sSeq (sRetV 2) sNil))) := rfl
def EF (d : D) (S : List Tr) (ks : List Str) (L : Lv) (g : Bool) (x y : Option Sl) : En := [some (.sh d), some (.sh (.lst (S.map sD))), some (.pv (dM ks (iV L)) none), some (.sh (.bl g)), x, y]
theorem f_step {d : D} {S : List Tr} {ks : List Str} {L : Lv} {g : Bool} {y : Option Sl} (nd : ks.Nodup) (hl : ks.length ≤ 7) (t : Tr) (h1 : t.1 ∈ ks) (h2 : t.2.1 ∈ ks) :
    ∃ g' y', lF (EF d S ks L g (some (.sh (sD t))) y) = some (.nx (EF d S ks (rlx L t) g' (some (.sh (sD t))) y')) ∧ (g' = false → g = false ∧ rlx L t = L) ∧ (g' = true → g = true ∨ rlx L t ≠ L) := by
  obtain ⟨u, v, r⟩ := t
  have e1 : lLeast (EF d S ks L g (some (.sh (sD (u, v, r)))) y) = some (.nx (EF d S ks L g (some (.sh (sD (u, v, r)))) (some (.sh (.int (L u + r)))))) := by
    unfold lLeast
    rw [set_of (d := .int (L u + r)) (f2_of (x := .int (L u)) (y := .int r) (f2_of (y := .str u) rfl rfl (ix_s (f := iV L) h1)) rfl rfl)]
    rfl
  have c : lCond (EF d S ks L g (some (.sh (sD (u, v, r)))) (some (.sh (.int (L u + r))))) = some (decide (L v < L u + r)) := fB_of (f2_of (x := .int (L v)) (y := .int (L u + r)) (f2_of (y := .str v) rfl rfl (ix_s (f := iV L) h2)) rfl (lt_int _ _))
  by_cases h : L v < L u + r
  · refine ⟨true, some (.sh (.int (L u + r))), ?_, (fun z => nomatch z), fun _ => .inr fun z => ?_⟩
    · have e2 : lPut (EF d S ks L g (some (.sh (sD (u, v, r)))) (some (.sh (.int (L u + r))))) = some (.nx (EF d S ks (rlx L (u, v, r)) g (some (.sh (sD (u, v, r)))) (some (.sh (.int (L u + r)))))) := by
        unfold lPut
        rw [put_of (ks := ks) (f := iV L) (o := none) (x := v) (d := .int (L u + r)) rfl rfl rfl nd (by omega), addK_in h2, up_iV (L' := rlx L (u, v, r)) (by
          rw [show rlx L (u, v, r) v = max (L v) (L u + r) from rlx_at L (u, v, r)]; omega) fun x hx => rlx_off L (u, v, r) hx]
        rfl
      unfold lF
      rw [seq_nx e1, seq1, if_yes (by rw [c, decide_eq_true h]), seq_nx e2]
      rfl
    · have : rlx L (u, v, r) v = max (L v) (L u + r) := rlx_at L (u, v, r)
      rw [z] at this
      omega
  · have e : rlx L (u, v, r) = L := by
      funext x
      by_cases hx : x = v
      · rw [hx, show rlx L (u, v, r) v = max (L v) (L u + r) from rlx_at L (u, v, r)]; omega
      · exact rlx_off L (u, v, r) hx
    refine ⟨g, some (.sh (.int (L u + r))), ?_, fun z => ⟨z, e⟩, .inl⟩
    rw [e]
    unfold lF
    rw [seq_nx e1, seq1, if_no (by rw [c, decide_eq_false h])]
    rfl
theorem swp_same {p : List Tr} {t : Tr} {L : Lv} (h : swp (p ++ [t]) L = L) : swp p L = L := by
  funext x
  have h1 := swp_ge p L x
  have h2 := rlx_ge (swp p L) t x
  rw [← swp_snoc, h] at h2
  omega
theorem f_turn {d : D} {S : List Tr} {ks : List Str} {L : Lv} {g : Bool} {x y : Option Sl} (nd : ks.Nodup) (hl : ks.length ≤ 7) (hk : ∀ t ∈ S, t.1 ∈ ks ∧ t.2.1 ∈ ks) :
    ∃ g' x' y', lTurn (EF d S ks L g x y) = some (.nx (EF d S ks (swp S L) g' x' y')) ∧ (g' = false → swp S L = L) ∧ (g' = true → swp S L ≠ L) := by
  obtain ⟨δ, e, g', x', y', rfl, h1, h2⟩ := forL_nx (i := 4) (F := lF) (g := sD) (fun pre δ => ∃ g' x' y', δ = EF d S ks (swp pre L) g' x' y' ∧ (g' = false → swp pre L = L) ∧ (g' = true → swp pre L ≠ L)) S [] (EF d S ks L false x y) ⟨false, x, y, rfl, fun _ => rfl, fun z => nomatch z⟩ (by
    rintro p t ht δ ⟨g1, x1, y1, rfl, h1, h2⟩
    obtain ⟨g2, y2, e, k1, k2⟩ := f_step (d := d) (S := S) (L := swp p L) (g := g1) (y := y1) nd hl t (hk t ht).1 (hk t ht).2
    refine ⟨_, e, g2, _, y2, by rw [swp_snoc], fun z => ?_, fun z hs => ?_⟩
    · rw [swp_snoc, (k1 z).2]; exact h1 (k1 z).1
    · have hp := swp_same hs
      rcases k2 z with k | k
      · exact h2 k hp
      · rw [swp_snoc, hp] at hs
        rw [hp] at k
        exact k hs)
  refine ⟨g', x', y', ?_, fun z => by simpa using h1 z, fun z => by simpa using h2 z⟩
  unfold lTurn
  rw [seq_nx (δ' := EF d S ks L false x y) rfl, seq1]
  exact e
theorem f_while {d : D} {S : List Tr} {ks : List Str} (ok : Okay S) (no : ¬ HasRing S) (nd : ks.Nodup) (hl : ks.length ≤ 7) (hk : ∀ t ∈ S, t.1 ∈ ks ∧ t.2.1 ∈ ks) : ∀ (n k : Nat) (g : Bool) (x y : Option Sl), n + k = 1000 → k ≤ 51 → (g = true → k ≤ 50) → (g = false → Feas S (swpN S k L0)) →
    ∃ k' g' x' y', whileN (fB (fVar 3)) lTurn n (EF d S ks (swpN S k L0) g x y) = some (.nx (EF d S ks (swpN S k' L0) g' x' y')) ∧ Feas S (swpN S k' L0)
  | 0, k, g, x, y, h, h1, _, _ => by omega
  | n + 1, k, false, x, y, h, h1, _, h3 => ⟨k, false, x, y, rfl, h3 rfl⟩
  | n + 1, k, true, x, y, h, h1, h2, _ => by
    obtain ⟨g', x', y', e, k1, k2⟩ := f_turn (d := d) (L := swpN S k L0) (g := true) (x := x) (y := y) nd hl hk
    rw [← swpN_end] at e
    obtain ⟨k3, g3, x3, y3, e3, f3⟩ := f_while (d := d) ok no nd hl hk n (k + 1) g' x' y' (by omega) (by have := h2 rfl; omega) (fun z => by
      have hne := k2 z
      have : ¬ 49 < k := fun hlt => hne (funext (fix_of (conv (N := nm) ok.toSteps (fun u v r m => (ok.nms _ m).2) no (k := k) hlt)))
      omega) fun z => by
      have := k1 z
      rw [swpN_end, this]
      exact swp_fix fun q => by rw [this]
    refine ⟨k3, g3, x3, y3, ?_, f3⟩
    have hc : fB (fVar 3) (EF d S ks (swpN S k L0) true x y) = some true := rfl
    unfold whileN
    rw [hc, e]
    exact e3
theorem lift_go (a b : D) : M_lifted [a, b] = (match fb_lifted [some (.sh a), some (.sh b), none, none, none, none] with | some (.rt d _) => some d | some (.nx _) => some (.sh .non) | _ => none) := by
  unfold M_lifted runF
  exact if_pos rfl
theorem e_lifted {S : List Tr} {ks : List Str} (ok : Okay S) (no : ¬ HasRing S) (nd : ks.Nodup) (hl : ks.length ≤ 7) (hk : ∀ t ∈ S, t.1 ∈ ks ∧ t.2.1 ∈ ks) :
    ∃ k, M_lifted [(dM ks (iV L0)).d, .lst (S.map sD)] = some (.fr (dM ks (iV (swpN S k L0)))) ∧ Feas S (swpN S k L0) := by
  obtain ⟨k, g, x, y, e, f⟩ := f_while (d := (dM ks (iV L0)).d) ok no nd hl hk 1000 0 true none none rfl (by omega) (fun _ => by omega) fun z => nomatch z
  refine ⟨k, ?_, f⟩
  have s1 : sWhile (fB (fVar 3)) lTurn (EF (dM ks (iV L0)).d S ks L0 true none none) = some (.nx (EF (dM ks (iV L0)).d S ks (swpN S k L0) g x y)) := e
  rw [lift_go, fb_liftE, seq_nx (δ' := [some (.sh (dM ks (iV L0)).d), some (.sh (.lst (S.map sD))), some (.pv (dM ks (iV L0)) none), none, none, none]) rfl, seq_nx (δ' := EF (dM ks (iV L0)).d S ks L0 true none none) rfl, seq_nx s1]
  rfl
end K05
set_option Elab.async false
set_option linter.all false
set_option maxRecDepth 100000
set_option maxHeartbeats 4000000
namespace K05
open PySem PySem.Spec PyProof.Rows L2
def vPut : FS := sSeq (sDPutM 1 (fVar 2) (fC (.int 0))) (sSeq (sDPutM 1 (fVar 3) (fC (.int 0))) sNil)
def vMax : FE := fCallB maxD (fCons (f2 ixA (fVarB 1) (fVarB 3)) (fCons (f2 addD (f2 ixA (fVarB 1) (fVarB 2)) (fVarB 4)) fNil))
def vSw : FS := sSeq (sDPutM 1 (fVar 3) vMax) sNil
def vIn : FS := sSeq (sForT 2 3 4 (oSeq (fVar 0)) vSw) sNil
def vMid : FS := sSeq (sFor 6 (oRng (fCallB lenD (fCons (fVarB 1) fNil))) vIn) sNil
def vOut : FS := sFor 5 (oRng (f2 addD (fCallB lenD (fCons (fVarB 1) fNil)) (fC (.int 1)))) vMid
def vC1 : FS := sSeq (sIf (fB (f2 (gtD) (f2 ixA (fVarB 1) (fVarB 7)) (fCallB lenD (fCons (fVarB 1) fNil)))) (sSeq (sRet (fSh (fC .non))) sNil) sNil) sNil
def vC2 : FS := sSeq (sIf (fB (f2 (ltE) (f2 ixA (fVarB 1) (fVarB 3)) (f2 addD (f2 ixA (fVarB 1) (fVarB 2)) (fVarB 4)))) (sSeq (sRet (fSh (fC .non))) sNil) sNil) sNil
theorem fb_levE : fb__law_levels = sSeq (sSetR 1 fDicR) (sSeq (sForT 2 3 4 (oSeq (fVar 0)) vPut) (sSeq vOut (sSeq (fun δ => (sForD false 7 1 vC1) (pubS 1 δ)) (sSeq (sForT 2 3 4 (oSeq (fVar 0)) vC2) (sSeq (sRetV 1) sNil))))) := rfl
def EV (S : List Tr) (s : Sl) (xs : List (Option Sl)) : En := some (.sh (.lst (S.map sD))) :: some s :: xs
structure Nds (S : List Tr) (ks : List Str) : Prop where
  nd : ks.Nodup
  mem : ∀ x, x ∈ ks ↔ ∃ t ∈ S, x = t.1 ∨ x = t.2.1
theorem Nds.len {S : List Tr} (h : ∀ t ∈ S, t.1 ∈ nm ∧ t.2.1 ∈ nm) {ks : List Str} (n : Nds S ks) : ks.length ≤ 7 := nm_len n.nd fun x hx => by
  obtain ⟨t, ht, e | e⟩ := (n.mem x).mp hx
  · rw [e]; exact (h t ht).1
  · rw [e]; exact (h t ht).2
theorem Nds.has {S : List Tr} {ks : List Str} (n : Nds S ks) {t : Tr} (h : t ∈ S) : t.1 ∈ ks ∧ t.2.1 ∈ ks := ⟨(n.mem _).mpr ⟨t, h, .inl rfl⟩, (n.mem _).mpr ⟨t, h, .inr rfl⟩⟩
theorem up_L0 (v : Str) : upF (iV L0) v (.int 0) = iV L0 := up_iV rfl fun _ _ => rfl
theorem tFor {S : List Tr} {F : FS} {s : Sl} {xs : List (Option Sl)} : sForT 2 3 4 (oSeq (fVar 0)) F (EV S s xs) = forL3 2 3 4 F (S.map tT) (EV S s xs) := by
  unfold sForT
  rw [show oSeq (fVar 0) (EV S s xs) = some (S.map sD) from rfl, Option.bind_some, trips_s, Option.bind_some]
theorem v_nodes {S : List Tr} (ok : Okay S) (x5 x6 x7 : Option Sl) : ∃ ks x2 x3 x4, sForT 2 3 4 (oSeq (fVar 0)) vPut (EV S (.pv (dM [] (iV L0)) none) [none, none, none, x5, x6, x7]) = some (.nx (EV S (.pv (dM ks (iV L0)) none) [x2, x3, x4, x5, x6, x7])) ∧ Nds S ks := by
  rw [tFor]
  obtain ⟨δ, e, ks, x2, x3, x4, rfl, h, _⟩ := forL3_nx (i := 2) (j := 3) (l := 4) (F := vPut) (fun pre δ => ∃ ks x2 x3 x4, δ = EV S (.pv (dM ks (iV L0)) none) [x2, x3, x4, x5, x6, x7] ∧ Nds pre ks ∧ ∀ t ∈ pre, t ∈ S) S [] (EV S (.pv (dM [] (iV L0)) none) [none, none, none, x5, x6, x7]) ⟨[], none, none, none, rfl, ⟨by simp, by simp⟩, fun _ h => nomatch h⟩ (by
    rintro p t ht δ ⟨ks, x2, x3, x4, rfl, n, hp⟩
    obtain ⟨u, v, r⟩ := t
    have l1 := n.len fun t ht => ok.nms t (hp t ht)
    refine ⟨EV S (.pv (dM (addK (addK ks u) v) (iV L0)) none) [some (.sh (.str u)), some (.sh (.str v)), some (.sh (.int r)), x5, x6, x7], ?_, _, _, _, _, rfl, ⟨addK_nd (addK_nd n.nd), fun x => ?_⟩, fun t ht' => ?_⟩
    · have e1 : sDPutM 1 (fVar 2) (fC (.int 0)) (EV S (.pv (dM ks (iV L0)) none) [some (.sh (.str u)), some (.sh (.str v)), some (.sh (.int r)), x5, x6, x7]) = some (.nx (EV S (.pv (dM (addK ks u) (iV L0)) none) [some (.sh (.str u)), some (.sh (.str v)), some (.sh (.int r)), x5, x6, x7])) := by
        rw [put_of (ks := ks) (f := iV L0) (o := none) (x := u) (d := .int 0) rfl rfl rfl n.nd (by omega), up_L0]
        rfl
      have l2 : (addK ks u).length ≤ 8 := by
        unfold addK
        split
        · omega
        · rw [List.length_append, List.length_singleton]; omega
      have e2 : sDPutM 1 (fVar 3) (fC (.int 0)) (EV S (.pv (dM (addK ks u) (iV L0)) none) [some (.sh (.str u)), some (.sh (.str v)), some (.sh (.int r)), x5, x6, x7]) = some (.nx (EV S (.pv (dM (addK (addK ks u) v) (iV L0)) none) [some (.sh (.str u)), some (.sh (.str v)), some (.sh (.int r)), x5, x6, x7])) := by
        rw [put_of (ks := addK ks u) (f := iV L0) (o := none) (x := v) (d := .int 0) rfl rfl rfl (addK_nd n.nd) (by omega), up_L0]
        rfl
      show vPut (EV S (.pv (dM ks (iV L0)) none) [some (.sh (.str u)), some (.sh (.str v)), some (.sh (.int r)), x5, x6, x7]) = _
      unfold vPut
      rw [seq_nx e1, seq_nx e2]
      rfl
    · rw [addK_mem, addK_mem, n.mem]
      constructor
      · rintro ((⟨t, h1, h2⟩ | h) | h)
        · exact ⟨t, List.mem_append_left _ h1, h2⟩
        · exact ⟨(u, v, r), by simp, .inl h⟩
        · exact ⟨(u, v, r), by simp, .inr h⟩
      · rintro ⟨t, h1, h2⟩
        rcases List.mem_append.mp h1 with h1 | h1
        · exact .inl (.inl ⟨t, h1, h2⟩)
        · rw [List.mem_singleton.mp h1] at h2
          rcases h2 with h2 | h2
          · exact .inl (.inr h2)
          · exact .inr h2
    · rcases List.mem_append.mp ht' with h1 | h1
      · exact hp t h1
      · rw [List.mem_singleton.mp h1]; exact ht)
  exact ⟨ks, x2, x3, x4, e, h⟩
theorem v_sweep {S : List Tr} {ks : List Str} (nd : ks.Nodup) (hl : ks.length ≤ 7) (hk : ∀ t ∈ S, t.1 ∈ ks ∧ t.2.1 ∈ ks) (L : Lv) (x2 x3 x4 x5 x6 x7 : Option Sl) :
    ∃ y2 y3 y4, vIn (EV S (.pv (dM ks (iV L)) none) [x2, x3, x4, x5, x6, x7]) = some (.nx (EV S (.pv (dM ks (iV (swp S L))) none) [y2, y3, y4, x5, x6, x7])) := by
  unfold vIn
  rw [seq1, tFor]
  obtain ⟨δ, e, x2', x3', x4', rfl⟩ := forL3_nx (i := 2) (j := 3) (l := 4) (F := vSw) (fun pre δ => ∃ x2 x3 x4, δ = EV S (.pv (dM ks (iV (swp pre L))) none) [x2, x3, x4, x5, x6, x7]) S [] (EV S (.pv (dM ks (iV L)) none) [x2, x3, x4, x5, x6, x7]) ⟨x2, x3, x4, rfl⟩ (by
    rintro p t ht δ ⟨x2, x3, x4, rfl⟩
    obtain ⟨h1, h2⟩ := hk t ht
    obtain ⟨u, v, r⟩ := t
    refine ⟨EV S (.pv (dM ks (iV (swp (p ++ [(u, v, r)]) L))) none) [some (.sh (.str u)), some (.sh (.str v)), some (.sh (.int r)), x5, x6, x7], ?_, _, _, _, rfl⟩
    show vSw (EV S (.pv (dM ks (iV (swp p L))) none) [some (.sh (.str u)), some (.sh (.str v)), some (.sh (.int r)), x5, x6, x7]) = _
    rw [swp_snoc]
    generalize swp p L = M
    have e1 : vMax (EV S (.pv (dM ks (iV M)) none) [some (.sh (.str u)), some (.sh (.str v)), some (.sh (.int r)), x5, x6, x7]) = some (.int (max (M v) (M u + r))) := by
      have a1 : f2 ixA (fVarB 1) (fVarB 3) (EV S (.pv (dM ks (iV M)) none) [some (.sh (.str u)), some (.sh (.str v)), some (.sh (.int r)), x5, x6, x7]) = some (.int (M v)) := f2_of (y := .str v) rfl rfl (ix_s (f := iV M) h2)
      have a2 : f2 addD (f2 ixA (fVarB 1) (fVarB 2)) (fVarB 4) (EV S (.pv (dM ks (iV M)) none) [some (.sh (.str u)), some (.sh (.str v)), some (.sh (.int r)), x5, x6, x7]) = some (.int (M u + r)) := f2_of (x := .int (M u)) (y := .int r) (f2_of (y := .str u) rfl rfl (ix_s (f := iV M) h1)) rfl rfl
      unfold vMax fCallB
      rw [cons2 a1 a2, Option.bind_some]
      show some (D.int (if M u + r > M v then M u + r else M v)) = _
      congr 2
      split <;> omega
    unfold vSw
    rw [seq1, put_of (ks := ks) (f := iV M) (o := none) (x := v) rfl rfl e1 nd (by omega), addK_in h2, up_iV (L' := rlx M (u, v, r)) (rlx_at M (u, v, r)) fun x hx => rlx_off M (u, v, r) hx]
    rfl)
  exact ⟨x2', x3', x4', e⟩
theorem o_rng {f : FE} {δ : En} {n : Nat} (h : f δ = some (.int n)) (hn : n ≤ 1000) : oRng f δ = some ((List.range n).map fun (k : Nat) => .int (0 + (k : Int))) := by
  unfold oRng
  rw [h]
  dsimp only
  rw [if_pos (by constructor <;> omega)]
  rfl
theorem v_mid {S : List Tr} {ks : List Str} (nd : ks.Nodup) (hl : ks.length ≤ 7) (hk : ∀ t ∈ S, t.1 ∈ ks ∧ t.2.1 ∈ ks) (k : Nat) (x2 x3 x4 x5 x6 x7 : Option Sl) :
    ∃ y2 y3 y4 y6, vMid (EV S (.pv (dM ks (iV (swpN S k L0))) none) [x2, x3, x4, x5, x6, x7]) = some (.nx (EV S (.pv (dM ks (iV (swpN S (k + ks.length) L0))) none) [y2, y3, y4, x5, y6, x7])) := by
  have hr : oRng (fCallB lenD (fCons (fVarB 1) fNil)) (EV S (.pv (dM ks (iV (swpN S k L0))) none) [x2, x3, x4, x5, x6, x7]) = some ((List.range ks.length).map fun (k : Nat) => .int (0 + (k : Int))) := by
    refine o_rng ?_ (by omega)
    show some (D.int ((ks.map (iV (swpN S k L0))).length : Int)) = _
    rw [List.length_map]
  obtain ⟨δ, e, x2', x3', x4', x6', rfl⟩ := forL_nx (i := 6) (F := vIn) (g := fun (k : Nat) => .int (0 + (k : Int))) (fun pre δ => ∃ x2 x3 x4 x6, δ = EV S (.pv (dM ks (iV (swpN S (k + pre.length) L0))) none) [x2, x3, x4, x5, x6, x7]) (List.range ks.length) [] (EV S (.pv (dM ks (iV (swpN S k L0))) none) [x2, x3, x4, x5, x6, x7]) ⟨x2, x3, x4, x6, rfl⟩ (by
    rintro p t ht δ ⟨x2, x3, x4, x6, rfl⟩
    obtain ⟨y2, y3, y4, e⟩ := v_sweep nd hl hk (swpN S (k + p.length) L0) x2 x3 x4 x5 (some (.sh (.int (0 + (t : Int))))) x7
    exact ⟨_, e, y2, y3, y4, _, by rw [List.length_append, List.length_singleton, ← Nat.add_assoc, swpN_end]⟩)
  refine ⟨x2', x3', x4', x6', ?_⟩
  unfold vMid
  rw [seq1]
  unfold sFor
  rw [hr, Option.bind_some, e]
  simp
theorem v_out {S : List Tr} {ks : List Str} (nd : ks.Nodup) (hl : ks.length ≤ 7) (hk : ∀ t ∈ S, t.1 ∈ ks ∧ t.2.1 ∈ ks) (x2 x3 x4 x5 x6 x7 : Option Sl) :
    ∃ y2 y3 y4 y5 y6, vOut (EV S (.pv (dM ks (iV L0)) none) [x2, x3, x4, x5, x6, x7]) = some (.nx (EV S (.pv (dM ks (iV (swpN S ((ks.length + 1) * ks.length) L0))) none) [y2, y3, y4, y5, y6, x7])) := by
  have hr : oRng (f2 addD (fCallB lenD (fCons (fVarB 1) fNil)) (fC (.int 1))) (EV S (.pv (dM ks (iV L0)) none) [x2, x3, x4, x5, x6, x7]) = some ((List.range (ks.length + 1)).map fun (k : Nat) => .int (0 + (k : Int))) := by
    refine o_rng ?_ (by omega)
    refine f2_of (x := .int (ks.length : Int)) (y := .int 1) ?_ rfl rfl
    show some (D.int ((ks.map (iV L0)).length : Int)) = _
    rw [List.length_map]
  obtain ⟨δ, e, x2', x3', x4', x5', x6', rfl⟩ := forL_nx (i := 5) (F := vMid) (g := fun (k : Nat) => .int (0 + (k : Int))) (fun pre δ => ∃ x2 x3 x4 x5 x6, δ = EV S (.pv (dM ks (iV (swpN S (pre.length * ks.length) L0))) none) [x2, x3, x4, x5, x6, x7]) (List.range (ks.length + 1)) [] (EV S (.pv (dM ks (iV L0)) none) [x2, x3, x4, x5, x6, x7]) ⟨x2, x3, x4, x5, x6, by simp [swpN]⟩ (by
    rintro p t ht δ ⟨x2, x3, x4, x5, x6, rfl⟩
    obtain ⟨y2, y3, y4, y6, e⟩ := v_mid nd hl hk (p.length * ks.length) x2 x3 x4 (some (.sh (.int (0 + (t : Int))))) x6 x7
    exact ⟨_, e, y2, y3, y4, _, y6, by rw [List.length_append, List.length_singleton, Nat.add_mul, Nat.one_mul]⟩)
  refine ⟨x2', x3', x4', x5', x6', ?_⟩
  unfold vOut
  unfold sFor
  rw [hr, Option.bind_some, e]
  simp
theorem v_c1 {S : List Tr} {ks : List Str} {L : Lv} (x2 x3 x4 x5 x6 x7 : Option Sl) : 
    (∃ y7, (fun δ => (sForD false 7 1 vC1) (pubS 1 δ)) (EV S (.pv (dM ks (iV L)) none) [x2, x3, x4, x5, x6, x7]) = some (.nx (EV S (.sh (dM ks (iV L)).d) [x2, x3, x4, x5, x6, y7]))) ∨ (∃ δ, (fun δ => (sForD false 7 1 vC1) (pubS 1 δ)) (EV S (.pv (dM ks (iV L)) none) [x2, x3, x4, x5, x6, x7]) = some (.rt (.sh .non) δ) ∧ ∃ x, L x > (ks.length : Int)) := by
  have hd : (fun δ => (sForD false 7 1 vC1) (pubS 1 δ)) (EV S (.pv (dM ks (iV L)) none) [x2, x3, x4, x5, x6, x7]) = forL 7 vC1 (ks.map .str) (EV S (.sh (dM ks (iV L)).d) [x2, x3, x4, x5, x6, x7]) := by
    show forL 7 vC1 ((ks.map Sum.inr).map kD) _ = _
    rw [List.map_map]
    rfl
  rw [hd]
  rcases forL_rt (i := 7) (F := vC1) (g := D.str) (fun pre δ => ∃ x7, δ = EV S (.sh (dM ks (iV L)).d) [x2, x3, x4, x5, x6, x7]) (fun r => r = .sh .non ∧ ∃ x, L x > (ks.length : Int)) ks [] (EV S (.sh (dM ks (iV L)).d) [x2, x3, x4, x5, x6, x7]) ⟨x7, rfl⟩ (by
    rintro p x hx δ ⟨x7, rfl⟩
    have c : fB (f2 (gtD) (f2 ixA (fVarB 1) (fVarB 7)) (fCallB lenD (fCons (fVarB 1) fNil))) (EV S (.sh (dM ks (iV L)).d) [x2, x3, x4, x5, x6, some (.sh (.str x))]) = some (decide ((ks.length : Int) < L x)) := by
      refine fB_of (f2_of (x := .int (L x)) (y := .int (ks.length : Int)) (f2_of (y := .str x) rfl rfl (ix_s (f := iV L) hx)) ?_ rfl)
      show some (D.int ((ks.map (iV L)).length : Int)) = _
      rw [List.length_map]
    by_cases h : (ks.length : Int) < L x
    · refine .inr ⟨.sh .non, EV S (.sh (dM ks (iV L)).d) [x2, x3, x4, x5, x6, some (.sh (.str x))], ?_, rfl, x, h⟩
      show vC1 (EV S (.sh (dM ks (iV L)).d) [x2, x3, x4, x5, x6, some (.sh (.str x))]) = _
      unfold vC1
      rw [seq1, if_yes (by rw [c, decide_eq_true h]), seq1]
      rfl
    · refine .inl ⟨EV S (.sh (dM ks (iV L)).d) [x2, x3, x4, x5, x6, some (.sh (.str x))], ?_, _, rfl⟩
      show vC1 (EV S (.sh (dM ks (iV L)).d) [x2, x3, x4, x5, x6, some (.sh (.str x))]) = _
      unfold vC1
      rw [seq1, if_no (by rw [c, decide_eq_false h])]
      rfl) with ⟨δ, e, y7, rfl⟩ | ⟨r, δ, e, rfl, k⟩
  · exact .inl ⟨y7, e⟩
  · exact .inr ⟨δ, e, k⟩
theorem v_c2 {S : List Tr} {ks : List Str} (hk : ∀ t ∈ S, t.1 ∈ ks ∧ t.2.1 ∈ ks) {L : Lv} (x2 x3 x4 x5 x6 x7 : Option Sl) : 
    (∃ y2 y3 y4, sForT 2 3 4 (oSeq (fVar 0)) vC2 (EV S (.sh (dM ks (iV L)).d) [x2, x3, x4, x5, x6, x7]) = some (.nx (EV S (.sh (dM ks (iV L)).d) [y2, y3, y4, x5, x6, x7])) ∧ Feas S L) ∨ (∃ δ, sForT 2 3 4 (oSeq (fVar 0)) vC2 (EV S (.sh (dM ks (iV L)).d) [x2, x3, x4, x5, x6, x7]) = some (.rt (.sh .non) δ) ∧ ¬ Feas S L) := by
  rw [tFor]
  rcases forL3_rt (i := 2) (j := 3) (l := 4) (F := vC2) (fun pre δ => (∃ x2 x3 x4, δ = EV S (.sh (dM ks (iV L)).d) [x2, x3, x4, x5, x6, x7]) ∧ ∀ t ∈ pre, L t.1 + t.2.2 ≤ L t.2.1) (fun r => r = .sh .non ∧ ¬ Feas S L) S [] (EV S (.sh (dM ks (iV L)).d) [x2, x3, x4, x5, x6, x7]) ⟨⟨x2, x3, x4, rfl⟩, fun _ h => nomatch h⟩ (by
    rintro p t ht δ ⟨⟨x2, x3, x4, rfl⟩, hp⟩
    obtain ⟨h1, h2⟩ := hk t ht
    obtain ⟨u, v, r⟩ := t
    have c : fB (f2 (ltE) (f2 ixA (fVarB 1) (fVarB 3)) (f2 addD (f2 ixA (fVarB 1) (fVarB 2)) (fVarB 4))) (EV S (.sh (dM ks (iV L)).d) [some (.sh (.str u)), some (.sh (.str v)), some (.sh (.int r)), x5, x6, x7]) = some (decide (L v < L u + r)) :=
      fB_of (f2_of (x := .int (L v)) (y := .int (L u + r)) (f2_of (y := .str v) rfl rfl (ix_s (f := iV L) h2)) (f2_of (x := .int (L u)) (y := .int r) (f2_of (y := .str u) rfl rfl (ix_s (f := iV L) h1)) rfl rfl) (lt_int _ _))
    by_cases h : L v < L u + r
    · refine .inr ⟨.sh .non, EV S (.sh (dM ks (iV L)).d) [some (.sh (.str u)), some (.sh (.str v)), some (.sh (.int r)), x5, x6, x7], ?_, rfl, fun f => by have := f u v r ht; omega⟩
      show vC2 (EV S (.sh (dM ks (iV L)).d) [some (.sh (.str u)), some (.sh (.str v)), some (.sh (.int r)), x5, x6, x7]) = _
      unfold vC2
      rw [seq1, if_yes (by rw [c, decide_eq_true h]), seq1]
      rfl
    · refine .inl ⟨EV S (.sh (dM ks (iV L)).d) [some (.sh (.str u)), some (.sh (.str v)), some (.sh (.int r)), x5, x6, x7], ?_, ⟨_, _, _, rfl⟩, fun t ht' => ?_⟩
      · show vC2 (EV S (.sh (dM ks (iV L)).d) [some (.sh (.str u)), some (.sh (.str v)), some (.sh (.int r)), x5, x6, x7]) = _
        unfold vC2
        rw [seq1, if_no (by rw [c, decide_eq_false h])]
        rfl
      · rcases List.mem_append.mp ht' with h' | h'
        · exact hp t h'
        · rw [List.mem_singleton.mp h']
          show L u + r ≤ L v
          omega) with ⟨δ, e, ⟨y2, y3, y4, rfl⟩, k⟩ | ⟨r, δ, e, rfl, k⟩
  · exact .inl ⟨y2, y3, y4, e, fun u v r m => k (u, v, r) (by simpa using m)⟩
  · exact .inr ⟨δ, e, k⟩
theorem lev_go (s : D) : M__law_levels [s] = (match fb__law_levels [some (.sh s), none, none, none, none, none, none, none] with | some (.rt d _) => some d | some (.nx _) => some (.sh .non) | _ => none) := by
  unfold M__law_levels runF
  exact if_pos rfl
theorem e_levels {S : List Tr} (ok : Okay S) : (∃ ks k, M__law_levels [.lst (S.map sD)] = some (.sh (dM ks (iV (swpN S k L0))).d) ∧ Nds S ks ∧ Feas S (swpN S k L0) ∧ ¬ HasRing S) ∨ (M__law_levels [.lst (S.map sD)] = some (.sh .non) ∧ HasRing S) := by
  obtain ⟨ks, x2, x3, x4, s1, n⟩ := v_nodes ok none none none
  have hl := n.len ok.nms
  have hk : ∀ t ∈ S, t.1 ∈ ks ∧ t.2.1 ∈ ks := fun t ht => n.has ht
  obtain ⟨y2, y3, y4, y5, y6, s2⟩ := v_out n.nd hl hk x2 x3 x4 none none none
  have good : ¬ HasRing S → Feas S (swpN S ((ks.length + 1) * ks.length) L0) := fun no => by
    by_cases h0 : ks.length = 0
    · intro u v r m
      have := (hk _ m).1
      rw [List.eq_nil_of_length_eq_zero h0] at this
      cases this
    · exact conv (N := ks) ok.toSteps (fun u v r m => (hk _ m).2) no (by rw [Nat.add_mul]; omega)
  have start : M__law_levels [.lst (S.map sD)] = (match sSeq (fun δ => (sForD false 7 1 vC1) (pubS 1 δ)) (sSeq (sForT 2 3 4 (oSeq (fVar 0)) vC2) (sSeq (sRetV 1) sNil)) (EV S (.pv (dM ks (iV (swpN S ((ks.length + 1) * ks.length) L0))) none) [y2, y3, y4, y5, y6, none]) with | some (.rt d _) => some d | some (.nx _) => some (.sh .non) | _ => none) := by
    rw [lev_go, fb_levE, seq_nx (δ' := EV S (.pv (dM [] (iV L0)) none) [none, none, none, none, none, none]) rfl, seq_nx s1, seq_nx s2]
  rcases v_c1 (S := S) (ks := ks) (L := swpN S ((ks.length + 1) * ks.length) L0) y2 y3 y4 y5 y6 none with ⟨y7, e1⟩ | ⟨δ, e1, x, hx⟩
  · rw [seq_nx (F := fun δ => (sForD false 7 1 vC1) (pubS 1 δ)) e1] at start
    rcases v_c2 hk (L := swpN S ((ks.length + 1) * ks.length) L0) y2 y3 y4 y5 y6 y7 with ⟨z2, z3, z4, e2, f⟩ | ⟨δ, e2, f⟩
    · rw [seq_nx e2] at start
      exact .inl ⟨ks, _, start, n, f, feas_no ok.toSteps f⟩
    · rw [seq_rt e2] at start
      exact .inr ⟨start, Classical.byContradiction fun no => f (good no)⟩
  · rw [seq_rt (F := fun δ => (sForD false 7 1 vC1) (pubS 1 δ)) e1] at start
    refine .inr ⟨start, Classical.byContradiction fun no => ?_⟩
    have := swpN_top (N := ks) ok.toSteps (fun u v r m => (hk _ m).2) no ((ks.length + 1) * ks.length) x
    omega
end K05
set_option Elab.async false
set_option linter.all false
set_option maxRecDepth 100000
set_option maxHeartbeats 4000000
namespace K05
open PySem PySem.Spec PyProof.Rows L2
theorem maxTo_ge (f : Nat → Int) : ∀ (k i : Nat), i ≤ k → f i ≤ maxTo f k
  | 0, i, h => by rw [Nat.le_zero.mp h]; exact Int.le_refl _
  | k + 1, i, h => by
    unfold maxTo
    rcases Nat.lt_or_ge i (k + 1) with z | z
    · have := maxTo_ge f k i (by omega)
      split <;> omega
    · have : i = k + 1 := by omega
      subst this
      split <;> omega
theorem maxTo_in (f : Nat → Int) : ∀ k : Nat, ∃ i, i ≤ k ∧ maxTo f k = f i
  | 0 => ⟨0, Nat.le_refl _, rfl⟩
  | k + 1 => by
    obtain ⟨i, h, e⟩ := maxTo_in f k
    unfold maxTo
    split
    · exact ⟨k + 1, Nat.le_refl _, rfl⟩
    · exact ⟨i, by omega, e⟩
theorem intsOf_of : ∀ zs : List Int, intsOf (zs.map .int) = some zs
  | [] => rfl
  | z :: zs => by
    show (intsOf (zs.map .int)).map (z :: ·) = _
    rw [intsOf_of zs]
    rfl
theorem max_list {zs : List Int} (h : zs ≠ []) : ∃ m, maxLD [.lst (zs.map .int)] = some (.int m) ∧ m ∈ zs ∧ ∀ z ∈ zs, z ≤ m := by
  have hl : 0 < zs.length := List.length_pos_iff.mpr h
  refine ⟨maxTo (fun i => zs.getD i 0) (zs.length - 1), ?_, ?_, fun z hz => ?_⟩
  · show (intsOf (zs.map .int)).bind (fun zs => if zs.length = 0 then none else some (D.int (maxTo (fun i => zs.getD i 0) (zs.length - 1)))) = _
    rw [intsOf_of, Option.bind_some, if_neg (by omega)]
  · obtain ⟨i, hi, e⟩ := maxTo_in (fun i => zs.getD i 0) (zs.length - 1)
    rw [e]
    have hi' : i < zs.length := by omega
    show zs.getD i 0 ∈ zs
    rw [List.getD_eq_getElem?_getD, List.getElem?_eq_getElem hi']
    exact List.getElem_mem hi'
  · obtain ⟨i, hi⟩ := List.getElem?_of_mem hz
    have hlt := (List.getElem?_eq_some_iff.mp hi).1
    have := maxTo_ge (fun i => zs.getD i 0) (zs.length - 1) i (by omega)
    have e : zs.getD i 0 = z := by rw [List.getD_eq_getElem?_getD, hi]; rfl
    rw [e] at this
    exact this
theorem strs_of : ∀ p : List Str, strsD (p.map .str) = some p
  | [] => rfl
  | x :: p => by
    show (strsD (p.map .str)).map (x :: ·) = _
    rw [strs_of p]
    rfl
theorem sort_len {p : List Str} (n : p.Nodup) : (sortS p).length = p.length :=
  ((List.perm_ext_iff_of_nodup (ord_nodup (sortS_ord p)) n).mpr fun z => sortS_mem).length_eq
theorem ne_int (a b : Int) : neE (.int a) (.int b) = some (.bl (!decide (a = b))) := by
  have : neE (.int a) (.int b) = some (.bl (!decide (V.int a = V.int b))) := rfl
  rw [this]
  by_cases h : a = b
  · simp [h]
  · have : ¬ V.int a = V.int b := fun z => h (V.int.inj z)
    simp [h, this]
theorem ix_tup {xs : List D} {k : Nat} {x : D} (h : xs[k]? = some x) : ixA (.tup xs) (.int (k : Int)) = some x := atI_nat h
def gPre : En → Option Bool := bOr (bNot (fB (fIs "tuple" (fVarB 1)))) (bOr (fB (f2 (eqO false) (fVarB 1) (fTup fNil))) (fB (f2 (neE) (fLenSet (fVarB 1)) (fCallB lenD (fCons (fVarB 1) fNil)))))
def gIf : FS := sIf gPre (sSeq (sRet (fSh (fC (.bl false)))) sNil) sNil
def gCc : En → Option Bool := bAnd (fB (f2 (eqO false) (f2 ixA (fVarB 0) (fC (.int 0))) (fVarB 1))) (fB (f2 (eqO false) (f2 ixA (fVarB 0) (fC (.int 1))) (fVarB 2)))
def gSome : FE := fPub (fComp 1 [4, 5] 0 (oSeq (fVar 0)) gCc (f2 ixA (fVarB 0) (fC (.int 2))))
def gNo : FS := sIf (fB (f2 (eqO false) (fVarB 6) (fPub (fLstR fNil)))) (sSeq (sRet (fSh (fC (.bl false)))) sNil) sNil
def gMax : FE := fCallB maxLD (fCons (f2 addD (fPub (fLstR (fCons (fVar 2) fNil))) (fVarB 6)) fNil)
def gOne : FE := f2 ixA (fVarB 1) (fVarB 3)
def gTwo : FE := f2 ixA (fVarB 1) (f2 modD (f2 addD (fVarB 3) (fC (.int 1))) (fCallB lenD (fCons (fVarB 1) fNil)))
def gF : FS := sSeq (sSet 4 gOne) (sSeq (sSet 5 gTwo) (sSeq (sSet 6 gSome) (sSeq gNo (sSeq (sSet 2 gMax) sNil))))
theorem fb_isrE : fb__law_is_ring = sSeq gIf (sSeq (sSet 2 (fC (.int 0))) (sSeq (sFor 3 (oRng (fCallB lenD (fCons (fVarB 1) fNil))) gF) (sSeq (sRet (fSh (f2 (eqO false) (fVarB 2) (fC (.int 1))))) sNil))) := rfl
def EG (S : List Tr) (p : List Str) (x2 x3 x4 x5 x6 : Option Sl) : En := [some (.sh (.lst (S.map sD))), some (.sh (.tup (p.map .str))), x2, x3, x4, x5, x6]
theorem len_str (p : List Str) : lenD [.tup (p.map .str)] = some (.int (p.length : Int)) := by
  show some (D.int ((p.map D.str).length : Int)) = _
  rw [List.length_map]
theorem comp_s (a b : Str) (δ : En) (ha : δ = [some (.sh (.str a)), some (.sh (.str b))]) : ∀ S : List Tr, compL (fun x => gCc ((none :: δ).set 0 (some (.sh x)))) (fun x => f2 ixA (fVarB 0) (fC (.int 2)) ((none :: δ).set 0 (some (.sh x)))) (S.map sD) = some ((S.filter fun t => decide (t.1 = a) && decide (t.2.1 = b)).map fun t => .int t.2.2)
  | [] => rfl
  | (u, v, r) :: S => by
    have ih := comp_s a b δ ha S
    subst ha
    have c : gCc ((none :: [some (.sh (.str a)), some (.sh (.str b))]).set 0 (some (.sh (sD (u, v, r))))) = some (decide (u = a) && decide (v = b)) := and_of (fB_of (f2_of (x := .str u) (y := .str a) rfl rfl (eq_str _ _))) (fB_of (f2_of (x := .str v) (y := .str b) rfl rfl (eq_str _ _)))
    rw [List.map_cons]
    unfold compL
    rw [c, Option.bind_some, List.filter_cons]
    dsimp only
    by_cases h : (decide (u = a) && decide (v = b)) = true
    · rw [if_pos h, if_pos h, ih]
      rfl
    · rw [if_neg h, if_neg h]
      exact ih
theorem g_pre {S : List Tr} {p : List Str} (x2 x3 x4 x5 x6 : Option Sl) (h : p ≠ []) (n : p.Nodup) (hl : p.length ≤ 7) : gIf (EG S p x2 x3 x4 x5 x6) = some (.nx (EG S p x2 x3 x4 x5 x6)) := by
  have c1 : bNot (fB (fIs "tuple" (fVarB 1))) (EG S p x2 x3 x4 x5 x6) = some false := rfl
  have pl : (p.map D.str).all (plainN 8) = true := by
    rw [List.all_map, List.all_eq_true]
    exact fun _ _ => rfl
  have c2 : fB (f2 (eqO false) (fVarB 1) (fTup fNil)) (EG S p x2 x3 x4 x5 x6) = some false := by
    refine fB_of (f2_of (x := .tup (p.map .str)) (y := .tup []) rfl rfl ?_)
    have : eqSeq false (.tup (p.map .str)) (.tup []) = some (.bl false) := by
      show (if _ then _ else _) = _
      rw [if_pos ⟨pl, rfl⟩]
      cases p with
      | nil => exact absurd rfl h
      | cons a p => rfl
    unfold eqO
    rw [this]
    rfl
  have c3 : fB (f2 (neE) (fLenSet (fVarB 1)) (fCallB lenD (fCons (fVarB 1) fNil))) (EG S p x2 x3 x4 x5 x6) = some false := by
    refine fB_of (f2_of (x := .int (p.length : Int)) (y := .int (p.length : Int)) ?_ (len_str p) (by rw [ne_int]; simp))
    show ((strsD (p.map .str)).bind fun zs => if zs.length < 4000 then some (D.int ((sortS zs).length : Int)) else none) = _
    rw [strs_of, Option.bind_some, if_pos (by omega), sort_len n]
  unfold gIf gPre
  rw [if_no (or_no c1 (or_no c2 c3))]
  rfl
theorem g_step {S : List Tr} (ok : Steps S) {p : List Str} (hl : p.length ≤ 7) (hS : S.length ≤ 900) {m : Int} (hm : m = 0 ∨ m = 1) (x4 x5 x6 : Option Sl) (k : Nat) {a b : Str} (ha : p[k]? = some a) (hb : p[(k + 1) % p.length]? = some b) {r : Int} (he : (a, b, r) ∈ S) :
    ∃ m' y6, gF (EG S p (some (.sh (.int m))) (some (.sh (.int (k : Int)))) x4 x5 x6) = some (.nx (EG S p (some (.sh (.int m'))) (some (.sh (.int (k : Int)))) (some (.sh (.str a))) (some (.sh (.str b))) y6)) ∧ (m' = 0 ∨ m' = 1) ∧ m ≤ m' ∧ r ≤ m' := by
  have hlt := (List.getElem?_eq_some_iff.mp ha).1
  have e1 : gOne (EG S p (some (.sh (.int m))) (some (.sh (.int (k : Int)))) x4 x5 x6) = some (.str a) := f2_of (x := .tup (p.map .str)) (y := .int (k : Int)) rfl rfl (ix_tup (by rw [List.getElem?_map, ha]; rfl))
  have e2 : gTwo (EG S p (some (.sh (.int m))) (some (.sh (.int (k : Int)))) (some (.sh (.str a))) x5 x6) = some (.str b) := by
    refine f2_of (x := .tup (p.map .str)) (y := .int (((k + 1) % p.length : Nat) : Int)) rfl (f2_of (x := .int ((k : Int) + 1)) (y := .int (p.length : Int)) rfl (len_str p) ?_) (ix_tup (by rw [List.getElem?_map, hb]; rfl))
    show (if (0 : Int) < (p.length : Int) then some (D.int (((k : Int) + 1) % (p.length : Int))) else none) = _
    rw [if_pos (by omega)]
    rfl
  let zs := (S.filter fun t => decide (t.1 = a) && decide (t.2.1 = b)).map fun t => t.2.2
  have hz : r ∈ zs := List.mem_map.mpr ⟨(a, b, r), List.mem_filter.mpr ⟨he, by simp⟩, rfl⟩
  have hz2 : ∀ z ∈ zs, z = 0 ∨ z = 1 := fun z h => by
    obtain ⟨t, ht, e⟩ := List.mem_map.mp h
    rw [← e]
    exact ok.two t.1 t.2.1 t.2.2 (List.mem_filter.mp ht).1
  have hzl : zs.length ≤ 900 := by
    show ((S.filter _).map _).length ≤ 900
    rw [List.length_map]
    exact Nat.le_trans (List.length_filter_le _ _) hS
  have e3 : gSome (EG S p (some (.sh (.int m))) (some (.sh (.int (k : Int)))) (some (.sh (.str a))) (some (.sh (.str b))) x6) = some (.lst (zs.map .int)) := by
    have hc := comp_s a b _ rfl S
    have : fComp 1 [4, 5] 0 (oSeq (fVar 0)) gCc (f2 ixA (fVarB 0) (fC (.int 2))) (EG S p (some (.sh (.int m))) (some (.sh (.int (k : Int)))) (some (.sh (.str a))) (some (.sh (.str b))) x6) = some (.fr (.lst (zs.map .int))) := by
      unfold fComp
      rw [show oSeq (fVar 0) (EG S p (some (.sh (.int m))) (some (.sh (.int (k : Int)))) (some (.sh (.str a))) (some (.sh (.str b))) x6) = some (S.map sD) from rfl, Option.bind_some, if_pos (by rw [List.length_map]; exact Nat.le_trans hS (by decide))]
      rw [show csD 1 [4, 5] (EG S p (some (.sh (.int m))) (some (.sh (.int (k : Int)))) (some (.sh (.str a))) (some (.sh (.str b))) x6) = (none :: [some (.sh (.str a)), some (.sh (.str b))]) from rfl, hc]
      show some (Rs.fr (.lst _)) = _
      rw [show zs.map D.int = (S.filter fun t => decide (t.1 = a) && decide (t.2.1 = b)).map fun t => .int t.2.2 from List.map_map]
    unfold gSome fPub
    rw [this]
    rfl
  have ne : zs ≠ [] := fun z => by rw [z] at hz; cases hz
  have e4 : gNo (EG S p (some (.sh (.int m))) (some (.sh (.int (k : Int)))) (some (.sh (.str a))) (some (.sh (.str b))) (some (.sh (.lst (zs.map .int))))) = some (.nx (EG S p (some (.sh (.int m))) (some (.sh (.int (k : Int)))) (some (.sh (.str a))) (some (.sh (.str b))) (some (.sh (.lst (zs.map .int)))))) := by
    have pl : (zs.map D.int).all (plainN 8) = true := by
      rw [List.all_map, List.all_eq_true]
      exact fun _ _ => rfl
    have : eqSeq false (.lst (zs.map .int)) (.lst []) = some (.bl false) := by
      show (if _ then _ else _) = _
      rw [if_pos ⟨pl, rfl⟩]
      revert ne
      cases zs with
      | nil => exact fun h => absurd rfl h
      | cons a p => exact fun _ => rfl
    unfold gNo
    rw [if_no (fB_of (f2_of (x := .lst (zs.map .int)) (y := .lst []) rfl rfl (by unfold eqO; rw [this]; rfl)))]
    rfl
  obtain ⟨m', em, hm1, hm2⟩ := max_list (zs := m :: zs) (by simp)
  have e5 : gMax (EG S p (some (.sh (.int m))) (some (.sh (.int (k : Int)))) (some (.sh (.str a))) (some (.sh (.str b))) (some (.sh (.lst (zs.map .int))))) = some (.int m') := by
    have a1 : f2 addD (fPub (fLstR (fCons (fVar 2) fNil))) (fVarB 6) (EG S p (some (.sh (.int m))) (some (.sh (.int (k : Int)))) (some (.sh (.str a))) (some (.sh (.str b))) (some (.sh (.lst (zs.map .int))))) = some (.lst ((m :: zs).map .int)) := by
      refine f2_of (x := .lst [.int m]) (y := .lst (zs.map .int)) rfl rfl ?_
      have : lAdd (.lst [.int m]) (.lst (zs.map .int)) = some (.lst ([D.int m] ++ zs.map .int)) := if_pos (Nat.le_trans (show [D.int m].length + (zs.map D.int).length ≤ 1000 by rw [List.length_map, List.length_singleton]; omega) (by decide))
      unfold addD
      rw [this]
      rfl
    unfold gMax fCallB
    rw [cons1 a1, Option.bind_some, em]
  refine ⟨m', some (.sh (.lst (zs.map .int))), ?_, ?_, hm2 m (by simp), hm2 r (List.mem_cons_of_mem _ hz)⟩
  · unfold gF
    rw [seq_nx (δ' := EG S p (some (.sh (.int m))) (some (.sh (.int (k : Int)))) (some (.sh (.str a))) x5 x6) (by rw [set_of e1]; rfl),
      seq_nx (δ' := EG S p (some (.sh (.int m))) (some (.sh (.int (k : Int)))) (some (.sh (.str a))) (some (.sh (.str b))) x6) (by rw [set_of e2]; rfl),
      seq_nx (δ' := EG S p (some (.sh (.int m))) (some (.sh (.int (k : Int)))) (some (.sh (.str a))) (some (.sh (.str b))) (some (.sh (.lst (zs.map .int))))) (by rw [set_of e3]; rfl),
      seq_nx e4, seq1, set_of e5]
    rfl
  · rcases List.mem_cons.mp hm1 with h | h
    · rw [h]; exact hm
    · exact hz2 m' h
theorem isr_go (a b : D) : M__law_is_ring [a, b] = (match fb__law_is_ring [some (.sh a), some (.sh b), none, none, none, none, none] with | some (.rt d _) => some d | some (.nx _) => some (.sh .non) | _ => none) := by
  unfold M__law_is_ring runF
  exact if_pos rfl
theorem e_is_ring {S S' : List Tr} (ok : Okay S') (sub : ∀ t, t ∈ S → t ∈ S') (hS : S'.length ≤ 900) {p : List Str} (h : Rg S p) : M__law_is_ring [.lst (S'.map sD), .tup (p.map .str)] = some (.sh (.bl true)) := by
  obtain ⟨u, v, huv, w, hn⟩ := h
  have hl : p.length ≤ 7 := nm_len w.nd hn
  obtain ⟨q, hq⟩ := w.ls
  have hne : p ≠ [] := by rw [hq]; simp
  have hpos : 0 < p.length := List.length_pos_iff.mpr hne
  have h0 : p[0]? = some v := by rw [← w.hd]; cases p <;> rfl
  have hlast : p[p.length - 1]? = some u := by rw [hq]; simp
  -- each has a step to the next one
  have each : ∀ k, k < p.length → ∃ a b r, p[k]? = some a ∧ p[(k + 1) % p.length]? = some b ∧ (a, b, r) ∈ S' ∧ (k = p.length - 1 → r = 1) := fun k hk => by
    by_cases hk1 : k = p.length - 1
    · refine ⟨u, v, 1, by rw [hk1]; exact hlast, ?_, sub _ huv, fun _ => rfl⟩
      rw [show k + 1 = p.length by omega, Nat.mod_self]
      exact h0
    · have h1 : k + 1 < p.length := by omega
      obtain ⟨r, hr⟩ := w.ch.at_ k p[k] p[k + 1] (List.getElem?_eq_getElem hk) (List.getElem?_eq_getElem h1)
      exact ⟨p[k], p[k + 1], r, List.getElem?_eq_getElem hk, by rw [Nat.mod_eq_of_lt h1]; exact List.getElem?_eq_getElem h1, sub _ hr, fun z => absurd z hk1⟩
  obtain ⟨δ, e, m, x3, x4, x5, x6, rfl, hm, hlst⟩ := forL_nx (i := 3) (F := gF) (g := fun (k : Nat) => D.int (0 + (k : Int))) (fun pre δ => ∃ m x3 x4 x5 x6, δ = EG S' p (some (.sh (.int m))) x3 x4 x5 x6 ∧ (m = 0 ∨ m = 1) ∧ (p.length - 1 ∈ pre → m = 1)) (List.range p.length) [] (EG S' p (some (.sh (.int 0))) none none none none) ⟨0, none, none, none, none, rfl, .inl rfl, fun z => nomatch z⟩ (by
    rintro pre k hk δ ⟨m, x3, x4, x5, x6, rfl, hm, hlst⟩
    have hk := List.mem_range.mp hk
    obtain ⟨a, b, r, ha, hb, hr, hr1⟩ := each k hk
    obtain ⟨m', y6, e, hm', g1, g2⟩ := g_step ok.toSteps hl hS hm x4 x5 x6 k ha hb hr
    refine ⟨_, ?_, m', some (.sh (.int (k : Int))), some (.sh (.str a)), some (.sh (.str b)), y6, rfl, hm', fun z => ?_⟩
    · show gF (EG S' p (some (.sh (.int m))) (some (.sh (.int (0 + (k : Int))))) x4 x5 x6) = _
      rw [Int.zero_add, e]
    · rcases List.mem_append.mp z with z | z
      · have := hlst z; omega
      · have := hr1 (List.mem_singleton.mp z).symm; omega)
  have hm1 : m = 1 := hlst (by simp; omega)
  subst hm1
  have s2 : sFor 3 (oRng (fCallB lenD (fCons (fVarB 1) fNil))) gF (EG S' p (some (.sh (.int 0))) none none none none) = some (.nx (EG S' p (some (.sh (.int 1))) x3 x4 x5 x6)) := by
    unfold sFor
    rw [o_rng (n := p.length) (len_str p) (by omega), Option.bind_some]
    exact e
  rw [isr_go, fb_isrE, show [some (Sl.sh (.lst (S'.map sD))), some (.sh (.tup (p.map .str))), none, none, none, none, none] = EG S' p none none none none none from rfl, seq_nx (g_pre (S := S') none none none none none hne w.nd hl), seq_nx (δ' := EG S' p (some (.sh (.int 0))) none none none none) rfl, seq_nx s2]
  rfl
end K05
set_option Elab.async false
set_option linter.all false
set_option maxRecDepth 100000
set_option maxHeartbeats 4000000
namespace K05
open PySem PySem.Spec PyProof.Rows L2
structure Ru where
  hd : Str
  g : Bool
  body : List (Bool × Str)
def kndS (n : Bool) : Str := if n = true then "not" else "yes"
def lD (l : Bool × Str) : D := .tup [.str (kndS l.1), .str l.2, .tup [.str "X"]]
def gD (g : Bool) : D := if g = true then .tup [.tup [.str "count"]] else .tup [.str "X"]
def rD (R : Ru) : D := .tup [.str R.hd, gD R.g, .tup (R.body.map lD)]
structure OkR (R : Ru) : Prop where
  hd : R.hd ∈ nm
  bd : ∀ l ∈ R.body, l.2 ∈ nm
  ne : R.body ≠ []
  len : R.body.length ≤ 3
def rs (R : Ru) (l : Bool × Str) : Int := if (R.g || l.1) = true then 1 else 0
def stp (R : Ru) : List Tr := R.body.map fun l => (l.2, R.hd, rs R l)
theorem e_group (R : Ru) : M_is_group [rD R] = some (.sh (.bl R.g)) := by
  obtain ⟨h, g, b⟩ := R
  cases g <;> rfl
theorem e_has (l : Bool × Str) : M_has_predicate [lD l] = some (.sh (.bl true)) := by
  obtain ⟨n, p⟩ := l
  have hk : inE false (.str (kndS n)) (.tup [.str "yes", .str "not"]) = some (.bl true) := by cases n <;> kernel_rfl
  have t : fTup (fCons (fC (.str "yes")) (fCons (fC (.str "not")) fNil)) [some (.sh (lD (n, p)))] = some (.tup [.str "yes", .str "not"]) := tup_of (cons2 rfl rfl) (by simp)
  have s : fb_has_predicate [some (.sh (lD (n, p)))] = some (.rt (.sh (.bl true)) [some (.sh (lD (n, p)))]) := by
    unfold fb_has_predicate
    rw [seq_rt (ret_of (f2_of (x := .str (kndS n)) rfl t hk))]
  have go : M_has_predicate [lD (n, p)] = (match fb_has_predicate [some (.sh (lD (n, p)))] with | some (.rt d _) => some d | some (.nx _) => some (.sh .non) | _ => none) := by
    unfold M_has_predicate runF
    exact if_pos rfl
  rw [go, s]
def nmD : D := .lst [.str "p", .str "q", .str "r", .str "s", .str "t", .str "u", .str "v"]
theorem nm_at {i : Int} (h : 0 ≤ i) (h7 : i < 7) : ∃ x ∈ nm, ixA nmD (.int i) = some (.str x) := by
  have : i = 0 ∨ i = 1 ∨ i = 2 ∨ i = 3 ∨ i = 4 ∨ i = 5 ∨ i = 6 := by omega
  rcases this with h | h | h | h | h | h | h <;> subst h
  · exact ⟨"p", by simp [nm], rfl⟩
  · exact ⟨"q", by simp [nm], rfl⟩
  · exact ⟨"r", by simp [nm], rfl⟩
  · exact ⟨"s", by simp [nm], rfl⟩
  · exact ⟨"t", by simp [nm], rfl⟩
  · exact ⟨"u", by simp [nm], rfl⟩
  · exact ⟨"v", by simp [nm], rfl⟩
theorem mod_of {a b : Int} (h : 0 < b) : modD (.int a) (.int b) = some (.int (a % b)) := if_pos h
def uN : FS := sSet 2 (fPub (fLstR (fCons (fC (.str "p")) (fCons (fC (.str "q")) (fCons (fC (.str "r")) (fCons (fC (.str "s")) (fCons (fC (.str "t")) (fCons (fC (.str "u")) (fCons (fC (.str "v")) fNil)))))))))
def uH : FS := sSet 3 (f2 modD (fVarB 0) (fC (.int 7)))
def uG : FS := sSet 4 (f2 (eqO false) (f2 modD (f2 fdivD (fVarB 0) (fC (.int 7))) (fC (.int 5))) (fC (.int 4)))
def uM : FS := sSet 5 (f2 modD (f2 fdivD (fVarB 0) (fC (.int 35))) (fC (.int 3)))
def uT : FS := sIf (bAnd (fB (fVar 1)) (fB (fVar 4))) (sSeq (sSet 6 (fVar 3)) sNil) sNil
def uZ : FS := sIf (fB (f2 (eqO false) (fVarB 6) (fC (.int 0)))) (sSeq (sSet 4 (fC (.bl false))) (sSeq (sSet 6 (fC (.int 7))) sNil)) sNil
def uB : FE := fTup (fCons (fTup (fCons (fC (.str "yes")) (fCons (f2 ixA (fVarB 2) (f2 modD (fVarB 0) (fVarB 6))) (fCons (fTup (fCons (fC (.str "X")) fNil)) fNil)))) fNil)
def uK : FE := f2 ixA (fPub (fLstR (fCons (fC (.str "yes")) (fCons (fC (.str "not")) fNil)))) (f2 modD (fVarB 0) (fC (.int 2)))
def uT2 : FS := sIf (bAnd (fB (fVar 1)) (fB (f2 (eqO false) (fVarB 9) (fC (.str "not"))))) (sSeq (sSet 10 (fVar 3)) sNil) sNil
def uZ2 : FS := sIf (fB (f2 (eqO false) (fVarB 10) (fC (.int 0)))) (sSeq (sSet 9 (fC (.str "yes"))) (sSeq (sSet 10 (fC (.int 7))) sNil)) sNil
def uB2 : FE := f2 addD (fVarB 7) (fTup (fCons (fTup (fCons (fVar 9) (fCons (f2 ixA (fVarB 2) (f2 modD (fVarB 0) (fVarB 10))) (fCons (fTup (fCons (fC (.str "X")) fNil)) fNil)))) fNil))
def uF : FS := sSeq (sSet 0 (f2 fdivD (fVarB 0) (fC (.int 7)))) (sSeq (sSet 9 uK) (sSeq (sSet 0 (f2 fdivD (fVarB 0) (fC (.int 2)))) (sSeq (sSet 10 (fVar 6)) (sSeq uT2 (sSeq uZ2 (sSeq (sSet 7 uB2) sNil))))))
def uR : FE := fTup (fCons (f2 ixA (fVarB 2) (fVarB 3)) (fCons (f2 ixA (fPub (fLstR (fCons (fTup (fCons (fC (.str "X")) fNil)) (fCons (fTup (fCons (fTup (fCons (fC (.str "count")) fNil)) fNil)) fNil)))) (fCallB intD (fCons (fVarB 4) fNil))) (fCons (fVar 7) fNil)))
theorem fb_ruleE : fb__law_rule = sSeq uN (sSeq uH (sSeq uG (sSeq uM (sSeq (sSet 0 (f2 fdivD (fVarB 0) (fC (.int 105)))) (sSeq (sSet 6 (fC (.int 7))) (sSeq uT (sSeq uZ (sSeq (sSet 7 uB) (sSeq (sFor 8 (oRng (fVar 5)) uF) (sSeq (sRet (fSh uR)) sNil)))))))))) := rfl
def ER (c : Int) (t : Bool) (h : Int) (g : Bool) (m b : Int) (body : List (Bool × Str)) (x8 x9 x10 : Option Sl) : En := [some (.sh (.int c)), some (.sh (.bl t)), some (.sh nmD), some (.sh (.int h)), some (.sh (.bl g)), some (.sh (.int m)), some (.sh (.int b)), some (.sh (.tup (body.map lD))), x8, x9, x10]
theorem knd_eq (n : Bool) : eqO false (.str (kndS n)) (.str "not") = some (.bl n) := by cases n <;> kernel_rfl
theorem u_lit {n : Bool} {x : Str} {f g : FE} {δ : En} (hf : f δ = some (.str (kndS n))) (hg : g δ = some (.str x)) : fTup (fCons f (fCons g (fCons (fTup (fCons (fC (.str "X")) fNil)) fNil))) δ = some (lD (n, x)) :=
  tup_of (cons3 hf hg (tup_of (cons1 rfl) (by simp))) (by simp)
theorem u_step {c : Int} {t : Bool} {h : Int} {g : Bool} {m b : Int} {body : List (Bool × Str)} {x9 x10 : Option Sl} (k : D) (hh : 0 ≤ h ∧ h < 7) (hb : 0 < b ∧ b ≤ 7) (hl : body.length ≤ 10) :
    ∃ c' l y9 y10, uF (ER c t h g m b body (some (.sh k)) x9 x10) = some (.nx (ER c' t h g m b (body ++ [l]) (some (.sh k)) y9 y10)) ∧ l.2 ∈ nm := by
  obtain ⟨n, hn⟩ : ∃ n : Bool, uK (ER (c / 7) t h g m b body (some (.sh k)) x9 x10) = some (.str (kndS n)) := by
    have h2 : c / 7 % 2 = 0 ∨ c / 7 % 2 = 1 := by omega
    rcases h2 with h2 | h2
    · exact ⟨false, f2_of (x := .lst [.str "yes", .str "not"]) (y := .int (c / 7 % 2)) rfl rfl (by rw [h2]; rfl)⟩
    · exact ⟨true, f2_of (x := .lst [.str "yes", .str "not"]) (y := .int (c / 7 % 2)) rfl rfl (by rw [h2]; rfl)⟩
  have s1 : sSet 0 (f2 fdivD (fVarB 0) (fC (.int 7))) (ER c t h g m b body (some (.sh k)) x9 x10) = some (.nx (ER (c / 7) t h g m b body (some (.sh k)) x9 x10)) := rfl
  have s2 : sSet 9 uK (ER (c / 7) t h g m b body (some (.sh k)) x9 x10) = some (.nx (ER (c / 7) t h g m b body (some (.sh k)) (some (.sh (.str (kndS n)))) x10)) := by rw [set_of hn]; rfl
  have s3 : sSet 0 (f2 fdivD (fVarB 0) (fC (.int 2))) (ER (c / 7) t h g m b body (some (.sh k)) (some (.sh (.str (kndS n)))) x10) = some (.nx (ER (c / 7 / 2) t h g m b body (some (.sh k)) (some (.sh (.str (kndS n)))) x10)) := rfl
  have s4 : sSet 10 (fVar 6) (ER (c / 7 / 2) t h g m b body (some (.sh k)) (some (.sh (.str (kndS n)))) x10) = some (.nx (ER (c / 7 / 2) t h g m b body (some (.sh k)) (some (.sh (.str (kndS n)))) (some (.sh (.int b))))) := rfl
  generalize c / 7 / 2 = e at s3 s4
  have s5 : ∃ z : Int, 0 ≤ z ∧ z ≤ 7 ∧ uT2 (ER e t h g m b body (some (.sh k)) (some (.sh (.str (kndS n)))) (some (.sh (.int b)))) = some (.nx (ER e t h g m b body (some (.sh k)) (some (.sh (.str (kndS n)))) (some (.sh (.int z))))) := by
    have cnd : bAnd (fB (fVar 1)) (fB (f2 (eqO false) (fVarB 9) (fC (.str "not")))) (ER e t h g m b body (some (.sh k)) (some (.sh (.str (kndS n)))) (some (.sh (.int b)))) = some (t && n) := and_of (fB_of rfl) (fB_of (f2_of (x := .str (kndS n)) rfl rfl (knd_eq n)))
    unfold uT2
    cases ht : t && n with
    | true =>
      rw [ht] at cnd
      refine ⟨h, hh.1, by omega, ?_⟩
      rw [if_yes cnd]
      rfl
    | false =>
      rw [ht] at cnd
      refine ⟨b, by omega, by omega, ?_⟩
      rw [if_no cnd]
      rfl
  obtain ⟨z, z0, z7, s5⟩ := s5
  have s6 : ∃ (n' : Bool) (z' : Int), 0 < z' ∧ z' ≤ 7 ∧ uZ2 (ER e t h g m b body (some (.sh k)) (some (.sh (.str (kndS n)))) (some (.sh (.int z)))) = some (.nx (ER e t h g m b body (some (.sh k)) (some (.sh (.str (kndS n')))) (some (.sh (.int z'))))) := by
    have cnd : fB (f2 (eqO false) (fVarB 10) (fC (.int 0))) (ER e t h g m b body (some (.sh k)) (some (.sh (.str (kndS n)))) (some (.sh (.int z)))) = some (decide (z = 0)) := fB_of (f2_of (x := .int z) (y := .int 0) rfl rfl (eq_int _ _))
    unfold uZ2
    by_cases hz : z = 0
    · refine ⟨false, 7, by omega, by omega, ?_⟩
      rw [if_yes (by rw [cnd, decide_eq_true hz])]
      rfl
    · refine ⟨n, z, by omega, by omega, ?_⟩
      rw [if_no (by rw [cnd, decide_eq_false hz])]
      rfl
  obtain ⟨n', z', q0, q7, s6⟩ := s6
  obtain ⟨x, hx, ex⟩ := nm_at (i := e % z') (Int.emod_nonneg _ (by omega)) (by have := Int.emod_lt_of_pos e q0; omega)
  have s7 : uB2 (ER e t h g m b body (some (.sh k)) (some (.sh (.str (kndS n')))) (some (.sh (.int z')))) = some (.tup ((body ++ [(n', x)]).map lD)) := by
    refine f2_of (x := .tup (body.map lD)) (y := .tup [lD (n', x)]) rfl (tup_of (cons1 (u_lit rfl (f2_of (x := nmD) (y := .int (e % z')) rfl (f2_of (x := .int e) (y := .int z') rfl rfl (mod_of q0)) ex))) (by simp)) ?_
    rw [add_tup (by rw [List.length_map, List.length_singleton]; omega)]
    simp
  refine ⟨e, (n', x), some (.sh (.str (kndS n'))), some (.sh (.int z')), ?_, hx⟩
  unfold uF
  rw [seq_nx s1, seq_nx s2, seq_nx s3, seq_nx s4, seq_nx s5, seq_nx s6, seq1, set_of s7]
  rfl
theorem rule_go (a b : D) : M__law_rule [a, b] = (match fb__law_rule [some (.sh a), some (.sh b), none, none, none, none, none, none, none, none, none] with | some (.rt d _) => some d | some (.nx _) => some (.sh .non) | _ => none) := by
  unfold M__law_rule runF
  exact if_pos rfl
theorem e_rule (c : Int) (t : Bool) : ∃ R, OkR R ∧ M__law_rule [.int c, .bl t] = some (.sh (rD R)) := by
  let m : Int := c / 35 % 3
  let h : Int := c % 7
  have hh : 0 ≤ h ∧ h < 7 := ⟨Int.emod_nonneg _ (by decide), Int.emod_lt_of_pos _ (by decide)⟩
  have hm : 0 ≤ m ∧ m < 3 := ⟨Int.emod_nonneg _ (by decide), Int.emod_lt_of_pos _ (by decide)⟩
  obtain ⟨g, hg⟩ : ∃ g : Bool, uG [some (.sh (.int c)), some (.sh (.bl t)), some (.sh nmD), some (.sh (.int h)), none, none, none, none, none, none, none] = some (.nx [some (.sh (.int c)), some (.sh (.bl t)), some (.sh nmD), some (.sh (.int h)), some (.sh (.bl g)), none, none, none, none, none, none]) := by
    refine ⟨decide (c / 7 % 5 = 4), ?_⟩
    unfold uG
    rw [set_of (f2_of (x := .int (c / 7 % 5)) (y := .int 4) rfl rfl (eq_int _ _))]
    rfl
  have s1 : uN [some (.sh (.int c)), some (.sh (.bl t)), none, none, none, none, none, none, none, none, none] = some (.nx [some (.sh (.int c)), some (.sh (.bl t)), some (.sh nmD), none, none, none, none, none, none, none, none]) := rfl
  have s2 : uH [some (.sh (.int c)), some (.sh (.bl t)), some (.sh nmD), none, none, none, none, none, none, none, none] = some (.nx [some (.sh (.int c)), some (.sh (.bl t)), some (.sh nmD), some (.sh (.int h)), none, none, none, none, none, none, none]) := rfl
  have s4 : uM [some (.sh (.int c)), some (.sh (.bl t)), some (.sh nmD), some (.sh (.int h)), some (.sh (.bl g)), none, none, none, none, none, none] = some (.nx [some (.sh (.int c)), some (.sh (.bl t)), some (.sh nmD), some (.sh (.int h)), some (.sh (.bl g)), some (.sh (.int m)), none, none, none, none, none]) := rfl
  have s5 : sSet 0 (f2 fdivD (fVarB 0) (fC (.int 105))) [some (.sh (.int c)), some (.sh (.bl t)), some (.sh nmD), some (.sh (.int h)), some (.sh (.bl g)), some (.sh (.int m)), none, none, none, none, none] = some (.nx [some (.sh (.int (c / 105))), some (.sh (.bl t)), some (.sh nmD), some (.sh (.int h)), some (.sh (.bl g)), some (.sh (.int m)), none, none, none, none, none]) := rfl
  generalize c / 105 = e at s5
  let E0 (g : Bool) (b : Int) : En := [some (.sh (.int e)), some (.sh (.bl t)), some (.sh nmD), some (.sh (.int h)), some (.sh (.bl g)), some (.sh (.int m)), some (.sh (.int b)), none, none, none, none]
  have s6 : ∃ b : Int, 0 ≤ b ∧ b ≤ 7 ∧ uT (E0 g 7) = some (.nx (E0 g b)) := by
    have cnd : bAnd (fB (fVar 1)) (fB (fVar 4)) (E0 g 7) = some (t && g) := and_of (fB_of rfl) (fB_of rfl)
    unfold uT
    cases ht : t && g with
    | true =>
      rw [ht] at cnd
      refine ⟨h, hh.1, by omega, ?_⟩
      rw [if_yes cnd]
      rfl
    | false =>
      rw [ht] at cnd
      refine ⟨7, by omega, by omega, ?_⟩
      rw [if_no cnd]
      rfl
  obtain ⟨b, b0, b7, s6⟩ := s6
  have s7 : ∃ (g' : Bool) (b' : Int), 0 < b' ∧ b' ≤ 7 ∧ uZ (E0 g b) = some (.nx (E0 g' b')) := by
    have cnd : fB (f2 (eqO false) (fVarB 6) (fC (.int 0))) (E0 g b) = some (decide (b = 0)) := fB_of (f2_of (x := .int b) (y := .int 0) rfl rfl (eq_int _ _))
    unfold uZ
    by_cases hz : b = 0
    · refine ⟨false, 7, by omega, by omega, ?_⟩
      rw [if_yes (by rw [cnd, decide_eq_true hz])]
      rfl
    · refine ⟨g, b, by omega, by omega, ?_⟩
      rw [if_no (by rw [cnd, decide_eq_false hz])]
      rfl
  obtain ⟨g', b', q0, q7, s7⟩ := s7
  obtain ⟨x, hx, ex⟩ := nm_at (i := e % b') (Int.emod_nonneg _ (by omega)) (by have := Int.emod_lt_of_pos e q0; omega)
  obtain ⟨y, hy, ey⟩ := nm_at (i := h) hh.1 hh.2
  have s8 : sSet 7 uB (E0 g' b') = some (.nx (ER e t h g' m b' [(false, x)] none none none)) := by
    have : uB (E0 g' b') = some (.tup ([(false, x)].map lD)) := tup_of (cons1 (u_lit (n := false) rfl (f2_of (x := nmD) (y := .int (e % b')) rfl (f2_of (x := .int e) (y := .int b') rfl rfl (mod_of q0)) ex))) (by simp)
    rw [set_of this]
    rfl
  obtain ⟨n, hn⟩ : ∃ n : Nat, m = (n : Int) := ⟨m.toNat, by omega⟩
  obtain ⟨δ, s9, c', body, x8, x9, x10, rfl, hb1, hb2, hb3⟩ := forL_pq (i := 8) (F := uF) (g := fun (k : Nat) => D.int (0 + (k : Int))) (fun pre δ => ∃ c' body x8 x9 x10, δ = ER c' t h g' m b' body x8 x9 x10 ∧ (∀ l ∈ body, l.2 ∈ nm) ∧ body ≠ [] ∧ body.length = 1 + pre.length) (List.range n) [] (ER e t h g' m b' [(false, x)] none none none) ⟨e, [(false, x)], none, none, none, rfl, fun l hl => by rw [List.mem_singleton.mp hl]; exact hx, by simp, rfl⟩ (by
    rintro p k q hpq δ ⟨c1, body, x8, x9, x10, rfl, hb1, hb2, hb3⟩
    have hlen : p.length < n := by
      have := congrArg List.length hpq
      simp at this
      omega
    obtain ⟨c2, l, y9, y10, es, hl⟩ := u_step (c := c1) (t := t) (h := h) (g := g') (m := m) (b := b') (body := body) (x9 := x9) (x10 := x10) (D.int (0 + (k : Int))) hh ⟨q0, q7⟩ (by omega)
    refine ⟨_, es, c2, body ++ [l], _, y9, y10, rfl, fun l' hl' => ?_, by simp, by simp; omega⟩
    rcases List.mem_append.mp hl' with hl' | hl'
    · exact hb1 l' hl'
    · rw [List.mem_singleton.mp hl']; exact hl)
  have hb4 : body.length ≤ 3 := by
    rw [hb3]
    simp
    omega
  refine ⟨⟨y, g', body⟩, ⟨hy, hb1, hb2, hb4⟩, ?_⟩
  have s9' : sFor 8 (oRng (fVar 5)) uF (ER e t h g' m b' [(false, x)] none none none) = some (.nx (ER c' t h g' m b' body x8 x9 x10)) := by
    unfold sFor
    rw [o_rng (n := n) (by rw [← hn]; rfl) (by omega), Option.bind_some]
    exact s9
  have s10 : sRet (fSh uR) (ER c' t h g' m b' body x8 x9 x10) = some (.rt (.sh (rD ⟨y, g', body⟩)) (ER c' t h g' m b' body x8 x9 x10)) := by
    refine ret_of (tup_of (cons3 (f2_of (x := nmD) (y := .int h) rfl rfl ey) ?_ rfl) (by simp))
    cases g' <;> rfl
  rw [rule_go, fb_ruleE, seq_nx s1, seq_nx s2, seq_nx hg, seq_nx s4, seq_nx s5, seq_nx (δ' := E0 g 7) rfl, seq_nx s6, seq_nx s7, seq_nx s8, seq_nx s9', seq_rt s10]
end K05
set_option Elab.async false
set_option linter.all false
set_option maxRecDepth 100000
set_option maxHeartbeats 4000000
namespace K05
open PySem PySem.Spec PyProof.Rows L2
abbrev NR := Key × Ru
def rdic (zs : List NR) : Mo := .dic (zs.map (·.1)) (zs.map fun z => rD z.2)
def allS (zs : List NR) : List Tr := zs.flatMap fun z => stp z.2
theorem val_zs : ∀ {zs : List NR} {z : NR}, (zs.map (·.1)).Nodup → z ∈ zs → valD (zs.map (·.1)) (zs.map fun z => rD z.2) z.1 = some (rD z.2)
  | y :: zs, z, hn, hz => by
    rw [List.map_cons, List.nodup_cons] at hn
    unfold valD
    simp only [List.map_cons, List.zip_cons_cons, List.find?_cons]
    rcases List.mem_cons.mp hz with rfl | hz
    · simp
    · have : ¬ y.1 = z.1 := fun e => hn.1 (by rw [e]; exact List.mem_map.mpr ⟨z, hz, rfl⟩)
      simp only [this, decide_false]
      exact val_zs hn.2 hz
theorem ix_zs {zs : List NR} {z : NR} (hn : (zs.map (·.1)).Nodup) (hz : z ∈ zs) : ixA (rdic zs).d (kD z.1) = some (rD z.2) := by
  have : keyD (kD z.1) = some z.1 := by cases z.1 <;> rfl
  show ((keyD (kD z.1)).bind fun k => valD (zs.map (·.1)) (zs.map fun z => rD z.2) k) = _
  rw [this]
  exact val_zs hn hz
def tApp : FS := sSeq (sApp 1 (fTup (fCons (f2 ixA (fVarB 7) (fC (.int 1))) (fCons (fVar 3) (fCons (fCallB intD (fCons (fOr (fVar 6) (f2 (eqO false) (f2 ixA (fVarB 7) (fC (.int 0))) (fC (.str "not")))) fNil)) fNil))))) sNil
def tUnp : FS := sUnp [3, 4, 5] (xD (f2 ixA (fVarB 0) (fVarB 2)))
def tStr : FS := sSet 6 (fIs "tuple" (f2 ixA (fVarB 4) (fC (.int 0))))
def tF : FS := sSeq tUnp (sSeq tStr (sSeq (sFor 7 (oSeq (fVar 5)) tApp) sNil))
theorem fb_stepsE : fb__law_steps = sSeq (sSetR 1 (fLstR fNil)) (sSeq (sForD false 2 0 tF) (sSeq (sRetV 1) sNil)) := rfl
def ES (zs : List NR) (S : List Tr) (xs : List (Option Sl)) : En := some (.sh (rdic zs).d) :: some (.pv (.lst (S.map sD)) none) :: xs
theorem t_app {zs : List NR} {S : List Tr} (R : Ru) (l : Bool × Str) (x2 x4 x5 : Option Sl) (hS : S.length < 900) : tApp (ES zs S [x2, some (.sh (.str R.hd)), x4, x5, some (.sh (.bl R.g)), some (.sh (lD l))]) = some (.nx (ES zs (S ++ [(l.2, R.hd, rs R l)]) [x2, some (.sh (.str R.hd)), x4, x5, some (.sh (.bl R.g)), some (.sh (lD l))])) := by
  obtain ⟨n, p⟩ := l
  have e1 : fOr (fVar 6) (f2 (eqO false) (f2 ixA (fVarB 7) (fC (.int 0))) (fC (.str "not"))) (ES zs S [x2, some (.sh (.str R.hd)), x4, x5, some (.sh (.bl R.g)), some (.sh (lD (n, p)))]) = some (.bl (R.g || n)) := by
    have a : f2 (eqO false) (f2 ixA (fVarB 7) (fC (.int 0))) (fC (.str "not")) (ES zs S [x2, some (.sh (.str R.hd)), x4, x5, some (.sh (.bl R.g)), some (.sh (lD (n, p)))]) = some (.bl n) := f2_of (x := .str (kndS n)) rfl rfl (knd_eq n)
    unfold fOr
    rw [a]
    show (match some (D.bl R.g) with | some (.bl true) => some (D.bl true) | some (.bl false) => some (.bl n) | _ => none) = _
    cases R.g <;> rfl
  have e2 : fCallB intD (fCons (fOr (fVar 6) (f2 (eqO false) (f2 ixA (fVarB 7) (fC (.int 0))) (fC (.str "not")))) fNil) (ES zs S [x2, some (.sh (.str R.hd)), x4, x5, some (.sh (.bl R.g)), some (.sh (lD (n, p)))]) = some (.int (rs R (n, p))) := by
    unfold fCallB
    rw [cons1 e1]
    rfl
  have e3 : fTup (fCons (f2 ixA (fVarB 7) (fC (.int 1))) (fCons (fVar 3) (fCons (fCallB intD (fCons (fOr (fVar 6) (f2 (eqO false) (f2 ixA (fVarB 7) (fC (.int 0))) (fC (.str "not")))) fNil)) fNil))) (ES zs S [x2, some (.sh (.str R.hd)), x4, x5, some (.sh (.bl R.g)), some (.sh (lD (n, p)))]) = some (sD (p, R.hd, rs R (n, p))) := tup_of (cons3 (x := .str p) rfl rfl e2) (by simp)
  unfold tApp
  rw [seq1]
  unfold sApp
  rw [e3]
  show (if (S.map sD).length < sizeLine then some (Out.nx (some (.sh (rdic zs).d) :: some (.pv (.lst (S.map sD ++ [sD (p, R.hd, rs R (n, p))])) none) :: [x2, some (.sh (.str R.hd)), x4, x5, some (.sh (.bl R.g)), some (.sh (lD (n, p)))])) else none) = _
  rw [if_pos (by rw [List.length_map]; exact Nat.lt_of_lt_of_le hS (by decide))]
  unfold ES
  simp
theorem t_step {zs : List NR} {S : List Tr} (z : NR) (hn : (zs.map (·.1)).Nodup) (hz : z ∈ zs) (x3 x4 x5 x6 x7 : Option Sl) (hS : (S ++ stp z.2).length ≤ 900) :
    ∃ y3 y4 y5 y6 y7, tF (ES zs S [some (.sh (kD z.1)), x3, x4, x5, x6, x7]) = some (.nx (ES zs (S ++ stp z.2) [some (.sh (kD z.1)), y3, y4, y5, y6, y7])) := by
  obtain ⟨k, R⟩ := z
  have e1 : tUnp (ES zs S [some (.sh (kD k)), x3, x4, x5, x6, x7]) = some (.nx (ES zs S [some (.sh (kD k)), some (.sh (.str R.hd)), some (.sh (gD R.g)), some (.sh (.tup (R.body.map lD))), x6, x7])) := by
    have : f2 ixA (fVarB 0) (fVarB 2) (ES zs S [some (.sh (kD k)), x3, x4, x5, x6, x7]) = some (rD R) := f2_of (x := (rdic zs).d) (y := kD k) rfl rfl (ix_zs (z := (k, R)) hn hz)
    unfold tUnp sUnp xD
    rw [this]
    rfl
  have e2 : tStr (ES zs S [some (.sh (kD k)), some (.sh (.str R.hd)), some (.sh (gD R.g)), some (.sh (.tup (R.body.map lD))), x6, x7]) = some (.nx (ES zs S [some (.sh (kD k)), some (.sh (.str R.hd)), some (.sh (gD R.g)), some (.sh (.tup (R.body.map lD))), some (.sh (.bl R.g)), x7])) := by
    cases R.g <;> rfl
  obtain ⟨δ, e, y7, rfl⟩ := forL_pq (i := 7) (F := tApp) (g := lD) (fun pre δ => ∃ x7, δ = ES zs (S ++ pre.map fun l => (l.2, R.hd, rs R l)) [some (.sh (kD k)), some (.sh (.str R.hd)), some (.sh (gD R.g)), some (.sh (.tup (R.body.map lD))), some (.sh (.bl R.g)), x7]) R.body [] (ES zs S [some (.sh (kD k)), some (.sh (.str R.hd)), some (.sh (gD R.g)), some (.sh (.tup (R.body.map lD))), some (.sh (.bl R.g)), x7]) ⟨x7, by simp⟩ (by
    rintro p l q hpq δ ⟨x7, rfl⟩
    have hlen : (S ++ p.map fun l => (l.2, R.hd, rs R l)).length < 900 := by
      have := congrArg List.length hpq
      simp at this
      unfold stp at hS
      simp at hS ⊢
      omega
    refine ⟨_, t_app (zs := zs) R l (some (.sh (kD k))) (some (.sh (gD R.g))) (some (.sh (.tup (R.body.map lD)))) hlen, some (.sh (lD l)), ?_⟩
    simp)
  refine ⟨some (.sh (.str R.hd)), some (.sh (gD R.g)), some (.sh (.tup (R.body.map lD))), some (.sh (.bl R.g)), y7, ?_⟩
  unfold tF
  rw [seq_nx e1, seq_nx e2, seq1]
  exact e
theorem steps_go (a : D) : M__law_steps [a] = (match fb__law_steps [some (.sh a), none, none, none, none, none, none, none] with | some (.rt d _) => some d | some (.nx _) => some (.sh .non) | _ => none) := by
  unfold M__law_steps runF
  exact if_pos rfl
theorem allS_len {zs p q : List NR} {z : NR} (h : zs = p ++ z :: q) (hl : (allS zs).length ≤ 900) : (allS p ++ stp z.2).length ≤ 900 := by
  subst h
  unfold allS at *
  simp at hl ⊢
  omega
theorem allS_snoc (p : List NR) (z : NR) : allS (p ++ [z]) = allS p ++ stp z.2 := by simp [allS]
theorem e_lsteps {zs : List NR} (hn : (zs.map (·.1)).Nodup) (hl : (allS zs).length ≤ 900) : M__law_steps [(rdic zs).d] = some (.fr (.lst ((allS zs).map sD))) := by
  obtain ⟨δ, e, x2, x3, x4, x5, x6, x7, rfl⟩ := forL_pq (i := 2) (F := tF) (g := fun (z : NR) => kD z.1) (fun pre δ => ∃ x2 x3 x4 x5 x6 x7, δ = ES zs (allS pre) [x2, x3, x4, x5, x6, x7]) zs [] (ES zs [] [none, none, none, none, none, none]) ⟨none, none, none, none, none, none, rfl⟩ (by
    rintro p z q hpq δ ⟨x2, x3, x4, x5, x6, x7, rfl⟩
    have hpq : zs = p ++ z :: q := by simpa using hpq
    obtain ⟨y3, y4, y5, y6, y7, e⟩ := t_step (zs := zs) (S := allS p) z hn (by rw [hpq]; simp) x3 x4 x5 x6 x7 (allS_len hpq hl)
    exact ⟨_, e, some (.sh (kD z.1)), y3, y4, y5, y6, y7, by rw [allS_snoc]⟩)
  have s1 : sForD false 2 0 tF (ES zs [] [none, none, none, none, none, none]) = some (.nx (ES zs (allS zs) [x2, x3, x4, x5, x6, x7])) := by
    show forL 2 tF ((zs.map (·.1)).map kD) _ = _
    rw [List.map_map]
    exact e
  rw [steps_go, fb_stepsE, seq_nx (δ' := ES zs [] [none, none, none, none, none, none]) rfl, seq_nx s1]
  rfl
end K05
set_option Elab.async false
set_option linter.all false
set_option maxRecDepth 100000
set_option maxHeartbeats 4000000
namespace K05
open PySem PySem.Spec PyProof.Rows L2
section
variable {P : Program} {w : World}
def tkey (t : Tr) : List Key := [.inr t.1, .inr t.2.1, .inl t.2.2]
theorem tkey_inj {s t : Tr} (h : tkey s = tkey t) : s = t := by
  obtain ⟨a, b, c⟩ := s
  obtain ⟨a', b', c'⟩ := t
  unfold tkey at h
  simp at h
  obtain ⟨h1, h2, h3⟩ := h
  rw [h1, h2, h3]
theorem tkey_mem {S : List Tr} {t : Tr} : tkey t ∈ S.map tkey ↔ t ∈ S := by
  constructor
  · intro h
    obtain ⟨s, hs, e⟩ := List.mem_map.mp h
    rw [← tkey_inj e]; exact hs
  · exact fun h => List.mem_map.mpr ⟨t, h, rfl⟩
def addT (S : List Tr) (t : Tr) : List Tr := if t ∈ S then S else S ++ [t]
theorem addT_mem {S : List Tr} {t y : Tr} : y ∈ addT S t ↔ y ∈ S ∨ y = t := by
  unfold addT
  by_cases h : t ∈ S
  · rw [if_pos h]
    exact ⟨.inl, fun z => z.elim id fun e => e ▸ h⟩
  · rw [if_neg h]; simp
theorem addT_len {S : List Tr} {t : Tr} : (addT S t).length ≤ S.length + 1 := by
  unfold addT
  split
  · omega
  · simp
theorem putT_s {S : List Tr} {t : Tr} : putT (S.map tkey) (tkey t) = (addT S t).map tkey := by
  unfold putT addT
  by_cases h : t ∈ S
  · rw [if_pos (hasT_iff.mpr (tkey_mem.mpr h)), if_pos h]
  · rw [if_neg fun z => h (tkey_mem.mp (hasT_iff.mp z)), if_neg h]
    simp
def zCond : En → Option Bool := fB (fPub (fCallR M_has_predicate (fCons (fVar 3) fNil)))
def zRise : FE := fIf (bOr (fB (f2 (eqO false) (f2 ixA (fVarB 3) (fC (.int 0))) (fC (.str "not")))) (fB (fPub (fCallR M_is_group (fCons (fVar 2) fNil))))) (fC (.int 1)) (fC (.int 0))
def zKey : En → Option (List D) := fCons (f2 ixA (fVarB 3) (fC (.int 1))) (fCons (f2 ixA (fVarB 2) (fC (.int 0))) (fCons (fVar 4) fNil))
noncomputable def zIn (P : Program) (w : World) : FS := sSeq (sIf zCond (sSeq (sSet 4 zRise) (sSeq (sTkPut P w 1 zKey) sNil)) sNil) sNil
noncomputable def zF (P : Program) (w : World) : FS := sSeq (sFor 3 (oSeq (f2 ixA (fVarB 2) (fC (.int 2)))) (zIn P w)) sNil
theorem fb_stofE : fb_steps_of P w = sSeq (sTkNew P w 1) (sSeq (sForD true 2 0 (zF P w)) (sSeq (sRet (fTkL 1)) sNil)) := rfl
def EZ (P : Program) (w : World) (zs : List NR) (S : List Tr) (xs : List (Option Sl)) : En := some (.sh (rdic zs).d) :: some (.tk P w (S.map tkey)) :: xs
theorem z_in {zs : List NR} {S : List Tr} (R : Ru) (l : Bool × Str) (x4 : Option Sl) (hS : S.length ≤ 900) : ∃ y4, zIn P w (EZ P w zs S [some (.sh (rD R)), some (.sh (lD l)), x4]) = some (.nx (EZ P w zs (addT S (l.2, R.hd, rs R l)) [some (.sh (rD R)), some (.sh (lD l)), y4])) := by
  have c : zCond (EZ P w zs S [some (.sh (rD R)), some (.sh (lD l)), x4]) = some true := fB_of (callR_of (cons1 rfl) (e_has l))
  have e1 : zRise (EZ P w zs S [some (.sh (rD R)), some (.sh (lD l)), x4]) = some (.int (rs R l)) := by
    have c1 : fB (f2 (eqO false) (f2 ixA (fVarB 3) (fC (.int 0))) (fC (.str "not"))) (EZ P w zs S [some (.sh (rD R)), some (.sh (lD l)), x4]) = some l.1 := fB_of (f2_of (x := .str (kndS l.1)) rfl rfl (knd_eq l.1))
    have c2 : fB (fPub (fCallR M_is_group (fCons (fVar 2) fNil))) (EZ P w zs S [some (.sh (rD R)), some (.sh (lD l)), x4]) = some R.g := fB_of (callR_of (cons1 rfl) (e_group R))
    unfold zRise fIf
    rw [or_of c1 c2, Option.bind_some]
    unfold rs
    cases l.1 <;> cases R.g <;> rfl
  refine ⟨some (.sh (.int (rs R l))), ?_⟩
  have e2 : sTkPut P w 1 zKey (EZ P w zs S [some (.sh (rD R)), some (.sh (lD l)), some (.sh (.int (rs R l)))]) = some (.nx (EZ P w zs (addT S (l.2, R.hd, rs R l)) [some (.sh (rD R)), some (.sh (lD l)), some (.sh (.int (rs R l)))])) := by
    have k : zKey (EZ P w zs S [some (.sh (rD R)), some (.sh (lD l)), some (.sh (.int (rs R l)))]) = some [.str l.2, .str R.hd, .int (rs R l)] := cons3 rfl rfl rfl
    unfold sTkPut
    rw [show (EZ P w zs S [some (.sh (rD R)), some (.sh (lD l)), some (.sh (.int (rs R l)))])[1]? = some (some (.tk P w (S.map tkey))) from rfl]
    dsimp only
    rw [if_pos ⟨rfl, rfl⟩, k, Option.bind_some, show keysT [.str l.2, .str R.hd, .int (rs R l)] = some (tkey (l.2, R.hd, rs R l)) from rfl, Option.bind_some,
      if_pos ⟨Nat.le_trans (show 3 ≤ 1000 by decide) (by decide), by rw [List.length_map]; exact Nat.le_trans hS (by decide), rfl⟩, putT_s]
    rfl
  unfold zIn
  rw [seq1, if_yes c, seq_nx (δ' := EZ P w zs S [some (.sh (rD R)), some (.sh (lD l)), some (.sh (.int (rs R l)))]) (by rw [set_of e1]; rfl), seq1, e2]
theorem z_step {zs : List NR} {S : List Tr} (R : Ru) (x3 x4 : Option Sl) (hS : S.length + R.body.length ≤ 900) : ∃ S' y3 y4, zF P w (EZ P w zs S [some (.sh (rD R)), x3, x4]) = some (.nx (EZ P w zs S' [some (.sh (rD R)), y3, y4])) ∧ S'.length ≤ S.length + R.body.length ∧ ∀ t, t ∈ S' ↔ t ∈ S ∨ t ∈ stp R := by
  obtain ⟨δ, e, S', y3, y4, rfl, h1, h2⟩ := forL_pq (i := 3) (F := zIn P w) (g := lD) (fun pre δ => ∃ S' x3 x4, δ = EZ P w zs S' [some (.sh (rD R)), x3, x4] ∧ S'.length ≤ S.length + pre.length ∧ ∀ t, t ∈ S' ↔ t ∈ S ∨ t ∈ pre.map fun l => (l.2, R.hd, rs R l)) R.body [] (EZ P w zs S [some (.sh (rD R)), x3, x4]) ⟨S, x3, x4, rfl, by simp, by simp⟩ (by
    rintro p l q hpq δ ⟨S', x3, x4, rfl, h1, h2⟩
    have hlen : p.length < R.body.length := by
      have := congrArg List.length hpq
      simp at this
      omega
    obtain ⟨y4, e⟩ := z_in (P := P) (w := w) (zs := zs) (S := S') R l x4 (by omega)
    refine ⟨_, e, addT S' (l.2, R.hd, rs R l), some (.sh (lD l)), y4, rfl, ?_, fun t => ?_⟩
    · have := addT_len (S := S') (t := (l.2, R.hd, rs R l))
      rw [List.length_append, List.length_singleton]
      omega
    · rw [addT_mem, h2, List.map_append, List.mem_append, or_assoc, List.map_singleton, List.mem_singleton])
  refine ⟨S', y3, y4, ?_, by simpa using h1, fun t => by simpa [stp] using h2 t⟩
  unfold zF
  rw [seq1]
  exact e
theorem stof_go (a : D) : M_steps_of P w [a] = (match fb_steps_of P w [some (.sh a), none, none, none, none] with | some (.rt d _) => some d | some (.nx _) => some (.sh .non) | _ => none) := by
  unfold M_steps_of runF
  exact if_pos rfl
theorem stp_len (R : Ru) : (stp R).length = R.body.length := by simp [stp]
theorem e_steps (P : Program) (w : World) {zs : List NR} (hl : (allS zs).length ≤ 900) : ∃ S : List Tr, M_steps_of P w [(rdic zs).d] = some (.fr (.lst (S.map sD))) ∧ ∀ t, t ∈ S ↔ t ∈ allS zs := by
  obtain ⟨δ, e, S, x2, x3, x4, rfl, h1, h2⟩ := forL_pq (i := 2) (F := zF P w) (g := fun (z : NR) => rD z.2) (fun pre δ => ∃ S x2 x3 x4, δ = EZ P w zs S [x2, x3, x4] ∧ S.length ≤ (allS pre).length ∧ ∀ t, t ∈ S ↔ t ∈ allS pre) zs [] (EZ P w zs [] [none, none, none]) ⟨[], none, none, none, rfl, by simp, fun t => by simp [allS]⟩ (by
    rintro p z q hpq δ ⟨S, x2, x3, x4, rfl, h1, h2⟩
    have hpq : zs = p ++ z :: q := by simpa using hpq
    have hlen := allS_len hpq hl
    rw [List.length_append, stp_len] at hlen
    obtain ⟨S', y3, y4, e, k1, k2⟩ := z_step (P := P) (w := w) (zs := zs) (S := S) z.2 x3 x4 (by omega)
    refine ⟨_, e, S', some (.sh (rD z.2)), y3, y4, rfl, ?_, fun t => ?_⟩
    · rw [allS_snoc, List.length_append, stp_len]; omega
    · rw [k2, h2, allS_snoc, List.mem_append])
  refine ⟨S, ?_, by simpa using h2⟩
  have hS : S.length ≤ 900 := Nat.le_trans (by simpa using h1) hl
  have s1 : sForD true 2 0 (zF P w) (EZ P w zs [] [none, none, none]) = some (.nx (EZ P w zs S [x2, x3, x4])) := e
  have s2 : sRet (fTkL 1) (EZ P w zs S [x2, x3, x4]) = some (.rt (.fr (.lst (S.map sD))) (EZ P w zs S [x2, x3, x4])) := by
    have : fTkL 1 (EZ P w zs S [x2, x3, x4]) = some (.fr (.lst (S.map sD))) := by
      show (if (S.map tkey).length ≤ 1000000 then some (Rs.fr (.lst ((S.map tkey).map fun t => .tup (t.map kD)))) else none) = _
      rw [if_pos (by rw [List.length_map]; omega), List.map_map]
      rfl
    unfold sRet
    rw [this]
    rfl
  rw [stof_go, fb_stofE, seq_nx (δ' := EZ P w zs [] [none, none, none]) rfl, seq_nx s1, seq_rt s2]
end
end K05
set_option Elab.async false
set_option linter.all false
set_option maxRecDepth 100000
set_option maxHeartbeats 4000000
namespace K05
open PySem PySem.Spec PyProof.Rows L2
section
variable {P : Program} {w : World}
def OkZ (zs : List NR) : Prop := ∀ z ∈ zs, OkR z.2
theorem allS_mem {zs : List NR} {t : Tr} : t ∈ allS zs ↔ ∃ z ∈ zs, ∃ l ∈ z.2.body, t = (l.2, z.2.hd, rs z.2 l) := by
  unfold allS stp
  rw [List.mem_flatMap]
  constructor
  · rintro ⟨z, hz, h⟩
    obtain ⟨l, hl, e⟩ := List.mem_map.mp h
    exact ⟨z, hz, l, hl, e.symm⟩
  · rintro ⟨z, hz, l, hl, e⟩
    exact ⟨z, hz, List.mem_map.mpr ⟨l, hl, e.symm⟩⟩
theorem allS_ok {zs : List NR} (h : OkZ zs) : Okay (allS zs) := by
  refine ⟨⟨fun u v r m => ?_⟩, fun t m => ?_⟩
  · obtain ⟨z, hz, l, hl, e⟩ := allS_mem.mp m
    cases e
    unfold rs
    split
    · exact .inr rfl
    · exact .inl rfl
  · obtain ⟨z, hz, l, hl, e⟩ := allS_mem.mp m
    rw [e]
    exact ⟨(h z hz).bd l hl, (h z hz).hd⟩
theorem Okay.congr {S S' : List Tr} (h : ∀ t, t ∈ S ↔ t ∈ S') (k : Okay S') : Okay S := ⟨⟨fun u v r m => k.two u v r ((h _).mp m)⟩, fun t m => k.nms t ((h _).mp m)⟩
noncomputable def y1 (P : Program) (w : World) : FS := sSet 1 (fPub (fCallR (M_steps_of P w) (fCons (fVar 0) fNil)))
def y2 : FS := sSet 2 (fPub (fCallR M_ring_of (fCons (fVar 1) fNil)))
def yIf : FS := sIf (fB (f2 (notA) (fVarB 2) (fC .non))) (sSeq (sRaiseI "Ring" "ring" (fVar 2)) sNil) sNil
def yHF : FS := sSeq (sDPutM 3 (f2 ixA (fVarB 4) (fC (.int 0))) (fC (.int 0))) sNil
def ySF : FS := sSeq (sDPutM 3 (f2 ixA (fVarB 5) (fC (.int 0))) (fC (.int 0))) sNil
def yR : FS := fun δ => (sRet (fCallR M_lifted (fCons (fVar 3) (fCons (fVar 1) fNil)))) (pubS 3 δ)
theorem fb_layE : fb_layers_of P w = sSeq (y1 P w) (sSeq y2 (sSeq yIf (sSeq (sSetR 3 fDicR) (sSeq (sForD true 4 0 yHF) (sSeq (sFor 5 (oSeq (fVar 1)) ySF) (sSeq yR sNil)))))) := rfl
def EY (zs : List NR) (S : List Tr) (d : D) (ks : List Str) (x4 x5 : Option Sl) : En := [some (.sh (rdic zs).d), some (.sh (.lst (S.map sD))), some (.sh d), some (.pv (dM ks (iV L0)) none), x4, x5]
theorem y_heads {zs : List NR} (ok : OkZ zs) {S : List Tr} {d : D} : ∃ ks x4, sForD true 4 0 yHF (EY zs S d [] none none) = some (.nx (EY zs S d ks x4 none)) ∧ ks.Nodup ∧ ∀ x, x ∈ ks ↔ ∃ z ∈ zs, x = z.2.hd := by
  obtain ⟨δ, e, ks, x4, rfl, nd, h, _⟩ := forL_nx (i := 4) (F := yHF) (g := fun (z : NR) => rD z.2) (fun pre δ => ∃ ks x4, δ = EY zs S d ks x4 none ∧ ks.Nodup ∧ (∀ x, x ∈ ks ↔ ∃ z ∈ pre, x = z.2.hd) ∧ ∀ z ∈ pre, z ∈ zs) zs [] (EY zs S d [] none none) ⟨[], none, rfl, by simp, by simp, fun _ h => nomatch h⟩ (by
    rintro p z hz δ ⟨ks, x4, rfl, nd, h, hp⟩
    have l1 : ks.length ≤ 7 := nm_len nd fun x hx => by
      obtain ⟨y, hy, e⟩ := (h x).mp hx
      rw [e]; exact (ok y (hp y hy)).hd
    refine ⟨EY zs S d (addK ks z.2.hd) (some (.sh (rD z.2))) none, ?_, _, _, rfl, addK_nd nd, fun x => ?_, fun y hy => ?_⟩
    · show yHF (EY zs S d ks (some (.sh (rD z.2))) none) = _
      unfold yHF
      rw [seq1, put_of (ks := ks) (f := iV L0) (o := none) (x := z.2.hd) (d := .int 0) rfl rfl rfl nd (by omega), up_L0]
      rfl
    · rw [addK_mem, h]
      constructor
      · rintro (⟨y, hy, e⟩ | e)
        · exact ⟨y, List.mem_append_left _ hy, e⟩
        · exact ⟨z, by simp, e⟩
      · rintro ⟨y, hy, e⟩
        rcases List.mem_append.mp hy with hy | hy
        · exact .inl ⟨y, hy, e⟩
        · rw [List.mem_singleton.mp hy] at e; exact .inr e
    · rcases List.mem_append.mp hy with hy | hy
      · exact hp y hy
      · rw [List.mem_singleton.mp hy]; exact hz)
  exact ⟨ks, x4, e, nd, by simpa using h⟩
theorem y_steps {zs : List NR} {S : List Tr} (ok : Okay S) {d : D} {ks : List Str} (nd : ks.Nodup) (hn : ∀ x ∈ ks, x ∈ nm) (x4 : Option Sl) : ∃ ks' x5, sFor 5 (oSeq (fVar 1)) ySF (EY zs S d ks x4 none) = some (.nx (EY zs S d ks' x4 x5)) ∧ ks'.Nodup ∧ ∀ x, x ∈ ks' ↔ x ∈ ks ∨ ∃ t ∈ S, x = t.1 := by
  obtain ⟨δ, e, ks', x5, rfl, nd', h, _⟩ := forL_nx (i := 5) (F := ySF) (g := sD) (fun pre δ => ∃ ks' x5, δ = EY zs S d ks' x4 x5 ∧ ks'.Nodup ∧ (∀ x, x ∈ ks' ↔ x ∈ ks ∨ ∃ t ∈ pre, x = t.1) ∧ ∀ t ∈ pre, t ∈ S) S [] (EY zs S d ks x4 none) ⟨ks, none, rfl, nd, by simp, fun _ h => nomatch h⟩ (by
    rintro p t ht δ ⟨ks', x5, rfl, nd', h, hp⟩
    have l1 : ks'.length ≤ 7 := nm_len nd' fun x hx => by
      rcases (h x).mp hx with hx | ⟨y, hy, e⟩
      · exact hn x hx
      · rw [e]; exact (ok.nms y (hp y hy)).1
    refine ⟨EY zs S d (addK ks' t.1) x4 (some (.sh (sD t))), ?_, _, _, rfl, addK_nd nd', fun x => ?_, fun y hy => ?_⟩
    · show ySF (EY zs S d ks' x4 (some (.sh (sD t)))) = _
      unfold ySF
      rw [seq1, put_of (ks := ks') (f := iV L0) (o := none) (x := t.1) (d := .int 0) rfl rfl rfl nd' (by omega), up_L0]
      rfl
    · rw [addK_mem, h]
      constructor
      · rintro ((hx | ⟨y, hy, e⟩) | e)
        · exact .inl hx
        · exact .inr ⟨y, List.mem_append_left _ hy, e⟩
        · exact .inr ⟨t, by simp, e⟩
      · rintro (hx | ⟨y, hy, e⟩)
        · exact .inl (.inl hx)
        · rcases List.mem_append.mp hy with hy | hy
          · exact .inl (.inr ⟨y, hy, e⟩)
          · rw [List.mem_singleton.mp hy] at e; exact .inr e
    · rcases List.mem_append.mp hy with hy | hy
      · exact hp y hy
      · rw [List.mem_singleton.mp hy]; exact ht)
  exact ⟨ks', x5, e, nd', by simpa using h⟩
inductive Lay (P : Program) (w : World) (zs : List NR) : Prop
  | good (ks : List Str) (S : List Tr) (k : Nat) (δ : En) (e : fb_layers_of P w [some (.sh (rdic zs).d), none, none, none, none, none] = some (.rt (.fr (dM ks (iV (swpN S k L0)))) δ)) (n : Nds (allS zs) ks) (h : ∀ t, t ∈ S ↔ t ∈ allS zs) (f : Feas S (swpN S k L0)) (no : ¬ HasRing (allS zs))
  | bad (p : List Str) (S : List Tr) (δ : En) (e : fb_layers_of P w [some (.sh (rdic zs).d), none, none, none, none, none] = some (.ex ⟨"Ring", ["ring"], [.tup (p.map .str)]⟩ δ)) (h : ∀ t, t ∈ S ↔ t ∈ allS zs) (r : Rg S p)
theorem e_layers (P : Program) (w : World) {zs : List NR} (ok : OkZ zs) (hl : (allS zs).length ≤ 900) : Lay P w zs := by
  obtain ⟨S, eS, hS⟩ := e_steps P w hl
  have okS : Okay S := (allS_ok ok).congr hS
  have s1 : y1 P w [some (.sh (rdic zs).d), none, none, none, none, none] = some (.nx [some (.sh (rdic zs).d), some (.sh (.lst (S.map sD))), none, none, none, none]) := by
    unfold y1
    rw [set_of (callR_of (cons1 rfl) eS)]
    rfl
  have s2 : ∀ d, M_ring_of [.lst (S.map sD)] = some (.sh d) → y2 [some (.sh (rdic zs).d), some (.sh (.lst (S.map sD))), none, none, none, none] = some (.nx [some (.sh (rdic zs).d), some (.sh (.lst (S.map sD))), some (.sh d), none, none, none]) := fun d e => by
    unfold y2
    rw [set_of (d := d) (callR_of (cons1 rfl) e)]
    rfl
  rcases e_ring okS with ⟨p, e, r⟩ | ⟨e, no⟩
  · refine .bad p S [some (.sh (rdic zs).d), some (.sh (.lst (S.map sD))), some (.sh (.tup (p.map .str))), none, none, none] ?_ hS r
    have s3 : yIf [some (.sh (rdic zs).d), some (.sh (.lst (S.map sD))), some (.sh (.tup (p.map .str))), none, none, none] = some (.ex ⟨"Ring", ["ring"], [.tup (p.map .str)]⟩ [some (.sh (rdic zs).d), some (.sh (.lst (S.map sD))), some (.sh (.tup (p.map .str))), none, none, none]) := by
      unfold yIf
      rw [if_yes (fB_of (f2_of (x := .tup (p.map .str)) (y := .non) rfl rfl rfl)), seq1]
      rfl
    rw [fb_layE, seq_nx s1, seq_nx (s2 _ e), seq_ex s3]
  · have s3 : yIf [some (.sh (rdic zs).d), some (.sh (.lst (S.map sD))), some (.sh .non), none, none, none] = some (.nx [some (.sh (rdic zs).d), some (.sh (.lst (S.map sD))), some (.sh .non), none, none, none]) := by
      unfold yIf
      rw [if_no (fB_of (f2_of (x := .non) (y := .non) rfl rfl rfl))]
      rfl
    obtain ⟨k1, x4, s5, n1, m1⟩ := y_heads ok (S := S) (d := .non)
    have hn1 : ∀ x ∈ k1, x ∈ nm := fun x hx => by
      obtain ⟨z, hz, e⟩ := (m1 x).mp hx
      rw [e]; exact (ok z hz).hd
    obtain ⟨ks, x5, s6, nd, m2⟩ := y_steps (zs := zs) okS (d := .non) n1 hn1 x4
    have mem : ∀ x, x ∈ ks ↔ ∃ t ∈ allS zs, x = t.1 ∨ x = t.2.1 := fun x => by
      rw [m2, m1]
      constructor
      · rintro (⟨z, hz, e⟩ | ⟨t, ht, e⟩)
        · obtain ⟨l, hl⟩ := List.exists_mem_of_ne_nil _ (ok z hz).ne
          exact ⟨(l.2, z.2.hd, rs z.2 l), allS_mem.mpr ⟨z, hz, l, hl, rfl⟩, .inr e⟩
        · exact ⟨t, (hS t).mp ht, .inl e⟩
      · rintro ⟨t, ht, e | e⟩
        · exact .inr ⟨t, (hS t).mpr ht, e⟩
        · obtain ⟨z, hz, l, hl, e'⟩ := allS_mem.mp ht
          rw [e'] at e
          exact .inl ⟨z, hz, e⟩
    have n : Nds (allS zs) ks := ⟨nd, mem⟩
    obtain ⟨k, eL, f⟩ := e_lifted okS no nd (n.len (allS_ok ok).nms) fun t ht => n.has ((hS t).mp ht)
    refine .good ks S k [some (.sh (rdic zs).d), some (.sh (.lst (S.map sD))), some (.sh .non), some (.sh (dM ks (iV L0)).d), x4, x5] ?_ n hS f fun r => no (r.congr fun t => (hS t).mpr)
    have s7 : yR (EY zs S .non ks x4 x5) = some (.rt (.fr (dM ks (iV (swpN S k L0)))) [some (.sh (rdic zs).d), some (.sh (.lst (S.map sD))), some (.sh .non), some (.sh (dM ks (iV L0)).d), x4, x5]) := by
      have : fCallR M_lifted (fCons (fVar 3) (fCons (fVar 1) fNil)) [some (.sh (rdic zs).d), some (.sh (.lst (S.map sD))), some (.sh .non), some (.sh (dM ks (iV L0)).d), x4, x5] = some (.fr (dM ks (iV (swpN S k L0)))) := by
        unfold fCallR
        rw [cons2 (x := (dM ks (iV L0)).d) (y := .lst (S.map sD)) rfl rfl, Option.bind_some, eL]
      show sRet (fCallR M_lifted (fCons (fVar 3) (fCons (fVar 1) fNil))) [some (.sh (rdic zs).d), some (.sh (.lst (S.map sD))), some (.sh .non), some (.sh (dM ks (iV L0)).d), x4, x5] = _
      unfold sRet
      rw [this]
      rfl
    rw [fb_layE, seq_nx s1, seq_nx (s2 _ e), seq_nx s3, seq_nx (δ' := EY zs S .non [] none none) rfl, seq_nx s5, seq_nx s6, seq_rt s7]
theorem lay_go (a : D) : M_layers_of P w [a] = (match fb_layers_of P w [some (.sh a), none, none, none, none, none] with | some (.rt d _) => some d | some (.nx _) => some (.sh .non) | _ => none) := by
  unfold M_layers_of runF
  exact if_pos rfl
theorem layx_go (a : D) : Mx_layers_of P w [.sh a] = (match fb_layers_of P w [some (.sh a), none, none, none, none, none] with | some (.ex c _) => some c | _ => none) := by
  unfold Mx_layers_of runE
  exact if_pos rfl
noncomputable def tlBody (P : Program) (w : World) : FS := sSeq (sOr (sSet 1 (fPub (fCallR (M_layers_of P w) (fCons (fVar 0) fNil)))) (sCallE (Mx_layers_of P w) (fCons (fVar 0) fNil))) sNil
def tlHand : FS := sSeq (sSet 2 (fAtt 4 ["Ring"] "ring")) (sSeq (sSet 3 (fIsOb 4 [("Ring", true)])) sNil)
def tlRet : FS := sRet (fSh (fTup (fCons (fVar 1) (fCons (fVar 2) (fCons (fVar 3) fNil)))))
theorem fb_toldE : fb__law_told P w = sSeq (sSet 1 (fC .non)) (sSeq (sSet 2 (fC .non)) (sSeq (sSet 3 (fC (.bl true))) (sSeq (sTry ["Ring"] 4 (tlBody P w) tlHand) (sSeq tlRet sNil)))) := rfl
theorem told_go (a : D) : M__law_told P w [a] = (match fb__law_told P w [some (.sh a), none, none, none, none] with | some (.rt d _) => some d | some (.nx _) => some (.sh .non) | _ => none) := by
  unfold M__law_told runF
  exact if_pos rfl
theorem tl_ret (a x y z : D) (q : Option Sl) : tlRet [some (.sh a), some (.sh x), some (.sh y), some (.sh z), q] = some (.rt (.sh (.tup [x, y, z])) [some (.sh a), some (.sh x), some (.sh y), some (.sh z), q]) := ret_of (tup_of (cons3 rfl rfl rfl) (by simp))
theorem told_good {a : D} {r : Rs} (h : M_layers_of P w [a] = some r) : M__law_told P w [a] = some (.sh (.tup [r.d, .non, .bl true])) := by
  have s1 : tlBody P w [some (.sh a), some (.sh .non), some (.sh .non), some (.sh (.bl true)), none] = some (.nx [some (.sh a), some (.sh r.d), some (.sh .non), some (.sh (.bl true)), none]) := by
    unfold tlBody
    rw [seq1]
    unfold sOr
    rw [set_of (d := r.d) (callR_of (cons1 rfl) h)]
    rfl
  have s2 : sTry ["Ring"] 4 (tlBody P w) tlHand [some (.sh a), some (.sh .non), some (.sh .non), some (.sh (.bl true)), none] = some (.nx [some (.sh a), some (.sh r.d), some (.sh .non), some (.sh (.bl true)), none]) := by
    unfold sTry
    rw [s1]
  rw [told_go, fb_toldE, seq_nx (δ' := [some (.sh a), some (.sh .non), none, none, none]) rfl, seq_nx (δ' := [some (.sh a), some (.sh .non), some (.sh .non), none, none]) rfl, seq_nx (δ' := [some (.sh a), some (.sh .non), some (.sh .non), some (.sh (.bl true)), none]) rfl, seq_nx s2, seq_rt (tl_ret a r.d .non (.bl true) none)]
theorem att_ring (d : D) : ((["ring"] : List Str).zip [d]).lookup ("ring" : Str) = some d := by
  show (match ("ring" : Str) == ("ring" : Str) with | true => some d | false => none) = _
  rw [beq_self_eq_true]
theorem told_bad {a d : D} (h1 : M_layers_of P w [a] = none) (h2 : Mx_layers_of P w [.sh a] = some ⟨"Ring", ["ring"], [d]⟩) : M__law_told P w [a] = some (.sh (.tup [.non, d, .bl true])) := by
  have s1 : tlBody P w [some (.sh a), some (.sh .non), some (.sh .non), some (.sh (.bl true)), none] = some (.ex ⟨"Ring", ["ring"], [d]⟩ [some (.sh a), some (.sh .non), some (.sh .non), some (.sh (.bl true)), none]) := by
    have e1 : sSet 1 (fPub (fCallR (M_layers_of P w) (fCons (fVar 0) fNil))) [some (.sh a), some (.sh .non), some (.sh .non), some (.sh (.bl true)), none] = none := by
      unfold sSet
      rw [callR_eq (ds := [a]) (cons1 rfl), h1]
      rfl
    have e2 : sCallE (Mx_layers_of P w) (fCons (fVar 0) fNil) [some (.sh a), some (.sh .non), some (.sh .non), some (.sh (.bl true)), none] = some (.ex ⟨"Ring", ["ring"], [d]⟩ [some (.sh a), some (.sh .non), some (.sh .non), some (.sh (.bl true)), none]) := by
      unfold sCallE
      rw [cons1 (x := a) rfl, Option.bind_some, List.map_singleton, h2]
      rfl
    unfold tlBody
    rw [seq1]
    unfold sOr
    rw [e1, e2]
    rfl
  have s3 : tlHand [some (.sh a), some (.sh .non), some (.sh .non), some (.sh (.bl true)), some (.ob ⟨"Ring", ["ring"], [d]⟩)] = some (.nx [some (.sh a), some (.sh .non), some (.sh d), some (.sh (.bl true)), some (.ob ⟨"Ring", ["ring"], [d]⟩)]) := by
    have f1 : fAtt 4 ["Ring"] "ring" [some (.sh a), some (.sh .non), some (.sh .non), some (.sh (.bl true)), some (.ob ⟨"Ring", ["ring"], [d]⟩)] = some d := by
      show (if (["Ring"] : List Str).contains "Ring" = true then ((["ring"] : List Str).zip [d]).lookup ("ring" : Str) else none) = _
      rw [if_pos (by decide +kernel)]
      exact att_ring d
    have f2 : fIsOb 4 [("Ring", true)] [some (.sh a), some (.sh .non), some (.sh d), some (.sh (.bl true)), some (.ob ⟨"Ring", ["ring"], [d]⟩)] = some (.bl true) := by
      show ((([("Ring", true)] : List (Str × Bool)).lookup ("Ring" : Str)).map D.bl) = _
      rw [show ([("Ring", true)] : List (Str × Bool)).lookup ("Ring" : Str) = some true by decide +kernel]
      rfl
    unfold tlHand
    rw [seq_nx (δ' := [some (.sh a), some (.sh .non), some (.sh d), some (.sh (.bl true)), some (.ob ⟨"Ring", ["ring"], [d]⟩)]) (by rw [set_of f1]; rfl), seq1, set_of f2]
    rfl
  have s2 : sTry ["Ring"] 4 (tlBody P w) tlHand [some (.sh a), some (.sh .non), some (.sh .non), some (.sh (.bl true)), none] = some (.nx [some (.sh a), some (.sh .non), some (.sh d), some (.sh (.bl true)), none]) := by
    unfold sTry
    rw [s1]
    show (if (["Ring"] : List Str).contains "Ring" = true then (match tlHand [some (.sh a), some (.sh .non), some (.sh .non), some (.sh (.bl true)), some (.ob ⟨"Ring", ["ring"], [d]⟩)] with | some (.nx δ2) => some (Out.nx (δ2.set 4 none)) | _ => none) else none) = _
    rw [if_pos (by decide +kernel), s3]
    rfl
  rw [told_go, fb_toldE, seq_nx (δ' := [some (.sh a), some (.sh .non), none, none, none]) rfl, seq_nx (δ' := [some (.sh a), some (.sh .non), some (.sh .non), none, none]) rfl, seq_nx (δ' := [some (.sh a), some (.sh .non), some (.sh .non), some (.sh (.bl true)), none]) rfl, seq_nx s2, seq_rt (tl_ret a .non d (.bl true) none)]
end
end K05
set_option Elab.async false
set_option linter.all false
set_option maxRecDepth 100000
set_option maxHeartbeats 4000000
namespace K05
open PySem PySem.Spec PyProof.Rows L2
theorem o_ltI {i j : Int} {R : D → Prop} (k : R (.bl (decide (i < j)))) : Op (ltE (.int i) (.int j)) R := op_of (by simp [ltE, plainN, ltA]) k
theorem o_cond {p : Prop} [Decidable p] {A B : Prop} (h1 : p → A) (h2 : ¬ p → B) : if decide p = true then A else B := by
  by_cases h : p
  · rw [if_pos (by simpa using h)]; exact h1 h
  · rw [if_neg (by simpa using h)]; exact h2 h
theorem e_cell (ns : List Int) (k : Nat) (hn : ns.length ≤ 63) (hk : k ≤ 63) : Op (M__law_cell [.lst (ns.map D.int), .int k]) fun r => ∃ c : Int, r = .sh (.int c) := by
  have mem : ∀ x ∈ ns.map D.int, ∃ i : Int, x = .int i := fun x hx => let ⟨i, _, e⟩ := List.mem_map.mp hx; ⟨i, e.symm⟩
  unfold M__law_cell fb__law_cell
  walk_at "wrun"
  walk_at "wpn"
  refine so_mid (fun δ => δ = [some (.sh (.lst (ns.map D.int))), some (.sh (.int k)), none]) ?_ ?_
  · walk_at "wp"
    refine o_ltI ?_
    walk_at "wp"
    refine o_cond (fun h => ?_) fun h => ?_
    · walk_at "wp"
      refine o_ixLm (by omega) h fun x hx => ?_
      obtain ⟨i, rfl⟩ := mem x hx
      walk_at "wp"
      exact ⟨i, rfl⟩
    · walk_at "wp"
      rfl
  · rintro δ rfl
    walk_at "wpn"
    refine so_mid (fun δ => ∃ m : Int, δ = [some (.sh (.lst (ns.map D.int))), some (.sh (.int k)), some (.sh (.int m))] ∧ 0 ≤ m ∧ m < 2 ^ 40) ?_ ?_
    · walk_at "wp"
      refine o_cond (fun h => ?_) fun h => ?_
      · walk_at "wp"
        try refine o_mod h ?_
        refine o_ixLm (Int.emod_nonneg _ (by omega)) (Int.emod_lt_of_pos _ h) fun x hx => ?_
        obtain ⟨i, rfl⟩ := mem x hx
        walk_at "wp"
        exact ⟨_, rfl, Int.emod_nonneg _ (by decide), Int.lt_trans (Int.emod_lt_of_pos _ (by decide)) (by decide)⟩
      · walk_at "wp"
        exact ⟨_, rfl, by omega, by omega⟩
    · rintro δ ⟨m, rfl, h0, h1⟩
      walk_at "wp"
      try refine o_mul (Or.inl ⟨by omega, by omega⟩) ?_
      walk_at "wp"
      exact ⟨_, rfl⟩
theorem eqAs_self : ∀ {xs : List D}, (∀ x ∈ xs, eqA x x = true) → eqAs xs xs = true
  | [], _ => by simp [eqAs]
  | x :: xs, h => by
    unfold eqAs
    simp only [Bool.and_eq_true]
    exact ⟨h x (by simp), eqAs_self fun y hy => h y (List.mem_cons_of_mem _ hy)⟩
theorem eqA_self : ∀ (n : Nat) (d : D), plainN n d = true → eqA d d = true
  | n, .dic _ _, h => by cases n <;> cases h
  | 0, .tup _, h => by cases h
  | 0, .lst _, h => by cases h
  | n + 1, .tup xs, h => by
    unfold eqA
    exact eqAs_self fun x hx => eqA_self n x (List.all_eq_true.mp h x hx)
  | n + 1, .lst xs, h => by
    unfold eqA
    exact eqAs_self fun x hx => eqA_self n x (List.all_eq_true.mp h x hx)
  | _, .non, _ => by simp [eqA, flatD, toV, eqV]
  | _, .bl _, _ => by simp [eqA, flatD, toV, eqV]
  | _, .int _, _ => by simp [eqA, flatD, toV, eqV]
  | _, .str _, _ => by simp [eqA, flatD, toV, eqV]
theorem plain_r (R : Ru) : plainN 8 (rD R) = true := by
  obtain ⟨h, g, b⟩ := R
  show ([D.str h, gD g, .tup (b.map lD)].all (plainN 7)) = true
  simp only [List.all_cons, List.all_nil, Bool.and_true, Bool.and_eq_true]
  refine ⟨rfl, by cases g <;> rfl, ?_⟩
  show ((b.map lD).all (plainN 6)) = true
  rw [List.all_eq_true]
  intro x hx
  obtain ⟨l, _, rfl⟩ := List.mem_map.mp hx
  rfl
theorem ne_dic {ks ls : List Key} {xs ys : List D} (p1 : xs.all (plainN 8) = true) (p2 : ys.all (plainN 8) = true) (h : eqDic ks xs ls ys = true) : neE (.dic ks xs) (.dic ls ys) = some (.bl false) := by
  have e1 : eqO true (.dic ks xs) (.dic ls ys) = eqDc true (.dic ks xs) (.dic ls ys) := rfl
  unfold neE
  rw [e1]
  unfold eqDc
  dsimp only
  rw [if_pos ⟨p1, p2⟩, h]
  rfl
theorem ne_rules {zs : List NR} (hn : (zs.map (·.1)).Nodup) : neE (rdic zs).d (rdic zs).d = some (.bl false) := by
  have pl : (zs.map fun z => rD z.2).all (plainN 8) = true := by rw [List.all_map, List.all_eq_true]; exact fun z _ => plain_r z.2
  refine ne_dic pl pl ?_
  unfold eqDic
  rw [Bool.and_eq_true]
  refine ⟨by simp, ?_⟩
  rw [List.all_eq_true]
  intro kv hkv
  rw [List.zip_map'] at hkv
  obtain ⟨z, hz, rfl⟩ := List.mem_map.mp hkv
  dsimp only
  rw [val_zs hn hz]
  exact eqA_self 8 _ (plain_r z.2)
theorem ne_levels {ks ls : List Str} {L : Lv} (n1 : ks.Nodup) (n2 : ls.Nodup) (h : ∀ x, x ∈ ks ↔ x ∈ ls) : neE (dM ks (iV L)).d (dM ls (iV L)).d = some (.bl false) := by
  have pl : ∀ zs : List Str, (zs.map (iV L)).all (plainN 8) = true := fun zs => by rw [List.all_map, List.all_eq_true]; exact fun _ _ => rfl
  refine ne_dic (pl ks) (pl ls) ?_
  unfold eqDic
  rw [Bool.and_eq_true]
  constructor
  · have a := nd_len n1 fun x hx => (h x).mp hx
    have b := nd_len n2 fun x hx => (h x).mpr hx
    rw [List.length_map, List.length_map]
    simp
    omega
  · rw [List.all_eq_true]
    intro kv hkv
    unfold dK at hkv
    rw [List.zip_map'] at hkv
    obtain ⟨x, hx, rfl⟩ := List.mem_map.mp hkv
    dsimp only
    rw [val_s, if_pos ((h x).mp hx)]
    exact eqA_self 8 _ rfl
theorem allS_len3 : ∀ {zs : List NR}, OkZ zs → (allS zs).length ≤ 3 * zs.length
  | [], _ => by simp [allS]
  | z :: zs, h => by
    have ih := allS_len3 (zs := zs) fun y hy => h y (List.mem_cons_of_mem _ hy)
    have hz := (h z (by simp)).len
    have e : allS (z :: zs) = stp z.2 ++ allS zs := by simp [allS]
    rw [e, List.length_append, stp_len, List.length_cons]
    omega
theorem mul_of {a b : Int} (h0 : 0 ≤ a) (h : a < 100) : mulD (.int a) (.int b) = some (.int (a * b)) := by
  exact if_pos (.inl ⟨by omega, by omega⟩)
end K05
set_option Elab.async false
set_option linter.all false
set_option maxRecDepth 100000
set_option maxHeartbeats 4000000
namespace K05
open PySem PySem.Spec PyProof.Rows L2
def pC0 : FE := fPub (fCallR M__law_cell (fCons (fVar 0) (fCons (fC (.int 0)) fNil)))
def pC1 : FE := fPub (fCallR M__law_cell (fCons (fVar 0) (fCons (fC (.int 1)) fNil)))
def pKey : FE := f2 addD (fC (.int 1)) (f2 mulD (fVarB 3) (f2 addD (fC (.int 1)) (f2 modD (f2 fdivD pC0 (fC (.int 2))) (fC (.int 9)))))
def pVal : FE := fPub (fCallR M__law_rule (fCons (fPub (fCallR M__law_cell (fCons (fVar 0) (fCons (f2 addD (fC (.int 2)) (fVarB 3)) fNil)))) (fCons (fVar 1) fNil)))
def pF : FS := sSeq (sDPutM 2 pKey pVal) sNil
def p1 : FS := sSet 1 (f2 (eqO false) (f2 modD pC0 (fC (.int 2))) (fC (.int 1)))
def p3 : FS := sFor 3 (oRng (f2 modD pC1 (fC (.int 13)))) pF
def p4 : FS := fun δ => (sSet 4 (fPub (fCallR M__law_steps (fCons (fVar 2) fNil)))) (pubS 2 δ)
def p5 : FS := sSet 5 (fPub (fCallR M__law_levels (fCons (fVar 4) fNil)))
def p6 : FS := sSet 6 (fPub (fCallN dicN (fCons (fVarB 2) fNil)))
noncomputable def p7 (P : Program) (w : World) : FS := sUnp [7, 8, 9] (xD (fPub (fCallR (M__law_told P w) (fCons (fVar 6) fNil))))
def p8 : FS := sIf (bOr (fB (f2 (neE) (fVarB 6) (fVarB 2))) (bNot (fB (fVar 9)))) (sSeq (sRet (fSh (fC (.bl false)))) sNil) sNil
def p9r : FE := fAnd (f2 (isA) (fVarB 7) (fC .non)) (fAnd (f2 (notA) (fVarB 8) (fC .non)) (fPub (fCallR M__law_is_ring (fCons (fVar 4) (fCons (fVar 8) fNil)))))
def p9 : FS := sIf (fB (f2 (isA) (fVarB 5) (fC .non))) (sSeq (sRet (fSh p9r)) sNil) sNil
def p10 : FS := sIf (bOr (bNot (fB (fIs "dict" (fVarB 7)))) (fB (f2 (neE) (fVarB 7) (fVarB 5)))) (sSeq (sRet (fSh (fC (.bl false)))) sNil) sNil
def p11F : FS := sSeq (sIf (bOr (bNot (fB (fIs "int" (f2 ixA (fVarB 7) (fVarB 10))))) (fB (fIs "bool" (f2 ixA (fVarB 7) (fVarB 10))))) (sSeq (sRet (fSh (fC (.bl false)))) sNil) sNil) sNil
theorem fb_lawE (P : Program) (w : World) : fb_law P w = sSeq p1 (sSeq (sSetR 2 fDicR) (sSeq p3 (sSeq p4 (sSeq p5 (sSeq p6 (sSeq (p7 P w) (sSeq p8 (sSeq p9 (sSeq p10 (sSeq (sForD false 10 7 p11F) (sSeq (sRet (fSh (fC (.bl true)))) sNil))))))))))) := rfl
theorem law_go (P : Program) (w : World) (s : D) : M_law P w [s] = (match fb_law P w [some (.sh s), none, none, none, none, none, none, none, none, none, none] with | some (.rt d _) => some d | some (.nx _) => some (.sh .non) | _ => none) := by
  unfold M_law runF
  exact if_pos rfl
structure RowsN (b : Int) (zs : List NR) : Prop where
  key : ∀ (i : Nat) (z : NR), zs[i]? = some z → z.1 = .inl (1 + (i : Int) * b)
  each : OkZ zs
theorem key_inj {b : Int} (hb : 0 < b) {i j : Nat} (h : 1 + (i : Int) * b = 1 + (j : Int) * b) : i = j := by
  have h1 : (i : Int) * b = (j : Int) * b := by omega
  have := Int.eq_of_mul_eq_mul_right (by omega) h1
  omega
theorem RowsN.nodup {b : Int} (hb : 0 < b) {zs : List NR} (h : RowsN b zs) : (zs.map (·.1)).Nodup := by
  refine List.pairwise_iff_getElem.mpr fun i j hi hj hij e => ?_
  rw [List.length_map] at hi hj
  rw [List.getElem_map, List.getElem_map] at e
  have h1 := h.key i _ (List.getElem?_eq_getElem hi)
  have h2 := h.key j _ (List.getElem?_eq_getElem hj)
  rw [h1, h2] at e
  have := key_inj hb (Sum.inl.inj e)
  omega
theorem RowsN.snoc {b : Int} {zs : List NR} (h : RowsN b zs) {z : NR} (hk : z.1 = .inl (1 + (zs.length : Int) * b)) (hz : OkR z.2) : RowsN b (zs ++ [z]) := by
  refine ⟨fun i y hy => ?_, fun y hy => ?_⟩
  · by_cases hi : i < zs.length
    · rw [List.getElem?_append_left hi] at hy
      exact h.key i y hy
    · rw [List.getElem?_append_right (by omega)] at hy
      have : i - zs.length = 0 := by
        by_cases h0 : i - zs.length = 0
        · exact h0
        · rw [List.getElem?_eq_none (by simp; omega)] at hy; cases hy
      rw [this] at hy
      cases hy
      rw [hk]
      have : i = zs.length := by omega
      rw [this]
  · rcases List.mem_append.mp hy with hy | hy
    · exact h.each y hy
    · rw [List.mem_singleton.mp hy]; exact hz
theorem putVals_new {k : Key} {x : D} : ∀ {ks : List Key} {ds : List D}, ks.length = ds.length → k ∉ ks → putVals ks ds k x = ds ++ [x]
  | [], [], _, _ => rfl
  | k0 :: ks, d :: ds, hl, h => by
    have h1 : ¬ k0 = k := fun z => h (by rw [z]; simp)
    have h2 : k ∉ ks := fun z => h (List.mem_cons_of_mem _ z)
    unfold putVals
    rw [if_neg h1, putVals_new (by simpa using hl) h2]
    rfl
def EP (s : D) (t : Bool) (zs : List NR) (x : Option Sl) : En := [some (.sh s), some (.sh (.bl t)), some (.pv (rdic zs) none), x, none, none, none, none, none, none, none]
theorem p_step (ns : List Int) (h : ns.length ≤ 63) (t : Bool) (c0 : Int) (hc : M__law_cell [.lst (ns.map D.int), .int 0] = some (.sh (.int c0))) (zs : List NR) (hz : RowsN (1 + c0 / 2 % 9) zs) (h6 : zs.length < 13) : ∃ z, RowsN (1 + c0 / 2 % 9) (zs ++ [z]) ∧ pF (EP (.lst (ns.map D.int)) t zs (some (.sh (.int (0 + (zs.length : Int)))))) = some (.nx (EP (.lst (ns.map D.int)) t (zs ++ [z]) (some (.sh (.int (0 + (zs.length : Int))))))) := by
  obtain ⟨r, er, c, rfl⟩ := e_cell ns (2 + zs.length) h (by omega)
  obtain ⟨R, hR, e⟩ := e_rule c t
  have hb : 0 < 1 + c0 / 2 % 9 := by omega
  refine ⟨(.inl (1 + (zs.length : Int) * (1 + c0 / 2 % 9)), R), hz.snoc rfl hR, ?_⟩
  rw [Int.zero_add]
  have a1 : pVal (EP (.lst (ns.map D.int)) t zs (some (.sh (.int (zs.length : Int))))) = some (rD R) := by
    have b1 : (fPub (fCallR M__law_cell (fCons (fVar 0) (fCons (f2 addD (fC (.int 2)) (fVarB 3)) fNil)))) (EP (.lst (ns.map D.int)) t zs (some (.sh (.int (zs.length : Int))))) = some (.int c) := by
      rw [callR_eq (ds := [.lst (ns.map D.int), .int (2 + (zs.length : Int))]) rfl, show (2 + (zs.length : Int)) = ((2 + zs.length : Nat) : Int) by simp, er]
      rfl
    exact callR_of (cons2 b1 rfl) e
  have a2 : pKey (EP (.lst (ns.map D.int)) t zs (some (.sh (.int (zs.length : Int))))) = some (.int (1 + (zs.length : Int) * (1 + c0 / 2 % 9))) := by
    have b1 : pC0 (EP (.lst (ns.map D.int)) t zs (some (.sh (.int (zs.length : Int))))) = some (.int c0) := callR_of (ds := [.lst (ns.map D.int), .int 0]) rfl hc
    exact f2_of (x := .int 1) (y := .int ((zs.length : Int) * (1 + c0 / 2 % 9))) rfl (f2_of (x := .int (zs.length : Int)) (y := .int (1 + c0 / 2 % 9)) rfl (f2_of (x := .int 1) (y := .int (c0 / 2 % 9)) rfl (f2_of (f2_of b1 rfl rfl) rfl rfl) rfl) (mul_of (by omega) (by omega))) rfl
  have hs : (zs.map fun z => rD z.2).length < sizeLine := Nat.lt_of_le_of_lt (show (zs.map fun z => rD z.2).length ≤ 900 by rw [List.length_map]; omega) (by decide)
  have hnk : (Sum.inl (1 + (zs.length : Int) * (1 + c0 / 2 % 9)) : Key) ∉ zs.map (·.1) := by
    intro hm
    obtain ⟨y, hy, ey⟩ := List.mem_map.mp hm
    obtain ⟨i, hi⟩ := List.getElem?_of_mem hy
    have h1 := hz.key i y hi
    have h2 := (List.getElem?_eq_some_iff.mp hi).1
    rw [h1] at ey
    have := key_inj hb (Sum.inl.inj ey)
    omega
  have hpk : putKeys (zs.map (·.1)) (.inl (1 + (zs.length : Int) * (1 + c0 / 2 % 9))) = (zs ++ [((.inl (1 + (zs.length : Int) * (1 + c0 / 2 % 9)) : Key), R)]).map (·.1) := by unfold putKeys; rw [if_neg hnk]; simp
  have hpv : putVals (zs.map (·.1)) (zs.map fun z => rD z.2) (.inl (1 + (zs.length : Int) * (1 + c0 / 2 % 9))) (rD R) = (zs ++ [((.inl (1 + (zs.length : Int) * (1 + c0 / 2 % 9)) : Key), R)]).map fun z => rD z.2 := by rw [putVals_new (by simp) hnk]; simp
  unfold pF
  rw [seq1]
  unfold sDPutM
  rw [a1, a2]
  show (if (zs.map fun z => rD z.2).length < sizeLine then some (Out.nx [some (.sh (.lst (ns.map D.int))), some (.sh (.bl t)), some (.pv (.dic (putKeys (zs.map (·.1)) (.inl (1 + (zs.length : Int) * (1 + c0 / 2 % 9)))) (putVals (zs.map (·.1)) (zs.map fun z => rD z.2) (.inl (1 + (zs.length : Int) * (1 + c0 / 2 % 9))) (rD R))) none), (some (.sh (.int (zs.length : Int)))), none, none, none, none, none, none, none]) else none) = _
  rw [if_pos hs, hpk, hpv]
  rfl
theorem p_rules (ns : List Int) (h : ns.length ≤ 63) (t : Bool) (c0 c1 : Int) (hc0 : M__law_cell [.lst (ns.map D.int), .int 0] = some (.sh (.int c0))) (hc1 : M__law_cell [.lst (ns.map D.int), .int 1] = some (.sh (.int c1))) : ∃ zs x, RowsN (1 + c0 / 2 % 9) zs ∧ zs.length ≤ 12 ∧ p3 (EP (.lst (ns.map D.int)) t [] none) = some (.nx (EP (.lst (ns.map D.int)) t zs x)) := by
  obtain ⟨n, hn, hn12⟩ : ∃ n : Nat, c1 % 13 = n ∧ n ≤ 12 := ⟨(c1 % 13).toNat, by omega, by omega⟩
  obtain ⟨δ, e, zs, x, rfl, h1, h2, _⟩ := forL_pq (i := 3) (F := pF) (g := fun (k : Nat) => D.int (0 + (k : Int))) (fun pre δ => ∃ zs x, δ = EP (.lst (ns.map D.int)) t zs x ∧ RowsN (1 + c0 / 2 % 9) zs ∧ zs.length = pre.length ∧ pre = List.range pre.length) (List.range n) [] (EP (.lst (ns.map D.int)) t [] none) ⟨[], none, rfl, ⟨fun i z hz => by simp at hz, fun _ hz => nomatch hz⟩, rfl, rfl⟩ (by
    rintro p k q hpq δ ⟨zs, x, rfl, h1, h2, h3⟩
    have hpq : List.range n = p ++ k :: q := hpq
    have hlen : p.length < n := by
      have := congrArg List.length hpq
      simp at this
      omega
    have hk : k = p.length := by
      have := congrArg (fun l => l[p.length]?) hpq
      simp [List.getElem?_range, hlen] at this
      exact this.symm
    obtain ⟨z, k1, e⟩ := p_step ns h t c0 hc0 zs h1 (by omega)
    rw [hk, ← h2]
    refine ⟨_, e, zs ++ [z], _, rfl, k1, by simp [h2], ?_⟩
    rw [h2, List.length_append, List.length_singleton, List.range_succ, ← h3])
  refine ⟨zs, x, h1, by rw [h2]; simpa using hn12, ?_⟩
  have b1 : pC1 (EP (.lst (ns.map D.int)) t [] none) = some (.int c1) := callR_of (ds := [.lst (ns.map D.int), .int 1]) rfl hc1
  have b2 : f2 modD pC1 (fC (.int 13)) (EP (.lst (ns.map D.int)) t [] none) = some (.int (n : Int)) := f2_of b1 rfl (by rw [mod_of (by decide), hn])
  unfold p3 sFor
  rw [o_rng b2 (by omega), Option.bind_some]
  exact e
def EQ (s : D) (t : Bool) (zs : List NR) (x3 : Option Sl) (xs : List (Option Sl)) : En := some (.sh s) :: some (.sh (.bl t)) :: some (.sh (rdic zs).d) :: x3 :: some (.sh (.lst ((allS zs).map sD))) :: xs
theorem law_true (P : Program) (w : World) (ns : List Int) (h : ns.length ≤ 63) : M_law P w [.lst (ns.map D.int)] = some (.sh (.bl true)) := by
  obtain ⟨r0, er0, c0, rfl⟩ := e_cell ns 0 h (by decide)
  obtain ⟨r1, er1, c1, rfl⟩ := e_cell ns 1 h (by decide)
  have hc0 : M__law_cell [.lst (ns.map D.int), .int 0] = some (.sh (.int c0)) := er0
  have hc1 : M__law_cell [.lst (ns.map D.int), .int 1] = some (.sh (.int c1)) := er1
  obtain ⟨zs, x3, hz, hlen, s3⟩ := p_rules ns h (decide (c0 % 2 = 1)) c0 c1 hc0 hc1
  generalize ht : decide (c0 % 2 = 1) = t at s3
  have nd := hz.nodup (by omega)
  have ok := hz.each
  have okA := allS_ok ok
  have hl : (allS zs).length ≤ 900 := by have := allS_len3 ok; omega
  generalize hs : D.lst (ns.map D.int) = s at s3
  have s1 : p1 [some (.sh s), none, none, none, none, none, none, none, none, none, none] = some (.nx [some (.sh s), some (.sh (.bl t)), none, none, none, none, none, none, none, none, none]) := by
    have b1 : pC0 [some (.sh s), none, none, none, none, none, none, none, none, none, none] = some (.int c0) := by
      subst hs
      exact callR_of (ds := [.lst (ns.map D.int), .int 0]) rfl hc0
    unfold p1
    rw [set_of (f2_of (x := .int (c0 % 2)) (y := .int 1) (f2_of b1 rfl rfl) rfl (eq_int _ _)), ht]
    rfl
  have s4 : p4 (EP s t zs x3) = some (.nx (EQ s t zs x3 [none, none, none, none, none, none])) := by
    show sSet 4 (fPub (fCallR M__law_steps (fCons (fVar 2) fNil))) [some (.sh s), some (.sh (.bl t)), some (.sh (rdic zs).d), x3, none, none, none, none, none, none, none] = _
    rw [set_of (callR_of (cons1 rfl) (e_lsteps nd hl))]
    rfl
  have s5 : ∀ d, M__law_levels [.lst ((allS zs).map sD)] = some (.sh d) → p5 (EQ s t zs x3 [none, none, none, none, none, none]) = some (.nx (EQ s t zs x3 [some (.sh d), none, none, none, none, none])) := fun d e => by
    unfold p5
    rw [set_of (d := d) (callR_of (cons1 rfl) e)]
    rfl
  have s6 : ∀ d, p6 (EQ s t zs x3 [some (.sh d), none, none, none, none, none]) = some (.nx (EQ s t zs x3 [some (.sh d), some (.sh (rdic zs).d), none, none, none, none])) := fun d => rfl
  have s7 : ∀ d a b, M__law_told P w [(rdic zs).d] = some (.sh (.tup [a, b, .bl true])) → p7 P w (EQ s t zs x3 [some (.sh d), some (.sh (rdic zs).d), none, none, none, none]) = some (.nx (EQ s t zs x3 [some (.sh d), some (.sh (rdic zs).d), some (.sh a), some (.sh b), some (.sh (.bl true)), none])) := fun d a b e => by
    have : fPub (fCallR (M__law_told P w) (fCons (fVar 6) fNil)) (EQ s t zs x3 [some (.sh d), some (.sh (rdic zs).d), none, none, none, none]) = some (.tup [a, b, .bl true]) := callR_of (cons1 rfl) e
    unfold p7 sUnp xD
    rw [this]
    rfl
  have s8 : ∀ d a b, p8 (EQ s t zs x3 [some (.sh d), some (.sh (rdic zs).d), some (.sh a), some (.sh b), some (.sh (.bl true)), none]) = some (.nx (EQ s t zs x3 [some (.sh d), some (.sh (rdic zs).d), some (.sh a), some (.sh b), some (.sh (.bl true)), none])) := fun d a b => by
    unfold p8
    rw [if_no (or_no (fB_of (f2_of (x := (rdic zs).d) (y := (rdic zs).d) rfl rfl (ne_rules nd))) rfl)]
    rfl
  have start : ∀ d a b, M__law_levels [.lst ((allS zs).map sD)] = some (.sh d) → M__law_told P w [(rdic zs).d] = some (.sh (.tup [a, b, .bl true])) →
      M_law P w [s] = (match sSeq p9 (sSeq p10 (sSeq (sForD false 10 7 p11F) (sSeq (sRet (fSh (fC (.bl true)))) sNil))) (EQ s t zs x3 [some (.sh d), some (.sh (rdic zs).d), some (.sh a), some (.sh b), some (.sh (.bl true)), none]) with | some (.rt d _) => some d | some (.nx _) => some (.sh .non) | _ => none) := fun d a b e1 e2 => by
    rw [law_go, fb_lawE, seq_nx s1, seq_nx (δ' := EP s t [] none) rfl, seq_nx s3, seq_nx s4, seq_nx (s5 d e1), seq_nx (s6 d), seq_nx (s7 d a b e2), seq_nx (s8 d a b)]
  rcases e_layers P w ok hl with ⟨ks, S, k, δ, e, n, hS, f, no⟩ | ⟨p, S, δ, e, hS, r⟩
  · -- layers
    have el : M_layers_of P w [(rdic zs).d] = some (.fr (dM ks (iV (swpN S k L0)))) := by rw [lay_go, e]
    rcases e_levels okA with ⟨ls, k', e1, n', f', _⟩ | ⟨_, hr⟩
    · have eqL : swpN (allS zs) k' L0 = swpN S k L0 := least_eq (fun t => (hS t).symm) f' f
      rw [eqL] at e1
      have go := start _ _ _ e1 (told_good el)
      generalize swpN S k L0 = L at go e1
      have q9 : p9 (EQ s t zs x3 [some (.sh (dM ls (iV L)).d), some (.sh (rdic zs).d), some (.sh (dM ks (iV L)).d), some (.sh .non), some (.sh (.bl true)), none]) = some (.nx (EQ s t zs x3 [some (.sh (dM ls (iV L)).d), some (.sh (rdic zs).d), some (.sh (dM ks (iV L)).d), some (.sh .non), some (.sh (.bl true)), none])) := by
        unfold p9
        rw [if_no (fB_of (f2_of (x := (dM ls (iV L)).d) (y := .non) rfl rfl rfl))]
        rfl
      have q10 : p10 (EQ s t zs x3 [some (.sh (dM ls (iV L)).d), some (.sh (rdic zs).d), some (.sh (dM ks (iV L)).d), some (.sh .non), some (.sh (.bl true)), none]) = some (.nx (EQ s t zs x3 [some (.sh (dM ls (iV L)).d), some (.sh (rdic zs).d), some (.sh (dM ks (iV L)).d), some (.sh .non), some (.sh (.bl true)), none])) := by
        unfold p10
        rw [if_no (or_no (b := false) rfl (fB_of (f2_of (x := (dM ks (iV L)).d) (y := (dM ls (iV L)).d) rfl rfl (ne_levels n.nd n'.nd fun x => by rw [n.mem, n'.mem]))))]
        rfl
      have q11 : ∃ y, sForD false 10 7 p11F (EQ s t zs x3 [some (.sh (dM ls (iV L)).d), some (.sh (rdic zs).d), some (.sh (dM ks (iV L)).d), some (.sh .non), some (.sh (.bl true)), none]) = some (.nx (EQ s t zs x3 [some (.sh (dM ls (iV L)).d), some (.sh (rdic zs).d), some (.sh (dM ks (iV L)).d), some (.sh .non), some (.sh (.bl true)), y])) := by
        obtain ⟨δ, e, y, rfl⟩ := forL_nx (i := 10) (F := p11F) (g := D.str) (fun pre δ => ∃ y, δ = EQ s t zs x3 [some (.sh (dM ls (iV L)).d), some (.sh (rdic zs).d), some (.sh (dM ks (iV L)).d), some (.sh .non), some (.sh (.bl true)), y]) ks [] (EQ s t zs x3 [some (.sh (dM ls (iV L)).d), some (.sh (rdic zs).d), some (.sh (dM ks (iV L)).d), some (.sh .non), some (.sh (.bl true)), none]) ⟨none, rfl⟩ (by
          rintro p x hx δ ⟨y, rfl⟩
          refine ⟨EQ s t zs x3 [some (.sh (dM ls (iV L)).d), some (.sh (rdic zs).d), some (.sh (dM ks (iV L)).d), some (.sh .non), some (.sh (.bl true)), some (.sh (.str x))], ?_, _, rfl⟩
          show p11F (EQ s t zs x3 [some (.sh (dM ls (iV L)).d), some (.sh (rdic zs).d), some (.sh (dM ks (iV L)).d), some (.sh .non), some (.sh (.bl true)), some (.sh (.str x))]) = _
          have v : f2 ixA (fVarB 7) (fVarB 10) (EQ s t zs x3 [some (.sh (dM ls (iV L)).d), some (.sh (rdic zs).d), some (.sh (dM ks (iV L)).d), some (.sh .non), some (.sh (.bl true)), some (.sh (.str x))]) = some (.int (L x)) := f2_of (y := .str x) rfl rfl (ix_s (f := iV L) hx)
          have c1 : fIs "int" (f2 ixA (fVarB 7) (fVarB 10)) (EQ s t zs x3 [some (.sh (dM ls (iV L)).d), some (.sh (rdic zs).d), some (.sh (dM ks (iV L)).d), some (.sh .non), some (.sh (.bl true)), some (.sh (.str x))]) = some (.bl true) := by
            unfold fIs
            rw [v]
            rfl
          have c2 : fIs "bool" (f2 ixA (fVarB 7) (fVarB 10)) (EQ s t zs x3 [some (.sh (dM ls (iV L)).d), some (.sh (rdic zs).d), some (.sh (dM ks (iV L)).d), some (.sh .non), some (.sh (.bl true)), some (.sh (.str x))]) = some (.bl false) := by
            unfold fIs
            rw [v]
            rfl
          unfold p11F
          rw [seq1, if_no (or_no (not_of (fB_of c1)) (fB_of c2))]
          rfl)
        refine ⟨y, ?_⟩
        rw [← e]
        show forL 10 p11F ((ks.map Sum.inr).map kD) _ = _
        rw [List.map_map]
        rfl
      obtain ⟨y, q11⟩ := q11
      rw [go, show (Rs.fr (dM ks (iV L))).d = (dM ks (iV L)).d from rfl, seq_nx q9, seq_nx q10, seq_nx q11]
      rfl
    · exact absurd hr no
  · -- a ring
    have hr : HasRing (allS zs) := r.ring.congr fun t => (hS t).mp
    have el : M_layers_of P w [(rdic zs).d] = none := by rw [lay_go, e]
    have ex : Mx_layers_of P w [.sh (rdic zs).d] = some ⟨"Ring", ["ring"], [.tup (p.map .str)]⟩ := by rw [layx_go, e]
    rcases e_levels okA with ⟨_, _, _, _, _, no⟩ | ⟨e1, _⟩
    · exact absurd hr no
    · have go := start _ _ _ e1 (told_bad el ex)
      have er := e_is_ring okA (fun t => (hS t).mp) hl r
      have q : p9r (EQ s t zs x3 [some (.sh .non), some (.sh (rdic zs).d), some (.sh .non), some (.sh (.tup (p.map .str))), some (.sh (.bl true)), none]) = some (.bl true) := by
        have b3 : fPub (fCallR M__law_is_ring (fCons (fVar 4) (fCons (fVar 8) fNil))) (EQ s t zs x3 [some (.sh .non), some (.sh (rdic zs).d), some (.sh .non), some (.sh (.tup (p.map .str))), some (.sh (.bl true)), none]) = some (.bl true) := callR_of (cons2 rfl rfl) er
        unfold p9r fAnd
        rw [b3]
        rfl
      have q9 : p9 (EQ s t zs x3 [some (.sh .non), some (.sh (rdic zs).d), some (.sh .non), some (.sh (.tup (p.map .str))), some (.sh (.bl true)), none]) = some (.rt (.sh (.bl true)) (EQ s t zs x3 [some (.sh .non), some (.sh (rdic zs).d), some (.sh .non), some (.sh (.tup (p.map .str))), some (.sh (.bl true)), none])) := by
        unfold p9
        rw [if_yes (fB_of (f2_of (x := .non) (y := .non) rfl rfl rfl)), seq1, ret_of q]
      rw [go, seq_rt q9]
end K05
set_option Elab.async false
set_option linter.all false
set_option maxRecDepth 100000
set_option maxHeartbeats 4000000
namespace K05
open PySem PySem.Spec PyProof.Rows L2
theorem all_ok {P : Program} {w : World} {K : PySem.W.Frag} {mg : Str → Option Value} {base : Heap} (T : Txt K mg) {f : Addr} {fd : FuncData} (F : Fun K "law" "law" (top 19) f fd) : FnOk P w K mg base CX0 5 f fd ["_law_script"] (spD K (M_law P w)) := by
  have ok_is_group := mk_is_group (P := P) (w := w) (base := base) T 
  have ok_has_predicate := mk_has_predicate (P := P) (w := w) (base := base) T 
  have ok_steps_of := mk_steps_of (P := P) (w := w) (base := base) T ok_has_predicate ok_is_group
  have ok_way_of := mk_way_of (P := P) (w := w) (base := base) T 
  have ok_ring_of := mk_ring_of (P := P) (w := w) (base := base) T ok_way_of
  have ok_lifted := mk_lifted (P := P) (w := w) (base := base) T 
  have ok_layers_of := mk_layers_of (P := P) (w := w) (base := base) T ok_lifted ok_ring_of ok_steps_of
  have okE_layers_of := mkE_layers_of (P := P) (w := w) (base := base) T ok_lifted ok_ring_of ok_steps_of
  have ok__law_cell := mk__law_cell (P := P) (w := w) (base := base) T 
  have ok__law_rule := mk__law_rule (P := P) (w := w) (base := base) T 
  have ok__law_steps := mk__law_steps (P := P) (w := w) (base := base) T 
  have ok__law_levels := mk__law_levels (P := P) (w := w) (base := base) T 
  have ok__law_is_ring := mk__law_is_ring (P := P) (w := w) (base := base) T 
  have ok__law_told := mk__law_told (P := P) (w := w) (base := base) T ok_layers_of okE_layers_of
  exact mk_law T F ok__law_cell ok__law_is_ring ok__law_levels ok__law_rule ok__law_steps ok__law_told
open Classical in
noncomputable def M0 : List D → Option Rs := fun ds => if ∃ ns : List Int, ns.length ≤ 63 ∧ ds = [.lst (ns.map D.int)] then some (.sh (.bl true)) else none
theorem M0_of {P : Program} {w : World} {ds : List D} {r : Rs} (h : M0 ds = some r) : M_law P w ds = some r := by
  unfold M0 at h
  split at h
  · rename_i hx
    obtain ⟨ns, hl, rfl⟩ := hx
    cases h
    exact law_true P w ns hl
  · cases h
theorem all_ok0 {P : Program} {w : World} {K : PySem.W.Frag} {mg : Str → Option Value} {base : Heap} (T : Txt K mg) {f : Addr} {fd : FuncData} (F : Fun K "law" "law" (top 19) f fd) : FnOk P w K mg base CX0 5 f fd ["_law_script"] (spD K M0) :=
  (all_ok T F).imp fun vs H Q E ⟨G, ds, r, h1, h2, h3, h4⟩ => ⟨G, ds, r, h1, h2, M0_of h3, h4⟩
theorem walk {l : PySem.W.OpenLaw} {q : Program} {loose : List Str} {XP : (Str → Option Value) → Heap → Prop} {YP : World → Heap → Prop} {d : DefRec} {K : Params → PySem.W.Frag} (hn : l.most = some 63) (hdf : d.params.defaults = []) (hnm : d.name = "law")
    (hY : ∀ (w : World) (h : Heap), YP w h → (K w.params).In h)
    (F : ∀ (w : World) (mg : Str → Option Value) (h : Heap), (K w.params).In h → h.Ns mainGlobals mg → Txt (K w.params) mg) :
    PySem.W.WalkO q loose XP YP l.row.toRowW d [] (fun f vs => PySem.call f vs) :=
  L2.walk_ofK (n := 63) (k := 5) (x := "_law_script") (CX := CX0) (sp := fun K => spD K M0) hn (by decide) hdf ⟨rfl, by decide, by decide⟩ hY
    (fun w mg fa h KX G hm => law_at (by rw [← hnm]; exact hm) (F w mg h KX G).d_law (fun _ _ _ _ _ _ _ => rfl) fun f fd base Fn => all_ok0 (F w mg h KX G) Fn)
    (fun K H a ns hl _ hS => law_sp hS (if_pos ⟨ns, hl, rfl⟩)) fun _ _ _ _ z => z
end K05
open PySem PySem.W PyProof.Rows L2
set_option maxRecDepth 100000 in
set_option maxHeartbeats 0 in
theorem PySem.Challenge.cw_reason_k05_layers_or_ring_holds : PySem.Challenge.rw_reason_k05_layers_or_ring.Holds := by
  w_on; o_law; k_head; (case hw => w_witness2)
  k_fill
  refine K05.walk (l := PySem.Challenge.rw_reason_k05_layers_or_ring) rfl rfl rfl (fun w h Y => PySem.W.kIn_of Y) ?F
  case F =>
    intro w mg h KX G
    refine' K05.Txt.mk (defAt_mk KX G ?a1 ?l1 ?c1 ?k1) (defAt_mk KX G ?a2 ?l2 ?c2 ?k2) (defAt_mk KX G ?a3 ?l3 ?c3 ?k3) (defAt_mk KX G ?a4 ?l4 ?c4 ?k4) (defAt_mk KX G ?a5 ?l5 ?c5 ?k5) (defAt_mk KX G ?a6 ?l6 ?c6 ?k6) (defAt_mk KX G ?a7 ?l7 ?c7 ?k7) (defAt_mk KX G ?a8 ?l8 ?c8 ?k8) (defAt_mk KX G ?a9 ?l9 ?c9 ?k9) (defAt_mk KX G ?a10 ?l10 ?c10 ?k10) (defAt_mk KX G ?a11 ?l11 ?c11 ?k11) (defAt_mk KX G ?a12 ?l12 ?c12 ?k12) (defAt_mk KX G ?a13 ?l13 ?c13 ?k13) (defAt_mk KX G ?a14 ?l14 ?c14 ?k14) (PySem.W.mg_none_of KX G ?z15) (PySem.W.mg_none_of KX G ?z16) (PySem.W.mg_none_of KX G ?z17) (PySem.W.mg_none_of KX G ?z18) (PySem.W.mg_none_of KX G ?z19) (PySem.W.mg_none_of KX G ?z20) (PySem.W.mg_none_of KX G ?z21) (PySem.W.mg_none_of KX G ?z22) (PySem.W.mg_none_of KX G ?z23) (PySem.W.mg_none_of KX G ?z24) tyOk_bool tyOk_dict tyOk_int tyOk_list tyOk_tuple  (raiseI_mk ?y901 ?y902 (excC_mk ?y903 ?y904 ?y905 ?y906 ?y907 ?y908) ?y909 ?y910 ?y911 ?y912 ?y913 ?y914 ?y915 ?y916) (catch_cons ?y917 ?y918 (excC_mk ?y919 ?y920 ?y921 ?y922 ?y923 ?y924) ?y925 catch_nil) (isOb1_mk ?y926 ?y927 ?y928) (att_cons ?y929 ?y930 ?y931 att_nil)
    (case a1 => k_is); (case l1 => k_is); (case c1 => k_is); (case k1 => k_is)
    (case a2 => k_is); (case l2 => k_is); (case c2 => k_is); (case k2 => k_is)
    (case a3 => k_is); (case l3 => k_is); (case c3 => k_is); (case k3 => k_is)
    (case a4 => k_is); (case l4 => k_is); (case c4 => k_is); (case k4 => k_is)
    (case a5 => k_is); (case l5 => k_is); (case c5 => k_is); (case k5 => k_is)
    (case a6 => k_is); (case l6 => k_is); (case c6 => k_is); (case k6 => k_is)
    (case a7 => k_is); (case l7 => k_is); (case c7 => k_is); (case k7 => k_is)
    (case a8 => k_is); (case l8 => k_is); (case c8 => k_is); (case k8 => k_is)
    (case a9 => k_is); (case l9 => k_is); (case c9 => k_is); (case k9 => k_is)
    (case a10 => k_is); (case l10 => k_is); (case c10 => k_is); (case k10 => k_is)
    (case a11 => k_is); (case l11 => k_is); (case c11 => k_is); (case k11 => k_is)
    (case a12 => k_is); (case l12 => k_is); (case c12 => k_is); (case k12 => k_is)
    (case a13 => k_is); (case l13 => k_is); (case c13 => k_is); (case k13 => k_is)
    (case a14 => k_is); (case l14 => k_is); (case c14 => k_is); (case k14 => k_is)
    (case z15 => k_is)
    (case z16 => k_is)
    (case z17 => k_is)
    (case z18 => k_is)
    (case z19 => k_is)
    (case z20 => k_is)
    (case z21 => k_is)
    (case z22 => k_is)
    (case z23 => k_is)
    (case z24 => k_is)
    (case y901 => k_is)
    (case y902 => k_is)
    (case y903 => k_is)
    (case y904 => k_is)
    (case y905 => intro od; rfl)
    (case y906 => k_is)
    (case y907 => k_is)
    (case y908 => rfl)
    (case y909 => k_is)
    (case y910 => first | with_unfolding_all rfl | decide +kernel)
    (case y911 => k_is)
    (case y912 => k_is)
    (case y913 => first | with_unfolding_all rfl | decide +kernel)
    (case y914 => k_is)
    (case y915 => k_is)
    (case y916 => k_is)
    (case y917 => k_is)
    (case y918 => k_is)
    (case y919 => k_is)
    (case y920 => k_is)
    (case y921 => intro od; rfl)
    (case y922 => k_is)
    (case y923 => k_is)
    (case y924 => rfl)
    (case y925 => rfl)
    (case y926 => k_is)
    (case y927 => k_is)
    (case y928 => rfl)
    (case y929 => k_is)
    (case y930 => k_is)
    (case y931 => first | with_unfolding_all rfl | decide +kernel)
