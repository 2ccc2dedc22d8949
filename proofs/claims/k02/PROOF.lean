import PyProof.Rows.All
import Wide.All
import OpenK.AllK
import Wide.FinOn
import Lean
import PyProof.EqAt
import PyProof.EqKinds
import PyProof.TupleCall
import PyProof.NeKinds
import KE.KEqDict
import KE.KDictLaws
import PyProof.JoinWalk
import PyProof.ZipIter
import KE.KSortTup
import PyProof.Rows.IntRules
import PyProof.Rows.StrRules
import PySem.Challenge.RW_reason_k02_facts_in_order
set_option Elab.async false
set_option linter.all false
set_option maxRecDepth 100000
namespace L2
open PySem PySem.Spec PyProof.Rows
abbrev Key := Sum Int Str
def keyIs : Key → Value → Bool
  | .inl k, v => Value.isInt k v
  | .inr x, v => Value.isStrOf x v
def keyH (w : World) : Key → Int
  | .inl k => hashInt k
  | .inr x => hashStr w x
theorem keyIs_shape : ∀ {k : Key} {v : Value}, keyIs k v = true → (∃ i t, k = Sum.inl i ∧ v = Value.int i t) ∨ (∃ x t, k = Sum.inr x ∧ v = Value.str x t)
  | .inl i, v, h => by
    obtain ⟨t, e⟩ := Value.isInt_shape (k := i) (v := v) h
    exact .inl ⟨i, t, rfl, e⟩
  | .inr x, v, h => by
    obtain ⟨t, e⟩ := Value.isStrOf_shape (x := x) (v := v) h
    exact .inr ⟨x, t, rfl, e⟩
theorem keyIs_int (i : Int) (t : Tok) : keyIs (.inl i) (.int i t) = true := by simp [keyIs, Value.isInt]
theorem keyIs_str (x : Str) (t : Tok) : keyIs (.inr x) (.str x t) = true := by simp [keyIs, Value.isStrOf]
theorem key_ll (a b : Int) : decide ((Sum.inl a : Key) = Sum.inl b) = (a == b) := by
  by_cases e : a = b
  · subst e; simp
  · have h : ¬ (Sum.inl a : Key) = Sum.inl b := fun q => e (Sum.inl.inj q)
    rw [decide_eq_false h]
    exact (beq_eq_false_iff_ne.mpr e).symm
theorem key_rr (a b : Str) : decide ((Sum.inr a : Key) = Sum.inr b) = decide (a = b) := by
  by_cases e : a = b
  · subst e; simp
  · have h : ¬ (Sum.inr a : Key) = Sum.inr b := fun q => e (Sum.inr.inj q)
    rw [decide_eq_false h, decide_eq_false e]
theorem key_lr (a : Int) (b : Str) : decide ((Sum.inl a : Key) = Sum.inr b) = false := decide_eq_false (fun q => nomatch q)
theorem key_rl (a : Str) (b : Int) : decide ((Sum.inr a : Key) = Sum.inl b) = false := decide_eq_false (fun q => nomatch q)
def mixKind (prog : Program) (w : World) : PySem.KeyKind prog w Key where
  is := keyIs
  hash := keyH w
  inj := fun v a b ha hb => by
    rcases keyIs_shape ha with ⟨i, t, rfl, rfl⟩ | ⟨x, t, rfl, rfl⟩
    · rcases keyIs_shape hb with ⟨j, u, rfl, e⟩ | ⟨y, u, rfl, e⟩
      · injection e with e1 _; rw [e1]
      · exact nomatch e
    · rcases keyIs_shape hb with ⟨j, u, rfl, e⟩ | ⟨y, u, rfl, e⟩
      · exact nomatch e
      · injection e with e1 _; rw [e1]
  byValue := fun k v h => by
    rcases keyIs_shape h with ⟨i, t, rfl, rfl⟩ | ⟨x, t, rfl, rfl⟩ <;> rfl
  pyHash := fun hv h => by
    rcases keyIs_shape hv with ⟨i, t, rfl, rfl⟩ | ⟨x, t, rfl, rfl⟩
    · exact wpAny_pyHash_int h
    · exact wpAny_pyHash_str h
  eqBool := fun hu hv h => by
    rcases keyIs_shape hu with ⟨i, t, rfl, rfl⟩ | ⟨x, t, rfl, rfl⟩
    · rcases keyIs_shape hv with ⟨j, u, rfl, rfl⟩ | ⟨y, u, rfl, rfl⟩
      · rw [key_ll] at h; exact wpAny_eqBool_int h
      · rw [key_lr] at h; exact SeqAt.EqAt.int_str i t y u _ _ _ _ h
    · rcases keyIs_shape hv with ⟨j, u, rfl, rfl⟩ | ⟨y, u, rfl, rfl⟩
      · rw [key_rl] at h; exact SeqAt.EqAt.str_int x t j u _ _ _ _ h
      · rw [key_rr] at h; exact wpAny_eqBool_str h
  «strs» := fun k x t v h => by
    rcases keyIs_shape h with ⟨i, u, rfl, e⟩ | ⟨y, u, rfl, e⟩
    · exact nomatch e
    · injection e with e1 _
      subst e1
      cases v <;> rfl
theorem mixKind_int (prog : Program) (w : World) (i : Int) (t : Tok) : (mixKind prog w).is (.inl i) (.int i t) = true := keyIs_int i t
theorem mixKind_str (prog : Program) (w : World) (x : Str) (t : Tok) : (mixKind prog w).is (.inr x) (.str x t) = true := keyIs_str x t
end L2
namespace L2
open PySem PySem.Spec PyProof.Rows
inductive V where
  | non | bl (b : Bool) | int (i : Int) | str (x : Str) | byt (b : Array UInt8) | flt (b : UInt64) | ref (a : Addr) | ty (n : String)
  deriving DecidableEq
def RelV : V → Value → Prop
  | .non, u => u = Value.none
  | .bl b, u => u = Value.bool b
  | .int i, u => ∃ t, u = Value.int i t
  | .str x, u => ∃ t, u = Value.str x t
  | .byt b, u => ∃ t, u = Value.bytes b t
  | .flt b, u => ∃ t, u = Value.float b t
  | .ref a, u => u = Value.ref a
  | .ty n, u => u = Value.type n
abbrev Vals : List V → List Value → Prop := Paired RelV
theorem Vals.length {xs : List V} {us : List Value} (r : Vals xs us) : xs.length = us.length := Paired.length r
theorem Vals.get : ∀ {xs : List V} {us : List Value} {i : Nat} {x : V}, Vals xs us → xs[i]? = some x → ∃ u, us[i]? = some u ∧ RelV x u
  | _, _, _, _, .nil, e => by simp at e
  | _, _, 0, _, .cons r _, e => by simp at e; subst e; exact ⟨_, rfl, r⟩
  | _, _, i + 1, x, .cons _ t, e => by
    obtain ⟨u, h1, h2⟩ := Vals.get (i := i) (x := x) t (by simpa using e)
    exact ⟨u, by simpa using h1, h2⟩
theorem Vals.append : ∀ {xs ys : List V} {us ws : List Value}, Vals xs us → Vals ys ws → Vals (xs ++ ys) (us ++ ws)
  | _, _, _, _, .nil, s => s
  | _, _, _, _, .cons r t, s => .cons r (Vals.append t s)
theorem Vals.take : ∀ {xs : List V} {us : List Value} (n : Nat), Vals xs us → Vals (xs.take n) (us.take n)
  | _, _, 0, _ => .nil
  | _, _, _ + 1, .nil => .nil
  | _, _, n + 1, .cons r t => .cons r (Vals.take n t)
theorem Vals.drop : ∀ {xs : List V} {us : List Value} (n : Nat), Vals xs us → Vals (xs.drop n) (us.drop n)
  | _, _, 0, r => r
  | _, _, _ + 1, .nil => .nil
  | _, _, n + 1, .cons _ t => Vals.drop n t
def RelO : Option V → Option Value → Prop
  | some v, some u => RelV v u
  | none, none => True
  | _, _ => False
def KV {κ : Type} : List (κ × V) → List (κ × Value) → Prop := Paired fun (p : κ × V) (q : κ × Value) => p.1 = q.1 ∧ RelV p.2 q.2
def kV : Key → V
  | .inl i => .int i
  | .inr x => .str x
inductive HO where
  /-- a list -/
  | lst (xs : List V)
  /-- a tuple (never changes) -/
  | tup (xs : List V)
  /-- a dict whose keys are ints and texts; one whose keys are tuples of ints and texts (the empty one is both) -/
  | dK (kvs : List (Key × V)) | dT (kvs : List (List Key × V))
  /-- a set of ints: its members, its size -/
  | set (S : Int → Bool) (n : Nat)
  /-- an instance of the class at C, its dict at dx, its attributes -/
  | ins (C dx : Addr) (fs : List (Str × V))
  /-- the dict of the instance at x -/
  | own (x : Addr)
  /-- the dict of an exception -/
  | xd (fs : List (Str × V))
  /-- a bound method, f of x -/
  | met (f x : Addr)
  /-- a range object lo, lo + 1, .. below hi -/
  | rng (lo hi : Int)
  /-- a thing that is known to the object (the script; a dict while a loop walks it): read, never written while it is so -/
  | frz (o : Obj) (u : HO)
  /-- a code object's table -/
  | tbl (ps : Array Value)
  /-- any other thing, by what is true of its one object (a def of one's own: SetO a S n := HO.ext fun h => ..) -/
  | ext (φ : Heap → Prop)
abbrev Hp := Addr → Option HO
def upd (H : Hp) (a : Addr) (o : HO) : Hp := fun b => if b = a then some o else H b
theorem upd_same {H : Hp} {a : Addr} {o : HO} : upd H a o a = some o := by unfold upd; rw [if_pos rfl]
theorem upd_ne {H : Hp} {a b : Addr} {o : HO} (h : b ≠ a) : upd H a o b = H b := by unfold upd; rw [if_neg h]
theorem ne_of_none {H : Hp} {a b : Addr} {o : HO} (h : H a = some o) (h' : H b = none) : a ≠ b := by
  intro e; subst e; rw [h] at h'; cases h'
section
variable (P : Program) (w : World)
def ObjOk (H : Hp) (h : Heap) (a : Addr) : HO → Prop
  | .lst xs => xs.length ≤ sizeLine ∧ ∃ (its : List Value) (n : Nat), Vals xs its ∧ h.get? a = some { cls := .type "list", data := .seq its.toArray n }
  | .tup xs => xs.length ≤ sizeLine ∧ ∃ its : List Value, Vals xs its ∧ IsTup h a its.toArray
  | .dK kvs => kvs.length ≤ sizeLine ∧ (a == sysModules) = false ∧ ∃ vs, KV kvs vs ∧ h.DictOf (mixKind P w) a vs
  | .dT kvs => kvs.length ≤ sizeLine ∧ (a == sysModules) = false ∧ ∃ xs : List (List Key × Addr × Value),
      Paired (fun (p : List Key × V) (q : List Key × Addr × Value) => p.1 = q.1 ∧ H q.2.1 = some (.tup (p.1.map kV)) ∧ RelV p.2 q.2.2) kvs xs ∧
      ∃ o es ep, h.get? a = some o ∧ o.ExactDict ∧ o.data = .dict es ep ∧ es.toList = xs.map (entryOfKey (tupleKind (mixKind P w))) ∧ (xs.map (·.1)).Nodup
  | .set S n => h.SetOf (intKind P w) a S n
  | .ins C dx fs => H dx = some (.own a) ∧ fs.length ≤ 1000 ∧ dx ≠ a ∧ h.get? a = some (PySem.W.instObj C dx) ∧
      ∃ mA, h.Ns1 dx mA ∧ (∀ f, RelO (fs.lookup f) (mA f)) ∧ PySem.Within mA (fs.map (·.1))
  | .own _ => ∃ o, h.get? a = some o
  | .xd fs => ∃ mA, h.Ns1 a mA ∧ ∀ f, RelO (fs.lookup f) (mA f)
  | .rng lo hi => ∃ t u v, h.get? a = some { cls := .type "range", data := .fields #[.int lo t, .int hi u, .int 1 v] }
  | .frz o u => h.get? a = some o ∧ ObjOk H h a u
  | .tbl ps => h.get? a = some { cls := .none, data := .fields ps }
  | .met f x => h.get? a = some (PySem.W.methodObj (.ref f) (.ref x))
  | .ext φ => φ h ∧ (∃ o, h.get? a = some o) ∧ ∀ h1 h2 : Heap, φ h1 → (∀ o, h1.get? a = some o → h2.get? a = some o) → φ h2
def HOk (H : Hp) (h : Heap) : Prop := ∀ a o, H a = some o → ObjOk P w H h a o
end
section
variable {P : Program} {w : World} {H H' : Hp} {h h' : Heap} {a : Addr} {o : HO}
theorem ObjOk.lt (x : ObjOk P w H h a o) : a < h.objs.size := by
  cases o with
  | lst xs => obtain ⟨_, _, _, _, e⟩ := x; exact Heap.lt_size e
  | tup xs => obtain ⟨_, _, _, p⟩ := x; exact p.lt
  | dK kvs => obtain ⟨_, _, _, _, o, _, _, e, _⟩ := x; exact Heap.lt_size e
  | dT kvs => obtain ⟨_, _, _, _, o, _, _, e, _⟩ := x; exact Heap.lt_size e
  | set S n => obtain ⟨o, _, _, _, e, _⟩ := x; exact Heap.lt_size e
  | ins C dx fs => obtain ⟨_, _, _, e, _⟩ := x; exact Heap.lt_size e
  | own y => obtain ⟨_, e⟩ := x; exact Heap.lt_size e
  | xd fs => obtain ⟨_, ⟨_, _, _, e, _⟩, _⟩ := x; exact Heap.lt_size e
  | rng lo hi => obtain ⟨_, _, _, e⟩ := x; exact Heap.lt_size e
  | frz ob u => obtain ⟨e, _⟩ := x; exact Heap.lt_size e
  | tbl ps => exact Heap.lt_size (show h.get? a = some _ from x)
  | met f y => exact Heap.lt_size (show h.get? a = some _ from x)
  | ext φ => obtain ⟨_, ⟨_, e⟩, _⟩ := x; exact Heap.lt_size e
theorem Paired.mapP {α β : Type} {F G : α → β → Prop} : ∀ {l₁ : List α} {l₂ : List β}, Paired F l₁ l₂ → (∀ a b, F a b → G a b) → Paired G l₁ l₂
  | _, _, .nil, _ => .nil
  | _, _, .cons r t, f => .cons (f _ _ r) (Paired.mapP t f)
theorem ObjOk.stay (x : ObjOk P w H h a o) (k : ∀ b u, (b = a ∨ H b = some (.own a)) → h.get? b = some u → h'.get? b = some u)
    (ho : ∀ b, H b = some (.own a) → H' b = some (.own a)) (ht : ∀ b xs, H b = some (.tup xs) → H' b = some (.tup xs)) : ObjOk P w H' h' a o := by
  induction o with
  | lst xs => obtain ⟨z, its, n, r, e⟩ := x; exact ⟨z, its, n, r, k _ _ (.inl rfl) e⟩
  | tup xs => obtain ⟨z, its, r, ob, e, c⟩ := x; exact ⟨z, its, r, ob, k _ _ (.inl rfl) e, c⟩
  | dK kvs => obtain ⟨z, y, vs, r, ob, es, ep, e, c⟩ := x; exact ⟨z, y, vs, r, ob, es, ep, k _ _ (.inl rfl) e, c⟩
  | dT kvs =>
    obtain ⟨z, y, xs, r, ob, es, ep, e, c⟩ := x
    exact ⟨z, y, xs, Paired.mapP r fun p q z => ⟨z.1, ht _ _ z.2.1, z.2.2⟩, ob, es, ep, k _ _ (.inl rfl) e, c⟩
  | set S n => obtain ⟨ob, es, ep, t, e, c⟩ := x; exact ⟨ob, es, ep, t, k _ _ (.inl rfl) e, c⟩
  | ins C dx fs =>
    obtain ⟨d, z, ne, e, mA, ⟨od, es, ep, e2, c⟩, r⟩ := x
    exact ⟨ho _ d, z, ne, k _ _ (.inl rfl) e, mA, ⟨od, es, ep, k _ _ (.inr d) e2, c⟩, r⟩
  | own y => obtain ⟨ob, e⟩ := x; exact ⟨ob, k _ _ (.inl rfl) e⟩
  | xd fs => obtain ⟨mA, ⟨od, es, ep, e, c⟩, r⟩ := x; exact ⟨mA, ⟨od, es, ep, k _ _ (.inl rfl) e, c⟩, r⟩
  | rng lo hi => obtain ⟨t, u, v, e⟩ := x; exact ⟨t, u, v, k _ _ (.inl rfl) e⟩
  | frz ob u ih => obtain ⟨e, q⟩ := x; exact ⟨k _ _ (.inl rfl) e, ih q⟩
  | tbl ps =>
    have e : h.get? a = some { cls := .none, data := .fields ps } := x
    show h'.get? a = some { cls := .none, data := .fields ps }
    exact k a _ (.inl rfl) e
  | met f y =>
    have e : h.get? a = some (PySem.W.methodObj (.ref f) (.ref y)) := x
    show h'.get? a = some (PySem.W.methodObj (.ref f) (.ref y))
    exact k a _ (.inl rfl) e
  | ext φ => obtain ⟨p, ⟨o, e⟩, st⟩ := x; exact ⟨st _ _ p fun o q => k _ _ (.inl rfl) q, ⟨o, k _ _ (.inl rfl) e⟩, st⟩
theorem HOk.lt (x : HOk P w H h) (e : H a = some o) : a < h.objs.size := (x a o e).lt
theorem HOk.fresh (x : HOk P w H h) (e : h.objs.size ≤ a) : H a = none := by
  cases q : H a with
  | none => rfl
  | some u => exact absurd (Nat.lt_of_lt_of_le (x.lt q) e) (Nat.lt_irrefl _)
theorem HOk.kept (x : HOk P w H h) (k : ∀ b u, h.get? b = some u → h'.get? b = some u) : HOk P w H h' := fun a o e =>
  (x a o e).stay (fun b u _ q => k b u q) (fun _ q => q) fun _ _ q => q
theorem HOk.laid (x : HOk P w H h) (k : ∀ b u, h.get? b = some u → h'.get? b = some u) (hp : h.objs.size ≤ a) (new : ObjOk P w (upd H a o) h' a o) : HOk P w (upd H a o) h' := fun b u e => by
  have hn := x.fresh hp
  by_cases hb : b = a
  · subst hb; rw [upd_same] at e; cases e; exact new
  · rw [upd_ne hb] at e
    exact (x b u e).stay (fun c v _ q => k c v q) (fun c q => by rw [upd_ne (ne_of_none q hn)]; exact q) fun c xs q => by rw [upd_ne (ne_of_none q hn)]; exact q
end
def Rd (H : Hp) (a : Addr) (u : HO) : Prop := H a = some u ∨ ∃ o, H a = some (.frz o u)
theorem Rd.ok {P : Program} {w : World} {H : Hp} {h : Heap} {a : Addr} {u : HO} (r : Rd H a u) (x : HOk P w H h) : ObjOk P w H h a u := by
  rcases r with r | ⟨o, r⟩
  · exact x a u r
  · obtain ⟨_, q⟩ := x a _ r
    exact q
def Mut : Option HO → Prop
  | some (.lst _) => True
  | some (.dK _) => True
  | some (.dT _) => True
  | some (.set _ _) => True
  | some (.ins _ _ _) => True
  | some (.ext _) => True
  | _ => False
section
variable {P : Program} {w : World} {H : Hp} {h h' : Heap} {x e : Addr} {o' : HO}
theorem HOk.write (ok : HOk P w H h) (mu : Mut (H x)) (he : e = x ∨ H e = some (.own x)) (k : ∀ b u, b ≠ e → h.get? b = some u → h'.get? b = some u) (heo : ∃ u, h'.get? e = some u)
    (new : ObjOk P w (upd H x o') h' x o') : HOk P w (upd H x o') h' := fun b u q => by
  have nown : ∀ c y, H c = some (.own y) → c ≠ x := fun c y r z => by subst z; rw [r] at mu; exact mu
  have ntup : ∀ c xs, H c = some (.tup xs) → c ≠ x := fun c xs r z => by subst z; rw [r] at mu; exact mu
  by_cases hb : b = x
  · subst hb; rw [upd_same] at q; cases q; exact new
  · rw [upd_ne hb] at q
    by_cases hbe : b = e
    · have q' : H b = some (.own x) := by
        rcases he with z | z
        · exact absurd (hbe.trans z) hb
        · rw [hbe]; exact z
      rw [q] at q'; cases q'
      obtain ⟨v, hv⟩ := heo
      exact ⟨v, by rw [hbe]; exact hv⟩
    · refine (ok b u q).stay (fun c v hc r => k c v ?_ r) (fun c r => by rw [upd_ne (nown c b r)]; exact r) fun c xs r => by rw [upd_ne (ntup c xs r)]; exact r
      rcases hc with rfl | hc
      · exact hbe
      · rintro rfl
        rcases he with z | z
        · exact nown c b hc z
        · rw [hc] at z; cases z; exact hb rfl
end
structure Un (fs ex : List Addr) (H H' : Hp) (h h' : Heap) : Prop where
  keep : ∀ b o, h.get? b = some o → H b = none → b ∉ fs → b ∉ ex → h'.get? b = some o
  slot : ∀ b o, h.get? b = some o → H b = none → b ∈ fs → b ∉ ex → ∃ sl, h'.get? b = some { o with slots := sl }
  free : ∀ b o, h.get? b = some o → H b = none → b ∉ ex → H' b = none
  there : ∀ b o, h.get? b = some o → b ∉ ex → ∃ o', h'.get? b = some o'
  tups : ∀ b xs, H b = some (.tup xs) → H' b = some (.tup xs)
  frzs : ∀ b o u, H b = some (.frz o u) → H' b = some (.frz o u)
  tbls : ∀ b ps, H b = some (.tbl ps) → ∃ more, H' b = some (.tbl (ps ++ more))
section
variable {fs fs' ex ex' : List Addr} {H H1 H2 : Hp} {h h1 h2 h' : Heap} {a x e : Addr} {o : HO}
theorem Un.any (u : Un fs ex H H1 h h1) {b : Addr} {ob : Obj} (q : h.get? b = some ob) (n : H b = none) (hx : b ∉ ex) : ∃ sl, h1.get? b = some { ob with slots := sl } := by
  by_cases hb : b ∈ fs
  · exact u.slot b ob q n hb hx
  · exact ⟨ob.slots, u.keep b ob q n hb hx⟩
theorem Un.kept (k : ∀ b u, h.get? b = some u → h'.get? b = some u) : Un fs ex H H h h' :=
  ⟨fun b ob q _ _ _ => k b ob q, fun b ob q _ _ _ => ⟨ob.slots, k b ob q⟩, fun _ _ _ n _ => n, fun b ob q _ => ⟨ob, k b ob q⟩, fun _ _ q => q, fun _ _ _ q => q, fun _ ps q => ⟨#[], by rw [q]; simp⟩⟩
theorem Un.refl : Un fs ex H H h h := Un.kept fun _ _ q => q
theorem Un.laid (k : ∀ b u, h.get? b = some u → h'.get? b = some u) (hp : h.objs.size ≤ a) (hn : H a = none) : Un fs ex H (upd H a o) h h' where
  keep := fun b u q _ _ _ => k b u q
  slot := fun b u q _ _ _ => ⟨u.slots, k b u q⟩
  free := fun b u q n _ => by rw [upd_ne (Nat.ne_of_lt (Nat.lt_of_lt_of_le (Heap.lt_size q) hp))]; exact n
  there := fun b u q _ => ⟨u, k b u q⟩
  tups := fun b xs q => by rw [upd_ne (ne_of_none q hn)]; exact q
  frzs := fun b u xs q => by rw [upd_ne (ne_of_none q hn)]; exact q
  tbls := fun b ps q => ⟨#[], by rw [upd_ne (ne_of_none q hn), q]; simp⟩
theorem Un.write (mu : Mut (H x)) (he : e = x ∨ H e = some (.own x)) (k : ∀ b u, b ≠ e → h.get? b = some u → h'.get? b = some u) (heo : ∃ u, h'.get? e = some u) : Un fs ex H (upd H x o) h h' := by
  have hx : ∀ b, H b = none → b ≠ x := fun b n z => by subst z; rw [n] at mu; exact mu
  have hb : ∀ b, H b = none → b ≠ e := fun b n z => by
    subst z
    rcases he with r | r
    · exact hx b n r
    · rw [n] at r; cases r
  have hm : ∀ b u, H b = some u → ¬ Mut (some u) → b ≠ x := fun b u q nm z => by subst z; rw [q] at mu; exact nm mu
  refine ⟨fun b u q n _ _ => k b u (hb b n) q, fun b u q n _ _ => ⟨u.slots, k b u (hb b n) q⟩, fun b u q n _ => by rw [upd_ne (hx b n)]; exact n, fun b u q _ => ?_,
    fun b xs q => by rw [upd_ne (hm b _ q fun z => z)]; exact q, fun b u xs q => by rw [upd_ne (hm b _ q fun z => z)]; exact q, fun b ps q => ⟨#[], by rw [upd_ne (hm b _ q fun z => z), q]; simp⟩⟩
  by_cases hbe : b = e
  · subst hbe; exact heo
  · exact ⟨u, k b u hbe q⟩
end
def trk (h : Heap) (H : Hp) : List Addr := (List.range h.objs.size).filter fun a => (H a).isSome
def hidT (h : Heap) (H : Hp) : Heap := PySem.W.hideAll h (trk h H)
theorem hidT_size (h : Heap) (H : Hp) : (hidT h H).objs.size = h.objs.size := PySem.W.hideAll_size _ _
theorem hidT_get {h : Heap} {H : Hp} {b : Addr} {o : Obj} (e : h.get? b = some o) (n : H b = none) : (hidT h H).get? b = some o :=
  PySem.W.hideAll_get _ e fun hm => by
    have q : (H b).isSome = true := (List.mem_filter.mp hm).2
    rw [n] at q; simp at q
theorem of_hidT {h : Heap} {H : Hp} {b : Addr} {o : Obj} (e : (hidT h H).get? b = some o) : h.get? b = some o ∧ H b = none := by
  have e' : h.get? b = some o := PySem.W.of_hideAll (trk h H) e
  refine ⟨e', ?_⟩
  cases q : H b with
  | none => rfl
  | some x =>
    have hm : b ∈ trk h H := List.mem_filter.mpr ⟨List.mem_range.mpr (Heap.lt_size e'), by simp [q]⟩
    have z : (hidT h H).get? b = none := PySem.W.hideAll_none (trk h H) hm
    rw [z] at e; cases e
def allNews (g h : Heap) (L : Addr) : List (Addr × Obj) := (List.range h.objs.size).filterMap fun a => if a = L ∨ (g.get? a).isSome = true then none else (h.get? a).map fun o => (a, o)
def rest (g h : Heap) (L d : Addr) : List (Addr × Obj) := (allNews g h L).filter fun p => decide (p.1 ≠ d)
end L2
namespace L2
open PySem PySem.Spec PyProof.Rows
structure Mod (K : PySem.W.Frag) (mg : Str → Option Value) (base : Heap) : Prop where
  kin : K.In base
  glob : base.Ns mainGlobals mg
  blt : ∃ mb, base.Ns builtinsNs mb ∧ ∀ x : Str, x ≠ "__name__" → mb x = bootBuiltins x
  nolimit : base.NoLimit
structure Cx where
  prog : Program
  w : World
  K : PySem.W.Frag
  mg : Str → Option Value
  base : Heap
  A : Around
  N : List Str
  s₀ : Shared
  H₀ : Hp
  env : Env
  outer : List Env
  stack : List Env
  ex : List Addr
  fn : Str → Bool
  calm : Bool
  pn : List (Addr × Obj)
  xe : Value → Shared → Prop
def frs (l : List Env) : List Addr := l.filterMap (·.frame)
abbrev Cx.fs (X : Cx) : List Addr := frs X.outer
def Vis (sc : Scope) (x : Str) : Prop := sc.names.lookup x = some .local ∨ sc.names.lookup x = some .cell ∨ sc.names.lookup x = some .free
def Loc (sc : Scope) (x : Str) : Prop := sc.names.lookup x = some .local ∨ sc.names.lookup x = some .cell
def Look (env : Env) (h : Heap) (m : Str → Option Value) (x : Str) (u : Value) : Prop :=
  (env.kindOf x = some .local ∧ m x = some u) ∨ ((env.kindOf x = some .cell ∨ env.kindOf x = some .free) ∧ ∃ c, env.cells.lookup x = some c ∧ h.IsCell c (some u))
structure Cx.Ok (X : Cx) : Prop where
  mod : Mod X.K X.mg X.base
  kind : X.env.scope.kind = .function
  glob : X.env.globals = mainGlobals
  blt : X.env.builtins = builtinsNs
  above : X.s₀.heap.objs.size ≤ X.env.locals
  inj : ∀ x y c, X.env.cells.lookup x = some c → X.env.cells.lookup y = some c → x = y
  has : ∀ x, (X.env.kindOf x = some .cell ∨ X.env.kindOf x = some .free) → ∃ c, X.env.cells.lookup x = some c
  cab : ∀ x c, X.fn x = true → X.env.cells.lookup x = some c → X.s₀.heap.objs.size ≤ c
  hd : X.calm = true → X.A.handled = none
  frames : X.A.frames = some X.stack
  stk : X.stack = X.outer ∨ (X.stack = X.env :: X.outer ∧ X.env.frame = some X.env.locals)
  exf : ∀ b ∈ X.ex, b ≠ X.env.locals ∧ ∀ x c, X.env.cells.lookup x = some c → c ≠ b
  bs : ∀ b o, X.base.get? b = some o → X.s₀.heap.get? b = some o ∧ X.H₀ b = none
  bsz : X.base.objs.size ≤ X.s₀.heap.objs.size
  noex : ∀ b o, X.base.get? b = some o → b ∉ X.ex
  exfs : ∀ b ∈ X.ex, b ∉ X.fs
  funs : X.s₀.heap.FunFrames X.base X.outer
  frf : ∀ b ∈ X.fs, X.H₀ b = none
structure Inv (X : Cx) (pins : List (Addr × Obj)) (σ : List (Option V)) (H : Hp) (s : Shared) : Prop where
  ok : X.Ok
  os : s.os = X.s₀.os
  bare : AllBare s.gens
  base : Un X.fs X.ex X.H₀ H X.s₀.heap s.heap
  loc : ∃ m, s.heap.Ns X.env.locals m ∧ ∀ (i : Nat) (x : Str) (v : V), X.N[i]? = some x → σ[i]? = some (some v) → Vis X.env.scope x → ∃ u, RelV v u ∧ Look X.env s.heap m x u
  cell : ∀ x c, X.env.cells.lookup x = some c → ∃ v, s.heap.IsCell c v
  free : H X.env.locals = none
  freeC : ∀ x c, X.env.cells.lookup x = some c → H c = none
  pin : ∀ p ∈ X.pn ++ pins, s.heap.get? p.1 = some p.2 ∧ H p.1 = none ∧ p.1 ≠ X.env.locals ∧ p.1 ∉ X.fs ∧ ∀ v, p.2.data ≠ .cell v
  hok : HOk X.prog X.w H s.heap
  len : σ.length = X.N.length
section
variable {X : Cx} {pins : List (Addr × Obj)} {σ : List (Option V)} {H H' : Hp} {s : Shared} {h' : Heap}
theorem Cx.Ok.nofr (ok : X.Ok) {b : Addr} {o : Obj} (e : X.base.get? b = some o) : b ∉ X.fs := fun hb => by
  have := (ok.funs.mem hb).1
  rw [e] at this; cases this
theorem Inv.bs (I : Inv X pins σ H s) : ∀ b o, X.base.get? b = some o → s.heap.get? b = some o ∧ H b = none := fun b o e =>
  ⟨I.base.keep b o (I.ok.bs b o e).1 (I.ok.bs b o e).2 (I.ok.nofr e) (I.ok.noex b o e), I.base.free b o (I.ok.bs b o e).1 (I.ok.bs b o e).2 (I.ok.noex b o e)⟩
theorem Inv.bk (I : Inv X pins σ H s) : ∀ b o, X.base.get? b = some o → s.heap.get? b = some o := fun b o e => (I.bs b o e).1
theorem Inv.mod (I : Inv X pins σ H s) : Mod X.K X.mg X.base := I.ok.mod
theorem Inv.kIn (I : Inv X pins σ H s) : X.K.In s.heap := I.ok.mod.kin.keeps I.bk
theorem Inv.fr (I : Inv X pins σ H s) : ∃ m, Fr X.base X.env.locals s.heap m :=
  let ⟨m, hn, _⟩ := I.loc
  ⟨m, hn, I.bk, Nat.le_trans I.ok.bsz I.ok.above⟩
theorem Inv.lt (I : Inv X pins σ H s) : X.env.locals < s.heap.objs.size := let ⟨_, hn, _⟩ := I.loc; hn.lt
theorem Inv.sz (I : Inv X pins σ H s) : X.s₀.heap.objs.size ≤ s.heap.objs.size := Nat.le_trans I.ok.above (Nat.le_of_lt I.lt)
theorem Inv.nofs (I : Inv X pins σ H s) {a : Addr} (h : s.heap.objs.size ≤ a) : a ∉ X.fs := fun hb => by
  obtain ⟨_, o, ho, _⟩ := I.ok.funs.mem hb
  exact absurd (Nat.lt_of_lt_of_le (Heap.lt_size ho) (Nat.le_trans I.sz h)) (Nat.lt_irrefl _)
theorem Inv.cne (I : Inv X pins σ H s) : ∀ x c, X.env.cells.lookup x = some c → c ≠ X.env.locals := fun x c e z => by
  obtain ⟨v, o, ho, hd⟩ := I.cell x c e
  obtain ⟨m, ⟨o', es, ep, ho', hd', _⟩, _⟩ := I.loc
  rw [z, ho'] at ho; cases ho; rw [hd'] at hd; cases hd
theorem Inv.funs (I : Inv X pins σ H s) : s.heap.FunFrames X.base X.outer := by
  have all : ∀ (l : List Env), (∀ b ∈ frs l, b ∈ X.fs) → X.s₀.heap.FunFrames X.base l → s.heap.FunFrames X.base l := by
    intro l
    induction l with
    | nil => intro _ _; trivial
    | cons env r ih =>
      intro hs hl
      obtain ⟨hk, ⟨L, o, hf, hn, ho, hd⟩, hr⟩ := hl
      have hL : L ∈ X.fs := hs L (by unfold frs; rw [List.filterMap_cons, hf]; exact List.mem_cons_self)
      obtain ⟨sl, e⟩ := I.base.slot L o ho (I.ok.frf L hL) hL fun z => I.ok.exfs L z hL
      exact ⟨hk, ⟨L, _, hf, hn, e, hd⟩, ih (fun b hb => hs b (by unfold frs; rw [List.filterMap_cons, hf]; exact List.mem_cons_of_mem _ hb)) hr⟩
  exact all X.outer (fun _ hb => hb) I.ok.funs
theorem Inv.stack (I : Inv X pins σ H s) : s.heap.FunFrames X.base X.stack := by
  rcases I.ok.stk with e | ⟨e, hf⟩
  · rw [e]; exact I.funs
  · rw [e]
    obtain ⟨m, hn, _⟩ := I.loc
    refine .cons (by rw [I.ok.kind]; decide) hf hn ?_ I.funs
    exact Heap.get?_none_of_le (Nat.le_trans I.ok.bsz I.ok.above)
theorem Inv.stkSub (I : Inv X pins σ H s) : ∀ b ∈ frs X.stack, b ∈ X.env.locals :: X.fs := fun b hb => by
  rcases I.ok.stk with e | ⟨e, hf⟩
  · rw [e] at hb; exact List.mem_cons_of_mem _ hb
  · rw [e] at hb
    unfold frs at hb
    rw [List.filterMap_cons, hf] at hb
    exact hb
theorem Inv.stkFree (I : Inv X pins σ H s) : ∀ b ∈ frs X.stack, H b = none := fun b hb => by
  rcases List.mem_cons.mp (I.stkSub b hb) with e | hb
  · rw [e]; exact I.free
  · obtain ⟨_, o, ho, _⟩ := I.ok.funs.mem hb
    exact I.base.free b o ho (I.ok.frf b hb) fun z => I.ok.exfs b z hb
theorem Inv.step {g' : Array GenState} {t' : Nat} {d' : Drawn} {ch : List Addr} (I : Inv X pins σ H s)
    (hch : ∀ b ∈ ch, (b ∈ X.ex ∨ X.s₀.heap.objs.size ≤ b) ∧ b ≠ X.env.locals ∧ (∀ x c, X.env.cells.lookup x = some c → c ≠ b) ∧ ∀ p ∈ X.pn ++ pins, p.1 ≠ b)
    (keep : ∀ b o, b ≠ X.env.locals → b ∉ X.fs → b ∉ ch → s.heap.get? b = some o → H b = none → h'.get? b = some o)
    (slot : ∀ b o, b ≠ X.env.locals → b ∈ X.fs → b ∉ ch → s.heap.get? b = some o → H b = none → ∃ sl, h'.get? b = some { o with slots := sl }) (free : ∀ b o, b ∉ ch → s.heap.get? b = some o → H b = none → H' b = none)
    (there : ∀ b o, b ∉ ch → s.heap.get? b = some o → ∃ o', h'.get? b = some o')
    (tups : ∀ b xs, H b = some (.tup xs) → H' b = some (.tup xs)) (frzs : ∀ b o u, H b = some (.frz o u) → H' b = some (.frz o u)) (tbls : ∀ b ps, H b = some (.tbl ps) → ∃ more, H' b = some (.tbl (ps ++ more)))
    (ns : ∀ m, s.heap.Ns X.env.locals m → h'.Ns X.env.locals m) (hok : HOk X.prog X.w H' h') (hg : AllBare g') :
    Inv X pins σ H' { s with heap := h', gens := g', drawn := d', toks := t' } := by
  have neL : ∀ b o, X.s₀.heap.get? b = some o → b ≠ X.env.locals := fun b o e => Nat.ne_of_lt (Nat.lt_of_lt_of_le (Heap.lt_size e) I.ok.above)
  have neC : ∀ b o, X.s₀.heap.get? b = some o → b ∉ X.ex → b ∉ ch := fun b o e hx hb => by
    rcases (hch b hb).1 with z | z
    · exact hx z
    · exact absurd (Nat.lt_of_lt_of_le (Heap.lt_size e) z) (Nat.lt_irrefl _)
  have cellK : ∀ x c, X.env.cells.lookup x = some c → ∀ v, s.heap.IsCell c v → h'.IsCell c v := fun x c e v ⟨o, ho, hd⟩ => by
    have nch : c ∉ ch := fun z => (hch c z).2.2.1 x c e rfl
    by_cases hc : c ∈ X.fs
    · obtain ⟨sl, q⟩ := slot c o (I.cne x c e) hc nch ho (I.freeC x c e)
      exact ⟨_, q, hd⟩
    · exact ⟨o, keep c o (I.cne x c e) hc nch ho (I.freeC x c e), hd⟩
  refine ⟨I.ok, I.os, hg, ⟨fun b o e n hb hx => ?_, fun b o e n hb hx => ?_, fun b o e n hx => ?_, fun b o e hx => ?_, fun b xs e => tups b xs (I.base.tups b xs e), fun b o xs e => frzs b o xs (I.base.frzs b o xs e), fun b ps e => ?_⟩, ?_, fun x c e => ?_, ?_, fun x c e => ?_, fun p hp => ?_, hok, I.len⟩
  · exact keep b o (neL b o e) hb (neC b o e hx) (I.base.keep b o e n hb hx) (I.base.free b o e n hx)
  · obtain ⟨sl, e1⟩ := I.base.slot b o e n hb hx
    obtain ⟨sl', e2⟩ := slot b _ (neL b o e) hb (neC b o e hx) e1 (I.base.free b o e n hx)
    exact ⟨sl', e2⟩
  · obtain ⟨o', e1⟩ := I.base.there b o e hx
    exact free b o' (neC b o e hx) e1 (I.base.free b o e n hx)
  · obtain ⟨o', e1⟩ := I.base.there b o e hx
    exact there b o' (neC b o e hx) e1
  · obtain ⟨m1, e1⟩ := I.base.tbls b ps e
    obtain ⟨m2, e2⟩ := tbls b _ e1
    exact ⟨m1 ++ m2, by rw [e2, Array.append_assoc]⟩
  · obtain ⟨m, hn, hl⟩ := I.loc
    refine ⟨m, ns m hn, fun i x v e1 e2 e3 => ?_⟩
    obtain ⟨u, r, l⟩ := hl i x v e1 e2 e3
    refine ⟨u, r, ?_⟩
    rcases l with l | ⟨k, c, e, z⟩
    · exact .inl l
    · exact .inr ⟨k, c, e, cellK x c e _ z⟩
  · obtain ⟨v, z⟩ := I.cell x c e
    exact ⟨v, cellK x c e v z⟩
  · obtain ⟨m, ⟨o, _, _, ho, _⟩, _⟩ := I.loc
    exact free _ o (fun z => (hch _ z).2.1 rfl) ho I.free
  · obtain ⟨v, o, ho, hd⟩ := I.cell x c e
    exact free c o (fun z => (hch c z).2.2.1 x c e rfl) ho (I.freeC x c e)
  · obtain ⟨e, n, ne, nf, d⟩ := I.pin p hp
    have nch : p.1 ∉ ch := fun z => (hch p.1 z).2.2.2 p hp rfl
    exact ⟨keep p.1 p.2 ne nf nch e n, free p.1 p.2 nch e n, ne, nf, d⟩
theorem Inv.un {t' : Nat} (I : Inv X pins σ H s) (u : Un X.fs [] H H' s.heap h') (hok : HOk X.prog X.w H' h') : Inv X pins σ H' { s with heap := h', toks := t' } := by
  obtain ⟨m, ⟨o, es, ep, ho, r⟩, _⟩ := id I.loc
  obtain ⟨sl, hL⟩ := u.any ho I.free (by simp)
  exact I.step (g' := s.gens) (d' := s.drawn) (ch := []) (fun _ z => nomatch z) (fun b o _ hb _ e n => u.keep b o e n hb (by simp)) (fun b o _ hb _ e n => u.slot b o e n hb (by simp)) (fun b o _ e n => u.free b o e n (by simp)) (fun b o _ e => u.there b o e (by simp)) u.tups u.frzs u.tbls (fun m' hm => by
    obtain ⟨o', es', ep', ho', r'⟩ := hm
    rw [ho] at ho'; cases ho'
    exact ⟨_, es', ep', hL, r'⟩) hok I.bare
theorem Inv.call {g' : Array GenState} {t' : Nat} {d' : Drawn} {ch : List Addr} (I : Inv X pins σ H s) (u : Un (frs X.stack) ch H H' s.heap h') (hok : HOk X.prog X.w H' h') (hg : AllBare g')
    (hch : ∀ b ∈ ch, (b ∈ X.ex ∨ X.s₀.heap.objs.size ≤ b) ∧ b ≠ X.env.locals ∧ (∀ x c, X.env.cells.lookup x = some c → c ≠ b) ∧ ∀ p ∈ X.pn ++ pins, p.1 ≠ b) :
    Inv X pins σ H' { s with heap := h', gens := g', drawn := d', toks := t' } := by
  obtain ⟨m, ⟨o, es, ep, ho, r⟩, _⟩ := id I.loc
  obtain ⟨sl, hL⟩ := u.any ho I.free fun z => (hch _ z).2.1 rfl
  exact I.step (ch := ch) hch (fun b o hL hb hc e n => u.keep b o e n (fun z => (List.mem_cons.mp (I.stkSub b z)).elim hL hb) hc) (fun b o _ _ hc e n => u.any e n hc) (fun b o hc e n => u.free b o e n hc) (fun b o hc e => u.there b o e hc) u.tups u.frzs u.tbls (fun m' hm => by
    obtain ⟨o', es', ep', ho', r'⟩ := hm
    rw [ho] at ho'; cases ho'
    exact ⟨_, es', ep', hL, r'⟩) hok hg
theorem Inv.turned {t' : Nat} {it : Addr} (I : Inv X pins σ H s) (k : ∀ b o, b ≠ it → s.heap.get? b = some o → h'.get? b = some o) (hn : H it = none) (hL : it ≠ X.env.locals)
    (h1 : it ∈ X.ex ∨ X.s₀.heap.objs.size ≤ it) (h2 : ∀ x c, X.env.cells.lookup x = some c → c ≠ it) (h3 : ∀ p ∈ X.pn ++ pins, p.1 ≠ it) : Inv X pins σ H { s with heap := h', toks := t' } := by
  have nit : ∀ b u, H b = some u → b ≠ it := fun b u e z => by rw [z, hn] at e; cases e
  refine I.step (g' := s.gens) (d' := s.drawn) (ch := [it]) (fun b hb => ?_) (fun b o _ _ hc e _ => k b o (fun z => hc (by simp [z])) e) (fun b o _ _ hc e _ => ⟨o.slots, k b o (fun z => hc (by simp [z])) e⟩) (fun _ _ _ _ n => n)
    (fun b o hc e => ⟨o, k b o (fun z => hc (by simp [z])) e⟩) (fun _ _ e => e) (fun _ _ _ e => e) (fun b ps e => ⟨#[], by rw [e]; simp⟩) (fun m hm => ?_) (fun b u e => ?_) I.bare
  · have e : b = it := by simpa using hb
    subst e
    exact ⟨h1, hL, h2, h3⟩
  · obtain ⟨o, es, ep, ho, r⟩ := hm
    exact ⟨o, es, ep, k _ o (Ne.symm hL) ho, r⟩
  · refine (I.hok b u e).stay (fun c v hc q => k c v ?_ q) (fun _ q => q) fun _ _ q => q
    rcases hc with z | z
    · rw [z]; exact nit b u e
    · exact nit c _ z
theorem Inv.tok (I : Inv X pins σ H s) (t : Nat) : Inv X pins σ H { s with toks := t } := I.un (h' := s.heap) (t' := t) Un.refl I.hok
theorem Inv.kept {t' : Nat} (I : Inv X pins σ H s) (k : ∀ b u, s.heap.get? b = some u → h'.get? b = some u) : Inv X pins σ H { s with heap := h', toks := t' } := I.un (Un.kept k) (I.hok.kept k)
theorem Inv.laid {a : Addr} {o : HO} {t' : Nat} (I : Inv X pins σ H s) (k : ∀ b u, s.heap.get? b = some u → h'.get? b = some u) (hp : s.heap.objs.size ≤ a) (new : ObjOk X.prog X.w (upd H a o) h' a o) :
    Inv X pins σ (upd H a o) { s with heap := h', toks := t' } := I.un (Un.laid k hp (I.hok.fresh hp)) (I.hok.laid k hp new)
theorem Inv.write {x e : Addr} {o : HO} {t' : Nat} (I : Inv X pins σ H s) (mu : Mut (H x)) (he : e = x ∨ H e = some (.own x)) (k : ∀ b u, b ≠ e → s.heap.get? b = some u → h'.get? b = some u) (heo : ∃ u, h'.get? e = some u)
    (new : ObjOk X.prog X.w (upd H x o) h' x o) : Inv X pins σ (upd H x o) { s with heap := h', toks := t' } := I.un (Un.write mu he k heo) (I.hok.write mu he k heo new)
theorem Inv.weak {σ' : List (Option V)} (I : Inv X pins σ H s) (hl : σ'.length = σ.length) (w : ∀ (i : Nat) v, σ'[i]? = some (some v) → σ[i]? = some (some v)) : Inv X pins σ' H s :=
  ⟨I.ok, I.os, I.bare, I.base, let ⟨m, hn, hl'⟩ := I.loc; ⟨m, hn, fun i x v e1 e2 e3 => hl' i x v e1 (w i v e2) e3⟩, I.cell, I.free, I.freeC, I.pin, I.hok, hl.trans I.len⟩
theorem Inv.pins_of {pins' : List (Addr × Obj)} (I : Inv X pins σ H s) (h : ∀ p ∈ pins', s.heap.get? p.1 = some p.2 ∧ H p.1 = none ∧ p.1 ≠ X.env.locals ∧ p.1 ∉ X.fs ∧ ∀ v, p.2.data ≠ .cell v) : Inv X pins' σ H s :=
  ⟨I.ok, I.os, I.bare, I.base, I.loc, I.cell, I.free, I.freeC, fun p hp => (List.mem_append.mp hp).elim (fun z => I.pin p (List.mem_append_left _ z)) (h p), I.hok, I.len⟩
theorem nodup_ix {N : List Str} (hN : N.Nodup) {i j : Nat} {x : Str} (a : N[i]? = some x) (b : N[j]? = some x) : i = j := by
  obtain ⟨h1, e1⟩ := List.getElem?_eq_some_iff.mp a
  obtain ⟨h2, e2⟩ := List.getElem?_eq_some_iff.mp b
  exact (List.getElem_inj hN).mp (e1.trans e2.symm)
theorem store_ok2 {M : Model} {A : Around} {E : Value → Shared → Prop} {i : Nat} {x : Str} {v : V} {u : Value} {Q : Unit → Shared → Prop} (I : Inv X pins σ H s) (hN : X.N.Nodup) (hi : X.N[i]? = some x) (hx : Loc X.env.scope x) (r : RelV v u)
    (h : ∀ s', Inv X pins (σ.set i (some v)) H s' → (∃ a, Heap.SameBut a s.heap s'.heap ∧ (a = X.env.locals ∨ X.env.cells.lookup x = some a)) → Q () s') (hf : X.fn x = true ∨ X.env.scope.names.lookup x = some .local := by first | exact .inl rfl | exact .inr rfl | assumption) : wpAny M A (storeName X.env x u) Q E s := by
  obtain ⟨m, hn, hl⟩ := id I.loc
  have hcls : (X.env.scope.kind == .class || (X.env.scope.kind == .module && X.env.locals != X.env.globals)) = false := by rw [I.ok.kind]; rfl
  have hiσ : i < σ.length := by rw [I.len]; exact (List.getElem?_eq_some_iff.mp hi).1
  have cne := I.cne
  have tracked : ∀ {a : Addr} {h' : Heap}, (∃ o, s.heap.get? a = some o ∧ H a = none) → Heap.SameBut a s.heap h' → HOk X.prog X.w H h' := fun {a h'} ha hs b ob e => by
    obtain ⟨_, _, hfree⟩ := ha
    refine (I.hok b ob e).stay (fun c w' hc q => (hs.2 c ?_).trans q) (fun _ q => q) fun _ _ q => q
    rintro rfl
    rcases hc with rfl | hc
    · rw [hfree] at e; cases e
    · rw [hfree] at hc; cases hc
  rcases hx with hk | hk
  · refine wpAny_storeName_local hk hn (fun h' hn' hs => ?_) hcls
    obtain ⟨oL, _, _, hoL, _⟩ := id hn
    refine h _ ⟨I.ok, I.os, I.bare, ⟨fun b o e n hb hx => ?_, fun b o e n hb hx => ?_, I.base.free, fun b o e hx => ?_, I.base.tups, I.base.frzs, I.base.tbls⟩, ⟨_, hn', fun j y v' e1 e2 e3 => ?_⟩, fun y c e => ?_, I.free, I.freeC, fun p hp => ?_, tracked ⟨oL, hoL, I.free⟩ hs, by simpa using I.len⟩ ⟨_, hs, .inl rfl⟩
    · exact (hs.2 b (Nat.ne_of_lt (Nat.lt_of_lt_of_le (Heap.lt_size e) I.ok.above))).trans (I.base.keep b o e n hb hx)
    · obtain ⟨sl, e1⟩ := I.base.slot b o e n hb hx
      exact ⟨sl, (hs.2 b (Nat.ne_of_lt (Nat.lt_of_lt_of_le (Heap.lt_size e) I.ok.above))).trans e1⟩
    · obtain ⟨o', e1⟩ := I.base.there b o e hx
      exact ⟨o', (hs.2 b (Nat.ne_of_lt (Nat.lt_of_lt_of_le (Heap.lt_size e) I.ok.above))).trans e1⟩
    · by_cases hj : j = i
      · subst hj
        rw [hi] at e1; cases e1
        rw [List.getElem?_set_self hiσ] at e2
        cases e2
        exact ⟨u, r, .inl ⟨hk, by simp⟩⟩
      · rw [List.getElem?_set_ne (Ne.symm hj)] at e2
        obtain ⟨u', r', q⟩ := hl j y v' e1 e2 e3
        refine ⟨u', r', ?_⟩
        rcases q with ⟨k, e⟩ | ⟨k, c, e, z⟩
        · refine .inl ⟨k, ?_⟩
          have : y ≠ x := fun e => hj (nodup_ix hN e1 (e ▸ hi))
          simp [this, e]
        · exact .inr ⟨k, c, e, z.sameBut hs (cne y c e)⟩
    · obtain ⟨w', z⟩ := I.cell y c e
      exact ⟨w', z.sameBut hs (cne y c e)⟩
    · obtain ⟨e, n, ne, nf, d⟩ := I.pin p hp
      exact ⟨(hs.2 p.1 ne).trans e, n, ne, nf, d⟩
  · have hfn : X.fn x = true := by
      rcases hf with z | z
      · exact z
      · rw [z] at hk; cases hk
    obtain ⟨c, hc⟩ := I.ok.has x (.inl hk)
    obtain ⟨w', z⟩ := I.cell x c hc
    refine wpAny_storeName_cell I.ok.kind hk hc z (fun h' hc' hs => ?_)
    obtain ⟨oc, hoc, hocd⟩ := id z
    refine h { s with heap := h' } ⟨I.ok, I.os, I.bare, ⟨fun b o e n hb hx => ?_, fun b o e n hb hx => ?_, I.base.free, fun b o e hx => ?_, I.base.tups, I.base.frzs, I.base.tbls⟩, ⟨m, hn.sameBut hs (Ne.symm (cne x c hc)), fun j y v' e1 e2 e3 => ?_⟩, fun y c' e => ?_, I.free, I.freeC, fun p hp => ?_, tracked ⟨oc, hoc, I.freeC x c hc⟩ hs, by simpa using I.len⟩ ⟨c, hs, .inr hc⟩
    · exact (hs.2 b (Nat.ne_of_lt (Nat.lt_of_lt_of_le (Heap.lt_size e) (I.ok.cab x c hfn hc)))).trans (I.base.keep b o e n hb hx)
    · obtain ⟨sl, e1⟩ := I.base.slot b o e n hb hx
      exact ⟨sl, (hs.2 b (Nat.ne_of_lt (Nat.lt_of_lt_of_le (Heap.lt_size e) (I.ok.cab x c hfn hc)))).trans e1⟩
    · obtain ⟨o', e1⟩ := I.base.there b o e hx
      exact ⟨o', (hs.2 b (Nat.ne_of_lt (Nat.lt_of_lt_of_le (Heap.lt_size e) (I.ok.cab x c hfn hc)))).trans e1⟩
    · by_cases hj : j = i
      · subst hj
        rw [hi] at e1; cases e1
        rw [List.getElem?_set_self hiσ] at e2
        cases e2
        exact ⟨u, r, .inr ⟨.inl hk, c, hc, hc'⟩⟩
      · rw [List.getElem?_set_ne (Ne.symm hj)] at e2
        obtain ⟨u', r', q⟩ := hl j y v' e1 e2 e3
        refine ⟨u', r', ?_⟩
        rcases q with q | ⟨k, c', e, z'⟩
        · exact .inl q
        · refine .inr ⟨k, c', e, z'.sameBut hs ?_⟩
          rintro rfl
          exact hj (nodup_ix hN e1 (I.ok.inj _ _ _ e hc ▸ hi))
    · by_cases hcc : c' = c
      · subst hcc; exact ⟨_, hc'⟩
      · obtain ⟨w2, z2⟩ := I.cell y c' e
        exact ⟨w2, z2.sameBut hs hcc⟩
    · obtain ⟨e, n, ne, nf, d⟩ := I.pin p hp
      refine ⟨(hs.2 p.1 ?_).trans e, n, ne, nf, d⟩
      intro q
      rw [q, hoc] at e
      have q' : oc = p.2 := Option.some.inj e
      exact d w' (by rw [← q']; exact hocd)
theorem store_ok {M : Model} {A : Around} {E : Value → Shared → Prop} {i : Nat} {x : Str} {v : V} {u : Value} {Q : Unit → Shared → Prop} (I : Inv X pins σ H s) (hN : X.N.Nodup) (hi : X.N[i]? = some x) (hx : Loc X.env.scope x) (r : RelV v u)
    (h : ∀ s', Inv X pins (σ.set i (some v)) H s' → Q () s') (hf : X.fn x = true ∨ X.env.scope.names.lookup x = some .local := by first | exact .inl rfl | exact .inr rfl | assumption) : wpAny M A (storeName X.env x u) Q E s :=
  store_ok2 I hN hi hx r (fun s' I' _ => h s' I') hf
theorem Inv.call' {s' : Shared} {ch : List Addr} (I : Inv X pins σ H s) (ho : s'.os = s.os) (u : Un (frs X.stack) ch H H' s.heap s'.heap) (hok : HOk X.prog X.w H' s'.heap) (hg : AllBare s'.gens)
    (hch : ∀ b ∈ ch, (b ∈ X.ex ∨ X.s₀.heap.objs.size ≤ b) ∧ b ≠ X.env.locals ∧ (∀ x c, X.env.cells.lookup x = some c → c ≠ b) ∧ ∀ p ∈ X.pn ++ pins, p.1 ≠ b) : Inv X pins σ H' s' := by
  obtain ⟨h', g', d', t', o'⟩ := s'
  have e : o' = s.os := ho
  subst e
  exact I.call (g' := g') (t' := t') (d' := d') u hok hg hch
end
abbrev XK := Value → Option Addr → Hp → Prop
abbrev St := List (Option V)
abbrev VK := V → Hp → Prop
abbrev TE := St → Hp → VK → Prop
abbrev TT := St → Hp → (Bool → Hp → Prop) → Prop
abbrev TA := St → Hp → (List V → Hp → Prop) → Prop
structure Ends where
  nx : St → Hp → Prop
  rt : VK
  bk : St → Hp → Prop := fun _ _ => False
  ct : St → Hp → Prop := fun _ _ => False
abbrev TS := Ends → St → Hp → Prop
def EP (X : Cx) (pins : List (Addr × Obj)) (σ : St) (Q : VK) (u : Value) (s' : Shared) : Prop := ∃ v H', Inv X pins σ H' s' ∧ RelV v u ∧ Q v H'
def TP (X : Cx) (pins : List (Addr × Obj)) (σ : St) (Q : Bool → Hp → Prop) (b : Bool) (s' : Shared) : Prop := ∃ H', Inv X pins σ H' s' ∧ Q b H'
def AP (X : Cx) (pins : List (Addr × Obj)) (σ : St) (Q : List V → Hp → Prop) (us : List Value) (s' : Shared) : Prop := ∃ vs H', Inv X pins σ H' s' ∧ Vals vs us ∧ Q vs H'
def SP (X : Cx) (pins : List (Addr × Obj)) (D : Ends) (f : Flow) (s' : Shared) : Prop :=
  match f with
  | .next => ∃ σ' H', Inv X pins σ' H' s' ∧ D.nx σ' H'
  | .brk => ∃ σ' H', Inv X pins σ' H' s' ∧ D.bk σ' H'
  | .cont => ∃ σ' H', Inv X pins σ' H' s' ∧ D.ct σ' H'
  | .ret u => ∃ v σ' H', Inv X pins σ' H' s' ∧ RelV v u ∧ D.rt v H'
def PE (X : Cx) (e : Expr) (t : TE) : Prop :=
  ∀ (pins : List (Addr × Obj)) (s : Shared) (σ : St) (H : Hp) (Q : VK), Inv X pins σ H s → t σ H Q → wpAny (model X.prog X.w) X.A (eval e X.env) (EP X pins σ Q) X.xe s
def PT (X : Cx) (e : Expr) (t : TT) : Prop :=
  ∀ (pins : List (Addr × Obj)) (s : Shared) (σ : St) (H : Hp) (Q : Bool → Hp → Prop), Inv X pins σ H s → t σ H Q → wpAny (model X.prog X.w) X.A (isTrue e X.env (eval e X.env)) (TP X pins σ Q) X.xe s
def PW (X : Cx) (e : Expr) (t : TT) : Prop :=
  ∀ (whole : Sem Value) (pins : List (Addr × Obj)) (s : Shared) (σ : St) (H : Hp) (Q : Bool → Hp → Prop), Inv X pins σ H s → t σ H Q → wpAny (model X.prog X.w) X.A (isTrue e X.env whole) (TP X pins σ Q) X.xe s
theorem PW.pt {X : Cx} {e : Expr} {t : TT} (h : PW X e t) : PT X e t := h _
def PA (X : Cx) (es : List Expr) (t : TA) : Prop :=
  ∀ (pos : Pos) (pins : List (Addr × Obj)) (s : Shared) (σ : St) (H : Hp) (Q : List V → Hp → Prop), Inv X pins σ H s → t σ H Q → wpAny (model X.prog X.w) X.A (spliced (backTo pos (starEach es X.env))) (AP X pins σ Q) X.xe s
def PS (X : Cx) (st : Stmt) (t : TS) : Prop :=
  ∀ (pins : List (Addr × Obj)) (s : Shared) (σ : St) (H : Hp) (D : Ends), Inv X pins σ H s → t D σ H → wpAny (model X.prog X.w) X.A (exec st X.env) (SP X pins D) X.xe s
def PSs (X : Cx) (st : List Stmt) (t : TS) : Prop :=
  ∀ (pins : List (Addr × Obj)) (s : Shared) (σ : St) (H : Hp) (D : Ends), Inv X pins σ H s → t D σ H → wpAny (model X.prog X.w) X.A (execs st X.env) (SP X pins D) X.xe s
theorem thn {α : Type} {t : Sem α} {Q Q' : α → Shared → Prop} {M : Model} {A : Around} {E : Value → Shared → Prop} {s : Shared} (h : wpAny M A t Q E s) (hQ : ∀ a s, Q a s → Q' a s) : wpAny M A t Q' E s := wpAny_mono h hQ fun _ _ x => x
end L2
namespace L2
open PySem PySem.Spec PyProof.Rows
section
variable {X : Cx}
theorem bin {a b : Expr} {ta tb : TE} (ha : PE X a ta) (hb : PE X b tb) {pins : List (Addr × Obj)} {s : Shared} {σ : St} {H : Hp} {R : V → V → Hp → Prop} (I : Inv X pins σ H s) (h : ta σ H fun x H1 => tb σ H1 fun y H2 => R x y H2)
    {α : Type} {Q : α → Shared → Prop} {f : Value → Value → Sem α}
    (hf : ∀ v u s2 x y H2, Inv X pins σ H2 s2 → RelV x v → RelV y u → R x y H2 → wpAny (model X.prog X.w) X.A (f v u) Q X.xe s2) :
    wpAny (model X.prog X.w) X.A (eval a X.env) (fun v s₁ => wpAny (model X.prog X.w) X.A (eval b X.env) (fun u s₂ => wpAny (model X.prog X.w) X.A (f v u) Q X.xe s₂) X.xe s₁) X.xe s := by
  refine thn (ha pins s σ H _ I h) fun v s1 ⟨x, H1, I1, r1, q1⟩ => ?_
  refine thn (hb pins s1 σ H1 _ I1 q1) fun u s2 ⟨y, H2, I2, r2, q2⟩ => ?_
  exact hf v u s2 x y H2 I2 r1 r2 q2
def tVar (i : Nat) : TE := fun σ H Q => ∃ v, σ[i]? = some (some v) ∧ Q v H
def tC (v : V) : TE := fun _ H Q => Q v H
theorem pe_var {i : Nat} {x : Str} {pos : Pos} (hN : X.N[i]? = some x) (hv : Vis X.env.scope x) (hd : (x == ("__debug__" : Str)) = false := by decide) (hcd : (x == ("__classdict__" : Str)) = false := by decide) : PE X (.Name x pos) (tVar i) := by
  intro pins s σ H Q I h
  obtain ⟨v, e, h⟩ := h
  obtain ⟨m, hn, hl⟩ := I.loc
  obtain ⟨u, r, l⟩ := hl i x v hN e hv
  have fin : EP X pins σ Q u s := ⟨v, H, I, r, h⟩
  rcases l with ⟨hk, hm⟩ | ⟨hk, c, hc, hcell⟩
  · exact wpAny_Name (wpAny_loadName_local I.ok.kind hk hn hm fin) hd
  · rcases hk with hk | hk
    · exact wpAny_Name (wpAny_loadName_cell I.ok.kind hk hc hcell fin) hd
    · exact wpAny_Name (wpAny_loadName_free I.ok.kind hk hc hcell fin hcd) hd
theorem pe_int {i j pos} : PE X (.Constant (.int i) j pos) (tC (.int i)) := fun _ _ _ H _ I h => wpAny_Constant_int ⟨.int i, H, I.tok _, ⟨_, rfl⟩, h⟩
theorem pe_bl {b j pos} : PE X (.Constant (.bool b) j pos) (tC (.bl b)) := fun _ _ _ H _ I h => Constant_bool ⟨.bl b, H, I, rfl, h⟩
theorem pe_str {x j pos} : PE X (.Constant (.str x) j pos) (tC (.str x)) := fun _ _ _ H _ I h => Calls.Constant_str ⟨.str x, H, I.tok _, ⟨_, rfl⟩, h⟩
def Gl (X : Cx) (x : Str) : Prop := X.env.kindOf x = some .globalImplicit
theorem ld_glob {E : Value → Shared → Prop} {pins : List (Addr × Obj)} {s : Shared} {σ : St} {H : Hp} {x : Str} {u : Value} {pos : Pos} {Q : Value → Shared → Prop} (I : Inv X pins σ H s) (hg : Gl X x) (hm : X.mg x = some u) (h : Q u s)
    (hd : (x == ("__debug__" : Str)) = false := by decide) : wpAny (model X.prog X.w) X.A (eval (.Name x pos) X.env) Q E s :=
  Calls.Name_function_global I.ok.kind hg (Calls.loadGlobal_global (by rw [I.ok.glob]; exact I.mod.glob.keeps I.bk) hm h) hd
theorem ld_blt {E : Value → Shared → Prop} {pins : List (Addr × Obj)} {s : Shared} {σ : St} {H : Hp} {x : Str} {u : Value} {pos : Pos} {Q : Value → Shared → Prop} (I : Inv X pins σ H s) (hg : Gl X x) (hm : X.mg x = none) (hv : bootBuiltins x = some u) (h : Q u s)
    (hn : x ≠ "__name__" := by decide) (hd : (x == ("__debug__" : Str)) = false := by decide) : wpAny (model X.prog X.w) X.A (eval (.Name x pos) X.env) Q E s := by
  obtain ⟨mb, h1, h2⟩ := I.mod.blt
  exact Calls.Name_function_global I.ok.kind hg (Calls.loadGlobal_builtin (by rw [I.ok.glob]; exact I.mod.glob.keeps I.bk) hm (by rw [I.ok.blt]; exact h1.keeps I.bk) ((h2 x hn).trans hv) h) hd
theorem pe_glob {x : Str} {v : V} {u : Value} {pos : Pos} (hg : Gl X x) (hm : X.mg x = some u) (r : RelV v u) (hd : (x == ("__debug__" : Str)) = false := by decide) : PE X (.Name x pos) (tC v) :=
  fun _ _ _ H _ I h => ld_glob I hg hm ⟨v, H, I, r, h⟩ hd
theorem pe_bltn {x : Str} {v : V} {u : Value} {pos : Pos} (hg : Gl X x) (hm : X.mg x = none) (hv : bootBuiltins x = some u) (r : RelV v u) (hn : x ≠ "__name__" := by decide) (hd : (x == ("__debug__" : Str)) = false := by decide) : PE X (.Name x pos) (tC v) :=
  fun _ _ _ H _ I h => ld_blt I hg hm hv ⟨v, H, I, r, h⟩ hn hd
variable {a b : Expr} {ta tb : TE} {pos : Pos}
def PC (X : Cx) (op : CmpOp) (a b : Expr) (t : TE) : Prop :=
  ∀ (pins : List (Addr × Obj)) (s : Shared) (σ : St) (H : Hp) (Q : VK), Inv X pins σ H s → t σ H Q →
    wpAny (model X.prog X.w) X.A (eval a X.env) (fun v s₁ => wpAny (model X.prog X.w) X.A (eval b X.env) (fun u s₂ => wpAny (model X.prog X.w) X.A (compareOp op v u) (EP X pins σ Q) X.xe s₂) X.xe s₁) X.xe s
theorem nobehind (b : Expr) {op : CmpOp} (h : op ≠ .In) (h2 : op ≠ .NotIn) : behindInMarks op b = false := by
  have e1 : (op == CmpOp.In) = false := by cases op <;> first | rfl | exact absurd rfl h
  have e2 : (op == CmpOp.NotIn) = false := by cases op <;> first | rfl | exact absurd rfl h2
  cases b <;> simp [behindInMarks, e1, e2]
def tB (t : TE) : TT := fun σ H Q => t σ H fun x H1 => ∃ c, x = .bl c ∧ Q c H1
theorem pt_cmp {op : CmpOp} {t : TE} (h : PC X op a b t) (h1 : behindInMarks op b = false := by first | exact nobehind _ (by decide) (by decide) | rfl) : PT X (.Compare a [op] [b] pos) (tB t) := by
  intro pins s σ H Q I hw
  refine wpAny_isTrue_Compare1 (thn (h pins s σ H _ I hw) fun v s1 h1 => thn h1 fun u s2 h2 => thn h2 fun c s3 ⟨x, H1, I1, r1, q1⟩ => ?_) h1
  obtain ⟨d, rfl, q⟩ := q1
  cases r1
  exact wpAny_truthy_bool ⟨H1, I1, q⟩
theorem pt_val {e : Expr} {t : TE} (h : PE X e t) (he : ∀ whole, isTrue e X.env whole = (do let v ← whole; standAt e.pos; holding [v] (truthy v)) := by intro _; rfl) : PT X e (tB t) := by
  intro pins s σ H Q I hw
  refine isTrue_plain (thn (h pins s σ H _ I hw) fun v s1 ⟨x, H1, I1, r1, q1⟩ => ?_) (he _)
  obtain ⟨d, rfl, q⟩ := q1
  cases r1
  exact wpAny_truthy_bool ⟨H1, I1, q⟩
variable {tA tB' : TT} {rest : List Expr}
def tOr (t u : TT) : TT := fun σ H Q => t σ H fun c H1 => if c = true then Q true H1 else u σ H1 Q
def tNot (t : TT) : TT := fun σ H Q => t σ H fun c H1 => Q (!c) H1
theorem pw_or1 (ha : PT X a tA) : PW X (.BoolOp .Or [a] pos) tA := by
  intro wh pins s σ H Q I h
  refine isTrue_or (thn (ha pins s σ H Q I h) fun c s1 e => ?_)
  cases c with
  | false => exact isTrue_or_nil e
  | true => exact e
theorem pw_or (ha : PT X a tA) (hb : PW X (.BoolOp .Or (b :: rest) pos) tB') : PW X (.BoolOp .Or (a :: b :: rest) pos) (tOr tA tB') := by
  intro wh pins s σ H Q I h
  refine isTrue_or (thn (ha pins s σ H _ I h) fun c s1 ⟨H1, I1, q1⟩ => ?_)
  cases c with
  | true => exact ⟨H1, I1, q1⟩
  | false => exact hb wh pins s1 σ H1 Q I1 q1
theorem pt_not (ha : PT X a tA) : PT X (.UnaryOp .Not a pos) (tNot tA) := by
  intro pins s σ H Q I h
  exact isTrue_not (ha pins s σ H (fun c H1 => Q (!c) H1) I h)
def tAndV (ta tb : TE) : TE := fun σ H Q => ta σ H fun x H1 => ∃ c, x = .bl c ∧ if c = true then tb σ H1 Q else Q (.bl false) H1
theorem pe_one {op} {t : TE} (h : PE X a t) : PE X (.BoolOp op [a] pos) t := fun pins s σ H Q I hw => BoolOp_one (h pins s σ H Q I hw)
theorem pe_and (ha : PE X a ta) (hb : PE X (.BoolOp .And (b :: rest) pos) tb) : PE X (.BoolOp .And (a :: b :: rest) pos) (tAndV ta tb) := by
  intro pins s σ H Q I h
  refine BoolOp_and (thn (ha pins s σ H _ I h) fun v s1 ⟨x, H1, I1, r1, q1⟩ => ?_)
  obtain ⟨c, rfl, q1⟩ := q1
  cases r1
  refine wpAny_truthy_bool ?_
  cases c with
  | true => exact hb pins s1 σ H1 Q I1 q1
  | false => exact ⟨.bl false, H1, I1, rfl, q1⟩
end
end L2
namespace L2
open PySem PySem.Spec PyProof.Rows
def SqL (K : PySem.W.Frag) (H : Hp) (a : Addr) (xs : List V) : Prop :=
  Rd H a (.lst xs) ∨
    ∃ (o : Obj) (its : Array Value) (n : Nat), K.lookup a = some o ∧ o.cls = .type "list" ∧ o.dict = none ∧ o.data = .seq its n ∧ its.size ≤ sizeLine ∧ Vals xs its.toList
def SqT (K : PySem.W.Frag) (H : Hp) (a : Addr) (xs : List V) : Prop :=
  Rd H a (.tup xs) ∨
    ∃ (o : Obj) (its : Array Value) (n : Nat), K.lookup a = some o ∧ o.cls = .type "tuple" ∧ o.data = .seq its n ∧ its.size ≤ sizeLine ∧ Vals xs its.toList
def absV : Value → Option V
  | .none => some .non
  | .bool b => some (.bl b)
  | .int i _ => some (.int i)
  | .str x _ => some (.str x)
  | .bytes b _ => some (.byt b)
  | .float b _ => some (.flt b)
  | .ref a => some (.ref a)
  | .type n => some (.ty n)
  | _ => none
theorem RelV.abs {x : V} {u : Value} (r : RelV x u) : absV u = some x := by
  cases x with
  | non => cases r; rfl
  | bl _ => cases r; rfl
  | int _ => obtain ⟨t, rfl⟩ := r; rfl
  | str _ => obtain ⟨t, rfl⟩ := r; rfl
  | byt _ => obtain ⟨t, rfl⟩ := r; rfl
  | flt _ => obtain ⟨t, rfl⟩ := r; rfl
  | ref _ => cases r; rfl
  | ty _ => cases r; rfl
theorem RelV.inj {x y : V} {u : Value} (r : RelV x u) (q : RelV y u) : x = y := Option.some.inj (r.abs.symm.trans q.abs)
theorem Vals.inj : ∀ {xs ys : List V} {us : List Value}, Vals xs us → Vals ys us → xs = ys
  | _, _, _, .nil, .nil => rfl
  | _, _, _, .cons r t, .cons r' t' => by rw [r.inj r', Vals.inj t t']
section
variable {X : Cx} {pins : List (Addr × Obj)} {σ : St} {H : Hp} {s : Shared} {a : Addr} {xs ys : List V}
theorem SqL.of {K : PySem.W.Frag} (h : H a = some (.lst xs)) : SqL K H a xs := .inl (.inl h)
theorem SqT.of {K : PySem.W.Frag} (h : H a = some (.tup xs)) : SqT K H a xs := .inl (.inl h)
theorem Inv.list (I : Inv X pins σ H s) (h : SqL X.K H a xs) : ∃ its : List Value, Vals xs its ∧ PlainL s.heap a its.toArray ∧ xs.length ≤ sizeLine := by
  rcases h with h | ⟨o, its, n, hk, hc, hd, hs, hz, r⟩
  · obtain ⟨z, its, n, r, e⟩ := h.ok I.hok
    exact ⟨its, r, ⟨_, n, e, rfl, rfl, rfl⟩, z⟩
  · refine ⟨its.toList, r, ⟨o, n, I.kIn a o hk, hc, hd, by simpa using hs⟩, ?_⟩
    have e := r.length
    simp only [Array.length_toList] at e
    omega
theorem Inv.tuple (I : Inv X pins σ H s) (h : SqT X.K H a xs) : ∃ its : List Value, Vals xs its ∧ IsTup s.heap a its.toArray ∧ xs.length ≤ sizeLine := by
  rcases h with h | ⟨o, its, n, hk, hc, hs, hz, r⟩
  · obtain ⟨z, its, r, p⟩ := h.ok I.hok
    exact ⟨its, r, p, z⟩
  · refine ⟨its.toList, r, ⟨o, I.kIn a o hk, hc, n, by simpa using hs⟩, ?_⟩
    have e := r.length
    simp only [Array.length_toList] at e
    omega
theorem Inv.list_inj (I : Inv X pins σ H s) (h : SqL X.K H a xs) (h' : SqL X.K H a ys) : xs = ys := by
  obtain ⟨its, r, ⟨o, n, e, _, _, d⟩, _⟩ := I.list h
  obtain ⟨its', r', ⟨o', n', e', _, _, d'⟩, _⟩ := I.list h'
  rw [e] at e'; cases e'
  rw [d] at d'
  injection d' with d1 _
  have : its = its' := by simpa using congrArg Array.toList d1
  subst this
  exact r.inj r'
theorem Inv.tuple_inj (I : Inv X pins σ H s) (h : SqT X.K H a xs) (h' : SqT X.K H a ys) : xs = ys := by
  obtain ⟨its, r, ⟨o, e, _, n, d⟩, _⟩ := I.tuple h
  obtain ⟨its', r', ⟨o', e', _, n', d'⟩, _⟩ := I.tuple h'
  rw [e] at e'; cases e'
  rw [d] at d'
  injection d' with d1 _
  have : its = its' := by simpa using congrArg Array.toList d1
  subst this
  exact r.inj r'
end
abbrev Cx.wish (X : Cx) (E : Value → Shared → Prop) : Cx := { X with xe := E }
abbrev Cx.nox (X : Cx) : Cx := X.wish fun _ _ => False
theorem Cx.Ok.wish {X : Cx} (ok : X.Ok) (E : Value → Shared → Prop) : (X.wish E).Ok :=
  ⟨ok.mod, ok.kind, ok.glob, ok.blt, ok.above, ok.inj, ok.has, ok.cab, ok.hd, ok.frames, ok.stk, ok.exf, ok.bs, ok.bsz, ok.noex, ok.exfs, ok.funs, ok.frf⟩
theorem Cx.Ok.unwish {X : Cx} {E : Value → Shared → Prop} (ok : (X.wish E).Ok) : X.Ok :=
  ⟨ok.mod, ok.kind, ok.glob, ok.blt, ok.above, ok.inj, ok.has, ok.cab, ok.hd, ok.frames, ok.stk, ok.exf, ok.bs, ok.bsz, ok.noex, ok.exfs, ok.funs, ok.frf⟩
section
variable {X : Cx} {pins : List (Addr × Obj)} {σ : St} {H : Hp} {s : Shared} {E : Value → Shared → Prop}
theorem Inv.wish (I : Inv X pins σ H s) (E : Value → Shared → Prop) : Inv (X.wish E) pins σ H s := ⟨I.ok.wish E, I.os, I.bare, I.base, I.loc, I.cell, I.free, I.freeC, I.pin, I.hok, I.len⟩
theorem Inv.unwish (I : Inv (X.wish E) pins σ H s) : Inv X pins σ H s := ⟨I.ok.unwish, I.os, I.bare, I.base, I.loc, I.cell, I.free, I.freeC, I.pin, I.hok, I.len⟩
theorem SP.unwish {D : Ends} {f : Flow} {s' : Shared} (h : SP (X.wish E) pins D f s') : SP X pins D f s' := by
  cases f with
  | next => obtain ⟨σ', H', I, q⟩ := h; exact ⟨σ', H', I.unwish, q⟩
  | brk => obtain ⟨σ', H', I, q⟩ := h; exact ⟨σ', H', I.unwish, q⟩
  | cont => obtain ⟨σ', H', I, q⟩ := h; exact ⟨σ', H', I.unwish, q⟩
  | ret u => obtain ⟨v, σ', H', I, r, q⟩ := h; exact ⟨v, σ', H', I.unwish, r, q⟩
theorem PSs.nox {st : List Stmt} {t : TS} (h : PSs X.nox st t) : PSs X st t := fun pins s σ H D I hw =>
  wpAny_mono (h pins s σ H D (I.wish _) hw) (fun _ _ q => q.unwish) fun _ _ z => False.elim z
end
section
variable {X : Cx} {st : Stmt} {rest : List Stmt} {t u : TS} {e : Expr} {te : TE} {pos : Pos}
def tNext : TS := fun D σ H => D.nx σ H
def tSeq (t u : TS) : TS := fun D σ H => t { D with nx := u D } σ H
theorem pss_nil : PSs X [] tNext := fun _ _ σ H _ I h => wpAny_execs_nil ⟨σ, H, I, h⟩
theorem pss_cons (h1 : PS X st t) (h2 : PSs X rest u) : PSs X (st :: rest) (tSeq t u) := by
  intro pins s σ H D I h
  refine wpAny_execs_cons (thn (h1 pins s σ H { D with nx := u D } I h) fun f s1 q => ?_)
  cases f with
  | next =>
    obtain ⟨σ', H', I', q⟩ := q
    exact h2 pins s1 σ' H' D I' q
  | ret v => exact q
  | brk => exact q
  | cont => exact q
theorem Inv.quiet {pins : List (Addr × Obj)} {σ : St} {H : Hp} {s : Shared} (I : Inv X pins σ H s) : interactive X.env = false := by simp [interactive, I.ok.kind]
def tDrop (te : TE) : TS := fun D σ H => te σ H fun _ H1 => D.nx σ H1
theorem ps_expr (he : PE X e te) (hs : swapsWith e none pos.line X.env = pure false := by rfl) : PS X (.Expr e pos) (tDrop te) := by
  intro pins s σ H D I h
  exact wpAny_Expr_any (thn (he pins s σ H _ I h) fun v s1 ⟨x, H1, I1, r1, q1⟩ => ⟨σ, H1, I1, q1⟩) I.quiet hs
def tRet (te : TE) : TS := fun D σ H => te σ H D.rt
theorem ps_ret (he : PE X e te) : PS X (.Return (some e) pos) (tRet te) := by
  intro pins s σ H D I h
  exact wpAny_Return_some (thn (he pins s σ H _ I h) fun v s1 ⟨x, H1, I1, r1, q1⟩ => ⟨x, σ, H1, I1, r1, q1⟩)
def tIfS (c : TT) (t u : TS) : TS := fun D σ H => c σ H fun b H1 => if b = true then t D σ H1 else u D σ H1
theorem ps_if {c : Expr} {a b : List Stmt} {tc : TT} (hc : PT X c tc) (ha : PSs X a t) (hb : PSs X b u) : PS X (.If c a b pos) (tIfS tc t u) := by
  intro pins s σ H D I h
  refine wpAny_If (thn (hc pins s σ H _ I h) fun d s1 ⟨H1, I1, q1⟩ => ?_)
  cases d with
  | true => exact ha pins s1 σ H1 D I1 q1
  | false => exact hb pins s1 σ H1 D I1 q1
end
abbrev TG := V → St → Hp → (St → Hp → Prop) → Prop
abbrev TGs := List V → St → Hp → (St → Hp → Prop) → Prop
def PG (X : Cx) (target : Expr) (t : TG) : Prop :=
  ∀ (pins : List (Addr × Obj)) (s : Shared) (σ : St) (H : Hp) (v : V) (u : Value) (Q : St → Hp → Prop), Inv X pins σ H s → RelV v u → t v σ H Q →
    wpAny (model X.prog X.w) X.A (assign target X.env u) (fun _ s' => ∃ σ' H', Inv X pins σ' H' s' ∧ Q σ' H') X.xe s
def PGs (X : Cx) (ts : List Expr) (t : TGs) : Prop :=
  ∀ (pins : List (Addr × Obj)) (s : Shared) (σ : St) (H : Hp) (vs : List V) (us : List Value) (Q : St → Hp → Prop), Inv X pins σ H s → Vals vs us → t vs σ H Q →
    wpAny (model X.prog X.w) X.A (assignInOrder ((assignEach ts X.env).map (·.2)) us) (fun _ s' => ∃ σ' H', Inv X pins σ' H' s' ∧ Q σ' H') X.xe s
section
variable {X : Cx} {pos : Pos}
def gName (i : Nat) : TG := fun v σ H Q => Q (σ.set i (some v)) H
theorem pg_name {i : Nat} {x : Str} (hN : X.N.Nodup) (hi : X.N[i]? = some x) (hx : Loc X.env.scope x) (hf : X.fn x = true ∨ X.env.scope.names.lookup x = some .local := by first | exact .inl rfl | exact .inr rfl | assumption) : PG X (.Name x pos) (gName i) := by
  intro pins s σ H v u Q I r h
  exact wpAny_assign_Name (store_ok I hN hi hx r (fun s' I' => ⟨_, H, I', h⟩) hf)
def gNil : TGs := fun vs σ H Q => vs = [] ∧ Q σ H
def gCons (t : TG) (u : TGs) : TGs := fun vs σ H Q => ∃ v r, vs = v :: r ∧ t v σ H fun σ' H' => u r σ' H' Q
theorem pgs_nil : PGs X [] gNil := by
  intro pins s σ H vs us Q I r h
  obtain ⟨e, h⟩ := h
  subst e
  cases r
  exact assignInOrder_nil ⟨σ, H, I, h⟩
theorem pgs_cons {e : Expr} {es : List Expr} {t : TG} {u : TGs} (h1 : PG X e t) (h2 : PGs X es u)
    (hs : (assignEach (e :: es) X.env).map (·.2) = assign e X.env :: (assignEach es X.env).map (·.2) := by rfl) : PGs X (e :: es) (gCons t u) := by
  intro pins s σ H vs us Q I r h
  obtain ⟨v, vr, e1, h⟩ := h
  subst e1
  cases r with
  | cons r rr =>
    rw [hs]
    refine assignInOrder_cons (thn (h1 pins s σ H _ _ _ I r h) fun _ s1 ⟨σ1, H1, I1, q1⟩ => ?_)
    exact h2 pins s1 σ1 H1 _ _ Q I1 rr q1
def gTup (K : PySem.W.Frag) (n : Nat) (t : TGs) : TG := fun v σ H Q => ∃ a xs, v = .ref a ∧ SqT K H a xs ∧ xs.length = n ∧ t xs σ H Q
theorem pg_tup {es : List Expr} {k : Nat} {t : TGs} {n : Nat} (hc : X.calm = true) (h : PGs X es t)
    (hn : (assignEach es X.env).length = n := by rfl) (hst : (assignEach es X.env).findIdx? (·.1) = none := by rfl) : PG X (.Tuple es k pos) (gTup X.K n t) := by
  intro pins s σ H v u Q I r hw
  obtain ⟨a, xs, e1, hq, hl, hw⟩ := hw
  subst e1
  cases r
  obtain ⟨its, rv, ht, hz⟩ := I.tuple hq
  refine assign_Tuple_tuple (I.ok.hd hc) ht (by simp [hn, ← hl, rv.length]) hst fun h' hx => ?_
  have I1 : Inv X pins σ H { s with heap := h' } := I.kept (t' := s.toks) fun b o e => hx b o (Nat.ne_of_lt (Heap.lt_size e)) e
  exact h pins _ σ H xs _ Q I1 (by simpa using rv) hw
def tAsg (te : TE) (g : TG) : TS := fun D σ H => te σ H fun x H1 => g x σ H1 D.nx
theorem ps_set {i : Nat} {x : Str} {e : Expr} {te : TE} {pos' : Pos} (hN : X.N.Nodup) (hi : X.N[i]? = some x) (hx : Loc X.env.scope x) (he : PE X e te) (hs : swapsWith e (some (.Name x pos')) pos.line X.env = pure false := by rfl) (hf : X.fn x = true ∨ X.env.scope.names.lookup x = some .local := by first | exact .inl rfl | exact .inr rfl | assumption) :
    PS X (.Assign [.Name x pos'] e pos) (tAsg te (gName i)) := by
  intro pins s σ H D I h
  refine wpAny_Assign_Name (thn (he pins s σ H _ I h) fun v s1 ⟨y, H1, I1, r1, q1⟩ => ?_) hs
  exact store_ok I1 hN hi hx r1 (fun s2 I2 => ⟨_, H1, I2, q1⟩) hf
end
section
variable {X : Cx} {pos : Pos}
end
structure It where
  go : Nat → Hp → Prop
  yld : Nat → Hp → V → Hp → Prop
  stop : Nat → Hp → Prop
def FpOk (X : Cx) (pins : List (Addr × Obj)) (H : Hp) (b : Addr) : Prop :=
  H b = none ∧ b ≠ X.env.locals ∧ b ∉ X.fs ∧ (b ∈ X.ex ∨ X.s₀.heap.objs.size ≤ b) ∧ (∀ x c, X.env.cells.lookup x = some c → c ≠ b) ∧ ∀ p ∈ X.pn ++ pins, p.1 ≠ b
theorem Inv.fpOk {X : Cx} {pins : List (Addr × Obj)} {σ : St} {H H' : Hp} {s : Shared} {b : Addr} (I : Inv X pins σ H s) (hb : s.heap.objs.size ≤ b) (hn : H' b = none) : FpOk X pins H' b := by
  refine ⟨hn, Nat.ne_of_gt (Nat.lt_of_lt_of_le I.lt hb), I.nofs hb, .inr (Nat.le_trans I.sz hb), fun x c e z => ?_, fun p hp z => ?_⟩
  · obtain ⟨v, q⟩ := I.cell x c e
    exact absurd (Nat.lt_of_lt_of_le q.lt (by rw [z]; exact hb)) (Nat.lt_irrefl _)
  · exact absurd (Nat.lt_of_lt_of_le (Heap.lt_size (I.pin p hp).1) (by rw [z]; exact hb)) (Nat.lt_irrefl _)
structure Turn (P : Program) (w : World) (K : PySem.W.Frag) (tg : Expr) (J : It) (fp : List Addr) (it : Addr) (tn : Nat → Heap → Prop) : Prop where
  mem : it ∈ fp
  obj : ∀ i h, tn i h → ∀ b ∈ fp, ∃ o, h.get? b = some o ∧ ∀ v, o.data ≠ .cell v
  keep : ∀ i h h', tn i h → (∀ b ∈ fp, ∀ o, h.get? b = some o → h'.get? b = some o) → tn i h'
  item : ∀ (X : Cx), X.prog = P → X.w = w → X.K = K → X.calm = true → ∀ (i : Nat) (pins : List (Addr × Obj)) (s : Shared) (σ : St) (H : Hp) (E : Value → Shared → Prop), Inv X pins σ H s → (∀ b ∈ fp, FpOk X pins H b) → tn i s.heap → J.go i H →
    wpAny (model P w) X.A (pyNext (.ref it)) (fun r s1 => ∃ u, r = some u ∧
      wpAny (model P w) X.A (letOwnedTupleGo tg (.ref it) u) (fun _ s2 => ∃ x H', Inv X pins σ H' s2 ∧ RelV x u ∧ J.yld i H x H' ∧ tn (i + 1) s2.heap ∧ ∀ b ∈ fp, H' b = none) E s1) E s
  done : ∀ (X : Cx), X.prog = P → X.w = w → X.K = K → X.calm = true → ∀ (i : Nat) (pins : List (Addr × Obj)) (s : Shared) (σ : St) (H : Hp) (E : Value → Shared → Prop), Inv X pins σ H s → (∀ b ∈ fp, FpOk X pins H b) → tn i s.heap → J.stop i H →
    wpAny (model P w) X.A (pyNext (.ref it)) (fun r s1 => r = none ∧ Inv X pins σ H s1) E s
  self : ∀ (A : Around) (i : Nat) (s : Shared) (Q : Value → Shared → Prop) (E : Value → Shared → Prop), tn i s.heap → Q (.ref it) s → wpAny (model P w) A (pyIter (.ref it)) Q E s
abbrev TI := St → Hp → (It → Hp → Prop) → Prop
def PIE (X : Cx) (pins : List (Addr × Obj)) (σ : St) (tg : Expr) (R : It → Hp → Prop) (itv : Value) (s2 : Shared) : Prop :=
  ∃ (it : Addr) (fp : List Addr) (tn : Nat → Heap → Prop) (J : It) (H' : Hp), itv = .ref it ∧ Inv X pins σ H' s2 ∧ Turn X.prog X.w X.K tg J fp it tn ∧ tn 0 s2.heap ∧ (∀ b ∈ fp, FpOk X pins H' b) ∧ R J H'
def PI (X : Cx) (tg iter : Expr) (wi : TI) : Prop :=
  ∀ (pins : List (Addr × Obj)) (s : Shared) (σ : St) (H : Hp) (R : It → Hp → Prop), Inv X pins σ H s → wi σ H R →
    wpAny (model X.prog X.w) X.A (eval iter X.env) (fun v s1 => wpAny (model X.prog X.w) X.A (pyIter v) (PIE X pins σ tg R) X.xe s1) X.xe s
theorem go_of {M : Model} {A : Around} {E : Value → Shared → Prop} {s : Shared} {tg : Expr} {it : Addr} {u : Value} {o : Obj} {n : String} {vs : Array Value} {Q : Unit → Shared → Prop} (ho : s.heap.get? it = some o) (hc : o.cls = .type n) (hd : o.data = .fields vs)
    (hn : ["enumerate", "zip", "dict_itemiterator", "dict_reverseitemiterator", "odict_iterator", "itertools.zip_longest", "itertools.pairwise"].contains n = false) (hQ : Q () s) : wpAny M A (letOwnedTupleGo tg (.ref it) u) Q E s := by
  unfold letOwnedTupleGo
  cases tg <;> first
    | exact wpAny_pure hQ
    | (cases u <;> first
        | exact wpAny_pure hQ
        | (refine wpAny_bind (wpAny_load ho ?_)
           rw [hc, hd]
           show wpAny M A (if (["enumerate", "zip", "dict_itemiterator", "dict_reverseitemiterator", "odict_iterator", "itertools.zip_longest", "itertools.pairwise"].contains n && vs[0]? == some (rawInt _)) = true then _ else _) Q E s
           rw [if_neg (by intro h; rw [hn, Bool.false_and] at h; cases h)]
           exact wpAny_pure hQ))
def Itl (K : PySem.W.Frag) (a : Addr) : It :=
  ⟨fun i H => ∃ xs x, SqL K H a xs ∧ xs[i]? = some x, fun i H x H' => H' = H ∧ ∀ xs, SqL K H a xs → xs[i]? = some x, fun i H => ∃ xs, SqL K H a xs ∧ xs.length ≤ i⟩
def Itt (K : PySem.W.Frag) (a : Addr) : It :=
  ⟨fun i H => ∃ xs x, SqT K H a xs ∧ xs[i]? = some x, fun i H x H' => H' = H ∧ ∀ xs, SqT K H a xs → xs[i]? = some x, fun i H => ∃ xs, SqT K H a xs ∧ xs.length ≤ i⟩
def Itr (lo : Int) (n : Nat) : It := ⟨fun i _ => i < n, fun i H x H' => H' = H ∧ x = .int (lo + i), fun i _ => n ≤ i⟩
theorem turn_list {P : Program} {w : World} {K : PySem.W.Frag} {tg : Expr} (a it : Addr) : Turn P w K tg (Itl K a) [it] it (fun i h => h.IsListIter it a i) where
  mem := by simp
  obj := fun i h st b hb => by
    have e : b = it := by simpa using hb
    subst e
    obtain ⟨o, e, c, d⟩ := st
    exact ⟨o, e, fun v z => by rw [d] at z; cases z⟩
  keep := fun i h h' st k => st.at fun o e => k it (by simp) o e
  item := by
    intro X hP hw hK hc i pins s σ H E I hf st hg
    subst hP hw hK
    obtain ⟨xs, x, hq, hx⟩ := hg
    obtain ⟨its, rv, p, hz⟩ := I.list hq
    obtain ⟨u, hu, ru⟩ := rv.get hx
    obtain ⟨f0, f1, f2, f3, f4, f5⟩ := hf it (by simp)
    refine wpAny_pyNext_list_item st p.isList (x := u) (by simpa using hu) fun h' st' sb => ?_
    have I1 : Inv X pins σ H { s with heap := h' } := I.turned (t' := s.toks) (fun b o hb e => (sb.2 b hb).trans e) f0 f1 f3 f4 f5
    obtain ⟨o, e, c, d⟩ := id st'
    exact ⟨u, rfl, go_of (s := { s with heap := h' }) e c d (by decide) ⟨x, H, I1, ru, ⟨rfl, fun ys hy => by rw [I.list_inj hy hq]; exact hx⟩, st', fun b hb => (hf b hb).1⟩⟩
  done := by
    intro X hP hw hK hc i pins s σ H E I hf st hg
    subst hP hw hK
    obtain ⟨xs, hq, hx⟩ := hg
    obtain ⟨its, rv, p, hz⟩ := I.list hq
    obtain ⟨f0, f1, f2, f3, f4, f5⟩ := hf it (by simp)
    have hl := rv.length
    exact wpAny_pyNext_list_end (I.ok.hd hc) st p.isList (by simp; omega) fun h' eb => ⟨rfl, I.turned (t' := s.toks) (fun b o hb e => eb b o hb e) f0 f1 f3 f4 f5⟩
  self := fun _ _ _ _ _ st h => wpAny_pyIter_listiter st h
theorem turn_tuple {P : Program} {w : World} {K : PySem.W.Frag} {tg : Expr} (a it : Addr) : Turn P w K tg (Itt K a) [it] it (fun i h => h.IsTupleIter it a i) where
  mem := by simp
  obj := fun i h st b hb => by
    have e : b = it := by simpa using hb
    subst e
    obtain ⟨o, e, c, d⟩ := st
    exact ⟨o, e, fun v z => by rw [d] at z; cases z⟩
  keep := fun i h h' st k => st.at fun o e => k it (by simp) o e
  item := by
    intro X hP hw hK hc i pins s σ H E I hf st hg
    subst hP hw hK
    obtain ⟨xs, x, hq, hx⟩ := hg
    obtain ⟨its, rv, p, hz⟩ := I.tuple hq
    obtain ⟨u, hu, ru⟩ := rv.get hx
    obtain ⟨f0, f1, f2, f3, f4, f5⟩ := hf it (by simp)
    refine wpAny_pyNext_tuple_item st (show s.heap.IsTuple a its.toArray from p) (x := u) (by simpa using hu) fun h' st' sb => ?_
    have I1 : Inv X pins σ H { s with heap := h' } := I.turned (t' := s.toks) (fun b o hb e => (sb.2 b hb).trans e) f0 f1 f3 f4 f5
    obtain ⟨o, e, c, d⟩ := id st'
    exact ⟨u, rfl, go_of (s := { s with heap := h' }) e c d (by decide) ⟨x, H, I1, ru, ⟨rfl, fun ys hy => by rw [I.tuple_inj hy hq]; exact hx⟩, st', fun b hb => (hf b hb).1⟩⟩
  done := by
    intro X hP hw hK hc i pins s σ H E I hf st hg
    subst hP hw hK
    obtain ⟨xs, hq, hx⟩ := hg
    obtain ⟨its, rv, p, hz⟩ := I.tuple hq
    obtain ⟨f0, f1, f2, f3, f4, f5⟩ := hf it (by simp)
    have hl := rv.length
    exact wpAny_pyNext_tuple_end (I.ok.hd hc) st (show s.heap.IsTuple a its.toArray from p) (by simp; omega) fun h' eb => ⟨rfl, I.turned (t' := s.toks) (fun b o hb e => eb b o hb e) f0 f1 f3 f4 f5⟩
  self := fun _ _ _ _ _ st h => wpAny_pyIter_tupleiter st h
theorem turn_range {P : Program} {w : World} {K : PySem.W.Frag} {tg : Expr} (it : Addr) (lo : Int) (n : Nat) : Turn P w K tg (Itr lo n) [it] it (fun i h => IsRangeIter h it (lo + (i : Nat) * 1) ((n : Int) - (i : Nat)) 1) where
  mem := by simp
  obj := fun i h st b hb => by
    have e : b = it := by simpa using hb
    subst e
    exact ⟨_, st, fun v z => by
      have z' : Data.fields _ = Data.cell v := z
      cases z'⟩
  keep := fun i h h' st k => k it (by simp) _ st
  item := by
    intro X hP hw hK hc i pins s σ H E I hf st hg
    subst hP hw hK
    obtain ⟨f0, f1, f2, f3, f4, f5⟩ := hf it (by simp)
    have W := Walks.range (prog := X.prog) (w := X.w) (I.ok.hd hc) it lo 1 n
    refine W.item i s _ _ hg st fun v h' tk hv st' kk => ?_
    obtain ⟨t, rfl⟩ := hv
    have I1 : Inv X pins σ H { s with heap := h', toks := tk } := I.turned (fun b o hb e => kk b o (by simpa using hb) e) f0 f1 f3 f4 f5
    refine ⟨_, rfl, go_of (s := { s with heap := h', toks := tk }) (n := "range_iterator") st' rfl rfl (by decide) ⟨.int (lo + i), H, I1, ⟨t, ?_⟩, ⟨rfl, rfl⟩, st', fun b hb => (hf b hb).1⟩⟩
    rw [Int.mul_one]
  done := by
    intro X hP hw hK hc i pins s σ H E I hf st hg
    subst hP hw hK
    obtain ⟨f0, f1, f2, f3, f4, f5⟩ := hf it (by simp)
    exact wpAny_pyNext_range_end (I.ok.hd hc) st (by have : n ≤ i := hg; omega) fun h' eb => ⟨rfl, I.turned (t' := s.toks) (fun b o hb e => eb b o hb e) f0 f1 f3 f4 f5⟩
  self := fun _ _ _ _ _ st h => wpAny_pyIter_rangeiter st h
end L2
namespace L2
open PySem PySem.Spec PyProof.Rows
section
variable {X : Cx} {tg : Expr}
theorem range_it {pins : List (Addr × Obj)} {σ : St} {H : Hp} {s : Shared} {R : It → Hp → Prop} {E : Value → Shared → Prop} {lo hi : Int} {t u v : Tok} {tk : Nat} (I : Inv X pins σ H s) (h1 : -(2 ^ 62) ≤ lo) (h2 : lo < 2 ^ 62) (h3 : -(2 ^ 62) ≤ hi) (h4 : hi < 2 ^ 62)
    (q : R (Itr lo (hi - lo).toNat) H) : wpAny (model X.prog X.w) X.A (pyIter (.ref s.heap.objs.size)) (PIE X pins σ tg R) E { s with heap := s.heap.push { cls := .type "range", data := .fields #[.int lo t, .int hi u, .int 1 v] }, toks := tk } := by
  refine wpAny_pyIter_range (IsRange.new ..) (small_one h1 h2 h3 h4) ?_
  have I1 : Inv X pins σ H { s with heap := s.heap.push { cls := .type "range", data := .fields #[.int lo t, .int hi u, .int 1 v] }, toks := tk } := I.kept fun b o e => Heap.get?_push_of_some _ e
  refine ⟨(s.heap.push { cls := .type "range", data := .fields #[.int lo t, .int hi u, .int 1 v] }).objs.size, [(s.heap.push { cls := .type "range", data := .fields #[.int lo t, .int hi u, .int 1 v] }).objs.size], _, _, H, rfl,
    I1.kept (t' := tk) fun b o e => Heap.get?_push_of_some _ e, turn_range _ lo (hi - lo).toNat, ?_, fun b hb => ?_, q⟩
  · have e1 : lo + ((0 : Nat) : Int) * 1 = lo := by simp
    have e2 : (((hi - lo).toNat : Nat) : Int) - ((0 : Nat) : Int) = Builtin.Range.rangeSize lo hi 1 := by rw [rangeSize_one]; split <;> omega
    show IsRangeIter _ _ (lo + ((0 : Nat) : Int) * 1) ((((hi - lo).toNat : Nat) : Int) - ((0 : Nat) : Int)) 1
    rw [e1, e2]
    exact Heap.get?_push_size _ rfl
  · have e : b = (s.heap.push { cls := .type "range", data := .fields #[.int lo t, .int hi u, .int 1 v] }).objs.size := by simpa using hb
    subst e
    exact I1.fpOk (Nat.le_refl _) (I1.hok.fresh (Nat.le_refl _))
def iRng1 (ta : TA) : TI := fun σ H R => ta σ H fun vs H1 => ∃ j : Int, vs = [.int j] ∧ -(2 ^ 62) ≤ j ∧ j < 2 ^ 62 ∧ R (Itr 0 j.toNat) H1
theorem pi_range1 {a : Expr} {ta : TA} {p pos : Pos} (hg : Gl X "range") (hm : X.mg "range" = none) (ha : PA X [a] ta) (hs : starEach [a] X.env = [(false, eval a X.env)] := by rfl) : PI X tg (.Call (.Name "range" p) [a] [] pos) (iRng1 ta) := by
  intro pins s σ H R I h
  refine Call_ (ld_blt I hg hm boot_range (PyProof.Rows.callWith_type1 (thn (ha pos pins s σ H _ I h) fun us s1 ⟨vs, H1, I1, r1, q1⟩ => ?_) hs rfl))
  obtain ⟨j, e, q1, q2, q⟩ := q1
  subst e
  cases r1 with
  | cons r rr =>
    cases rr
    obtain ⟨t, rfl⟩ := r
    exact call_range_1 (range_it I1 (by omega) (by omega) q1 q2 (by simpa using q))
def tFor (wi : TI) (g : TG) (tb : TS) : TS := fun D σ H => wi σ H fun J H1 => ∃ W : Nat → Nat → St → Hp → Prop, (∃ m, W 0 m σ H1) ∧ ∀ i m σ H, W i m σ H →
  (J.stop i H ∧ D.nx σ H) ∨ (J.go i H ∧ ∃ N : St → Hp → Prop, (∀ σ' H', N σ' H' → ∃ m', m' < m ∧ W (i + 1) m' σ' H') ∧ ∀ x H', J.yld i H x H' → g x σ H' fun σ2 H2 => tb { D with nx := N, ct := N, bk := D.nx } σ2 H2)
def pinsAt (fp : List Addr) (h : Heap) : List (Addr × Obj) := fp.filterMap fun b => (h.get? b).map fun o => (b, o)
theorem mem_pinsAt {fp : List Addr} {h : Heap} {b : Addr} {o : Obj} (hb : b ∈ fp) (e : h.get? b = some o) : (b, o) ∈ pinsAt fp h := List.mem_filterMap.mpr ⟨b, hb, by rw [e]; rfl⟩
theorem of_pinsAt {fp : List Addr} {h : Heap} {p : Addr × Obj} (hp : p ∈ pinsAt fp h) : p.1 ∈ fp ∧ h.get? p.1 = some p.2 := by
  obtain ⟨b, hb, e⟩ := List.mem_filterMap.mp hp
  cases q : h.get? b with
  | none => rw [q] at e; cases e
  | some o =>
    rw [q] at e
    have e' : (b, o) = p := Option.some.inj e
    subst e'
    exact ⟨hb, q⟩
theorem Inv.pinned {pins : List (Addr × Obj)} {σ : St} {H : Hp} {s : Shared} {fp : List Addr} (I : Inv X pins σ H s) (hf : ∀ b ∈ fp, FpOk X pins H b) (ho : ∀ b ∈ fp, ∃ o, s.heap.get? b = some o ∧ ∀ v, o.data ≠ .cell v) : Inv X (pins ++ pinsAt fp s.heap) σ H s :=
  I.pins_of fun p hp => (List.mem_append.mp hp).elim (fun z => I.pin p (List.mem_append_right _ z)) fun z => by
    obtain ⟨hb, e⟩ := of_pinsAt z
    obtain ⟨f0, f1, f2, _⟩ := hf p.1 hb
    obtain ⟨o, e', d⟩ := ho p.1 hb
    rw [e] at e'; cases e'
    exact ⟨e, f0, f1, f2, d⟩
theorem Inv.unpinned {pins pl : List (Addr × Obj)} {σ : St} {H : Hp} {s : Shared} (I : Inv X (pins ++ pl) σ H s) : Inv X pins σ H s := I.pins_of fun p hp => I.pin p (List.mem_append_right _ (List.mem_append_left _ hp))
theorem ps_for {iter : Expr} {body : List Stmt} {wi : TI} {g : TG} {tb : TS} {pos : Pos} (hp : PassesOwn (model X.prog X.w) X.A X.env X.xe) (hc : X.calm = true) (hi : PI X tg iter wi) (hg : PG X tg g) (hb : PSs X body tb)
    (hs : ∀ x, foldedSetIterable iter X.env x = pure x := by intro _; rfl) : PS X (.For tg iter body [] pos) (tFor wi g tb) := by
  intro pins s σ H D I h
  refine wpAny_For (thn (hi pins s σ H _ I h) fun v s1 h1 => thn h1 fun itv s2 h2 => ?_) hs
  obtain ⟨it, fp, tn, J, H2, e, I2, T, st2, f2, W, ⟨m0, w0⟩, turn⟩ := h2
  subst e
  -- what stays true of the iterator's objects through the loop
  have stat : ∀ {H' : Hp}, (∀ b ∈ fp, H' b = none) → ∀ b ∈ fp, FpOk X pins H' b := fun hn b hb => ⟨hn b hb, (f2 b hb).2⟩
  refine codeAny_forLoop_any (fun n s' => ∃ i σ' H', Inv X pins σ' H' s' ∧ tn i s'.heap ∧ (∀ b ∈ fp, H' b = none) ∧ W i n σ' H') ?_ m0 ⟨0, σ, H2, I2, st2, fun b hb => (f2 b hb).1, w0⟩
  rintro n s3 ⟨i, σ3, H3, I3, st3, fr3, w3⟩
  rcases turn i n σ3 H3 w3 with ⟨stop, qn⟩ | ⟨go, N, hN, step⟩
  · refine wpAny_passesOwn hp (thn (T.done X rfl rfl rfl hc i pins s3 σ3 H3 X.xe I3 (stat fr3) st3 stop) fun r s4 ⟨hr, I4⟩ => ?_)
    subst hr
    exact wpAny_execs_nil ⟨σ3, H3, I4, qn⟩
  · refine wpAny_passesOwn hp (thn (T.item X rfl rfl rfl hc i pins s3 σ3 H3 X.xe I3 (stat fr3) st3 go) fun r s4 ⟨u, hr, h4⟩ => ?_)
    subst hr
    refine wpAny_passesOwn hp (thn h4 fun _ s5 ⟨x, H5, I5, r5, y5, st5, fr5⟩ => ?_)
    have I5' := I5.pinned (stat fr5) (T.obj _ _ st5)
    refine wpAny_passesOwn hp (thn (hg _ s5 σ3 H5 x u _ I5' r5 (step x H5 y5)) fun _ s6 ⟨σ6, H6, I6, q6⟩ => ?_)
    refine wpAny_passesOwn hp (thn (hb _ s6 σ6 H6 _ I6 q6) fun f s7 q7 => ?_)
    have again : ∀ {σ7 : St} {H7 : Hp}, Inv X (pins ++ pinsAt fp s5.heap) σ7 H7 s7 → N σ7 H7 → ∃ m, m < n ∧ ∃ i σ' H', Inv X pins σ' H' s7 ∧ tn i s7.heap ∧ (∀ b ∈ fp, H' b = none) ∧ W i m σ' H' := fun {σ7 H7} I7 n7 => by
      obtain ⟨m', hm, w7⟩ := hN σ7 H7 n7
      refine ⟨m', hm, i + 1, σ7, H7, I7.unpinned, T.keep _ _ _ st5 fun b hb o e => (I7.pin (b, o) (List.mem_append_right _ (List.mem_append_right _ (mem_pinsAt hb e)))).1, fun b hb => ?_, w7⟩
      obtain ⟨o, e, d⟩ := T.obj _ _ st5 b hb
      exact (I7.pin (b, o) (List.mem_append_right _ (List.mem_append_right _ (mem_pinsAt hb e)))).2.1
    cases f with
    | next => obtain ⟨σ7, H7, I7, n7⟩ := q7; exact again I7 n7
    | cont => obtain ⟨σ7, H7, I7, n7⟩ := q7; exact again I7 n7
    | brk => obtain ⟨σ7, H7, I7, q7⟩ := q7; exact ⟨σ7, H7, I7.unpinned, q7⟩
    | ret v => obtain ⟨x7, σ7, H7, I7, r7, q7⟩ := q7; exact ⟨x7, σ7, H7, I7.unpinned, r7, q7⟩
end
end L2
namespace L2
open PySem PySem.Spec PyProof.Rows
abbrev R2 := V → V → Hp → VK → Prop
def OpR (X : Cx) (f : Value → Value → Sem Value) (r : R2) : Prop :=
  ∀ (pins : List (Addr × Obj)) (s : Shared) (σ : St) (H : Hp) (x y : V) (v u : Value) (Q : VK), Inv X pins σ H s → RelV x v → RelV y u → r x y H Q →
    wpAny (model X.prog X.w) X.A (f v u) (EP X pins σ Q) X.xe s
def UnR (X : Cx) (f : Value → Sem Value) (r : V → Hp → VK → Prop) : Prop :=
  ∀ (pins : List (Addr × Obj)) (s : Shared) (σ : St) (H : Hp) (x : V) (v : Value) (Q : VK), Inv X pins σ H s → RelV x v → r x H Q →
    wpAny (model X.prog X.w) X.A (f v) (EP X pins σ Q) X.xe s
def CallR (X : Cx) (f : Value) (r : List V → Hp → VK → Prop) : Prop :=
  ∀ (pins : List (Addr × Obj)) (s : Shared) (σ : St) (H : Hp) (xs : List V) (us : List Value) (Q : VK), Inv X pins σ H s → Vals xs us → r xs H Q →
    wpAny (model X.prog X.w) X.A (call f us) (EP X pins σ Q) X.xe s
def tOp (r : R2) (ta tb : TE) : TE := fun σ H Q => ta σ H fun x H1 => tb σ H1 fun y H2 => r x y H2 Q
def tUn (r : V → Hp → VK → Prop) (ta : TE) : TE := fun σ H Q => ta σ H fun x H1 => r x H1 Q
def rI (C : Int → Int → Prop) (g : Int → Int → V) : R2 := fun x y H Q => ∃ i j, x = .int i ∧ y = .int j ∧ C i j ∧ Q (g i j) H
def rI0 (g : Int → Int → V) : R2 := fun x y H Q => ∃ i j, x = .int i ∧ y = .int j ∧ Q (g i j) H
def rU (g : Int → V) : V → Hp → VK → Prop := fun x H Q => ∃ i, x = .int i ∧ Q (g i) H
section
variable {X : Cx} {a b c : Expr} {ta tb tc : TE} {pos : Pos}
theorem binT (ha : PE X a ta) (hb : PE X b tb) {pins : List (Addr × Obj)} {s : Shared} {σ : St} {H : Hp} {R : V → V → Hp → Prop} (I : Inv X pins σ H s)
    (h : ta σ H fun x H1 => tb σ H1 fun y H2 => R x y H2) {Q : Value → Shared → Prop} {f : Value → Value → Sem Value}
    (hf : ∀ v u s2 x y H2, Inv X pins σ H2 s2 → RelV x v → RelV y u → R x y H2 → wpAny (model X.prog X.w) X.A (f v u) Q X.xe s2) :
    wpAny (model X.prog X.w) X.A (eval a X.env) (fun v s₁ => wpAny (model X.prog X.w) X.A (eval b X.env) (fun u s₂ => wpAny (model X.prog X.w) X.A (f v u) Q X.xe s₂) X.xe s₁) X.xe s := by
  refine thn (ha pins s σ H _ I h) fun v s1 ⟨x, H1, I1, r1, q1⟩ => ?_
  refine thn (hb pins s1 σ H1 _ I1 q1) fun u s2 ⟨y, H2, I2, r2, q2⟩ => ?_
  exact hf v u s2 x y H2 I2 r1 r2 q2
theorem pe_op {op : Operator} {r : R2} (ho : OpR X (binaryOp op) r) (ha : PE X a ta) (hb : PE X b tb) : PE X (.BinOp a op b pos) (tOp r ta tb) := by
  intro pins s σ H Q I h
  exact wpAny_BinOp (binT ha hb I h fun v u s2 x y H2 I2 rx ry q => ho pins s2 σ H2 x y v u Q I2 rx ry q)
theorem pe_un {op : UnaryOp} {r : V → Hp → VK → Prop} (ho : UnR X (unaryOp op) r) (ha : PE X a ta) : PE X (.UnaryOp op a pos) (tUn r ta) := by
  intro pins s σ H Q I h
  exact UnaryOp_ (thn (ha pins s σ H _ I h) fun v s1 ⟨x, H1, I1, r1, q1⟩ => ho pins s1 σ H1 x v Q I1 r1 q1)
theorem opI {f : Value → Value → Sem Value} {C : Int → Int → Prop} {g : Int → Int → Int}
    (rule : ∀ (i j : Int) (t u : Tok) (s : Shared) (Q : Value → Shared → Prop) (E : Value → Shared → Prop), C i j → Q (.int (g i j) s.toks) { s with toks := s.toks + 1 } → wpAny (model X.prog X.w) X.A (f (.int i t) (.int j u)) Q E s) :
    OpR X f (rI C fun i j => .int (g i j)) := by
  intro pins s σ H x y v u Q I rx ry h
  obtain ⟨i, j, rfl, rfl, hc, q⟩ := h
  obtain ⟨t, rfl⟩ := rx
  obtain ⟨t', rfl⟩ := ry
  exact rule i j t t' s _ _ hc ⟨.int (g i j), H, I.tok _, ⟨_, rfl⟩, q⟩
theorem opI0 {f : Value → Value → Sem Value} {g : Int → Int → Int}
    (rule : ∀ (i j : Int) (t u : Tok) (s : Shared) (Q : Value → Shared → Prop) (E : Value → Shared → Prop), Q (.int (g i j) s.toks) { s with toks := s.toks + 1 } → wpAny (model X.prog X.w) X.A (f (.int i t) (.int j u)) Q E s) :
    OpR X f (rI0 fun i j => .int (g i j)) := by
  intro pins s σ H x y v u Q I rx ry h
  obtain ⟨i, j, rfl, rfl, q⟩ := h
  obtain ⟨t, rfl⟩ := rx
  obtain ⟨t', rfl⟩ := ry
  exact rule i j t t' s _ _ ⟨.int (g i j), H, I.tok _, ⟨_, rfl⟩, q⟩
theorem opB0 {f : Value → Value → Sem Value} {g : Int → Int → Bool}
    (rule : ∀ (i j : Int) (t u : Tok) (s : Shared) (Q : Value → Shared → Prop) (E : Value → Shared → Prop), Q (.bool (g i j)) s → wpAny (model X.prog X.w) X.A (f (.int i t) (.int j u)) Q E s) :
    OpR X f (rI0 fun i j => .bl (g i j)) := by
  intro pins s σ H x y v u Q I rx ry h
  obtain ⟨i, j, rfl, rfl, q⟩ := h
  obtain ⟨t, rfl⟩ := rx
  obtain ⟨t', rfl⟩ := ry
  exact rule i j t t' s _ _ ⟨.bl (g i j), H, I, rfl, q⟩
def CDiv (i j : Int) : Prop := 0 < j ∧ j < 1073741824
def CPow (i j : Int) : Prop := 0 ≤ j ∧ j ≤ 1000000 ∧ i.natAbs < 2 ^ 64
def CMul (i j : Int) : Prop := (-(2 ^ 64) < i ∧ i < 2 ^ 64) ∨ (-(2 ^ 64) < j ∧ j < 2 ^ 64)
theorem CMul.ok {i j : Int} (h : CMul i j) : IntMulOk i j := by
  rcases h with ⟨h1, h2⟩ | ⟨h1, h2⟩
  · exact .of_left (intBits_le_64 h1 h2)
  · exact .of_right (intBits_le_64 h1 h2)
theorem op_add : OpR X (binaryOp .Add) (rI0 fun i j => .int (i + j)) := opI0 fun _ _ _ _ _ _ _ q => add_int q
theorem op_sub : OpR X (binaryOp .Sub) (rI0 fun i j => .int (i - j)) := opI0 fun _ _ _ _ _ _ _ q => sub_int q
theorem op_mul : OpR X (binaryOp .Mult) (rI CMul fun i j => .int (i * j)) := opI fun _ _ _ _ _ _ _ hc q => mul_int q hc.ok
theorem op_fdiv : OpR X (binaryOp .FloorDiv) (rI CDiv fun i j => .int (i / j)) := opI fun i j _ _ _ _ _ hc q => by
  have h1 : (0 : Int) < j := hc.1
  have h2 : j < 1073741824 := hc.2
  exact floordiv_int (by omega) (by rw [Int.fdiv_eq_ediv_of_nonneg i (by omega)]; exact q) (.inl (PyProof.noPylong_small (by omega)))
theorem op_mod : OpR X (binaryOp .Mod) (rI (fun _ j => 0 < j) fun i j => .int (i % j)) := opI fun i j _ _ _ _ _ hc q => by
  have h1 : (0 : Int) < j := hc
  exact mod_int' (by omega) (by rw [Int.fmod_eq_emod_of_nonneg i (by omega)]; exact q)
theorem op_pow : OpR X (binaryOp .Pow) (rI CPow fun i j => .int (i ^ j.toNat)) := opI fun _ _ _ _ _ _ _ hc q => pow_int_small hc.1 hc.2.1 hc.2.2 q
theorem unI {f : Value → Sem Value} {g : Int → Int}
    (rule : ∀ (i : Int) (t : Tok) (s : Shared) (Q : Value → Shared → Prop) (E : Value → Shared → Prop), Q (.int (g i) s.toks) { s with toks := s.toks + 1 } → wpAny (model X.prog X.w) X.A (f (.int i t)) Q E s) :
    UnR X f (rU fun i => .int (g i)) := by
  intro pins s σ H x v Q I rx h
  obtain ⟨i, rfl, q⟩ := h
  obtain ⟨t, rfl⟩ := rx
  exact rule i t s _ _ ⟨.int (g i), H, I.tok _, ⟨_, rfl⟩, q⟩
theorem un_neg : UnR X (unaryOp .USub) (rU fun i => .int (-i)) := unI fun _ _ _ _ _ q => neg_int q
end
def scal : V → V → Bool
  | .non, .non => true | .non, .int _ => true | .int _, .non => true | .non, .bl _ => true | .bl _, .non => true | .non, .str _ => true | .str _, .non => true
  | .int _, .int _ => true | .bl _, .bl _ => true | .str _, .str _ => true | .byt _, .byt _ => true
  | .int _, .str _ => true | .str _, .int _ => true | .bl _, .str _ => true | .str _, .bl _ => true
  | _, _ => false
def rEq : R2 := fun x y H Q => scal x y = true ∧ Q (.bl (decide (x = y))) H
def rNe : R2 := fun x y H Q => scal x y = true ∧ Q (.bl (!decide (x = y))) H
theorem dec_int {i j : Int} : decide (V.int i = V.int j) = (i == j) := by
  rw [Bool.eq_iff_iff]
  simp
theorem dec_bl {i j : Bool} : decide (V.bl i = V.bl j) = (i == j) := by
  rw [Bool.eq_iff_iff]
  simp
theorem dec_str {i j : Str} : decide (V.str i = V.str j) = (i == j) := by
  rw [Bool.eq_iff_iff]
  simp
theorem dec_byt {i j : Array UInt8} : decide (V.byt i = V.byt j) = (i.toList == j.toList) := by
  rw [Bool.eq_iff_iff]
  cases i
  cases j
  simp
section
variable {X : Cx} {a b c : Expr} {ta tb tc : TE} {pos : Pos}
theorem fin_bl {pins : List (Addr × Obj)} {σ : St} {H : Hp} {s : Shared} {Q : VK} {k k' : Bool} (I : Inv X pins σ H s) (q : Q (.bl k) H) (e : k = k') : EP X pins σ Q (.bool k') s := by
  subst e
  exact ⟨.bl k, H, I, rfl, q⟩
theorem op_eq : OpR X (compareOp .Eq) rEq := by
  intro pins s σ H x y v u Q I rx ry h
  obtain ⟨hs, q⟩ := h
  cases x with
  | non =>
    cases rx
    cases y with
    | non => cases ry; exact PySem.EqNone.eq_none_none (fin_bl I q (by simp))
    | bl j => cases ry; exact PySem.EqNone.eq_none_bool (fin_bl I q (by simp))
    | int j => obtain ⟨t', rfl⟩ := ry; exact PySem.EqNone.eq_none_int (fin_bl I q (by simp))
    | str j => obtain ⟨t', rfl⟩ := ry; exact PySem.EqNone.eq_none_str (fin_bl I q (by simp))
    | _ => exact absurd (show false = true from hs) Bool.false_ne_true
  | bl i =>
    cases rx
    cases y with
    | non => cases ry; exact PySem.EqNone.eq_bool_none (fin_bl I q (by simp))
    | bl j => cases ry; exact eq_bool (fin_bl I q dec_bl)
    | str j => obtain ⟨t', rfl⟩ := ry; exact PySem.EqMixed.eq_bool_str (fin_bl I q (by simp))
    | _ => exact absurd (show false = true from hs) Bool.false_ne_true
  | int i =>
    obtain ⟨t, rfl⟩ := rx
    cases y with
    | non => cases ry; exact PySem.EqNone.eq_int_none (fin_bl I q (by simp))
    | int j => obtain ⟨t', rfl⟩ := ry; exact eq_int (fin_bl I q dec_int)
    | str j => obtain ⟨t', rfl⟩ := ry; exact PySem.EqMixed.eq_int_str (fin_bl I q (by simp))
    | _ => exact absurd (show false = true from hs) Bool.false_ne_true
  | str i =>
    obtain ⟨t, rfl⟩ := rx
    cases y with
    | non => cases ry; exact PySem.EqNone.eq_str_none (fin_bl I q (by simp))
    | bl j => cases ry; exact PySem.EqMixed.eq_str_bool (fin_bl I q (by simp))
    | int j => obtain ⟨t', rfl⟩ := ry; exact PySem.EqMixed.eq_str_int (fin_bl I q (by simp))
    | str j => obtain ⟨t', rfl⟩ := ry; exact eq_str (fin_bl I q dec_str)
    | _ => exact absurd (show false = true from hs) Bool.false_ne_true
  | byt i =>
    obtain ⟨t, rfl⟩ := rx
    cases y with
    | byt j => obtain ⟨t', rfl⟩ := ry; exact PySem.W.eq_bytes (fin_bl I q dec_byt)
    | _ => exact absurd (show false = true from hs) Bool.false_ne_true
  | _ => cases y <;> exact absurd (show false = true from hs) Bool.false_ne_true
theorem op_ne : OpR X (compareOp .NotEq) rNe := by
  intro pins s σ H x y v u Q I rx ry h
  obtain ⟨hs, q⟩ := h
  cases x with
  | non =>
    cases rx
    cases y with
    | non => cases ry; exact PySem.EqNone.ne_none_none (fin_bl I q (by simp))
    | bl j => cases ry; exact PySem.EqNone.ne_none_bool (fin_bl I q (by simp))
    | int j => obtain ⟨t', rfl⟩ := ry; exact PySem.EqNone.ne_none_int (fin_bl I q (by simp))
    | str j => obtain ⟨t', rfl⟩ := ry; exact PySem.EqNone.ne_none_str (fin_bl I q (by simp))
    | _ => exact absurd (show false = true from hs) Bool.false_ne_true
  | bl i =>
    cases rx
    cases y with
    | non => cases ry; exact PySem.EqNone.ne_bool_none (fin_bl I q (by simp))
    | bl j => cases ry; exact ne_bool (fin_bl I q (congrArg not dec_bl))
    | str j => obtain ⟨t', rfl⟩ := ry; exact PySem.EqMixed.ne_bool_str (fin_bl I q (by simp))
    | _ => exact absurd (show false = true from hs) Bool.false_ne_true
  | int i =>
    obtain ⟨t, rfl⟩ := rx
    cases y with
    | non => cases ry; exact PySem.EqNone.ne_int_none (fin_bl I q (by simp))
    | int j => obtain ⟨t', rfl⟩ := ry; exact ne_int (fin_bl I q (congrArg not dec_int))
    | str j => obtain ⟨t', rfl⟩ := ry; exact PySem.EqMixed.ne_int_str (fin_bl I q (by simp))
    | _ => exact absurd (show false = true from hs) Bool.false_ne_true
  | str i =>
    obtain ⟨t, rfl⟩ := rx
    cases y with
    | non => cases ry; exact PySem.EqNone.ne_str_none (fin_bl I q (by simp))
    | bl j => cases ry; exact PySem.EqMixed.ne_str_bool (fin_bl I q (by simp))
    | int j => obtain ⟨t', rfl⟩ := ry; exact PySem.EqMixed.ne_str_int (fin_bl I q (by simp))
    | str j => obtain ⟨t', rfl⟩ := ry; exact ne_str (fin_bl I q (congrArg not dec_str))
    | _ => exact absurd (show false = true from hs) Bool.false_ne_true
  | byt i =>
    obtain ⟨t, rfl⟩ := rx
    cases y with
    | byt j => obtain ⟨t', rfl⟩ := ry; exact PySem.W.ne_bytes (fin_bl I q (congrArg not dec_byt))
    | _ => exact absurd (show false = true from hs) Bool.false_ne_true
  | _ => cases y <;> exact absurd (show false = true from hs) Bool.false_ne_true
theorem op_gt : OpR X (compareOp .Gt) (rI0 fun i j => .bl (decide (j < i))) := opB0 fun _ _ _ _ _ _ _ q => gt_int q
theorem op_notN : OpR X (compareOp .IsNot) (fun x y H Q => y = .non ∧ Q (.bl (!decide (x = .non))) H) := by
  intro pins s σ H x y v u Q I rx ry h
  obtain ⟨rfl, q⟩ := h
  cases ry
  refine isnot_none_gen (fin_bl I q ?_)
  cases x <;> first
    | (cases rx; rfl)
    | (obtain ⟨t, rfl⟩ := rx; rfl)
theorem OpR.or {f : Value → Value → Sem Value} {r r' : R2} (h : OpR X f r) (h' : OpR X f r') : OpR X f (fun x y H Q => r x y H Q ∨ r' x y H Q) := by
  intro pins s σ H x y v u Q I rx ry q
  rcases q with q | q
  · exact h pins s σ H x y v u Q I rx ry q
  · exact h' pins s σ H x y v u Q I rx ry q
theorem nomark (b : Expr) {op : CmpOp} (h : op ≠ .In := by decide) (h2 : op ≠ .NotIn := by decide) : behindInMarks op b = false := by
  have e1 : (op == CmpOp.In) = false := by cases op <;> first | rfl | exact absurd rfl h
  have e2 : (op == CmpOp.NotIn) = false := by cases op <;> first | rfl | exact absurd rfl h2
  cases b <;> simp [behindInMarks, e1, e2]
theorem pe_cmpR {op : CmpOp} {r : R2} (ho : OpR X (compareOp op) r) (ha : PE X a ta) (hb : PE X b tb) (hm : behindInMarks op b = false) : PE X (.Compare a [op] [b] pos) (tOp r ta tb) := by
  intro pins s σ H Q I h
  exact wpAny_Compare1 (binT ha hb I h fun v u s2 x y H2 I2 rx ry q => ho pins s2 σ H2 x y v u Q I2 rx ry q) hm
def tTest (t : TE) : TT := fun σ H Q => t σ H fun x H' => ∃ k, x = .bl k ∧ Q k H'
theorem pt_cmpR {op : CmpOp} {r : R2} (ho : OpR X (compareOp op) r) (ha : PE X a ta) (hb : PE X b tb) (hm : behindInMarks op b = false) : PT X (.Compare a [op] [b] pos) (tTest (tOp r ta tb)) := by
  intro pins s σ H Q I h
  refine wpAny_isTrue_Compare1 (thn (ha pins s σ H _ I h) fun v s1 ⟨x, H1, I1, r1, q1⟩ => thn (hb pins s1 σ H1 _ I1 q1) fun u s2 ⟨y, H2, I2, r2, q2⟩ =>
    thn (ho pins s2 σ H2 x y v u _ I2 r1 r2 q2) fun c s3 ⟨z, H3, I3, r3, k, e, q3⟩ => ?_) hm
  subst e
  cases r3
  exact wpAny_truthy_bool ⟨H3, I3, q3⟩
theorem line63 : (sizeLine : Nat) < 2 ^ 63 := by rw [sizeLine_eq]; decide
theorem op_add_str : OpR X (binaryOp .Add) (fun x y H Q => ∃ i j, x = .str i ∧ y = .str j ∧ i.length + j.length ≤ sizeLine ∧ Q (.str (i ++ j)) H) := by
  intro pins s σ H x y v u Q I rx ry h
  obtain ⟨i, j, rfl, rfl, hz, q⟩ := h
  obtain ⟨t, rfl⟩ := rx
  obtain ⟨t', rfl⟩ := ry
  exact add_str (fun t' tk => ⟨.str (i ++ j), H, I.tok _, ⟨_, rfl⟩, q⟩) hz
theorem vals1 {x : V} {us : List Value} (r : Vals [x] us) : ∃ u, us = [u] ∧ RelV x u := by
  cases r with
  | cons r1 r2 => cases r2; exact ⟨_, rfl, r1⟩
theorem vals2 {x y : V} {us : List Value} (r : Vals [x, y] us) : ∃ u w', us = [u, w'] ∧ RelV x u ∧ RelV y w' := by
  cases r with
  | cons r1 r2 =>
    cases r2 with
    | cons r3 r4 => cases r4; exact ⟨_, _, rfl, r1, r3⟩
end
end L2
namespace L2
open PySem PySem.Spec PyProof.Rows
structure ObjM (h : Heap) (x dx C : Addr) (mA : Str → Option Value) : Prop where
  obj : h.get? x = some (PySem.W.instObj C dx)
  ns : h.Ns1 dx mA
  ne : dx ≠ x
theorem lookIn_ns {h : Heap} {dx : Addr} {mA : Str → Option Value} (n : h.Ns1 dx mA) : ∃ od, h.get? dx = some od ∧ ∀ name, PySem.W.lookIn name od = some (mA name) := by
  obtain ⟨o, es, ep, ho, hd, hk, _, hm⟩ := n
  refine ⟨o, ho, fun name => ?_⟩
  have e := hm name
  unfold nsFind findBy at e
  rw [← Array.find?_toList] at e
  unfold PySem.W.lookIn
  rw [hd]
  dsimp only
  split
  · rename_i y q
    rw [q] at e
    exact congrArg some e
  · rename_i q
    rw [q] at e
    have a : es.toList.any (·.refKey) = false := by
      rw [List.any_eq_false]
      intro y hy
      obtain ⟨z, t, hkey⟩ := hk y (Array.mem_toList_iff.mp hy)
      simp [DictEntry.refKey, hkey]
    have a' : ¬ es.toList.any (·.refKey) = true := by rw [a]; exact Bool.false_ne_true
    rw [if_neg a']
    exact congrArg some e
theorem ObjM.look {h : Heap} {x dx C : Addr} {mA : Str → Option Value} (I : ObjM h x dx C mA) : ∃ od, PySem.W.InstAt h x (PySem.W.instObj C dx) C (some od) ∧ ∀ name, PySem.W.lookIn name od = some (mA name) :=
  let ⟨od, ho, hl⟩ := lookIn_ns I.ns
  ⟨od, ⟨I.obj, rfl, rfl, ho⟩, hl⟩
section
variable {prog : Program} {w : World} {A : Around} {E : Value → Shared → Prop} {s : Shared} {K : PySem.W.Frag} {x dx C f : Addr} {mA : Str → Option Value} {name : Str} {v : Value}
end
theorem RelO.some_of {v : V} {o : Option Value} (r : RelO (some v) o) : ∃ u, o = some u ∧ RelV v u := by
  cases o with
  | none => exact (show False from r).elim
  | some u => exact ⟨u, rfl, r⟩
theorem RelO.none_of {o : Option Value} (r : RelO none o) : o = none := by
  cases o with
  | none => rfl
  | some u => exact (show False from r).elim
section
variable {P : Program} {w : World} {H H' : Hp} {h h' : Heap} {a C dx : Addr} {fs fs' : List (Str × V)}
theorem ins_get (hok : HOk P w H h) (e : H a = some (.ins C dx fs)) : ∃ mA, ObjM h a dx C mA ∧ (∀ f, RelO (fs.lookup f) (mA f)) ∧ PySem.Within mA (fs.map (·.1)) ∧ fs.length ≤ 1000 ∧ H dx = some (.own a) := by
  obtain ⟨d, z, ne, ob, mA, n, r, q⟩ := (show ObjOk P w H h a (.ins C dx fs) from hok a _ e)
  exact ⟨mA, ⟨ob, n, ne⟩, r, q, z, d⟩
end
structure Cls (K : PySem.W.Frag) (C : Addr) : Prop where
  pg : PySem.W.plainGet K C Str.empty = true
  hd : PySem.W.hasDictIn K C = true
  po : PySem.W.plainOver K C = true
  sa : PySem.W.findIn K (.ref C) "__setattr__" = some (some (.builtin "object.__setattr__"))
theorem Cls.get {K : PySem.W.Frag} {C : Addr} (c : Cls K C) (f : Str) : PySem.W.plainGet K C f = true := c.pg
section
variable {X : Cx} {pins : List (Addr × Obj)} {σ : St} {H : Hp} {s : Shared} {a C dx : Addr} {fs : List (Str × V)} {f : Str} {v : V} {A : Around} {E : Value → Shared → Prop}
end
section
variable {X : Cx} {o e value : Expr} {f : Str} {pos pos' tpos : Pos} {ta tv : TE}
end
section
variable {X : Cx} {pins : List (Addr × Obj)} {σ : St} {H : Hp} {s : Shared} {A : Around} {E : Value → Shared → Prop} {Q : Value → Shared → Prop} {c : Value} {b : Bool}
inductive TyOf (K : PySem.W.Frag) (H : Hp) : V → Value → Prop where
  | non : TyOf K H .non (.type "NoneType")
  | bl (x : Bool) : TyOf K H (.bl x) (.type "bool")
  | int (i : Int) : TyOf K H (.int i) (.type "int")
  | str (x : Str) : TyOf K H (.str x) (.type "str")
  | flt (x : UInt64) : TyOf K H (.flt x) (.type "float")
  | lst {a : Addr} {xs : List V} (e : H a = some (.lst xs)) : TyOf K H (.ref a) (.type "list")
  | frz {a : Addr} {o : Obj} {xs : List V} (e : H a = some (.frz o (.lst xs))) : TyOf K H (.ref a) (.type "list")
  | tup {a : Addr} {xs : List V} (e : H a = some (.tup xs)) : TyOf K H (.ref a) (.type "tuple")
  | dK {a : Addr} {kvs : List (Key × V)} (e : H a = some (.dK kvs)) : TyOf K H (.ref a) (.type "dict")
  | dT {a : Addr} {kvs : List (List Key × V)} (e : H a = some (.dT kvs)) : TyOf K H (.ref a) (.type "dict")
  | ins {a C dx : Addr} {fs : List (Str × V)} (e : H a = some (.ins C dx fs)) (cl : Cls K C) (ha : PySem.W.findIn K (.ref C) "__class__" = some (some (.builtin "object.__class__")))
      (hn : PySem.W.specialIn K (.builtin "object.__class__") "__get__" = some (some (.builtin "getset_descriptor.__get__"))) (htk : PySem.W.takesIn K (.builtin "object.__class__") = some true)
      (hm : PySem.W.mroIn K C (.type "object") = some true) : TyOf K H (.ref a) (.ref C)
theorem isinst_ok {x : V} {u t : Value} (I : Inv X pins σ H s) (rx : RelV x u) (ty : TyOf X.K H x t) (e : PySem.W.kitOne X.K t c = some b) (h : ∀ tk, Q (.bool b) { s with toks := tk }) :
    wpAny (model X.prog X.w) A (call (.builtin "isinstance") [u, c]) Q E s := by
  cases ty with
  | non => cases (show u = Value.none from rx); exact PySem.W.kia_one PySem.W.kitx_none I.kIn True.intro e (fun z => nomatch z) h
  | bl y => cases (show u = Value.bool y from rx); exact PySem.W.kia_one PySem.W.kitx_bool I.kIn True.intro e (fun z => nomatch z) h
  | int i => obtain ⟨t, q⟩ := (show ∃ t, u = Value.int i t from rx); cases q; exact PySem.W.kia_one PySem.W.kitx_int I.kIn True.intro e (fun z => nomatch z) h
  | str y => obtain ⟨t, q⟩ := (show ∃ t, u = Value.str y t from rx); cases q; exact PySem.W.kia_one PySem.W.kitx_str I.kIn True.intro e (fun z => nomatch z) h
  | flt y => obtain ⟨t, q⟩ := (show ∃ t, u = Value.float y t from rx); cases q; exact PySem.W.kia_one PySem.W.kitx_float I.kIn True.intro e (fun z => nomatch z) h
  | @lst a xs ea =>
    cases (show u = Value.ref a from rx)
    obtain ⟨_, _, n, _, h1⟩ := (show ObjOk X.prog X.w H s.heap a (.lst xs) from I.hok a _ ea)
    exact PySem.W.kia_one PySem.W.kitx_list I.kIn ⟨_, h1, rfl⟩ e (fun z => nomatch z) h
  | @frz a ob xs ea =>
    cases (show u = Value.ref a from rx)
    obtain ⟨_, _, _, n, _, h1⟩ := (show ObjOk X.prog X.w H s.heap a (.frz ob (.lst xs)) from I.hok a _ ea)
    exact PySem.W.kia_one PySem.W.kitx_list I.kIn ⟨_, h1, rfl⟩ e (fun z => nomatch z) h
  | @tup a xs ea =>
    cases (show u = Value.ref a from rx)
    obtain ⟨_, _, _, p⟩ := (show ObjOk X.prog X.w H s.heap a (.tup xs) from I.hok a _ ea)
    obtain ⟨o, h1, h2, _⟩ := p
    exact PySem.W.kia_one PySem.W.kitx_tuple I.kIn ⟨o, h1, h2⟩ e (fun z => nomatch z) h
  | @dK a kvs ea =>
    cases (show u = Value.ref a from rx)
    obtain ⟨_, _, vs, _, p⟩ := (show ObjOk X.prog X.w H s.heap a (.dK kvs) from I.hok a _ ea)
    obtain ⟨o, es, ep, h1, h2, _⟩ := p
    exact PySem.W.kia_one PySem.W.kitx_dict I.kIn ⟨o, h1, h2.1⟩ e (fun z => nomatch z) h
  | @dT a kvs ea =>
    cases (show u = Value.ref a from rx)
    obtain ⟨_, _, xs, _, o, es, ep, h1, h2, _⟩ := (show ObjOk X.prog X.w H s.heap a (.dT kvs) from I.hok a _ ea)
    exact PySem.W.kia_one PySem.W.kitx_dict I.kIn ⟨o, h1, h2.1⟩ e (fun z => nomatch z) h
  | @ins a C dx fs ea cl ha hn htk hm =>
    cases (show u = Value.ref a from rx)
    obtain ⟨mA, O, _⟩ := ins_get I.hok ea
    obtain ⟨od, J, _⟩ := O.look
    exact PySem.W.kia_one (PySem.W.kitx_own (cl.get _) cl.hd ha hn htk hm) I.kIn J e (fun z => nomatch z) h
end
end L2
namespace L2
open PySem PySem.Spec PyProof.Rows
structure Room (k : Nat) (A : Around) : Prop where
  hd : A.handled = none
  dp : A.depth + 3 * k + 5 < recursionLimit
  un : A.units + 16 * k + 200 < cLine
theorem Room.mono {j k : Nat} {A : Around} (r : Room k A) (h : j ≤ k) : Room j A := ⟨r.hd, by have := r.dp; omega, by have := r.un; omega⟩
theorem Room.deeper {k : Nat} {A : Around} (r : Room (k + 1) A) (env : Env) : Room k (A.deeper env) :=
  ⟨r.hd, by have := r.dp; show A.depth + 1 + 3 * k + 5 < _; omega, by have := r.un; show A.units + 3 + 16 * k + 200 < _; omega⟩
theorem Room.depth {k : Nat} {A : Around} (r : Room k A) : A.depth < recursionLimit := by have := r.dp; omega
def tNil : TA := fun _ H Q => Q [] H
def tCons (ta : TE) (tr : TA) : TA := fun σ H Q => ta σ H fun x H1 => tr σ H1 fun xs H2 => Q (x :: xs) H2
section
variable {X : Cx} {e : Expr} {es : List Expr} {te : TE} {t : TA} {pos : Pos}
theorem pa_nil : PA X [] tNil := fun _ _ _ _ H Q I h => Calls.spliced_nil ⟨[], H, I, .nil, h⟩
theorem pa_cons (ha : PE X e te) (hr : PA X es t) (hs : starEach (e :: es) X.env = (false, eval e X.env) :: starEach es X.env := by rfl) : PA X (e :: es) (tCons te t) := by
  intro pos pins s σ H Q I h
  rw [hs]
  show wpAny _ _ (spliced ((false, eval e X.env) :: backTo pos (starEach es X.env))) _ _ s
  refine Calls.spliced_cons (thn (ha pins s σ H _ I h) fun u s1 ⟨x, H1, I1, r1, q1⟩ => ?_)
  exact thn (hr pos pins s1 σ H1 _ I1 q1) fun us s2 ⟨xs, H2, I2, r2, q2⟩ => ⟨x :: xs, H2, I2, .cons r1 r2, q2⟩
def tTup (t : TA) : TE := fun σ H Q => t σ H fun xs H1 => xs.length ≤ sizeLine ∧ ∀ p, H1 p = none → Q (.ref p) (upd H1 p (.tup xs))
def tLst (t : TA) : TE := fun σ H Q => t σ H fun xs H1 => xs.length ≤ sizeLine ∧ ∀ p, H1 p = none → Q (.ref p) (upd H1 p (.lst xs))
theorem pe_tup {x1} (h : PA X es t) : PE X (.Tuple es x1 pos) (tTup t) := by
  intro pins s σ H Q I hq
  refine wpAny_Tuple_spliced (thn (h pos pins s σ H _ I hq) fun us s1 ⟨xs, H1, I1, r, z, q⟩ => ⟨by rw [← r.length]; exact z, ?_⟩)
  have hf : H1 s1.heap.objs.size = none := I1.hok.fresh (Nat.le_refl _)
  refine ⟨.ref s1.heap.objs.size, upd H1 s1.heap.objs.size (.tup xs), I1.laid (t' := s1.toks) (fun b u e => Heap.get?_push_of_some _ e) (Nat.le_refl _) ?_, rfl, q _ hf⟩
  exact ⟨z, us, r, ⟨_, Heap.get?_push_size _ rfl, rfl, _, rfl⟩⟩
theorem pe_lst (h : PA X es t) : PE X (.List es pos) (tLst t) := by
  intro pins s σ H Q I hq
  refine wpAny_List_spliced (thn (h pos pins s σ H _ I hq) fun us s1 ⟨xs, H1, I1, r, z, q⟩ => ⟨by rw [← r.length]; exact z, ?_⟩)
  have hf : H1 s1.heap.objs.size = none := I1.hok.fresh (Nat.le_refl _)
  refine ⟨.ref s1.heap.objs.size, upd H1 s1.heap.objs.size (.lst xs), I1.laid (t' := s1.toks) (fun b u e => Heap.get?_push_of_some _ e) (Nat.le_refl _) ?_, rfl, q _ hf⟩
  exact ⟨z, us, 0, r, Heap.get?_push_size _ rfl⟩
end
abbrev Sp := List V → Hp → VK → XK → Prop
abbrev CXT := List Env → Hp → Shared → XK → Value → Shared → Prop
structure Env0 (P : Program) (w : World) (K : PySem.W.Frag) (mg : Str → Option Value) (base : Heap) (A : Around) (outer : List Env) (s : Shared) (H : Hp) : Prop where
  frames : A.frames = some outer
  mod : Mod K mg base
  bs : ∀ b o, base.get? b = some o → s.heap.get? b = some o ∧ H b = none
  bsz : base.objs.size ≤ s.heap.objs.size
  funs : s.heap.FunFrames base outer
  frf : ∀ b ∈ frs outer, H b = none
  hok : HOk P w H s.heap
  bare : AllBare s.gens
def CE (outer : List Env) (P : Program) (w : World) (H : Hp) (s : Shared) (Q : VK) (u : Value) (s' : Shared) : Prop :=
  ∃ v H', s'.os = s.os ∧ AllBare s'.gens ∧ Un (frs outer) [] H H' s.heap s'.heap ∧ HOk P w H' s'.heap ∧ RelV v u ∧ Q v H'
def CR (CX : CXT) (outer : List Env) (P : Program) (w : World) (H : Hp) (s : Shared) (Q : VK) (E : XK) (r : Result) (s' : Shared) : Prop :=
  match r with
  | .ok (.ret u) => CE outer P w H s Q u s'
  | .ok _ => False
  | .error e => CX outer H s E e s'
structure FnOk (P : Program) (w : World) (K : PySem.W.Frag) (mg : Str → Option Value) (base : Heap) (CX : CXT) (k : Nat) (f : Addr) (fd : FuncData) (ps : List Str) (sp : Sp) : Prop where
  len : ∀ vs H Q E, sp vs H Q E → vs.length = ps.length
  run : ∀ (A : Around) (outer : List Env) (s : Shared) (H : Hp) (args : Args) (us : List Value) (vs : List V) (Q : VK) (E : XK), Room k A → Env0 P w K mg base A outer s H → BindsTo s fd args (ps.zip us) → Vals vs us → sp vs H Q E →
    codeAny (model P w) A (.call (.ref f) args) (CR CX outer P w H s Q E) s
theorem Env0.in1 {P : Program} {w : World} {K : PySem.W.Frag} {mg : Str → Option Value} {base : Heap} {A : Around} {outer : List Env} {s : Shared} {H : Hp} (e : Env0 P w K mg base A outer s H) :
    Env0 P w K mg base A.in1 outer s H := ⟨e.frames, e.mod, e.bs, e.bsz, e.funs, e.frf, e.hok, e.bare⟩
section
variable {X : Cx} {pins : List (Addr × Obj)} {σ : St} {H : Hp} {s s' : Shared}
theorem Inv.env0 (I : Inv X pins σ H s) : Env0 X.prog X.w X.K X.mg X.base X.A X.stack s H :=
  ⟨I.ok.frames, I.ok.mod, I.bs, Nat.le_trans I.ok.bsz I.sz, I.stack, I.stkFree, I.hok, I.bare⟩
theorem Inv.after {Q : VK} {u : Value} (I : Inv X pins σ H s) (h : CE X.stack X.prog X.w H s Q u s') : EP X pins σ Q u s' := by
  obtain ⟨v, H', os, bare, un, hok, r, q⟩ := h
  obtain ⟨hh, g, d, t, os'⟩ := s'
  obtain rfl : os' = s.os := os
  exact ⟨v, H', I.call (h' := hh) (g' := g) (d' := d) (t' := t) (ch := []) un hok bare (fun b z => absurd z (by simp)), r, q⟩
end
def tCall (sp : Sp) (dvs : List V) (E : XK) (t : TA) : TE := fun σ H Q => t σ H fun vs H1 => sp (vs ++ dvs) H1 Q E
def Binds (K : PySem.W.Frag) (fd : FuncData) (ps : List Str) (ds : List Value) : Prop :=
  ∀ (s : Shared) (us : List Value), K.In s.heap → (us ++ ds).length = ps.length → BindsTo s fd ⟨us, []⟩ (ps.zip (us ++ ds))
theorem Binds.all {K : PySem.W.Frag} {fd : FuncData} {ps : List Str} (h : ∀ us : List Value, us.length = ps.length → bindArgs fd ⟨us, []⟩ = pure (ps.zip us)) : Binds K fd ps [] := fun s us _ hl => by
  rw [List.append_nil] at hl ⊢
  exact .of_eq (h us hl)
def Passes (CX : CXT) (X : Cx) (E : XK) : Prop := ∀ (pins : List (Addr × Obj)) (σ : St) (H : Hp) (s : Shared) (e : Value) (s' : Shared), Inv X pins σ H s → CX X.stack H s E e s' → X.xe e s'
section
variable {X : Cx} {CX : CXT} {k : Nat} {f C : Addr} {fd : FuncData} {ps : List Str} {sp : Sp} {dvs : List V} {ds : List Value} {E : XK} {x m : Str} {p pos apos : Pos} {e o : Expr} {es : List Expr} {ta : TE} {t : TA}
theorem run_fn {pins : List (Addr × Obj)} {σ : St} {H : Hp} {s : Shared} {Q : VK} {us : List Value} {vs : List V} (F : FnOk X.prog X.w X.K X.mg X.base CX k f fd ps sp) (hr : Room k X.A) (hb : Binds X.K fd ps ds) (hd : Vals dvs ds) (hx : Passes CX X E)
    (I : Inv X pins σ H s) (r : Vals vs us) (h : sp (vs ++ dvs) H Q E) : wpAny (model X.prog X.w) X.A (call (.ref f) us) (EP X pins σ Q) X.xe s := by
  have r2 : Vals (vs ++ dvs) (us ++ ds) := r.append hd
  have hl : (us ++ ds).length = ps.length := by rw [← r2.length]; exact F.len _ _ _ _ h
  refine wpAny_call (codeAny_mono (F.run X.A X.stack s H ⟨us, []⟩ (us ++ ds) (vs ++ dvs) Q E hr I.env0 (hb s us I.kIn hl) r2 h) fun r s' hq => ?_)
  cases r with
  | error e => exact hx pins σ H s e s' I hq
  | ok fl =>
    cases fl with
    | ret u => exact I.after hq
    | next => exact False.elim hq
    | brk => exact False.elim hq
    | cont => exact False.elim hq
theorem pe_call (F : FnOk X.prog X.w X.K X.mg X.base CX k f fd ps sp) (hr : Room k X.A) (hg : Gl X x) (hm : X.mg x = some (.ref f)) (hk : PySem.W.keepIn X.K (.ref f) = true) (hb : Binds X.K fd ps ds) (hd : Vals dvs ds) (hx : Passes CX X E)
    (ha : PA X (e :: es) t) (hdb : (x == ("__debug__" : Str)) = false := by decide) (he : starEach (e :: es) X.env = (false, eval e X.env) :: starEach es X.env := by rfl) (hpl : (backTo pos (starEach es X.env)).any (·.1) = false := by rfl) :
    PE X (.Call (.Name x p) (e :: es) [] pos) (tCall sp dvs E t) := by
  intro pins s σ H Q I h
  refine wpAny_Call_Name_kw (ld_glob I hg hm ?_ hdb)
  refine PySem.W.callWith_K (h₀ := X.base) I.ok.mod.kin hk (thn (ha pos pins s σ H _ I h) fun us s1 ⟨vs, H1, I1, r, q⟩ => ⟨I1.kIn, ?_⟩) he hpl
  exact run_fn F hr hb hd hx I1 r q
end
def PK (X : Cx) (kws : List Keyword) (t : TA) : Prop :=
  ∀ (pos : Pos) (pins : List (Addr × Obj)) (s : Shared) (σ : St) (H : Hp) (Q : List V → Hp → Prop), Inv X pins σ H s → t σ H Q → wpAny (model X.prog X.w) X.A (evalAll ((backToKw pos (keywordEach kws X.env)).map (·.2))) (AP X pins σ Q) X.xe s
section
variable {X : Cx} {CX : CXT} {k : Nat} {f C : Addr} {fd : FuncData} {ps ks : List Str} {sp : Sp} {E : XK} {x m : Str} {p pos apos kpos : Pos} {e o : Expr} {es : List Expr} {kws : List Keyword} {te ta : TE} {t tk : TA} {nm : Option Str}
theorem pk_nil : PK X [] tNil := fun _ _ _ _ H Q I h => wpAny_evalAll_nil ⟨[], H, I, .nil, h⟩
theorem pk_cons (ha : PE X e te) (hr : PK X kws t) : PK X (⟨nm, e, kpos⟩ :: kws) (tCons te t) := by
  intro pos pins s σ H Q I h
  show wpAny _ _ (evalAll ((do let v ← eval e X.env; standAt pos; pure v) :: (backToKw pos (keywordEach kws X.env)).map (·.2))) _ _ s
  refine wpAny_evalAll_cons (wpAny_bind (thn (ha pins s σ H _ I h) fun u s1 ⟨x, H1, I1, r1, q1⟩ => wpAny_bind (wpAny_standAt (wpAny_pure ?_))))
  exact thn (hr pos pins s1 σ H1 _ I1 q1) fun us s2 ⟨xs, H2, I2, r2, q2⟩ => ⟨x :: xs, H2, I2, .cons r1 r2, q2⟩
variable {g : List Value → List Value → List Value} {gV : List V → List V → List V}
end
structure FnScope (N P : List Str) (sc : Scope) : Prop where
  kind : sc.kind = .function
  co : sc.isCoroutine = false
  gen : sc.isGenerator = false
  nd : N.Nodup
  pre : N.take P.length = P
  par : ∀ x ∈ P, sc.names.lookup x = some .local ∨ sc.names.lookup x = some .cell
  nofree : ∀ y ∈ sc.names, y.2 ≠ .free
theorem bindL_out {kindOf : Str → Option NameKind} {x : Str} : ∀ {binds : List (Str × Value)} {m : Str → Option Value}, (∀ v, (x, v) ∉ binds) → bindL kindOf binds m x = m x
  | [], _, _ => rfl
  | (n, v) :: r, m, h => by
    unfold bindL
    rw [bindL_out fun w hw => h w (List.mem_cons_of_mem _ hw)]
    split
    · have : x ≠ n := by rintro rfl; exact h v List.mem_cons_self
      simp [this]
    · rfl
theorem bindC_out {kindOf : Str → Option NameKind} {x : Str} : ∀ {binds : List (Str × Value)} {m : Str → Option Value}, (∀ v, (x, v) ∉ binds) → bindC kindOf binds m x = m x
  | [], _, _ => rfl
  | (n, v) :: r, m, h => by
    unfold bindC
    rw [bindC_out fun w hw => h w (List.mem_cons_of_mem _ hw)]
    split
    · rfl
    · have : x ≠ n := by rintro rfl; exact h v List.mem_cons_self
      simp [this]
theorem bindL_get {kindOf : Str → Option NameKind} {x : Str} {v : Value} : ∀ {P : List Str} {vs : List Value} {i : Nat} {m : Str → Option Value}, P.Nodup → P[i]? = some x → vs[i]? = some v → kindOf x = some .local →
    bindL kindOf (P.zip vs) m x = some v
  | [], _, _, _, _, h, _, _ => by simp at h
  | _ :: _, [], _, _, _, _, h, _ => by simp at h
  | p :: P, w :: vs, 0, m, nd, h1, h2, hk => by
    simp at h1 h2; subst h1; subst h2
    show bindL kindOf ((p, w) :: P.zip vs) m p = _
    unfold bindL
    rw [bindL_out fun v hv => (List.nodup_cons.mp nd).1 (List.of_mem_zip hv).1, if_pos hk]
    simp
  | p :: P, w :: vs, i + 1, m, nd, h1, h2, hk => by
    show bindL kindOf ((p, w) :: P.zip vs) m x = _
    unfold bindL
    exact bindL_get (i := i) (List.nodup_cons.mp nd).2 (by simpa using h1) (by simpa using h2) hk
theorem bindC_get {kindOf : Str → Option NameKind} {x : Str} {v : Value} : ∀ {P : List Str} {vs : List Value} {i : Nat} {m : Str → Option Value}, P.Nodup → P[i]? = some x → vs[i]? = some v → kindOf x ≠ some .local →
    bindC kindOf (P.zip vs) m x = some v
  | [], _, _, _, _, h, _, _ => by simp at h
  | _ :: _, [], _, _, _, _, h, _ => by simp at h
  | p :: P, w :: vs, 0, m, nd, h1, h2, hk => by
    simp at h1 h2; subst h1; subst h2
    show bindC kindOf ((p, w) :: P.zip vs) m p = _
    unfold bindC
    rw [bindC_out fun v hv => (List.nodup_cons.mp nd).1 (List.of_mem_zip hv).1, if_neg hk]
    simp
  | p :: P, w :: vs, i + 1, m, nd, h1, h2, hk => by
    show bindC kindOf ((p, w) :: P.zip vs) m x = _
    unfold bindC
    exact bindC_get (i := i) (List.nodup_cons.mp nd).2 (by simpa using h1) (by simpa using h2) hk
def start (N : List Str) (vs : List V) : St := vs.map some ++ List.replicate (N.length - vs.length) none
def cxOf (CX : CXT) (P : Program) (w : World) (K : PySem.W.Frag) (mg : Str → Option Value) (base : Heap) (N : List Str) (qual : Str) (scope : Scope) (f : Addr) (cd : Value) (A : Around) (outer : List Env) (s : Shared) (H : Hp) (E : XK) : Cx where
  prog := P
  w := w
  K := K
  mg := mg
  base := base
  A := A.deeper (envOfC qual scope s.heap.objs.size f cd)
  N := N
  s₀ := s
  H₀ := H
  env := envOfC qual scope s.heap.objs.size f cd
  outer := outer
  stack := envOfC qual scope s.heap.objs.size f cd :: outer
  ex := []
  calm := true
  fn := fun _ => true
  pn := []
  xe := fun e s' => wpAny (model P w) (A.deeper (envOfC qual scope s.heap.objs.size f cd)) (leaving (envOfC qual scope s.heap.objs.size f cd) e) (fun _ s'' => CX outer H s E e s'') (fun e' s'' => CX outer H s E e' s'') s'
theorem cell_has {sc : Scope} {n : Nat} {x : Str} (h : sc.names.lookup x = some .cell) : ∃ c, (cellsFrom n sc.names []).lookup x = some c := by
  have q := PySem.W.cellsFrom_some sc.names n [] (.inl h)
  exact Option.isSome_iff_exists.mp q
theorem inv_start {CX : CXT} {P : Program} {w : World} {K : PySem.W.Frag} {mg : Str → Option Value} {base : Heap} {N ps : List Str} {qual : Str} {scope : Scope} {f : Addr} {cd : Value} {A : Around} {outer : List Env} {s s1 : Shared} {H : Hp} {E : XK} {us : List Value} {vs : List V}
    (S : FnScope N ps scope) (hd : A.handled = none) (e0 : Env0 P w K mg base A outer s H) (hl : vs.length = ps.length) (r : Vals vs us)
    (x : InCallC s s.heap.objs.size (bindL (envOfC qual scope s.heap.objs.size f cd).kindOf (ps.zip us) fun _ => none) (cellsFrom (s.heap.objs.size + 1) scope.names []) (bindC (envOfC qual scope s.heap.objs.size f cd).kindOf (ps.zip us) fun _ => none) s1) :
    Inv (cxOf CX P w K mg base N qual scope f cd A outer s H E) [] (start N vs) H s1 := by
  have hpl : ps.length ≤ N.length := by have := congrArg List.length S.pre; rw [List.length_take] at this; omega
  obtain ⟨h1, tk, rfl, hk⟩ := x.done
  have noA : ∀ b : Addr, b ∉ (cxOf CX P w K mg base N qual scope f cd A outer s H E).ex := fun b z => absurd (show b ∈ ([] : List Addr) from z) (by simp)
  refine ⟨⟨e0.mod, S.kind, rfl, rfl, Nat.le_refl _, fun y z c h1 h2 => ?_, fun y hy => ?_, fun y c _ h => ?_, fun _ => hd, Around.frames_deeper e0.frames, .inr ⟨rfl, rfl⟩, fun b z => absurd z (noA b), e0.bs, e0.bsz, fun b _ _ => noA b, fun b z => absurd z (noA b), e0.funs, e0.frf⟩,
    rfl, e0.bare, Un.kept hk, ⟨_, x.toInCall.ns, fun i y v h1 h2 h3 => ?_⟩, fun y c h => ⟨_, x.cell y c h⟩, e0.hok.fresh (Nat.le_refl _), fun y c h => ?_, fun p hp => absurd (show p ∈ ([] : List (Addr × Obj)) from hp) (by simp), e0.hok.kept hk, ?_⟩
  · exact name_of_addr x.apart (PySem.mem_of_lookup h1) (PySem.mem_of_lookup h2)
  · have hy : scope.names.lookup y = some .cell ∨ scope.names.lookup y = some .free := hy
    rcases hy with hy | hy
    · exact cell_has hy
    · exact absurd rfl (S.nofree _ (PySem.mem_of_lookup hy))
  · exact Nat.le_of_lt (x.above y c (PySem.mem_of_lookup h))
  · have hi : i < vs.length := by
      unfold start at h2
      by_cases hi : i < vs.length
      · exact hi
      · rw [List.getElem?_append_right (by simpa using hi)] at h2
        rw [List.getElem?_replicate] at h2
        split at h2 <;> cases h2
    have ha : vs[i]? = some v := by
      unfold start at h2
      rw [List.getElem?_append_left (by simpa using hi), List.getElem?_map] at h2
      cases e : vs[i]? with
      | none => rw [e] at h2; cases h2
      | some a => rw [e] at h2; cases h2; rfl
    obtain ⟨u, hu, rv⟩ := r.get ha
    have hp : ps[i]? = some y := by
      rw [← S.pre, List.getElem?_take_of_lt (by omega)]; exact h1
    have ndP : ps.Nodup := by rw [← S.pre]; exact S.nd.sublist (List.take_sublist _ _)
    refine ⟨u, rv, ?_⟩
    rcases S.par y (List.mem_of_getElem? hp) with k | k
    · exact .inl ⟨k, bindL_get ndP hp hu k⟩
    · obtain ⟨c, e⟩ := cell_has (n := s.heap.objs.size + 1) k
      refine .inr ⟨.inl k, c, e, ?_⟩
      have q := x.cell y c e
      rw [bindC_get ndP hp hu (by show scope.names.lookup y ≠ _; rw [k]; decide)] at q
      exact q
  · exact e0.hok.fresh (Nat.le_of_lt (x.above y c (PySem.mem_of_lookup h)))
  · unfold start
    show _ = N.length
    rw [List.length_append, List.length_map, List.length_replicate]
    omega
theorem fn_of {CX : CXT} {P : Program} {w : World} {K : PySem.W.Frag} {mg : Str → Option Value} {base : Heap} {k : Nat} {f : Addr} {name qual : Str} {params : Arguments} {body : List Stmt} {scope : Scope} {dV kV doc pm cdv ct oc : Value} {an od : Option Addr}
    {osl : Array (Option Value)} {N ps : List Str} {sp : Sp} (lk : K.lookup f = some ⟨oc, od, .func (PySem.W.fnOf name qual params body scope dV kV doc pm an cdv ct), osl⟩) (hcd : PySem.W.codeIn K cdv qual = true) (S : FnScope N ps scope)
    (len : ∀ vs H Q E, sp vs H Q E → vs.length = ps.length)
    (hbody : ∀ (A : Around) (outer : List Env) (s : Shared) (H : Hp) (vs : List V) (Q : VK) (E : XK), Room k (A.deeper (envOfC qual scope s.heap.objs.size f cdv)) → sp vs H Q E →
      ∃ t, PSs (cxOf CX P w K mg base N qual scope f cdv A outer s H E) body t ∧ t { nx := fun _ H' => Q .non H', rt := Q } (start N vs) H) :
    FnOk P w K mg base CX (k + 1) f (PySem.W.fnOf name qual params body scope dV kV doc pm an cdv ct) ps sp := by
  refine ⟨len, fun A outer s H args us vs Q E hr e0 hb r hsp => ?_⟩
  have hl := len _ _ _ _ hsp
  have KX : K.In s.heap := e0.mod.kin.keeps fun b o e => (e0.bs b o e).1
  have lim : s.heap.NoLimit := e0.mod.nolimit.keeps fun b o e => (e0.bs b o e).1
  have hkind : ∀ y ∈ ps.zip us, scope.names.lookup y.1 = some .local ∨ (scope.names.lookup y.1 = some .cell ∧ ((cellsFrom (s.heap.objs.size + 1) scope.names []).lookup y.1).isSome = true) := fun ⟨n, v⟩ hy => by
    rcases S.par n (List.of_mem_zip hy).1 with q | q
    · exact .inl q
    · exact .inr ⟨q, PySem.W.cellsFrom_some _ _ _ (.inl q)⟩
  refine codeAny_call_function hr.depth (KX _ _ lk) rfl S.co S.gen rfl (PySem.W.codeRec_of KX hcd) (hb _ _ _ _ ?_)
  refine wpAny_newFunctionEnv_cells S.kind hkind fun env he s1 x => ?_
  subst he
  refine ⟨lim.keeps x.toInCall.keep, codeAny_func ?_⟩
  obtain ⟨t, ht, hq⟩ := hbody A outer s H vs Q E (hr.deeper _) hsp
  have I : Inv (cxOf CX P w K mg base N qual scope f cdv A outer s H E) [] (start N vs) H s1 := inv_start S hr.hd e0 hl r x
  refine wpAny_mono (ht [] s1 (start N vs) H _ I hq) (fun fl s' hs => ?_) fun e s' hs => hs
  have fin : ∀ {σ' : St} {H' : Hp} {v : V} {u : Value}, Inv (cxOf CX P w K mg base N qual scope f cdv A outer s H E) [] σ' H' s' → RelV v u → Q v H' → CE outer P w H s Q u s' :=
    fun {σ' H' v u} J rv q => ⟨v, H', J.os, J.bare, J.base, J.hok, rv, q⟩
  cases fl with
  | ret u =>
    obtain ⟨v, σ', H', J, rv, q⟩ := hs
    exact fin J rv q
  | next =>
    obtain ⟨σ', H', J, q⟩ := hs
    exact fin (v := V.non) (u := Value.none) J rfl q
  | brk =>
    obtain ⟨_, _, _, q⟩ := hs
    exact False.elim q
  | cont =>
    obtain ⟨_, _, _, q⟩ := hs
    exact False.elim q
end L2
namespace L2
open PySem PySem.Spec PyProof.Rows
section
variable {X : Cx} {x : Str} {p pos : Pos} {e : Expr} {es : List Expr} {t : TA} {id T : String} {r : List V → Hp → VK → Prop}
def tCB (r : List V → Hp → VK → Prop) (t : TA) : TE := fun σ H Q => t σ H fun vs H1 => r vs H1 Q
theorem pe_callB (hc : CallR X (.builtin id) r) (hg : Gl X x) (hm : X.mg x = none) (hv : bootBuiltins x = some (.builtin id)) (ha : PA X (e :: es) t) (hn : x ≠ "__name__" := by decide) (hdb : (x == ("__debug__" : Str)) = false := by decide)
    (he : starEach (e :: es) X.env = (false, eval e X.env) :: starEach es X.env := by rfl) (hpl : (backTo pos (starEach es X.env)).any (·.1) = false := by rfl) : PE X (.Call (.Name x p) (e :: es) [] pos) (tCB r t) := by
  intro pins s σ H Q I h
  refine wpAny_Call_Name_kw (ld_blt I hg hm hv ?_ hn hdb)
  exact PyProof.Rows.callWith_builtin1 (thn (ha pos pins s σ H _ I h) fun us s1 ⟨vs, H1, I1, r1, q1⟩ => hc pins s1 σ H1 vs us Q I1 r1 q1) he hpl
theorem pe_callTy (hc : CallR X (.type T) r) (hg : Gl X x) (hm : X.mg x = none) (hv : bootBuiltins x = some (.type T)) (ha : PA X (e :: es) t) (hn : x ≠ "__name__" := by decide) (hdb : (x == ("__debug__" : Str)) = false := by decide)
    (he : starEach (e :: es) X.env = (false, eval e X.env) :: starEach es X.env := by rfl) (hpl : (backTo pos (starEach es X.env)).any (·.1) = false := by rfl) : PE X (.Call (.Name x p) (e :: es) [] pos) (tCB r t) := by
  intro pins s σ H Q I h
  refine wpAny_Call_Name_kw (ld_blt I hg hm hv ?_ hn hdb)
  exact PyProof.Rows.callWith_type1 (thn (ha pos pins s σ H _ I h) fun us s1 ⟨vs, H1, I1, r1, q1⟩ => hc pins s1 σ H1 vs us Q I1 r1 q1) he hpl
end
end L2
namespace HT
open PySem PyProof.Rows
section
open PySem.SeqAt
open PySem.AutoSeq1 (wpAny_loadPart')
open PySem.MeetsSeq PySem.MeetsSeq2 PySem.MeetsSeq3
end
section
variable {prog : Program} {w : World} {A : Around} {E : Value → Shared → Prop} {s : Shared}
theorem cat_tup {t b : Addr} {vs ws : List Value} {Q : Value → Shared → Prop} (ht : IsTup s.heap t vs.toArray) (hb : IsTup s.heap b ws.toArray) (hv : vs ≠ [])
    (h1 : ws = [] → Q (.ref t) s) (h2 : ws ≠ [] → Q (.ref s.heap.objs.size) { s with heap := s.heap.push { cls := .type "tuple", data := .seq (vs ++ ws).toArray } })
    (hsz : vs.length + ws.length ≤ sizeLine) : wpAny (model prog w) A (binaryOp .Add (.ref t) (.ref b)) Q E s := by
  obtain ⟨⟨cls, dd, data, sl⟩, ho, hc, n, hd⟩ := id ht
  obtain ⟨⟨cls2, dd2, data2, sl2⟩, ho2, hc2, n2, hd2⟩ := id hb
  simp only at hc hd hc2 hd2
  subst hc hd hc2 hd2
  have e : vs.toArray ++ ws.toArray = (vs ++ ws).toArray := by simp
  by_cases hw : ws = []
  · exact concat_meets ⟨_, ho, rfl⟩ ⟨_, ho2, rfl⟩ noFill_tuple_add seq_tuple_add PySem.F.slot_tuple_add PySem.F.entry_tuple_add (PySem.F.args_tuple_add_2 _ _)
      (tuple_addW1 t b vs.toArray ws.toArray n n2 dd dd2 sl sl2 (by simpa using hv) (by simp [hw])) ⟨ho, ho2, h1 hw⟩
  · refine concat_meets ⟨_, ho, rfl⟩ ⟨_, ho2, rfl⟩ noFill_tuple_add seq_tuple_add PySem.F.slot_tuple_add PySem.F.entry_tuple_add (PySem.F.args_tuple_add_2 _ _)
      (tuple_addW2 t b vs.toArray ws.toArray n n2 dd dd2 sl sl2 (by simpa using hv) (by simpa using hw) (by rw [List.size_toArray, List.size_toArray]; exact hsz)) ⟨ho, ho2, ?_⟩
    rw [e]
    exact h2 hw
def sIx (n d : Nat) : Option Int → Nat
  | none => d
  | some v => if v < 0 then (v + (n : Int)).toNat else min v.toNat n
theorem sIx_le (n d : Nat) (hd : d ≤ n) (o : Option Int) : sIx n d o ≤ n := by
  cases o with
  | none => exact hd
  | some v =>
    show (if v < 0 then (v + (n : Int)).toNat else min v.toNat n) ≤ n
    by_cases hv : v < 0
    · rw [if_pos hv]; omega
    · rw [if_neg hv]; exact Nat.min_le_right _ _
theorem clip_eq (v : Int) (n d : Nat) : (if v < 0 then max (v + (n : Int)) 0 else min v (n : Int)) = ((sIx n d (some v) : Nat) : Int) := by
  show (if v < 0 then max (v + (n : Int)) 0 else min v (n : Int)) = (((if v < 0 then (v + (n : Int)).toNat else min v.toNat n) : Nat) : Int)
  by_cases hv : v < 0
  · simp only [if_pos hv]; omega
  · simp only [if_neg hv]; omega
theorem adjust_gen (lo hi : Option Int) (n : Nat) : Builtin.Slice.sliceAdjust lo hi 1 (n : Int) = (((sIx n 0 lo : Nat) : Int), ((sIx n n hi : Nat) : Int)) := by
  have h1 : ¬ ((1 : Int) < 0) := by omega
  unfold Builtin.Slice.sliceAdjust
  simp only [h1, if_false]
  refine Prod.ext ?_ ?_
  · cases lo with
    | none => rfl
    | some v => exact clip_eq v n 0
  · cases hi with
    | none => rfl
    | some v => exact clip_eq v n n
theorem places_gen (i j : Nat) : Builtin.Slice.slicePlaces (i : Int) (j : Int) 1 = j - i := by
  unfold Builtin.Slice.slicePlaces
  have h1 : (1 : Int) > 0 := by omega
  simp only [h1, if_true, Int.ediv_one]
  split <;> omega
theorem slicePart_ {v : Value} {o : Option Int} {Q : Option Int → Shared → Prop} (p : IsPart v o) (h : Q o s) : wpAny (model prog w) A (Builtin.Slice.slicePartIndex v) Q E s := by
  cases p with
  | none => exact slicePart_none h
  | int i t => exact slicePart_int h
theorem sliceApplied_gen {sl : Addr} {vl vu : Value} {lo hi : Option Int} {n : Nat} {Q : Int × Int × Nat → Shared → Prop} (hs : s.heap.IsSliceOf sl vl vu .none) (pl : IsPart vl lo) (pu : IsPart vu hi)
    (h : Q (((sIx n 0 lo : Nat) : Int), 1, sIx n n hi - sIx n 0 lo) s) : wpAny (model prog w) A (Builtin.Slice.sliceApplied (.ref sl) (pure (n : Int))) Q E s := by
  obtain ⟨os, hos, hcs, hds⟩ := id hs
  unfold Builtin.Slice.sliceApplied Builtin.Slice.sliceFields
  refine wpAny_bind (wpAny_bind (wpAny_field hos hds (x := vl) rfl (wpAny_bind (wpAny_field hos hds (x := vu) rfl (wpAny_bind (wpAny_field hos hds (x := .none) rfl (wpAny_pure ?_)))))))
  refine wpAny_bind (slicePart_none ?_)
  show wpAny _ _ (if ((1 : Int) == 0) = true then _ else _) _ _ s
  rw [if_neg (by decide)]
  refine wpAny_bind (slicePart_ pl (wpAny_bind (slicePart_ pu (wpAny_bind (wpAny_pure ?_)))))
  show wpAny _ _ (match Builtin.Slice.sliceAdjust lo hi 1 (n : Int) with | (lo, hi) => pure (lo, (1 : Int), Builtin.Slice.slicePlaces lo hi 1)) _ _ s
  rw [adjust_gen lo hi n]
  show wpAny _ _ (pure (((sIx n 0 lo : Nat) : Int), (1 : Int), Builtin.Slice.slicePlaces ((sIx n 0 lo : Nat) : Int) ((sIx n n hi : Nat) : Int) 1)) _ _ s
  rw [places_gen]
  exact wpAny_pure h
theorem pick_gen (xs : Array Value) (i k : Nat) : ((List.range k).filterMap fun (m : Nat) => xs[((i : Int) + (m : Int) * 1).toNat]?).toArray = ((xs.toList.drop i).take k).toArray := by
  have e : (fun (m : Nat) => xs[((i : Int) + (m : Int) * 1).toNat]?) = fun m => xs[i + m]? := by
    funext m
    have : ((i : Int) + (m : Int) * 1).toNat = i + m := by omega
    rw [this]
  rw [e]
  have := pick_run xs i k
  rw [List.filterMap_map] at this
  have e2 : ((fun x => xs[x]?) ∘ fun x => i + x) = fun m => xs[i + m]? := rfl
  rw [e2] at this
  rw [this]
theorem getItem_tuple_cut {t sl : Addr} {items : Array Value} {vl vu : Value} {lo hi : Option Int} {Q : Value → Shared → Prop} (ht : IsTup s.heap t items) (hs : s.heap.IsSliceOf sl vl vu .none) (pl : IsPart vl lo) (pu : IsPart vu hi)
    (hw : ¬ (sIx items.size 0 lo = 0 ∧ sIx items.size items.size hi = items.size))
    (h : Q (.ref s.heap.objs.size) { s with heap := s.heap.push { cls := .type "tuple", data := .seq ((items.toList.drop (sIx items.size 0 lo)).take (sIx items.size items.size hi - sIx items.size 0 lo)).toArray } })
    (hsz : items.size ≤ sizeLine) : wpAny (model prog w) A (getItem (.ref t) (.ref sl)) Q E s := by
  have htake : sizeOk (.seq ((items.toList.drop (sIx items.size 0 lo)).take (sIx items.size items.size hi - sIx items.size 0 lo)).toArray) := by
    show ((items.toList.drop (sIx items.size 0 lo)).take (sIx items.size items.size hi - sIx items.size 0 lo)).toArray.size ≤ sizeLine
    rw [List.size_toArray, List.length_take, List.length_drop, Array.length_toList]
    omega
  have hj : sIx items.size items.size hi ≤ items.size := sIx_le _ _ (Nat.le_refl _) hi
  obtain ⟨os, hos, hcs, hds⟩ := id hs
  have hTs : s.TypeIs (.ref sl) "slice" := ⟨os, hos, hcs⟩
  unfold getItem
  try with_reducible refine wpAny_holding ?_
  first | refine wpAny_bind (wpAny_pure ?_) | skip
  refine wpAny_bind (wpAny_sequenceKey ht.typeIs (by decide) ?_)
  refine wpAny_bind (wpAny_callSpecial?_slot (name := Str.ofString "__getitem__") ht.typeIs PyProof.Rows.slot_tuple_getitem
    (wpAny_call_entry PyProof.Rows.slot_tuple_getitem ht.typeIs entry_tuple_getitem ?_ (args_tuple_getitem _ _)))
  show wpAny _ _ (Builtin.Tuple.tupleItemsOf (.ref t) >>= _) _ _ s
  refine wpAny_bind (tupleItemsOf_ ht ?_)
  refine wpAny_bind (wpAny_typeOf hTs ?_)
  rw [if_pos (by decide)]
  refine wpAny_bind (sliceApplied_gen hs pl pu ?_)
  have hno : ¬ ((((sIx items.size 0 lo : Nat) : Int) == 0 && (1 : Int) == 1 && (sIx items.size items.size hi - sIx items.size 0 lo) == items.size) = true) := by
    intro q
    rw [Bool.and_eq_true, Bool.and_eq_true] at q
    have q1 : ((sIx items.size 0 lo : Nat) : Int) = 0 := eq_of_beq q.1.1
    have q2 : sIx items.size items.size hi - sIx items.size 0 lo = items.size := eq_of_beq q.2
    exact hw ⟨by omega, by omega⟩
  show wpAny _ _ (if (((sIx items.size 0 lo : Nat) : Int) == 0 && (1 : Int) == 1 && (sIx items.size items.size hi - sIx items.size 0 lo) == items.size) = true then _ else _) _ _ s
  rw [if_neg hno, pick_gen]
  first
    | exact wpAny_bind (m := Builtin.Tuple.tupleExact _) (wpAny_newObj_type (wpAny_pure ⟨_, rfl, wpAny_pure h⟩) htake)
    | exact wpAny_bind (m := Builtin.Tuple.tupleExact _) (wpAny_newObj_type (wpAny_bind (wpAny_pure (wpAny_pure ⟨_, rfl, wpAny_pure h⟩))) htake)
    | exact wpAny_bind (wpAny_bind (m := Builtin.Tuple.tupleExact _) (wpAny_newObj_type (wpAny_pure (wpAny_pure ⟨_, rfl, wpAny_pure h⟩)) htake))
    | exact wpAny_bind (wpAny_bind (m := Builtin.Tuple.tupleExact _) (wpAny_newObj_type (wpAny_pure ⟨_, rfl, wpAny_pure h⟩) htake))
end
end HT
namespace L2
open PySem PySem.Spec PyProof.Rows
abbrev TO := St → Hp → (Option Int → Hp → Prop) → Prop
def PO (X : Cx) (e : Option Expr) (t : TO) : Prop :=
  ∀ (pins : List (Addr × Obj)) (s : Shared) (σ : St) (H : Hp) (Q : Option Int → Hp → Prop), Inv X pins σ H s → t σ H Q →
    wpAny (model X.prog X.w) X.A (evalPart e X.env) (fun u s' => ∃ o H', Inv X pins σ H' s' ∧ IsPart u o ∧ Q o H') X.xe s
def tNoPart : TO := fun _ H Q => Q none H
def tPart (t : TE) : TO := fun σ H Q => t σ H fun x H1 => ∃ i, x = .int i ∧ Q (some i) H1
section
variable {X : Cx} {e : Expr} {te : TE} {lo hi : Option Expr} {tl th : TO} {pos p2 : Pos}
theorem po_none : PO X none tNoPart := by
  intro pins s σ H Q I h
  rw [evalPart_none]
  exact wpAny_pure ⟨none, H, I, .none, h⟩
theorem po_some (h : PE X e te) : PO X (some e) (tPart te) := by
  intro pins s σ H Q I hw
  rw [evalPart_some]
  refine thn (h pins s σ H _ I hw) fun u s1 ⟨x, H1, I1, r1, q1⟩ => ?_
  obtain ⟨i, rfl, q⟩ := q1
  obtain ⟨t, rfl⟩ := r1
  exact ⟨some i, H1, I1, .int i t, q⟩
def SlR (X : Cx) (r : V → Option Int → Option Int → Hp → VK → Prop) : Prop :=
  ∀ (pins : List (Addr × Obj)) (s : Shared) (σ : St) (H : Hp) (x : V) (v vl vu : Value) (lo hi : Option Int) (sl : Addr) (Q : VK), Inv X pins σ H s → RelV x v → s.heap.IsSliceOf sl vl vu .none → IsPart vl lo → IsPart vu hi → r x lo hi H Q →
    ∃ T id, typeLookup (.type T) "__getitem__" = pure (some (.builtin id)) ∧ s.TypeIs v T ∧ wpAny (model X.prog X.w) X.A (getItem v (.ref sl)) (EP X pins σ Q) X.xe s
theorem SlR.or {r r' : V → Option Int → Option Int → Hp → VK → Prop} (h : SlR X r) (h' : SlR X r') : SlR X (fun x lo hi H Q => r x lo hi H Q ∨ r' x lo hi H Q) := by
  intro pins s σ H x v vl vu lo hi sl Q I rx hs pl pu q
  rcases q with q | q
  · exact h pins s σ H x v vl vu lo hi sl Q I rx hs pl pu q
  · exact h' pins s σ H x v vl vu lo hi sl Q I rx hs pl pu q
def tSl (r : V → Option Int → Option Int → Hp → VK → Prop) (te : TE) (tl th : TO) : TE := fun σ H Q => te σ H fun x H1 => tl σ H1 fun l H2 => th σ H2 fun u H3 => r x l u H3 Q
theorem pe_slice {r : V → Option Int → Option Int → Hp → VK → Prop} (hr : SlR X r) (he : PE X e te) (hl : PO X lo tl) (hu : PO X hi th) : PE X (.Subscript e (.Slice lo hi none p2) pos) (tSl r te tl th) := by
  intro pins s σ H Q I h
  refine Subscript_ (thn (he pins s σ H _ I h) fun v s1 ⟨x, H1, I1, r1, q1⟩ => ?_)
  refine wpAny_Slice (thn (hl pins s1 σ H1 _ I1 q1) fun vl s2 ⟨l, H2, I2, pl, q2⟩ => thn (hu pins s2 σ H2 _ I2 q2) fun vu s3 ⟨u, H3, I3, pu, q3⟩ => ?_)
  rw [evalPart_none]
  refine wpAny_pure ?_
  have I4 : Inv X pins σ H3 { s3 with heap := s3.heap.push { cls := .type "slice", data := .fields #[vl, vu, .none] } } := I3.kept (t' := s3.toks) fun b ob q => Heap.get?_push_of_some _ q
  obtain ⟨T, id, hT, ht, hg⟩ := hr pins { s3 with heap := s3.heap.push { cls := .type "slice", data := .fields #[vl, vu, .none] } } σ H3 x v vl vu l u s3.heap.objs.size Q I4 r1 (Heap.IsSliceOf.new ..) pl pu q3
  show wpAny (model X.prog X.w) X.A (subscriptTail e (.Slice lo hi none p2) v (.ref s3.heap.objs.size)) (EP X pins σ Q) X.xe { s3 with heap := s3.heap.push { cls := .type "slice", data := .fields #[vl, vu, .none] } }
  exact tail_any (ops := [.ref s3.heap.objs.size, v]) ht hT hg (by with_unfolding_all rfl)
def cutV (xs : List V) (lo hi : Option Int) : List V := (xs.drop (HT.sIx xs.length 0 lo)).take (HT.sIx xs.length xs.length hi - HT.sIx xs.length 0 lo)
theorem cutV_length (xs : List V) (lo hi : Option Int) : (cutV xs lo hi).length ≤ xs.length := by
  unfold cutV
  rw [List.length_take, List.length_drop]
  omega
def rSlT (K : PySem.W.Frag) : V → Option Int → Option Int → Hp → VK → Prop := fun x lo hi H Q => ∃ a xs, x = .ref a ∧ SqT K H a xs ∧
  ¬ (HT.sIx xs.length 0 lo = 0 ∧ HT.sIx xs.length xs.length hi = xs.length) ∧ ∀ p, H p = none → Q (.ref p) (upd H p (.tup (cutV xs lo hi)))
theorem sl_tup : SlR X (rSlT X.K) := by
  intro pins s σ H x v vl vu lo hi sl Q I rx hs pl pu h
  obtain ⟨a, xs, rfl, hx, hw, q⟩ := h
  cases rx
  obtain ⟨its, r, ht, hz⟩ := I.tuple hx
  have hlen : its.toArray.size = xs.length := by rw [List.size_toArray]; exact r.length.symm
  refine ⟨"tuple", _, PyProof.Rows.slot_tuple_getitem.lookup, ht.typeIs, ?_⟩
  refine HT.getItem_tuple_cut ht hs pl pu (by rw [hlen]; exact hw) ?_ (by rw [hlen]; exact hz)
  rw [hlen]
  refine ⟨.ref s.heap.objs.size, _, I.laid (t' := s.toks) (o := .tup (cutV xs lo hi)) (fun b ob q => Heap.get?_push_of_some _ q) (Nat.le_refl _) ?_, rfl, q _ (I.hok.fresh (Nat.le_refl _))⟩
  exact ⟨Nat.le_trans (cutV_length xs lo hi) hz, _, (r.drop (HT.sIx xs.length 0 lo)).take (HT.sIx xs.length xs.length hi - HT.sIx xs.length 0 lo), IsTup.new _ _⟩
def rCatT (K : PySem.W.Frag) : R2 := fun x y H Q => ∃ a b xs ys, x = .ref a ∧ y = .ref b ∧ SqT K H a xs ∧ SqT K H b ys ∧ xs ≠ [] ∧ xs.length + ys.length ≤ sizeLine ∧
  (ys = [] → Q (.ref a) H) ∧ (ys ≠ [] → ∀ p, H p = none → Q (.ref p) (upd H p (.tup (xs ++ ys))))
theorem Vals.nil_iff {xs : List V} {us : List Value} (r : Vals xs us) : us = [] ↔ xs = [] := by
  cases r with
  | nil => simp
  | cons _ _ => simp
theorem op_catT : OpR X (binaryOp .Add) (rCatT X.K) := by
  intro pins s σ H x y v u Q I rx ry h
  obtain ⟨a, b, xs, ys, rfl, rfl, ha, hb, hx, hz, q1, q2⟩ := h
  cases rx
  cases ry
  obtain ⟨its, r1, p1, _⟩ := I.tuple ha
  obtain ⟨its2, r2, p2, _⟩ := I.tuple hb
  refine HT.cat_tup p1 p2 (fun z => hx (r1.nil_iff.mp z)) (fun z => ⟨.ref a, H, I, rfl, q1 (r2.nil_iff.mp z)⟩) (fun z => ?_) (by rw [← r1.length, ← r2.length]; exact hz)
  refine ⟨.ref s.heap.objs.size, _, I.laid (t' := s.toks) (o := .tup (xs ++ ys)) (fun b ob q => Heap.get?_push_of_some _ q) (Nat.le_refl _) ?_, rfl, q2 (fun w => z (r2.nil_iff.mpr w)) _ (I.hok.fresh (Nat.le_refl _))⟩
  exact ⟨by rw [List.length_append]; exact hz, _, r1.append r2, IsTup.new _ _⟩
end
end L2
namespace L2
open PySem PySem.Spec PyProof.Rows
def ixN (n : Nat) (i : Int) : Option Nat := if 0 ≤ i then (if i < n then some i.toNat else none) else if -(n : Int) ≤ i then some (i + n).toNat else none
def atI {α : Type} (xs : List α) (i : Int) : Option α := (ixN xs.length i).bind fun j => xs[j]?
theorem ixN_seq {n : Nat} {i : Int} {j : Nat} (h : ixN n i = some j) : seqIndex? i n = some j ∧ j < n ∧ -(n : Int) ≤ i ∧ i < n := by
  unfold ixN at h
  by_cases h0 : 0 ≤ i
  · rw [if_pos h0] at h
    by_cases h1 : i < n
    · rw [if_pos h1] at h
      have e : i.toNat = j := Option.some.inj h
      exact ⟨by rw [seqIndex_of h0 h1, e], by omega, by omega, h1⟩
    · rw [if_neg h1] at h; cases h
  · rw [if_neg h0] at h
    by_cases h1 : -(n : Int) ≤ i
    · rw [if_pos h1] at h
      have e : (i + n).toNat = j := Option.some.inj h
      exact ⟨by rw [seqIndex_neg (by omega) h1, e], by omega, h1, by omega⟩
    · rw [if_neg h1] at h; cases h
theorem atI_get {α : Type} {xs : List α} {i : Int} {v : α} (h : atI xs i = some v) : ∃ j, seqIndex? i xs.length = some j ∧ xs[j]? = some v ∧ j < xs.length ∧ -(xs.length : Int) ≤ i ∧ i < xs.length := by
  unfold atI at h
  cases e : ixN xs.length i with
  | none => rw [e] at h; cases h
  | some j =>
    rw [e] at h
    obtain ⟨h1, h2, h3, h4⟩ := ixN_seq e
    exact ⟨j, h1, h, h2, h3, h4⟩
theorem atI_nat {α : Type} {xs : List α} {j : Nat} {v : α} (h : xs[j]? = some v) : atI xs (j : Int) = some v := by
  have hj : j < xs.length := (List.getElem?_eq_some_iff.mp h).1
  have e : ixN xs.length (j : Int) = some j := by
    unfold ixN
    rw [if_pos (by omega), if_pos (by omega)]; simp
  unfold atI; rw [e]; exact h
def PlainIx (b : Expr) : Prop := ∀ o i, subscripted b false o i = operate [o, i] (getItem o i)
def IxR (X : Cx) (r : R2) : Prop :=
  ∀ (value slice : Expr) (pins : List (Addr × Obj)) (s : Shared) (σ : St) (H : Hp) (x y : V) (v u : Value) (Q : VK), Inv X pins σ H s → RelV x v → RelV y u → r x y H Q →
    subscripted slice false v u = operate [v, u] (getItem v u) → wpAny (model X.prog X.w) X.A (subscriptTail value slice v u) (EP X pins σ Q) X.xe s
def MtR (X : Cx) (id : String) (r : V → List V → Hp → VK → Prop) : Prop :=
  ∀ (pins : List (Addr × Obj)) (s : Shared) (σ : St) (H : Hp) (x : V) (xs : List V) (v : Value) (us : List Value) (Q : VK), Inv X pins σ H s → RelV x v → Vals xs us → r x xs H Q →
    wpAny (model X.prog X.w) X.A (call (.builtin id) (v :: us)) (EP X pins σ Q) X.xe s
section
variable {X : Cx} {a b : Expr} {ta tb : TE} {pos : Pos}
theorem IxR.or {r r' : R2} (h : IxR X r) (h' : IxR X r') : IxR X (fun x y H Q => r x y H Q ∨ r' x y H Q) := by
  intro value slice pins s σ H x y v u Q I rx ry q hs
  rcases q with q | q
  · exact h value slice pins s σ H x y v u Q I rx ry q hs
  · exact h' value slice pins s σ H x y v u Q I rx ry q hs
theorem pe_ix {r : R2} (hr : IxR X r) (ha : PE X a ta) (hb : PE X b tb) (hs : PlainIx b) : PE X (.Subscript a b pos) (tOp r ta tb) := by
  intro pins s σ H Q I h
  exact Subscript_ (binT ha hb I h fun v u s2 x y H2 I2 rx ry q => hr a b pins s2 σ H2 x y v u Q I2 rx ry q (hs _ _))
def rIxL (K : PySem.W.Frag) : R2 := fun x y H Q => ∃ p xs i v, x = .ref p ∧ y = .int i ∧ SqL K H p xs ∧ atI xs i = some v ∧ Q v H
def rIxT (K : PySem.W.Frag) : R2 := fun x y H Q => ∃ p xs i v, x = .ref p ∧ y = .int i ∧ SqT K H p xs ∧ atI xs i = some v ∧ Q v H
def rIxS : R2 := fun x y H Q => ∃ z i c, x = .str z ∧ y = .int i ∧ z.length ≤ sizeLine ∧ atI z.cps.toList i = some c ∧ Q (.str ⟨#[c]⟩) H
theorem ix_list : IxR X (rIxL X.K) := by
  intro value slice pins s σ H x y v u Q I rx ry h hs
  obtain ⟨p, xs, i, z, rfl, rfl, hq, he, q⟩ := h
  cases rx
  obtain ⟨t, rfl⟩ := ry
  obtain ⟨its, r, pl, hz⟩ := I.list hq
  obtain ⟨j, h1, h2, h3, h4, h5⟩ := atI_get he
  obtain ⟨w, ew, rw'⟩ := r.get h2
  have hl := r.length
  have hn := line63
  have fin : EP X pins σ Q w s := ⟨z, H, I, rw', q⟩
  by_cases h0 : 0 ≤ i
  · have hj : i.toNat = j := by
      rw [seqIndex_of h0 h5] at h1
      exact Option.some.inj h1
    exact item_listR pl.isList h0 (by omega) (by rw [hj]; simpa using ew) fin hs
  · have hj : (i + (its.toArray.size : Int)).toNat = j := by
      rw [seqIndex_neg (by omega) h4] at h1
      rw [List.size_toArray, ← hl]
      exact Option.some.inj h1
    exact subscriptTail_builtinR (x := w) pl.isList.typeIs slot_list_getitem.lookup
      (wpAny_getItem_list_neg (Q := fun r s' => r = w ∧ EP X pins σ Q r s') pl.isList (by omega) (by rw [List.size_toArray] <;> omega) (by omega) (by rw [hj]; simpa using ew) ⟨rfl, fin⟩) hs
theorem ix_tup : IxR X (rIxT X.K) := by
  intro value slice pins s σ H x y v u Q I rx ry h hs
  obtain ⟨p, xs, i, z, rfl, rfl, hq, he, q⟩ := h
  cases rx
  obtain ⟨t, rfl⟩ := ry
  obtain ⟨its, r, pl, hz⟩ := I.tuple hq
  obtain ⟨j, h1, h2, h3, h4, h5⟩ := atI_get he
  obtain ⟨w, ew, rw'⟩ := r.get h2
  have hl := r.length
  have hn := line63
  have fin : EP X pins σ Q w s := ⟨z, H, I, rw', q⟩
  exact subscriptTail_builtinR (x := w) pl.typeIs slot_tuple_getitem.lookup
    (getItem_tuple (j := j) (Q := fun r s' => r = w ∧ EP X pins σ Q r s') pl (by omega) (by omega) (by rw [List.size_toArray, ← hl]; exact h1) (by simpa using ew) ⟨rfl, fin⟩) hs
theorem ix_str : IxR X rIxS := by
  intro value slice pins s σ H x y v u Q I rx ry h hs
  obtain ⟨z, i, c, rfl, rfl, hz, he, q⟩ := h
  obtain ⟨t, rfl⟩ := rx
  obtain ⟨t', rfl⟩ := ry
  obtain ⟨j, h1, h2, h3, h4, h5⟩ := atI_get he
  have hl : z.cps.toList.length = z.length := by simp [Str.length]
  rw [hl] at h1 h4 h5
  have hn := line63
  exact tail_any (typeIs_str s z t) slot_str_getitem.lookup (getItem_str (c := c) (by
    have e1 : decide (i < -(2 ^ 63 : Int)) = false := decide_eq_false (by omega)
    have e2 : decide (i ≥ 2 ^ 63) = false := decide_eq_false (by omega)
    rw [e1, e2, Bool.or_false]) (by rw [h1]; simpa using h2) ⟨.str ⟨#[c]⟩, H, I.tok _, ⟨_, rfl⟩, q⟩) hs
def rIx (K : PySem.W.Frag) : R2 := fun x y H Q => rIxL K x y H Q ∨ rIxT K x y H Q ∨ rIxS x y H Q
theorem ix_seq : IxR X (rIx X.K) := ix_list.or (ix_tup.or ix_str)
theorem slice_bounds (lo hi : Option Int) (n : Nat) : (sliceBounds lo hi none n).1 = ((HT.sIx n 0 lo : Nat) : Int) ∧ (sliceBounds lo hi none n).2.1 = ((HT.sIx n n hi : Nat) : Int) ∧ (sliceBounds lo hi none n).2.2 = 1 := by
  refine ⟨?_, ?_, rfl⟩
  · cases lo with
    | none => simp [sliceBounds, HT.sIx]
    | some i =>
      simp only [sliceBounds, HT.sIx, Option.getD_none, show (1 : Int) > 0 by decide, if_true]
      by_cases h : i < 0
      · simp only [h, if_true] <;> omega
      · simp only [h, if_false] <;> omega
  · cases hi with
    | none => simp [sliceBounds, HT.sIx]
    | some i =>
      simp only [sliceBounds, HT.sIx, Option.getD_none, show (1 : Int) > 0 by decide, if_true]
      by_cases h : i < 0
      · simp only [h, if_true] <;> omega
      · simp only [h, if_false] <;> omega
theorem slicePick_cut (its : List Value) (lo hi : Option Int) : slicePick its.toArray lo hi none = ((its.drop (HT.sIx its.length 0 lo)).take (HT.sIx its.length its.length hi - HT.sIx its.length 0 lo)).toArray := by
  obtain ⟨h1, h2, h3⟩ := slice_bounds lo hi its.toArray.size
  unfold slicePick
  rw [h1, h2, h3]
  simp only [sliceRange_one, pick_run, List.size_toArray] <;> rfl
def rSlL (K : PySem.W.Frag) : V → Option Int → Option Int → Hp → VK → Prop := fun x lo hi H Q => ∃ a xs, x = .ref a ∧ SqL K H a xs ∧ ∀ p, H p = none → Q (.ref p) (upd H p (.lst (cutV xs lo hi)))
theorem sl_list : SlR X (rSlL X.K) := by
  intro pins s σ H x v vl vu lo hi sl Q I rx hs pl pu h
  obtain ⟨a, xs, rfl, hx, q⟩ := h
  cases rx
  obtain ⟨its, r, ht, hz⟩ := I.list hx
  have hlen := r.length
  refine ⟨"list", _, slot_list_getitem.lookup, ht.isList.typeIs, ?_⟩
  refine wpAny_getItem_list_slice ht.isList hs pl pu .none (by simp) ?_ (by rw [List.size_toArray] <;> omega)
  rw [slicePick_cut, ← hlen]
  refine ⟨.ref s.heap.objs.size, _, I.laid (t' := s.toks) (o := .lst (cutV xs lo hi)) (fun b ob q => Heap.get?_push_of_some _ q) (Nat.le_refl _) ?_, rfl, q _ (I.hok.fresh (Nat.le_refl _))⟩
  exact ⟨Nat.le_trans (cutV_length xs lo hi) hz, _, 0, (r.drop (HT.sIx xs.length 0 lo)).take (HT.sIx xs.length xs.length hi - HT.sIx xs.length 0 lo), Heap.get?_push_size _ rfl⟩
def flatV : V → Bool
  | .non => true
  | .bl _ => true
  | .int _ => true
  | .str _ => true
  | _ => false
def eqV : V → V → Bool
  | .non, .non => true
  | .bl a, .bl b => a == b
  | .bl a, .int b => (if a then 1 else 0) == b
  | .int a, .bl b => a == (if b then 1 else 0)
  | .int a, .int b => a == b
  | .str a, .str b => a == b
  | _, _ => false
theorem eqAt_V {A : Around} {s : Shared} {y x : V} {u v : Value} (ry : RelV y u) (rx : RelV x v) (fy : flatV y = true) (fx : flatV x = true) : SeqAt.EqAt A s u v (eqV y x) := by
  cases y with
  | non =>
    cases ry
    cases x with
    | non => cases rx; exact SeqAt.EqAt.same _
    | bl b => cases rx; exact SeqAt.EqAt.none_bool b
    | int b => obtain ⟨t, rfl⟩ := rx; exact SeqAt.EqAt.none_int b t
    | str b => obtain ⟨t, rfl⟩ := rx; exact SeqAt.EqAt.none_str b t
    | _ => exact absurd (show false = true from fx) Bool.false_ne_true
  | bl a =>
    cases ry
    cases x with
    | non => cases rx; exact SeqAt.EqAt.bool_none a
    | bl b => cases rx; exact SeqAt.EqAt.bool_bool a b
    | int b => obtain ⟨t, rfl⟩ := rx; exact SeqAt.EqAt.bool_int a b t
    | str b => obtain ⟨t, rfl⟩ := rx; exact SeqAt.EqAt.bool_str a b t
    | _ => exact absurd (show false = true from fx) Bool.false_ne_true
  | int a =>
    obtain ⟨t', rfl⟩ := ry
    cases x with
    | non => cases rx; exact SeqAt.EqAt.int_none a t'
    | bl b => cases rx; exact SeqAt.EqAt.int_bool a t' b
    | int b => obtain ⟨t, rfl⟩ := rx; exact SeqAt.EqAt.int_int a t' b t
    | str b => obtain ⟨t, rfl⟩ := rx; exact SeqAt.EqAt.int_str a t' b t
    | _ => exact absurd (show false = true from fx) Bool.false_ne_true
  | str a =>
    obtain ⟨t', rfl⟩ := ry
    cases x with
    | non => cases rx; exact SeqAt.EqAt.str_none a t'
    | bl b => cases rx; exact SeqAt.EqAt.str_bool a t' b
    | int b => obtain ⟨t, rfl⟩ := rx; exact SeqAt.EqAt.str_int a t' b t
    | str b => obtain ⟨t, rfl⟩ := rx; exact SeqAt.EqAt.str_str a t' b t
    | _ => exact absurd (show false = true from fx) Bool.false_ne_true
  | _ => exact absurd (show false = true from fy) Bool.false_ne_true
def eqU (x : V) (u : Value) : Bool := match u with
  | .none => eqV .non x
  | .bool b => eqV (.bl b) x
  | .int i _ => eqV (.int i) x
  | .str z _ => eqV (.str z) x
  | _ => false
theorem eqU_of {x y : V} {u : Value} (r : RelV y u) (f : flatV y = true) : eqU x u = eqV y x := by
  cases y with
  | non => cases r; rfl
  | bl b => cases r; rfl
  | int i => obtain ⟨t, rfl⟩ := r; rfl
  | str z => obtain ⟨t, rfl⟩ := r; rfl
  | _ => exact absurd (show false = true from f) Bool.false_ne_true
theorem any_eqU {x : V} : ∀ {xs : List V} {us : List Value}, Vals xs us → xs.all flatV = true → us.any (eqU x) = xs.any fun y => eqV y x
  | _, _, .nil, _ => rfl
  | y :: xs, u :: us, .cons r t, f => by
    rw [List.all_cons, Bool.and_eq_true] at f
    rw [List.any_cons, List.any_cons, eqU_of r f.1, any_eqU t f.2]
theorem mem_eqAt {A : Around} {s : Shared} {x : V} {v : Value} (rx : RelV x v) (fx : flatV x = true) : ∀ {xs : List V} {us : List Value}, Vals xs us → xs.all flatV = true → ∀ u ∈ us, SeqAt.EqAt A s u v (eqU x u)
  | _, _, .nil, _ => fun u hu => by cases hu
  | y :: xs, u :: us, .cons r t, f => fun u' hu => by
    rw [List.all_cons, Bool.and_eq_true] at f
    rcases List.mem_cons.mp hu with rfl | hu
    · rw [eqU_of r f.1]; exact eqAt_V r rx f.1 fx
    · exact mem_eqAt rx fx t f.2 u' hu
def inV (x : V) (xs : List V) : Bool := xs.any fun y => eqV y x
def rIn (K : PySem.W.Frag) (neg : Bool) : R2 := fun x y H Q => ∃ p xs, y = .ref p ∧ (SqL K H p xs ∨ SqT K H p xs) ∧ flatV x = true ∧ xs.all flatV = true ∧ Q (.bl (if neg then !inV x xs else inV x xs)) H
theorem op_notIn_seq : OpR X (compareOp .NotIn) (rIn X.K true) := by
  intro pins s σ H x y v u Q I rx ry h
  obtain ⟨p, xs, rfl, hq, fx, fs, q⟩ := h
  cases ry
  rcases hq with hq | hq
  · obtain ⟨its, r, pl, hz⟩ := I.list hq
    refine SeqAt.notIn_listAt (eqU x) pl.isList (fun w hw => mem_eqAt rx fx r fs w (by simpa using hw)) ⟨.bl _, H, I, rfl, ?_⟩
    rw [show its.toArray.any (eqU x) = its.any (eqU x) by simp, any_eqU r fs]
    exact q
  · obtain ⟨its, r, pl, hz⟩ := I.tuple hq
    refine SeqAt.notIn_tupleAt (eqU x) pl (fun w hw => mem_eqAt rx fx r fs w (by simpa using hw)) ⟨.bl _, H, I, rfl, ?_⟩
    rw [show its.toArray.any (eqU x) = its.any (eqU x) by simp, any_eqU r fs]
    exact q
theorem op_notIn_str : OpR X (compareOp .NotIn) (fun x y H Q => ∃ i j, x = .str i ∧ y = .str j ∧ Q (.bl (!(!(Builtin.Str.occurrences j i 0 j.length 1).isEmpty))) H) := by
  intro pins s σ H x y v u Q I rx ry h
  obtain ⟨i, j, rfl, rfl, q⟩ := h
  obtain ⟨t, rfl⟩ := rx
  obtain ⟨t', rfl⟩ := ry
  exact notIn_str ⟨.bl _, H, I, rfl, q⟩
theorem call_len_seq : CallR X (.builtin "len") (fun xs H Q => ∃ p ys, xs = [.ref p] ∧ (SqL X.K H p ys ∨ SqT X.K H p ys) ∧ Q (.int ys.length) H) := by
  intro pins s σ H xs us Q I r h
  obtain ⟨p, ys, rfl, hq, q⟩ := h
  obtain ⟨u, rfl, rx⟩ := vals1 r
  cases rx
  have hn := line63
  rcases hq with hq | hq
  · obtain ⟨its, r', pl, hz⟩ := I.list hq
    have hlen := r'.length
    exact Calls.call_len_list pl.isList (by simp only [List.size_toArray] <;> omega) ⟨.int ys.length, H, I.tok _, ⟨s.toks + 1, by rw [List.size_toArray, hlen]⟩, q⟩
  · obtain ⟨its, r', pl, hz⟩ := I.tuple hq
    have hlen := r'.length
    exact len_tuple pl (by simp only [List.size_toArray] <;> omega) ⟨.int ys.length, H, I.tok _, ⟨s.toks + 1, by rw [List.size_toArray, hlen]⟩, q⟩
theorem call_len_str : CallR X (.builtin "len") (fun xs H Q => ∃ z, xs = [.str z] ∧ z.length ≤ sizeLine ∧ Q (.int z.length) H) := by
  intro pins s σ H xs us Q I r h
  obtain ⟨z, rfl, hz, q⟩ := h
  obtain ⟨u, rfl, t, rfl⟩ := vals1 r
  have hn := line63
  exact len_str (by omega) ⟨.int z.length, H, I.tok _, ⟨_, rfl⟩, q⟩
theorem CallR.or {f : Value} {r r' : List V → Hp → VK → Prop} (h : CallR X f r) (h' : CallR X f r') : CallR X f (fun xs H Q => r xs H Q ∨ r' xs H Q) := by
  intro pins s σ H xs us Q I rs q
  rcases q with q | q
  · exact h pins s σ H xs us Q I rs q
  · exact h' pins s σ H xs us Q I rs q
theorem call_list_of : CallR X (.type "list") (fun xs H Q => ∃ p ys, xs = [.ref p] ∧ (SqL X.K H p ys ∨ SqT X.K H p ys) ∧ ∀ l, H l = none → Q (.ref l) (upd H l (.lst ys))) := by
  intro pins s σ H xs us Q I r h
  obtain ⟨p, ys, rfl, hq, q⟩ := h
  obtain ⟨u, rfl, rx⟩ := vals1 r
  cases rx
  have fin : ∀ (its : List Value), Vals ys its → ys.length ≤ sizeLine → ∀ (h' : Heap) (c' : Nat), (∀ b o', s.heap.get? b = some o' → h'.get? b = some o') →
      h'.get? s.heap.objs.size = some { cls := .type "list", dict := none, data := .seq its.toArray c', slots := #[] } → EP X pins σ Q (.ref s.heap.objs.size) { s with heap := h' } := fun its r' hz h' c' kp e =>
    ⟨.ref s.heap.objs.size, _, I.laid (t' := s.toks) kp (Nat.le_refl _) (show ObjOk X.prog X.w _ h' _ (.lst ys) from ⟨hz, its, c', r', e⟩), rfl, q _ (I.hok.fresh (Nat.le_refl _))⟩
  rcases hq with hq | hq
  · obtain ⟨its, r', pl, hz⟩ := I.list hq
    have hlen := r'.length
    obtain ⟨o, ho, hc, n, hd⟩ := pl.isList
    exact call_list_seq p (.inl rfl) ho hc hd (fun h' c' kp e => fin its r' hz h' c' kp e) (by simp only [List.size_toArray] <;> omega)
  · obtain ⟨its, r', pl, hz⟩ := I.tuple hq
    have hlen := r'.length
    obtain ⟨o, ho, hc, n, hd⟩ := pl
    exact call_list_seq p (.inr rfl) ho hc hd (fun h' c' kp e => fin its r' hz h' c' kp e) (by simp only [List.size_toArray] <;> omega)
def tyV (K : PySem.W.Frag) (T : String) (x : V) (H : Hp) : Prop := match x with
  | .str _ => T = "str"
  | .int _ => T = "int"
  | .ref p => (T = "list" ∧ ∃ xs, SqL K H p xs) ∨ (T = "tuple" ∧ ∃ o, K.lookup p = some o ∧ o.cls = .type "tuple" ∧ o.dict = none) ∨
      (T = "dict" ∧ ((∃ kvs, H p = some (.dK kvs)) ∨ ∃ kvs, H p = some (.dT kvs))) ∨ (T = "set" ∧ ∃ S n, H p = some (.set S n))
  | _ => False
theorem tyV_is {pins : List (Addr × Obj)} {σ : St} {H : Hp} {s : Shared} {T : String} {x : V} {v : Value} (I : Inv X pins σ H s) (r : RelV x v) (ty : tyV X.K T x H) :
    s.TypeIs v T ∧ ∀ a, v = .ref a → ∃ ob, s.heap.get? a = some ob ∧ ob.dict = none := by
  cases x with
  | str z =>
    obtain ⟨t, rfl⟩ := r
    cases (show T = "str" from ty)
    exact ⟨typeIs_str s z t, fun _ e => nomatch e⟩
  | int i =>
    obtain ⟨t, rfl⟩ := r
    cases (show T = "int" from ty)
    exact ⟨typeIs_int s i t, fun _ e => nomatch e⟩
  | ref p =>
    cases r
    rcases ty with ⟨rfl, xs, hq⟩ | ⟨rfl, o, hk, hc, hd⟩ | ⟨rfl, hk⟩ | ⟨rfl, S, n, hk⟩
    · obtain ⟨its, _, pl, _⟩ := I.list hq
      refine ⟨pl.isList.typeIs, fun a e => ?_⟩
      cases e
      obtain ⟨o, n, e, c, hd, _⟩ := pl
      exact ⟨o, e, hd⟩
    · refine ⟨⟨o, I.kIn p o hk, hc⟩, fun a e => ?_⟩
      cases e
      exact ⟨o, I.kIn _ o hk, hd⟩
    · have z : ∃ o, s.heap.get? p = some o ∧ o.ExactDict := by
        rcases hk with ⟨kvs, hk⟩ | ⟨kvs, hk⟩
        · obtain ⟨_, _, _, _, o, _, _, e, ex, _⟩ := I.hok p _ hk
          exact ⟨o, e, ex⟩
        · obtain ⟨_, _, _, _, o, _, _, e, ex, _⟩ := I.hok p _ hk
          exact ⟨o, e, ex⟩
      obtain ⟨o, e, ex⟩ := z
      refine ⟨⟨o, e, ex.1⟩, fun a e2 => ?_⟩
      cases e2
      exact ⟨o, e, ex.2.1⟩
    · obtain ⟨o, _, _, _, e, ex, _⟩ := I.hok p _ hk
      refine ⟨⟨o, e, ex.1⟩, fun a e2 => ?_⟩
      cases e2
      exact ⟨o, e, ex.2.1⟩
  | _ => exact False.elim ty
def tBM (K : PySem.W.Frag) (T : String) (r : V → List V → Hp → VK → Prop) (to : TE) (t : TA) : TE := fun σ H Q => to σ H fun x H1 => tyV K T x H1 ∧ t σ H1 fun xs H2 => r x xs H2 Q
variable {o e : Expr} {es : List Expr} {to : TE} {t : TA} {name : Str} {apos cpos : Pos} {T id : String} {r : V → List V → Hp → VK → Prop}
theorem pe_bm (pa : PlainAttrs T) (slot : Slot T name id) (hty : typeOf (.builtin id) = pure (.type "method_descriptor")) (hm : MtR X id r) (ho : PE X o to) (ha : PA X (e :: es) t)
    (hbase : attributeBase o name X.env (eval o X.env) = eval o X.env := by rfl)
    (hfew : ((backTo cpos (starEach (e :: es) X.env)).all (fun x => !x.1) && (backToKw cpos (keywordEach [] X.env)).all (fun x => x.1.isSome)
      && decide ((e :: es).length + ([] : List Keyword).length + (if ([] : List Keyword).isEmpty then 0 else 1) < 30)) = true := by rfl)
    (hline : (apos.endLine == cpos.line) = true := by rfl) (hs : starEach (e :: es) X.env = (false, eval e X.env) :: starEach es X.env := by rfl) (hplain : (backTo cpos (starEach es X.env)).any (·.1) = false := by rfl) :
    PE X (.Call (.Attribute o name apos) (e :: es) [] cpos) (tBM X.K T r to t) := by
  intro pins s σ H Q I h
  refine wpAny_Call_method_late hbase hfew hline rfl (thn (ho pins s σ H _ I h) fun v s1 ⟨x, H1, I1, r1, ty, q1⟩ => ?_)
  obtain ⟨h1, h2⟩ := tyV_is I1 r1 ty
  refine ⟨T, id, pa, slot, hty, h1, h2, ?_⟩
  have hA := ha cpos pins s1 σ H1 _ I1 q1
  rw [hs] at hA ⊢
  refine Calls.callWith_builtin (by show (false || (backTo cpos (starEach es X.env)).any (·.1)) = false; rw [hplain] <;> rfl) (Calls.evalArgs_plain ?_)
  exact thn hA fun us s2 ⟨vs, H2, I2, r2, q2⟩ => hm pins s2 σ H2 x vs v us Q I2 r1 r2 q2
/- xs.append(e), list.index on a module's tuple .. are MtR facts of 06m -/
end
end L2
namespace L2
open PySem PySem.Spec PyProof.Rows
def MtM (X : Cx) (id : String) (r : V → List V → Hp → VK → Prop) : Prop :=
  ∀ (pins : List (Addr × Obj)) (s : Shared) (σ : St) (H : Hp) (x : V) (xs : List V) (v : Value) (us : List Value) (Q : VK), Inv X pins σ H s → RelV x v → Vals xs us → r x xs H Q →
    wpAny (model X.prog X.w) X.A (call (.builtin id) (v :: us)) (EP X pins σ Q) X.xe s
theorem Vals.one : ∀ {x : V} {us : List Value}, Vals [x] us → ∃ u, us = [u] ∧ RelV x u
  | _, _, .cons r .nil => ⟨_, rfl, r⟩
section
variable {X : Cx} {pins : List (Addr × Obj)} {σ : St} {H : Hp} {s : Shared} {l b : Addr} {xs ys zs : List V}
theorem Inv.lset {its its' : List Value} {n : Nat} {f : Array Value → Array Value} {t' : Nat} (I : Inv X pins σ H s) (hH : H l = some (.lst xs))
    (e : s.heap.get? l = some { cls := .type "list", data := .seq its.toArray n }) (hf : f its.toArray = its'.toArray) (hv : Vals ys its') (hz : ys.length ≤ sizeLine) :
    Inv X pins σ (upd H l (.lst ys)) { s with heap := s.heap.update l (Obj.mapSeq f), toks := t' } := by
  have q := PySem.IsL.update e f
  rw [hf] at q
  refine I.write (x := l) (e := l) (by rw [hH]; exact trivial) (.inl rfl) (fun b' u hb hu => (Heap.get?_update_other s.heap (Obj.mapSeq f) (Ne.symm hb)).trans hu) ⟨_, q⟩ ?_
  exact ⟨hz, its', _, hv, q⟩
theorem Inv.lnew {its : List Value} {t' : Nat} (I : Inv X pins σ H s) (hv : Vals ys its) (hz : ys.length ≤ sizeLine) :
    Inv X pins σ (upd H s.heap.objs.size (.lst ys)) { s with heap := s.heap.push { cls := .type "list", data := .seq its.toArray }, toks := t' } :=
  I.laid (fun _ _ q => Heap.get?_push_of_some _ q) (Nat.le_refl _) ⟨hz, its, 0, hv, Heap.get?_push_size _ rfl⟩
theorem Inv.fresh (I : Inv X pins σ H s) : H s.heap.objs.size = none := I.hok.fresh (Nat.le_refl _)
theorem Inv.lstM (I : Inv X pins σ H s) (hH : H l = some (.lst xs)) : xs.length ≤ sizeLine ∧ ∃ (its : List Value) (n : Nat), Vals xs its ∧ xs.length = its.length ∧ s.heap.get? l = some { cls := .type "list", data := .seq its.toArray n } := by
  obtain ⟨z, its, n, r, e⟩ := I.hok l _ hH
  exact ⟨z, its, n, r, r.length, e⟩
end
section
variable {X : Cx}
def rAppend : V → List V → Hp → VK → Prop := fun x vs H Q => ∃ l xs y, x = .ref l ∧ vs = [y] ∧ H l = some (.lst xs) ∧ xs.length < sizeLine ∧ Q .non (upd H l (.lst (xs ++ [y])))
theorem mt_append : MtM X "list.append" rAppend := by
  intro pins s σ H x vs v us Q I rx rv h
  obtain ⟨l, xs, y, rfl, rfl, hH, hz, q⟩ := h
  cases rx
  obtain ⟨u, rfl, ru⟩ := rv.one
  obtain ⟨z, its, n, r, hl, e⟩ := I.lstM hH
  refine call_meets F.slot_list_append ⟨_, e, rfl⟩ F.entry_list_append (F.args_list_append_2 _ _) (PySem.list_append l its.toArray n u (by rw [List.size_toArray]; omega)) ⟨e, ?_⟩
  refine ⟨.non, _, I.lset (its' := its ++ [u]) hH e (by simp) (r.append (.cons ru .nil)) ?_, rfl, q⟩
  rw [List.length_append, List.length_singleton]
  omega
end
section
variable {prog : Program} {w : World} {A : Around} {E : Value → Shared → Prop} {s : Shared}
end
section
variable {X : Cx}
end
end L2
namespace Att
open PySem PySem.W PySem.Calls PyProof.Rows
theorem ints_of_wellAll {P : Params} {h : Heap} : ∀ (ns : List Int) (vs : List Value), WellAll P h vs (ns.map WData.int) → IntsAre vs ns := by
  intro ns
  induction ns with
  | nil =>
    intro vs w
    rw [List.map_nil] at w
    cases w
    exact .nil
  | cons n ns ih =>
    intro vs w
    rw [List.map_cons] at w
    cases w with
    | cons a b =>
      cases a
      exact .cons _ _ (ih _ b)
theorem script_of {l : OpenLaw} {n : Nat} (hn : l.most = some n) {P : Params} {h : Heap} {args : List WData} {vals : List Value}
    (hpre : l.row.toRowW.claim.pre args = true) (hwl : WellAll P h vals args) :
    ∃ a vs ns, vals = [Value.ref a] ∧ args = [WData.list (ns.map WData.int)] ∧ h.get? a = some { cls := .type "list", data := .seq vs.toArray } ∧ IntsAre vs ns ∧ ns.length ≤ n := by
  have hsh : WShape.hasAll [] args [.list .int] = true := (pre_splitW hpre).1
  have hc : l.pre.holds [] { args := args } = true := (pre_splitW hpre).2
  obtain ⟨d, r, rfl, h1, h2⟩ := hasAllW_cons hsh
  obtain rfl := hasAllW_nil h2
  obtain ⟨xs, rfl, h3⟩ := hasW_list h1
  obtain ⟨ns, rfl⟩ := items_int h3
  have hlen : ns.length ≤ n := by
    unfold OpenLaw.pre at hc
    have h4 : (WTm.not (.lt (.lit (.int (n : Int))) (.len (.arg 0)))).holds [] { args := [.list (ns.map .int)] } = true := by
      have h4 := (holds_andW hc).1
      rw [hn] at h4
      exact h4
    have h5 := condW_of h4 (w_not (w_lt w_lit (w_len_list (w_arg rfl))))
    rw [List.length_map] at h5
    refine Nat.le_of_not_lt fun q => ?_
    have q' : (n : Int) < ((ns.length : Nat) : Int) := by omega
    first
      | (rw [decide_eq_true q'] at h5; exact absurd h5 (by decide))
      | (simp at h5; omega)
  cases hwl with
  | cons w1 w2 =>
    cases w2
    cases w1 with
    | list ho hall => exact ⟨_, _, ns, rfl, rfl, ho, ints_of_wellAll ns _ hall, hlen⟩
theorem post_true (l : OpenLaw) (args : List WData) : l.row.toRowW.claim.post args (.bool true) args = true :=
  postW_of (r := l.row.toRowW) (X := (true == true))
    (show WShape.has [] (.bool true) .bool = true by first | rfl | decide | simp [WShape.has, WShape.arms, WShape.armsAll])
    (show (WTm.eq .res (.lit (.bool true))).value [] { args := args, res := some (.bool true), after := args } = some (.bool (true == true)) from w_eq_bool (w_res rfl) w_lit) rfl
theorem attach_call {l : OpenLaw} {n : Nat} {q : Program} {loose : List Str} {XP : (Str → Option Value) → Heap → Prop} {YP : World → Heap → Prop} {d : DefRec}
    (hn : l.most = some n) (hdf : d.params.defaults = [])
    (call : ∀ (w : World) (s₀ s₁ : Shared) (mg mb : Str → Option Value) (fa : Addr) (o : Obj) (pm cd doc : Value) (a : Addr) (vs : List Value) (ns : List Int),
      Ground q loose [] XP w s₀ mg mb s₁.heap → YP w s₁.heap →
      s₁.heap.get? fa = some o → o.data = .func (docDef d.name d.params d.body d.scope pm cd doc) → s₁.heap.CodeRec cd d.name → mg d.name = some (.ref fa) →
      s₁.heap.get? a = some { cls := .type "list", data := .seq vs.toArray } → IntsAre vs ns → ns.length ≤ n → s₁.gens = #[] →
      codeAny (model l.prog w) callerA (.call (.ref fa) ⟨[.ref a], []⟩) (fun r s' => r = .ok (.ret (.bool true)) ∧ OldK s₁.heap s'.heap ∧ s'.os = s₁.os ∧ AllBare s'.gens) s₁) :
    WalkO q loose XP YP l.row.toRowW d [] (fun f vs => PySem.call f vs) := by
  intro w s₀ s₁ mg mb G Y fa o pm cd doc dV kV ho hd hcd hD hmg hg args vals as hpre hlay hrd hwl hlo
  obtain rfl : dV = .none := Dflts.none hD hdf
  obtain rfl : kV = .none := Dflts.noKw hD
  obtain ⟨a, vs, ns, rfl, rfl, hobj, hints, hlen⟩ := script_of hn hpre hwl
  refine enter_call (codeAny_mono (call w s₀ s₁ mg mb fa o pm cd doc a vs ns G Y ho (fd_plain hd) hcd hmg hobj hints hlen hg) fun r s' hq => ?_)
  obtain ⟨rfl, h2, h3, h4⟩ := hq
  exact ⟨.inl ⟨.bool true, .bool true, [], rfl, fun _ => rfl, .bool true, post_true l _, fun _ => ⟨List.Pairwise.nil, fun _ hm => (nomatch hm)⟩⟩, h2, h3, h4⟩
section
variable {prog : Program} {w : World} {A : Around} {E : Value → Shared → Prop} {s : Shared} {K : Frag}
end
end Att
namespace L2
open PySem PySem.Spec PyProof.Rows
theorem vals_ints : ∀ {vs : List Value} {ns : List Int}, IntsAre vs ns → Vals (ns.map V.int) vs
  | _, _, .nil => .nil
  | _, _, .cons n t h => .cons ⟨t, rfl⟩ (vals_ints h)
def Only (H : Hp) : Prop := ∀ b, H b = none ∨ ∃ o xs, H b = some (.frz o (.lst xs))
theorem law_call {P : Program} {w : World} {K : PySem.W.Frag} {mg mb : Str → Option Value} {CX : CXT} {k : Nat} {fa a : Addr} {fd : FuncData} {x : Str} {sp : Sp} {s₁ : Shared} {vs : List Value} {ns : List Int}
    (KX : K.In s₁.heap) (hns : s₁.heap.Ns mainGlobals mg) (hb : s₁.heap.Ns builtinsNs mb) (hbb : ∀ x : Str, x ≠ "__name__" → mb x = bootBuiltins x) (hlim : s₁.heap.NoLimit) (hg : s₁.gens = #[])
    (ha : s₁.heap.get? a = some { cls := .type "list", data := .seq vs.toArray }) (hi : IntsAre vs ns) (hl : ns.length ≤ sizeLine) (hr : Room k callerA)
    (F : ∀ base : Heap, K.In base → base.Ns mainGlobals mg → FnOk P w K mg base CX k fa fd [x] sp) (hbind : ∀ (s : Shared) (u : Value), BindsTo s fd ⟨[u], []⟩ [(x, u)])
    (hsp : ∀ H : Hp, Only H → SqL K H a (ns.map V.int) → sp [.ref a] H (fun v _ => v = .bl true) fun _ _ _ => False)
    (hCX : ∀ H e s', CX [] H s₁ (fun _ _ _ => False) e s' → False) :
    codeAny (model P w) callerA (.call (.ref fa) ⟨[.ref a], []⟩) (fun r s' => r = .ok (.ret (.bool true)) ∧ OldK s₁.heap s'.heap ∧ s'.os = s₁.os ∧ AllBare s'.gens) s₁ := by
  have rv := vals_ints hi
  have lenV := hi.length
  -- from an abstract heap in which nothing but the script may be tracked
  have core : ∀ H : Hp, Only H → SqL K H a (ns.map V.int) → HOk P w H s₁.heap → (∀ b, H b ≠ none → b = a) → (H a ≠ none → K.lookup a = none) →
      codeAny (model P w) callerA (.call (.ref fa) ⟨[.ref a], []⟩) (fun r s' => r = .ok (.ret (.bool true)) ∧ OldK s₁.heap s'.heap ∧ s'.os = s₁.os ∧ AllBare s'.gens) s₁ := by
    intro H hO hS hok hA hK
    have base_of : ∀ {b : Addr} {o : Obj}, s₁.heap.get? b = some o → H b = none → (hidT s₁.heap H).get? b = some o := fun e n => hidT_get e n
    have noA : ∀ {b : Addr} {o : Obj} {es : Array DictEntry} {ep : Nat}, s₁.heap.get? b = some o → o.data = .dict es ep → H b = none := fun {b o es ep} e d => by
      cases q : H b with
      | none => rfl
      | some u =>
        have e' : b = a := hA b (by rw [q]; simp)
        subst e'
        rw [ha] at e; cases e
        have d' : Data.seq vs.toArray _ = Data.dict es ep := d
        cases d'
    have nsK : ∀ {b : Addr} {m : Str → Option Value}, s₁.heap.Ns b m → (hidT s₁.heap H).Ns b m := fun {b m} ⟨o, es, ep, e, d, r⟩ => ⟨o, es, ep, base_of e (noA e d), d, r⟩
    have hKb : K.In (hidT s₁.heap H) := fun b o e => base_of (KX b o e) (by
      cases q : H b with
      | none => rfl
      | some u =>
        have e' : b = a := hA b (by rw [q]; simp)
        subst e'
        rw [hK (by rw [q]; simp)] at e; cases e)
    have hM : Mod K mg (hidT s₁.heap H) := ⟨hKb, nsK hns, ⟨mb, nsK hb, hbb⟩, let ⟨mc, h1, h2⟩ := hlim; ⟨mc, nsK h1, h2⟩⟩
    have e0 : Env0 P w K mg (hidT s₁.heap H) callerA [] s₁ H := ⟨rfl, hM, fun b o e => of_hidT e, Nat.le_of_eq (hidT_size _ _), trivial, fun b hb => absurd (show b ∈ ([] : List Addr) from hb) (by simp), hok, .of_eq hg⟩
    refine codeAny_mono ((F _ hKb (nsK hns)).run callerA [] s₁ H ⟨[.ref a], []⟩ [.ref a] [.ref a] _ _ hr e0 (hbind s₁ (.ref a)) (.cons rfl .nil) (hsp H hO hS)) fun r s' h => ?_
    cases r with
    | error e => exact (hCX H e s' h).elim
    | ok fl =>
      cases fl with
      | next => exact False.elim h
      | brk => exact False.elim h
      | cont => exact False.elim h
      | ret u =>
        obtain ⟨v, H', os, bare, un, hok', r', q⟩ := h
        have q' : v = .bl true := q
        subst q'
        obtain rfl : u = Value.bool true := r'
        refine ⟨rfl, OldK.of_keep fun b o e => ?_, os, bare⟩
        cases q : H b with
        | none => exact un.keep b o e q (by intro z; exact absurd (show b ∈ ([] : List Addr) from z) (by simp)) (by simp)
        | some u =>
          rcases hO b with z | ⟨ob, xs, z⟩
          · rw [q] at z; cases z
          · have z2 := un.frzs b ob _ z
            obtain ⟨e1, _⟩ := hok b _ z
            obtain ⟨e2, _⟩ := hok' b _ z2
            rw [e] at e1; cases e1
            exact e2
  cases hk : K.lookup a with
  | some o =>
    -- the script is one of the module's own objects
    have e := KX a o hk
    rw [ha] at e
    cases e
    refine core (fun _ => none) (fun _ => .inl rfl) (.inr ⟨_, vs.toArray, _, hk, rfl, rfl, rfl, by rw [List.size_toArray, lenV]; exact hl, by simpa using rv⟩) (fun b u z => by have z' : (none : Option HO) = some u := z; cases z') (fun b z => absurd rfl z) fun z => absurd rfl z
  | none =>
    refine core (fun b => if b = a then some (.frz { cls := .type "list", data := .seq vs.toArray } (.lst (ns.map V.int))) else none) (fun b => ?_) (.inl (.inr ⟨{ cls := .type "list", data := .seq vs.toArray }, if_pos rfl⟩)) (fun b u z => ?_) (fun b z => ?_) fun _ => hk
    · by_cases hb : b = a
      · exact .inr ⟨_, _, if_pos hb⟩
      · exact .inl (if_neg hb)
    · by_cases hb : b = a
      · have z' := (if_pos hb).symm.trans z
        cases z'
        subst hb
        exact ⟨ha, by rw [List.length_map]; exact hl, vs, _, rv, ha⟩
      · have z' := (if_neg hb).symm.trans z
        cases z'
    · by_cases hb : b = a
      · exact hb
      · exact absurd (if_neg hb) z
end L2
namespace L2
open PySem PySem.Spec PyProof.Rows
theorem walk_of {l : PySem.W.OpenLaw} {n k : Nat} {q : Program} {loose : List Str} {XP : (Str → Option Value) → Heap → Prop} {YP : World → Heap → Prop} {d : DefRec} {K : Params → PySem.W.Frag} {CX : World → CXT} {sp : World → Sp} {x : Str}
    (hn : l.most = some n) (hn2 : n ≤ sizeLine) (hdf : d.params.defaults = []) (hr : Room k callerA)
    (hY : ∀ (w : World) (h : Heap), YP w h → (K w.params).In h)
    (F : ∀ (w : World) (mg : Str → Option Value) (fa : Addr) (h : Heap), (K w.params).In h → h.Ns mainGlobals mg → mg d.name = some (.ref fa) →
      ∃ fd : FuncData, (∀ (s : Shared) (u : Value), BindsTo s fd ⟨[u], []⟩ [(x, u)]) ∧
        ∀ base : Heap, (K w.params).In base → base.Ns mainGlobals mg → FnOk l.prog w (K w.params) mg base (CX w) k fa fd [x] (sp w))
    (hsp : ∀ (w : World) (H : Hp) (a : Addr) (ns : List Int), ns.length ≤ n → Only H → SqL (K w.params) H a (ns.map V.int) → sp w [.ref a] H (fun v _ => v = .bl true) fun _ _ _ => False)
    (hCX : ∀ (w : World) (H : Hp) (s : Shared) (e : Value) (s' : Shared), CX w [] H s (fun _ _ _ => False) e s' → False) :
    PySem.W.WalkO q loose XP YP l.row.toRowW d [] (fun f vs => PySem.call f vs) := by
  refine Att.attach_call hn hdf fun w s₀ s₁ mg mb fa o pm cd doc a vs ns G Y ho hd hcd hmg hobj hints hlen hg => ?_
  have KX := hY w _ Y
  obtain ⟨fd, hb, hF⟩ := F w mg fa _ KX G.T.g hmg
  exact law_call KX G.T.g G.T.b G.T.builtins G.T.nolimit hg hobj hints (Nat.le_trans hlen hn2) hr hF hb (fun H hO hS => hsp w H a ns hlen hO hS) fun H e s' => hCX w H s₁ e s'
theorem walk_ofK {l : PySem.W.OpenLaw} {n k : Nat} {q : Program} {loose : List Str} {XP : (Str → Option Value) → Heap → Prop} {YP : World → Heap → Prop} {d : DefRec} {K : Params → PySem.W.Frag} {CX : CXT} {sp : PySem.W.Frag → Sp} {x : Str}
    (hn : l.most = some n) (hn2 : n ≤ sizeLine) (hdf : d.params.defaults = []) (hr : Room k callerA)
    (hY : ∀ (w : World) (h : Heap), YP w h → (K w.params).In h)
    (F : ∀ (w : World) (mg : Str → Option Value) (fa : Addr) (h : Heap), (K w.params).In h → h.Ns mainGlobals mg → mg d.name = some (.ref fa) →
      ∃ fd : FuncData, (∀ (s : Shared) (u : Value), BindsTo s fd ⟨[u], []⟩ [(x, u)]) ∧
        ∀ base : Heap, (K w.params).In base → base.Ns mainGlobals mg → FnOk l.prog w (K w.params) mg base CX k fa fd [x] (sp (K w.params)))
    (hsp : ∀ (K : PySem.W.Frag) (H : Hp) (a : Addr) (ns : List Int), ns.length ≤ n → Only H → SqL K H a (ns.map V.int) → sp K [.ref a] H (fun v _ => v = .bl true) fun _ _ _ => False)
    (hCX : ∀ (H : Hp) (s : Shared) (e : Value) (s' : Shared), CX [] H s (fun _ _ _ => False) e s' → False) :
    PySem.W.WalkO q loose XP YP l.row.toRowW d [] (fun f vs => PySem.call f vs) :=
  walk_of (K := K) (CX := fun _ => CX) (sp := fun w => sp (K w.params)) hn hn2 hdf hr hY F (fun w H a ns h1 h2 h3 => hsp (K w.params) H a ns h1 h2 h3) fun _ H s e s' => hCX H s e s'
end L2
namespace L2
open PySem PySem.Spec PyProof.Rows
def defArgs (s : Stmt) : Arguments := match s with
  | .FunctionDef _ a _ _ _ _ _ _ _ _ => a
  | _ => { posonlyargs := [], args := [], vararg := none, kwonlyargs := [], kw_defaults := [], kwarg := none, defaults := [] }
def defBody (s : Stmt) : List Stmt := match s with
  | .FunctionDef _ _ b _ _ _ _ _ _ _ => b
  | _ => []
def defScope (s : Stmt) : Scope := match s with
  | .FunctionDef _ _ _ _ _ _ sc _ _ _ => sc
  | _ => { kind := .function, names := [], isGenerator := false, isCoroutine := false }
abbrev CX0 : CXT := fun _ _ _ _ _ _ => False
abbrev E0 : XK := fun _ _ _ => False
theorem pass0 {X : Cx} : Passes CX0 X E0 := fun _ _ _ _ _ _ _ h => h.elim
structure Fun (K : PySem.W.Frag) (x qual : Str) (st : Stmt) (f : Addr) (fd : FuncData) : Prop where
  ex : ∃ (oc : Value) (od : Option Addr) (kV doc pm : Value) (an : Option Addr) (cdv ct : Value) (osl : Array (Option Value)),
    fd = PySem.W.fnOf x qual (defArgs st) (defBody st) (defScope st) .none kV doc pm an cdv ct ∧ K.lookup f = some ⟨oc, od, .func fd, osl⟩ ∧ PySem.W.codeIn K cdv qual = true
  kp : PySem.W.keepIn K (.ref f) = true
section
variable {P : Program} {w : World} {K : PySem.W.Frag} {mg : Str → Option Value} {base : Heap}
theorem Fun.ok {x qual : Str} {st : Stmt} {f : Addr} {fd : FuncData} {N ps : List Str} {k : Nat} {sp : Sp} (F : Fun K x qual st f fd) (S : FnScope N ps (defScope st)) (len : ∀ vs H Q E, sp vs H Q E → vs.length = ps.length)
    (hbody : ∀ (cdv : Value) (A : Around) (outer : List Env) (s : Shared) (H : Hp) (vs : List V) (Q : VK) (E : XK), Room k (A.deeper (envOfC qual (defScope st) s.heap.objs.size f cdv)) → sp vs H Q E →
      ∃ t, PSs (cxOf CX0 P w K mg base N qual (defScope st) f cdv A outer s H E).nox (defBody st) t ∧ t { nx := fun _ H' => Q .non H', rt := Q } (start N vs) H) : FnOk P w K mg base CX0 (k + 1) f fd ps sp := by
  obtain ⟨oc, od, kV, doc, pm, an, cdv, ct, osl, rfl, lk, hcd⟩ := F.ex
  refine fn_of lk hcd S len fun A outer s H vs Q E hr hsp => ?_
  obtain ⟨t, h, q⟩ := hbody cdv A outer s H vs Q E hr hsp
  exact ⟨t, h.nox, q⟩
theorem Fun.binds {x qual : Str} {st : Stmt} {f : Addr} {fd : FuncData} {ps : List Str} (F : Fun K x qual st f fd)
    (h : ∀ (kV doc pm : Value) (an : Option Addr) (cdv ct : Value) (us : List Value), us.length = ps.length → bindArgs (PySem.W.fnOf x qual (defArgs st) (defBody st) (defScope st) .none kV doc pm an cdv ct) ⟨us, []⟩ = pure (ps.zip us)) : Binds K fd ps [] := by
  obtain ⟨oc, od, kV, doc, pm, an, cdv, ct, osl, rfl, lk, hcd⟩ := F.ex
  exact .all (h kV doc pm an cdv ct)
theorem fun_mk {x qual : Str} {st : Stmt} {f : Addr} {oc : Value} {od an : Option Addr} {osl : Array (Option Value)} {kV doc pm cdv ct : Value} (l : K.lookup f = some ⟨oc, od, .func (PySem.W.fnOf x qual (defArgs st) (defBody st) (defScope st) .none kV doc pm an cdv ct), osl⟩)
    (c : PySem.W.codeIn K cdv qual = true) (k : PySem.W.keepIn K (.ref f) = true) : Fun K x qual st f (PySem.W.fnOf x qual (defArgs st) (defBody st) (defScope st) .none kV doc pm an cdv ct) := ⟨⟨oc, od, kV, doc, pm, an, cdv, ct, osl, rfl, l, c⟩, k⟩
end
section
variable {X : Cx}
theorem pv (i : Nat) {x : Str} {pos : Pos} (hN : X.N[i]? = some x := by rfl) (hv : Vis X.env.scope x := by first | exact Or.inl rfl | exact Or.inr (Or.inl rfl) | exact Or.inr (Or.inr rfl)) (hd : (x == ("__debug__" : Str)) = false := by decide)
    (hcd : (x == ("__classdict__" : Str)) = false := by decide) : PE X (.Name x pos) (tVar i) := pe_var hN hv hd hcd
end
def Same (H H' : Hp) : Prop := ∀ b o, H b = some o → H' b = some o
theorem Same.refl (H : Hp) : Same H H := fun _ _ h => h
theorem Same.trans {H H1 H2 : Hp} (a : Same H H1) (b : Same H1 H2) : Same H H2 := fun c o h => b c o (a c o h)
theorem Same.free {H H' : Hp} (e : Same H H') {l : Addr} (h : H' l = Option.none) : H l = Option.none := by
  cases q : H l with
  | none => rfl
  | some o =>
    rw [e l o q] at h
    cases h
end L2
set_option Elab.async false
set_option linter.all false
set_option maxRecDepth 100000
set_option maxHeartbeats 4000000
namespace L2
open PySem PySem.Spec PyProof.Rows
section
variable {κ : Type} [DecidableEq κ]
def valV (kvs : List (κ × V)) (k : κ) : Option V := (kvs.find? fun kv => decide (kv.1 = k)).map (·.2)
theorem valV_pos {p : κ × V} {r : List (κ × V)} {k : κ} (e : p.1 = k) : valV (p :: r) k = some p.2 := by simp [valV, List.find?_cons, e]
theorem valV_neg {p : κ × V} {r : List (κ × V)} {k : κ} (e : ¬ p.1 = k) : valV (p :: r) k = valV r k := by simp [valV, List.find?_cons, e]
theorem RelO.isSome_eq {o : Option V} {u : Option Value} (r : RelO o u) : o.isSome = u.isSome := by
  cases o with
  | none => cases u with
    | none => rfl
    | some _ => exact (show False from r).elim
  | some _ => cases u with
    | none => exact (show False from r).elim
    | some _ => rfl
theorem KV.val {kvs : List (κ × V)} {vs : List (κ × Value)} (r : KV kvs vs) (k : κ) : RelO (valV kvs k) (valueAt vs k) := by
  unfold KV at r
  induction r with
  | nil => exact True.intro
  | @cons p q ps qs h t ih =>
    obtain ⟨h1, h2⟩ := h
    by_cases e : p.1 = k
    · have e' : q.1 = k := h1.symm.trans e
      have b : valueAt (q :: qs) k = some q.2 := by simp [valueAt, List.find?_cons, e']
      rw [valV_pos e, b]; exact h2
    · have e' : ¬ q.1 = k := fun z => e (h1.trans z)
      have b : valueAt (q :: qs) k = valueAt qs k := by simp [valueAt, List.find?_cons, e']
      rw [valV_neg e, b]; exact ih
theorem KV.length {kvs : List (κ × V)} {vs : List (κ × Value)} (r : KV kvs vs) : kvs.length = vs.length := Paired.length r
end
theorem kV_is {P : Program} {w : World} {k : Key} {u : Value} (r : RelV (kV k) u) : (mixKind P w).is k u = true := by
  cases k with
  | inl i => obtain ⟨t, e⟩ := (show ∃ t, u = Value.int i t from r); subst e; exact mixKind_int P w i t
  | inr x => obtain ⟨t, e⟩ := (show ∃ t, u = Value.str x t from r); subst e; exact mixKind_str P w x t
theorem items_are {P : Program} {w : World} : ∀ {ks : List Key} {us : List Value}, Vals (ks.map kV) us → ItemsAre (mixKind P w) ks us
  | [], _, r => by rw [List.map_nil] at r; cases r; exact .nil
  | k :: ks, _, r => by
    rw [List.map_cons] at r
    cases r with
    | cons h t => exact .cons (kV_is h) (items_are t)
abbrev KT (H : Hp) : List (List Key × V) → List (List Key × Addr × Value) → Prop := Paired fun p q => p.1 = q.1 ∧ H q.2.1 = some (.tup (p.1.map kV)) ∧ RelV p.2 q.2.2
theorem KT.val {H : Hp} {kvs : List (List Key × V)} {xs : List (List Key × Addr × Value)} (r : KT H kvs xs) (k : List Key) : RelO (valV kvs k) ((atKey xs k).map (·.2)) := by
  induction r with
  | nil => exact True.intro
  | @cons p q ps qs h t ih =>
    obtain ⟨h1, _, h2⟩ := h
    by_cases e : p.1 = k
    · have e' : q.1 = k := h1.symm.trans e
      have b : atKey (q :: qs) k = some q.2 := by simp [atKey, List.find?_cons, e']
      rw [valV_pos e, b]; exact h2
    · have e' : ¬ q.1 = k := fun z => e (h1.trans z)
      have b : atKey (q :: qs) k = atKey qs k := by simp [atKey, List.find?_cons, e']
      rw [valV_neg e, b]; exact ih
section
variable {P : Program} {w : World} {H : Hp} {h : Heap} {a : Addr}
theorem rd_of {u : HO} (ok : HOk P w H h) (e : Rd H a u) : ObjOk P w H h a u := e.ok ok
theorem dk_rd {kvs : List (Key × V)} (ok : HOk P w H h) (e : Rd H a (.dK kvs)) : kvs.length ≤ sizeLine ∧ (a == sysModules) = false ∧ ∃ vs, KV kvs vs ∧ h.DictOf (mixKind P w) a vs :=
  show ObjOk P w H h a (.dK kvs) from rd_of ok e
theorem key_of {ks : List Key} (ok : HOk P w H h) (e : H a = some (.tup (ks.map kV))) : (tupleKind (mixKind P w)).is h ks a := by
  obtain ⟨_, its, r, o, h1, h2, n, h3⟩ := (show ObjOk P w H h a (.tup (ks.map kV)) from ok a _ e)
  exact ⟨o, its.toArray, n, h1, h2, h3, by simpa using items_are r⟩
theorem dt_rd {kvs : List (List Key × V)} (ok : HOk P w H h) (e : Rd H a (.dT kvs)) : kvs.length ≤ sizeLine ∧ (a == sysModules) = false ∧
    ∃ xs, KT H kvs xs ∧ h.DictOfH (tupleKind (mixKind P w)) a xs := by
  obtain ⟨z, y, xs, r, o, es, ep, h1, h2, h3, h4, h5⟩ := (show ObjOk P w H h a (.dT kvs) from rd_of ok e)
  refine ⟨z, y, xs, r, o, es, ep, h1, h2, h3, h4, fun x hx => ?_, h5⟩
  have all : ∀ {l : List (List Key × V)} {m : List (List Key × Addr × Value)}, KT H l m → ∀ x ∈ m, (tupleKind (mixKind P w)).is h x.1 x.2.1 := by
    intro l m q
    induction q with
    | nil => intro x hx; exact nomatch hx
    | @cons p q ps qs hq t ih =>
      intro x hx
      rcases List.mem_cons.mp hx with e | hx
      · subst e
        exact key_of ok (by rw [← hq.1]; exact hq.2.1)
      · exact ih x hx
  exact all r x hx
end
def DGet (H : Hp) (a : Addr) (y : V) (r : Option V) : Prop :=
  (∃ kvs k, Rd H a (.dK kvs) ∧ y = kV k ∧ r = valV kvs k) ∨ ∃ kvs k b, Rd H a (.dT kvs) ∧ y = .ref b ∧ H b = some (.tup (k.map kV)) ∧ r = valV kvs k
section
variable {X : Cx} {pins : List (Addr × Obj)} {σ : St} {H : Hp} {s : Shared} {a : Addr} {y v : V} {u r : Value} {o : Option V} {A : Around} {E : Value → Shared → Prop}
theorem d_getItem {Q : Value → Shared → Prop} (hu : A.units + 1 < cLine) (I : Inv X pins σ H s) (g : DGet H a y (some v)) (ry : RelV y u) (h : ∀ w' s', Inv X pins σ H s' → RelV v w' → Q w' s') :
    wpAny (model X.prog X.w) A (getItem (.ref a) u) Q E s := by
  rcases g with ⟨kvs, k, e, ey, l⟩ | ⟨kvs, k, b, e, ey, eb, l⟩
  · subst ey
    obtain ⟨z, hd, vs, rel, dd⟩ := dk_rd I.hok e
    obtain ⟨w', hw, rw'⟩ := RelO.some_of (v := v) (o := valueAt vs k) (by rw [l]; exact rel.val k)
    exact wpAny_getItem_of (kV_is ry) dd.mapOf hw (h w' _ (I.tok _) rw')
  · subst ey
    cases (show u = Value.ref b from ry)
    obtain ⟨z, hd, xs, rel, dd⟩ := dt_rd I.hok e
    obtain ⟨w', hw, rw'⟩ := RelO.some_of (v := v) (o := (atKey xs k).map (·.2)) (by rw [l]; exact rel.val k)
    obtain ⟨p, hp, hp2⟩ := Option.map_eq_some_iff.mp hw
    refine wpAny_getItem_heap (tupleKind_room_in1 hu) (key_of I.hok eb) dd hp ?_
    rw [hp2]
    exact h w' _ (I.tok _) rw'
theorem d_in {Q : Value → Shared → Prop} (hu : A.units + 1 < cLine) (I : Inv X pins σ H s) (g : DGet H a y o) (ry : RelV y u) (h : ∀ s', Inv X pins σ H s' → Q (.bool o.isSome) s') :
    wpAny (model X.prog X.w) A (compareOp .In u (.ref a)) Q E s := by
  rcases g with ⟨kvs, k, e, ey, l⟩ | ⟨kvs, k, b, e, ey, eb, l⟩
  · subst ey
    obtain ⟨z, hd, vs, rel, dd⟩ := dk_rd I.hok e
    refine wpAny_in_of (kV_is ry) hd dd.mapOf ?_
    rw [← (rel.val k).isSome_eq, ← l]
    exact h _ (I.tok _)
  · subst ey
    cases (show u = Value.ref b from ry)
    obtain ⟨z, hd, xs, rel, dd⟩ := dt_rd I.hok e
    refine wpAny_in_heap (tupleKind_room_in1 hu) (key_of I.hok eb) hd dd ?_
    have q := (rel.val k).isSome_eq
    rw [Option.isSome_map] at q
    rw [← q, ← l]
    exact h _ (I.tok _)
theorem d_notIn {Q : Value → Shared → Prop} (hu : A.units + 1 < cLine) (I : Inv X pins σ H s) (g : DGet H a y o) (ry : RelV y u) (h : ∀ s', Inv X pins σ H s' → Q (.bool (!o.isSome)) s') :
    wpAny (model X.prog X.w) A (compareOp .NotIn u (.ref a)) Q E s := by
  rcases g with ⟨kvs, k, e, ey, l⟩ | ⟨kvs, k, b, e, ey, eb, l⟩
  · subst ey
    obtain ⟨z, hd, vs, rel, dd⟩ := dk_rd I.hok e
    refine wpAny_notIn_of (kV_is ry) hd dd.mapOf ?_
    rw [← (rel.val k).isSome_eq, ← l]
    exact h _ (I.tok _)
  · subst ey
    cases (show u = Value.ref b from ry)
    obtain ⟨z, hd, xs, rel, dd⟩ := dt_rd I.hok e
    refine wpAny_notIn_heap (tupleKind_room_in1 hu) (key_of I.hok eb) hd dd ?_
    have q := (rel.val k).isSome_eq
    rw [Option.isSome_map] at q
    rw [← q, ← l]
    exact h _ (I.tok _)
end
section
variable {X : Cx} {pins : List (Addr × Obj)} {σ : St} {H : Hp} {s : Shared} {a : Addr} {kvs : List (Key × V)} {k : Key} {u : Value} {A : Around} {E : Value → Shared → Prop}
theorem d_len {Q : Value → Shared → Prop} (I : Inv X pins σ H s) (e : Rd H a (.dK kvs)) (h : ∀ t s', Inv X pins σ H s' → Q (.int kvs.length t) s') : wpAny (model X.prog X.w) A (call (.builtin "len") [.ref a]) Q E s := by
  obtain ⟨z, hd, vs, rel, dd⟩ := dk_rd I.hok e
  refine call_len_dict hd dd (by rw [← rel.length]; rw [sizeLine_eq] at z; omega) ?_
  rw [← rel.length]
  exact h _ _ (I.tok _)
end
theorem dict_typeIs {X : Cx} {pins : List (Addr × Obj)} {σ : St} {H : Hp} {s : Shared} {a : Addr} {y : V} {o : Option V} (I : Inv X pins σ H s) (g : DGet H a y o) : s.TypeIs (.ref a) "dict" := by
  rcases g with ⟨kvs, k, e, _, _⟩ | ⟨kvs, k, b, e, _, _, _⟩
  · obtain ⟨_, _, vs, _, dd⟩ := dk_rd I.hok e
    exact dd.typeIs
  · obtain ⟨_, _, xs, _, dd⟩ := dt_rd I.hok e
    exact dd.typeIs
section
variable {X : Cx} {o i e value : Expr} {pos pos' tpos : Pos} {td ty tv : TE}
end
section
variable {X : Cx} {pos : Pos}
end
section
variable {X : Cx} {pins : List (Addr × Obj)} {σ : St} {H : Hp} {s : Shared} {a : Addr} {y d : V} {u r : Value} {o : Option V} {A : Around} {E : Value → Shared → Prop}
end
section
variable {X : Cx} {o e f : Expr} {apos cpos : Pos} {td ty tx : TE}
end
section
variable {X : Cx} {pins : List (Addr × Obj)} {σ : St} {H : Hp} {s : Shared} {a : Addr} {kvs : List (Key × V)} {A : Around} {E : Value → Shared → Prop}
end
section
variable {X : Cx} {pins : List (Addr × Obj)} {σ : St} {H : Hp} {s : Shared} {a : Addr} {y : V} {u : Value} {A : Around} {E : Value → Shared → Prop}
end
end L2
namespace L2
open PySem PySem.Spec PyProof.Rows
section
variable {X : Cx}
end
section
variable {κ : Type} [DecidableEq κ]
end
end L2
set_option Elab.async false
set_option linter.all false
set_option maxRecDepth 100000
set_option maxHeartbeats 4000000
namespace L2
open PySem PySem.Spec PyProof.Rows
def Its (x : Str) : It := ⟨fun i _ => i < x.cps.size, fun i H v H' => H' = H ∧ ∃ c, x.cps[i]? = some c ∧ v = .str ⟨#[c]⟩, fun i _ => i = x.cps.size⟩
theorem go_str {M : Model} {A : Around} {E : Value → Shared → Prop} {s : Shared} {tg : Expr} {it : Addr} {y : Str} {t : Tok} {Q : Unit → Shared → Prop} (hQ : Q () s) : wpAny M A (letOwnedTupleGo tg (.ref it) (.str y t)) Q E s := by
  unfold letOwnedTupleGo
  cases tg <;> exact wpAny_pure hQ
theorem turn_str {P : Program} {w : World} {K : PySem.W.Frag} {tg : Expr} (T : String) (it : Addr) (x : Str) (t : Tok)
    (W : ∀ A : Around, A.handled = none → Walks P w A it [it] [it] x.cps.size (SignAt x) (fun i h => h.IsStrIter it T x t i))
    (hs : ∀ (A : Around) (i : Nat) (s : Shared) (Q : Value → Shared → Prop) (E : Value → Shared → Prop), s.heap.IsStrIter it T x t i → Q (.ref it) s → wpAny (model P w) A (pyIter (.ref it)) Q E s) :
    Turn P w K tg (Its x) [it] it (fun i h => h.IsStrIter it T x t i) where
  mem := by simp
  obj := fun i h st b hb => by
    have e : b = it := by simpa using hb
    subst e
    obtain ⟨o, e, c, d⟩ := st
    exact ⟨o, e, fun v z => by rw [d] at z; cases z⟩
  keep := fun i h h' st k => by
    obtain ⟨o, e, r⟩ := st
    exact ⟨o, k it (by simp) o e, r⟩
  item := by
    intro X hP hw hK hc i pins s σ H E I hf st hg
    subst hP hw hK
    obtain ⟨f0, f1, f2, f3, f4, f5⟩ := hf it (by simp)
    refine (W X.A (I.ok.hd hc)).item i s _ _ hg st fun v h' tk hv st' kk => ?_
    obtain ⟨c, u, hcu, rfl⟩ := hv
    have I1 : Inv X pins σ H { s with heap := h', toks := tk } := I.turned (fun b o hb e => kk b o (by simpa using hb) e) f0 f1 f3 f4 f5
    exact ⟨_, rfl, go_str ⟨.str ⟨#[c]⟩, H, I1, ⟨u, rfl⟩, ⟨rfl, c, hcu, rfl⟩, st', fun b hb => (hf b hb).1⟩⟩
  done := by
    intro X hP hw hK hc i pins s σ H E I hf st hg
    subst hP hw hK
    obtain ⟨f0, f1, f2, f3, f4, f5⟩ := hf it (by simp)
    have hg' : i = x.cps.size := hg
    subst hg'
    refine (W X.A (I.ok.hd hc)).done s _ _ st fun h' tk kk => ?_
    exact ⟨rfl, I.turned (fun b o hb e => kk b o (by simpa using hb) e) f0 f1 f3 f4 f5⟩
  self := hs
section
variable {X : Cx} {tg : Expr}
end
section
variable {prog : Program} {w : World} {A : Around} {R : Result → Shared → Prop} {s : Shared}
theorem compLoop_gen {elt target iter : Expr} {ifs : List Expr} {scope : Scope} {pos : Pos} {it acc : Value} {env : Env} (I : Nat → Shared → Prop)
    (turn : ∀ n s, I n s → wpAny (model prog w) A (pyNext it) (fun r s₁ => match r with
      | none => R (.ok .next) s₁
      | some v => wpAny (model prog w) A (letOwnedTupleGo target it v) (fun _ s₁' => wpAny (model prog w) A (assign target env v) (fun _ s₂ =>
          wpAny (model prog w) A (forIn ifs true fun c r => if r = true then do let ok ← isTrue c env (eval c env); pure (ForInStep.yield ok) else pure (ForInStep.yield r)) (fun ok s₃ =>
            if ok = true then wpAny (model prog w) A (eval elt env) (fun x s₄ =>
              wpAny (model prog w) A (call (.builtin "list.append") [acc, x]) (fun _ s₅ => ∃ m, m < n ∧ I m s₅) (fun _ _ => False) s₄) (fun _ _ => False) s₃
            else ∃ m, m < n ∧ I m s₃) (fun _ _ => False) s₂) (fun _ _ => False) s₁') (fun _ _ => False) s₁) (fun _ _ => False) s)
    (n : Nat) (h : I n s) :
    codeAny (model prog w) A (.compLoop (.ListComp elt [⟨target, iter, ifs, 0⟩] scope pos) 0 it acc env) R s := by
  refine codeAny_loop rfl I (fun n s hI => ?_) n h
  show wpAny _ A ((compTurn (.ListComp elt [⟨target, iter, ifs, 0⟩] scope pos) 0 it acc env).onRaise (fun x => do noteFrame x env; theTreesLotGoes x)) _ _ s
  refine wpAny_noted ?_
  rw [compTurn_list]
  refine wpAny_bind (wpAny_standAt (wpAny_bind (wpAny_mono (turn n s hI) (fun r s₁ h₁ => ?_) fun _ _ h' => h'.elim)))
  cases r with
  | none => exact wpAny_pure h₁
  | some v =>
    refine wpAny_bind (wpAny_mono h₁ (fun _ s₁' h₁' => ?_) fun _ _ h' => h'.elim)
    refine wpAny_bind (wpAny_mono h₁' (fun _ s₂ h₂ => wpAny_bind (wpAny_mono h₂ (fun ok s₃ h₃ => ?_) fun _ _ h' => h'.elim)) fun _ _ h' => h'.elim)
    cases ok with
    | false => exact wpAny_pure ⟨rfl, h₃⟩
    | true =>
      exact wpAny_bind (wpAny_bind (wpAny_mono h₃ (fun x s₄ h₄ => wpAny_bind (wpAny_mono h₄ (fun _ s₅ h₅ => wpAny_pure (wpAny_pure ⟨rfl, h₅⟩)) fun _ _ h' => h'.elim)) fun _ _ h' => h'.elim))
end
def compCx (X : Cx) (N : List Str) (scope : Scope) (cl : List (Str × Addr)) (C : Addr) (s₀ : Shared) (H₀ : Hp) (ex : List Addr) : Cx :=
  { X with N := N, s₀ := s₀, H₀ := H₀, env := compEnvC scope cl C X.env, outer := X.stack, stack := X.stack, ex := ex, fn := fun _ => false, pn := [], xe := fun _ _ => False }
def PIfs (X : Cx) (ifs : List Expr) (t : TT) : Prop :=
  ∀ (pins : List (Addr × Obj)) (s : Shared) (σ : St) (H : Hp) (Q : Bool → Hp → Prop), Inv X pins σ H s → t σ H Q →
    wpAny (model X.prog X.w) X.A (forIn ifs true fun c r => if r = true then do let ok ← isTrue c X.env (eval c X.env); pure (ForInStep.yield ok) else pure (ForInStep.yield r)) (TP X pins σ Q) X.xe s
def tYes : TT := fun _ H Q => Q true H
theorem pifs_nil {X : Cx} : PIfs X [] tYes := fun pins s σ H Q I h => wpAny_tests_nil ⟨H, I, h⟩
def tComp (wi : TI) (cs : St → St) (g : TG) (ti : TT) (te : TE) : TE := fun σ H Q => wi σ H fun J H1 => ∃ W : Nat → Nat → List V → Hp → Prop, (∃ m, W 0 m [] H1) ∧ ∀ i m ys H, W i m ys H →
  ys.length ≤ sizeLine ∧ ((J.stop i H ∧ ∀ p, H p = none → Q (.ref p) (upd H p (.lst ys))) ∨
  (J.go i H ∧ ∀ x H', J.yld i H x H' → g x (cs σ) H' fun σ2 H2 => ti σ2 H2 fun ok H3 => if ok = true then te σ2 H3 fun y H4 => ∃ m', m' < m ∧ W (i + 1) m' (ys ++ [y]) H4 else ∃ m', m' < m ∧ W (i + 1) m' ys H3))
def csOf (nl : Nat) (js : List Nat) (σ : St) : St := List.replicate nl none ++ js.map fun j => (σ[j]?).join
structure CompOk (X : Cx) (N : List Str) (nl : Nat) (js : List Nat) (scope : Scope) (cl : List (Str × Addr)) : Prop where
  clos : closureFor scope X.env = pure cl
  nocell : ∀ y ∈ scope.names, y.2 ≠ .cell
  kind : scope.kind = .function
  names : ∀ y ∈ scope.names, y.2 = .local → scope.names.lookup y.1 = some .local
  cells : ∀ x c, cl.lookup x = some c → X.env.cells.lookup x = some c
  has : ∀ x, ((relabel scope X.env).names.lookup x = some .cell ∨ (relabel scope X.env).names.lookup x = some .free) → ∃ c, cl.lookup x = some c
  len : N.length = nl + js.length
  free : ∀ k j x, js[k]? = some j → N[nl + k]? = some x → X.N[j]? = some x ∧ (X.env.kindOf x = some .cell ∨ X.env.kindOf x = some .free) ∧ Vis X.env.scope x ∧
    ((relabel scope X.env).names.lookup x = some .cell ∨ (relabel scope X.env).names.lookup x = some .free)
  /-- the target stores own names alone -/
def KeepsT (g : TG) (cs : St → St) : Prop := ∀ (σ : St) (x : V) (H : Hp) (K : St → Hp → Prop), g x (cs σ) H K → g x (cs σ) H fun σ2 H2 => (σ2.length = (cs σ).length ∧ ∀ (j : Nat) (v : V), (cs σ)[j]? = some (some v) → σ2[j]? = some (some v)) ∧ K σ2 H2
theorem keeps_name {i nl : Nat} {js : List Nat} (hi : i < nl) : KeepsT (gName i) (csOf nl js) := fun σ x H K h => by
  refine ⟨⟨by simp, fun j v e => ?_⟩, h⟩
  by_cases hj : j = i
  · subst hj
    unfold csOf at e
    rw [List.getElem?_append_left (by simpa using hi), List.getElem?_replicate, if_pos hi] at e
    cases e
  · rw [List.getElem?_set_ne (Ne.symm hj)]; exact e
section
variable {X : Cx}
theorem Inv.comp {pins : List (Addr × Obj)} {σ : St} {H : Hp} {s s4 : Shared} {N : List Str} {nl : Nat} {js : List Nat} {scope : Scope} {cl : List (Str × Addr)} {C D : Addr} {fp : List Addr} {oD : Obj} {m : Str → Option Value}
    (I : Inv X pins σ H s) (ok : CompOk X N nl js scope cl) (hf : ∀ b ∈ fp, FpOk X pins H b) (hfp : ∀ b ∈ fp, b < s.heap.objs.size) (hC : s.heap.objs.size ≤ C) (hD : s.heap.objs.size ≤ D) (hDC : D ≠ C)
    (ho : s4.os = s.os) (hg : AllBare s4.gens) (k : ∀ b o, s.heap.get? b = some o → s4.heap.get? b = some o) (hn : s4.heap.Ns C m) (hDo : s4.heap.get? D = some oD) (hDd : ∀ v, oD.data ≠ .cell v) :
    Inv (compCx X N scope cl C s H fp) [(D, oD)] (csOf nl js σ) H s4 := by
  have stk : ∀ b, s.heap.objs.size ≤ b → b ∉ frs X.stack := fun b hb z => by
    rcases List.mem_cons.mp (I.stkSub b z) with e | e
    · rw [e] at hb; exact absurd (Nat.lt_of_lt_of_le I.lt hb) (Nat.lt_irrefl _)
    · exact I.nofs hb e
  refine ⟨⟨I.ok.mod, ok.kind, I.ok.glob, I.ok.blt, hC, fun x y c h1 h2 => I.ok.inj x y c (ok.cells x c h1) (ok.cells y c h2), fun x h => ok.has x h, (fun x c h => nomatch h), I.ok.hd, I.ok.frames, .inl rfl, fun b hb => ⟨?_, fun x c e z => ?_⟩, I.bs, Nat.le_trans I.ok.bsz I.sz, fun b o e hb => ?_, fun b hb => ?_, I.stack, I.stkFree⟩,
    ho, hg, Un.kept k, ⟨m, hn, fun i x v h1 h2 h3 => ?_⟩, fun x c e => ?_, I.hok.fresh hC, fun x c e => I.freeC x c (ok.cells x c e), fun p hp => ?_, I.hok.kept k, ?_⟩
  · exact Nat.ne_of_lt (Nat.lt_of_lt_of_le (hfp b hb) hC)
  · exact (hf b hb).2.2.2.2.1 x c (ok.cells x c e) z
  · have hb : b ∈ fp := hb
    rcases (hf b hb).2.2.2.1 with z | z
    · exact I.ok.noex b o e z
    · exact absurd (Nat.lt_of_lt_of_le (Heap.lt_size e) (Nat.le_trans I.ok.bsz z)) (Nat.lt_irrefl _)
  · have hb : b ∈ fp := hb
    intro z
    rcases List.mem_cons.mp (I.stkSub b z) with e | e
    · exact (hf b hb).2.1 e
    · exact (hf b hb).2.2.1 e
  · have h1 : N[i]? = some x := h1
    unfold csOf at h2
    have hi : nl ≤ i := by
      rcases Nat.lt_or_ge i nl with z | z
      · rw [List.getElem?_append_left (by simpa using z), List.getElem?_replicate, if_pos z] at h2; cases h2
      · exact z
    rw [List.getElem?_append_right (by simpa using hi), List.length_replicate, List.getElem?_map] at h2
    cases ej : js[i - nl]? with
    | none => rw [ej] at h2; cases h2
    | some j =>
      rw [ej] at h2
      have h2' : (σ[j]?).join = some v := by simpa using h2
      have e2 : σ[j]? = some (some v) := by
        cases q : σ[j]? with
        | none => rw [q] at h2'; cases h2'
        | some y => rw [q] at h2'; rw [show y = some v from h2']
      obtain ⟨g1, g2, g3, g4⟩ := ok.free (i - nl) j x ej (by rw [Nat.add_sub_cancel' hi]; exact h1)
      obtain ⟨m0, hn0, hl⟩ := I.loc
      obtain ⟨u, r, l⟩ := hl j x v g1 e2 g3
      refine ⟨u, r, .inr ⟨g4, ?_⟩⟩
      rcases l with ⟨lk, _⟩ | ⟨_, c, ec, ic⟩
      · rcases g2 with z | z <;> (rw [z] at lk; cases lk)
      · obtain ⟨c', ec'⟩ := ok.has x g4
        have : c' = c := Option.some.inj ((ok.cells x c' ec').symm.trans ec)
        subst this
        obtain ⟨oc, hoc, hd⟩ := ic
        exact ⟨c', ec', oc, k _ _ hoc, hd⟩
  · obtain ⟨v, oc, hoc, hd⟩ := I.cell x c (ok.cells x c e)
    exact ⟨v, oc, k _ _ hoc, hd⟩
  · have hp : p ∈ [(D, oD)] := hp
    have e : p = (D, oD) := by simpa using hp
    subst e
    exact ⟨hDo, I.hok.fresh hD, hDC, stk D hD, hDd⟩
  · show (csOf nl js σ).length = N.length
    unfold csOf
    rw [List.length_append, List.length_replicate, List.length_map]
    exact ok.len.symm
def CompEnd (X : Cx) (pins : List (Addr × Obj)) (σ : St) (Q : VK) (acc : Value) (C : Addr) (s' : Shared) : Prop :=
  ∃ D H' m, acc = .ref D ∧ Inv X pins σ H' s' ∧ FpOk X pins H' C ∧ s'.heap.Ns C m ∧ Q (.ref D) H'
theorem comp_run {N : List Str} {nl : Nat} {js : List Nat} {scope : Scope} {cl : List (Str × Addr)} {elt target iter : Expr} {ifs : List Expr} {pos : Pos} {wi : TI} {g : TG} {ti : TT} {te : TE} {pins : List (Addr × Obj)} {s : Shared} {σ : St} {H : Hp} {Q : VK}
    {E : Value → Shared → Prop} (RR : Value → Addr → Result → Shared → Prop) (hRR : ∀ acc C s', CompEnd X pins σ Q acc C s' → RR acc C (.ok .next) s')
    (hc : X.calm = true) (ok : CompOk X N nl js scope cl) (hi : PI X target iter wi) (hk : KeepsT g (csOf nl js))
    (hg : ∀ C s₀ H₀ ex, PG (compCx X N scope cl C s₀ H₀ ex) target g) (ht : ∀ C s₀ H₀ ex, PIfs (compCx X N scope cl C s₀ H₀ ex) ifs ti) (he : ∀ C s₀ H₀ ex, PE (compCx X N scope cl C s₀ H₀ ex) elt te)
    (I : Inv X pins σ H s) (h : tComp wi (csOf nl js) g ti te σ H Q) :
    wpAny (model X.prog X.w) X.A (eval iter X.env) (fun x s₁ => wpAny (model X.prog X.w) X.A (pyIter x) (fun it s₂ => wpAny (model X.prog X.w) X.A (newList []) (fun acc s₃ =>
      wpAny (model X.prog X.w) X.A (newFunctionEnv scope X.env.globals cl [] X.env.qual none .none (some X.env)) (fun cenv s₄ =>
        codeAny (model X.prog X.w) X.A (.compStart (.ListComp elt [⟨target, iter, ifs, 0⟩] scope pos) 0 it acc { cenv with scope := relabel scope X.env }) (RR acc cenv.locals) s₄) E s₃) E s₂) X.xe s₁) X.xe s := by
  refine thn (hi pins s σ H _ I h) fun v s1 h1 => thn h1 fun itv s2 h2 => ?_
  obtain ⟨it, fp, tn, J, H2, e, I2, T, st2, f2, W, ⟨m0, w0⟩, turn⟩ := h2
  subst e
  have hfp : ∀ b ∈ fp, b < s2.heap.objs.size := fun b hb => by
    obtain ⟨o, e, _⟩ := T.obj _ _ st2 b hb
    exact Heap.lt_size e
  refine wpAny_newObj_type (wpAny_newFunctionEnv ok.nocell (by intro y hy; simp at hy) (fun h₁ hns₁ hsb₁ => ?_) ok.kind)
  dsimp only at hns₁ hsb₁ ⊢
  generalize hP2 : s2.heap.push { cls := .type "list", dict := none, data := .seq ([] : List Value).toArray } = P2 at hns₁ hsb₁ ⊢
  have hC : P2.objs.size = s2.heap.objs.size + 1 := by rw [← hP2, Heap.size_push]
  have hDC : s2.heap.objs.size ≠ P2.objs.size := by rw [hC]; exact Nat.ne_of_lt (Nat.lt_succ_self _)
  have hCle : s2.heap.objs.size ≤ P2.objs.size := by rw [hC]; exact Nat.le_succ _
  have below : ∀ b, b < s2.heap.objs.size → b ≠ P2.objs.size ∧ b ≠ s2.heap.objs.size := fun b hb => ⟨by rw [hC]; exact Nat.ne_of_lt (Nat.lt_succ_of_lt hb), Nat.ne_of_lt hb⟩
  have old : ∀ b o, s2.heap.get? b = some o → h₁.get? b = some o := fun b o e => hsb₁.extBut b o (below b (Heap.lt_size e)).1 (Heap.get?_push_of_some _ (hP2 ▸ Heap.get?_push_of_some _ e))
  have hacc : h₁.PlainList s2.heap.objs.size #[] := ⟨_, hsb₁.extBut _ _ hDC (Heap.get?_push_of_some _ (hP2 ▸ Heap.get?_push_size _ rfl))⟩
  obtain ⟨n0, ha0⟩ := hacc
  generalize hCC : P2.objs.size = C at *
  generalize hDD : s2.heap.objs.size = D at *
  -- the block's context
  have I4 : Inv (compCx X N scope cl C s2 H2 fp) [(D, { cls := .type "list", data := .seq ([] : List Value).toArray n0 })] (csOf nl js σ) H2 { s2 with heap := h₁, toks := s2.toks + ([] : List (Str × Value)).length } :=
    I2.comp ok f2 (fun b hb => by rw [hDD]; exact hfp b hb) (by rw [hDD]; exact hCle) (by rw [hDD]; exact Nat.le_refl _) hDC rfl I2.bare old hns₁ ha0 (fun v z => nomatch z)
  have st4 : tn 0 h₁ := T.keep _ _ _ st2 fun b hb o e => old b o e
  -- what stays true of the records
  have nD : ∀ b ∈ fp, b ≠ D := fun b hb => Nat.ne_of_lt (hfp b hb)
  have nC : ∀ b ∈ fp, b ≠ C := fun b hb => (below b (hfp b hb)).1
  have stkD : ∀ b, D ≤ b → b ∉ frs X.stack := fun b hb z => by
    rcases List.mem_cons.mp (I2.stkSub b z) with e | e
    · rw [e] at hb; exact absurd (Nat.lt_of_lt_of_le I2.lt (by rw [hDD]; exact hb)) (Nat.lt_irrefl _)
    · exact I2.nofs (by rw [hDD]; exact hb) e
  have cellD : ∀ x c b, D ≤ b → cl.lookup x = some c → c ≠ b := fun x c b hb e z => by
    obtain ⟨v, q⟩ := I2.cell x c (ok.cells x c e)
    exact absurd (Nat.lt_of_lt_of_le q.lt (by rw [z, hDD]; exact hb)) (Nat.lt_irrefl _)
  have stat : ∀ {H' : Hp} {oD : Obj}, (∀ b ∈ fp, H' b = none) → ∀ b ∈ fp, FpOk (compCx X N scope cl C s2 H2 fp) [(D, oD)] H' b := fun {H' oD} hn b hb => by
    refine ⟨hn b hb, nC b hb, fun z => ?_, .inl hb, fun x c e z => (f2 b hb).2.2.2.2.1 x c (ok.cells x c e) z, fun p hp z => ?_⟩
    · have z : b ∈ frs X.stack := z
      rcases List.mem_cons.mp (I2.stkSub b z) with e | e
      · exact (f2 b hb).2.1 e
      · exact (f2 b hb).2.2.1 e
    · have hp : p = (D, oD) := by simpa [compCx] using hp
      subst hp
      exact nD b hb z.symm
  have loop : ∀ s₃ : Shared, s₃ = { s2 with heap := h₁, toks := s2.toks + ([] : List (Str × Value)).length } →
      codeAny (model X.prog X.w) X.A (.compLoop (.ListComp elt [⟨target, iter, ifs, 0⟩] scope pos) 0 (.ref it) (.ref D) (compEnvC scope cl C X.env)) (RR (.ref D) C) s₃ := by
    rintro s₃ rfl
    refine compLoop_gen (env := compEnvC scope cl C X.env) (fun n s' => ∃ i ys us nn H', Inv (compCx X N scope cl C s2 H2 fp) [(D, { cls := .type "list", data := .seq (us : List Value).toArray nn })] (csOf nl js σ) H' s' ∧ Vals ys us ∧ tn i s'.heap ∧ (∀ b ∈ fp, H' b = none) ∧ W i n ys H')
      ?_ m0 ⟨0, [], [], n0, H2, I4, .nil, st4, fun b hb => (f2 b hb).1, w0⟩
    rintro n s3 ⟨i, ys, us, nn, H3, I3, rv3, st3, fr3, w3⟩
    obtain ⟨hsz, tr⟩ := turn i n ys H3 w3
    rcases tr with ⟨stop, qn⟩ | ⟨go, step⟩
    · refine wpAny_mono (T.done (compCx X N scope cl C s2 H2 fp) rfl rfl rfl hc i _ s3 (csOf nl js σ) H3 (fun _ _ => False) I3 (stat fr3) st3 stop) (fun r s4 hr => ?_) fun _ _ z => z
      obtain ⟨rfl, J4⟩ := hr
      show RR (.ref D) C (.ok .next) s4
      obtain ⟨pD, pfree, _, _, _⟩ := J4.pin (D, { cls := .type "list", data := .seq (us : List Value).toArray nn }) (by simp [compCx])
      obtain ⟨mC, hnC, _⟩ := J4.loc
      have hnC : s4.heap.Ns C mC := hnC
      have ltH : ∀ b o, H2 b = some o → b ≠ D := fun b o e => by have := I2.hok.lt e; rw [hDD] at this; exact Nat.ne_of_lt this
      have ltg : ∀ b o, s2.heap.get? b = some o → b ≠ D := fun b o e => by have := Heap.lt_size e; rw [hDD] at this; exact Nat.ne_of_lt this
      have B : Un (frs X.stack) fp H2 H3 s2.heap s4.heap := J4.base
      have un : Un (frs X.stack) fp H2 (upd H3 D (.lst ys)) s2.heap s4.heap :=
        ⟨B.keep, B.slot, fun b o e n x => by rw [upd_ne (ltg b o e)]; exact B.free b o e n x, B.there, fun b xs e => by rw [upd_ne (ltH b _ e)]; exact B.tups b xs e,
          fun b o u e => by rw [upd_ne (ltH b _ e)]; exact B.frzs b o u e, fun b ps e => by rw [upd_ne (ltH b _ e)]; exact B.tbls b ps e⟩
      have hokD : HOk X.prog X.w (upd H3 D (.lst ys)) s4.heap := fun b u e => by
        by_cases hb : b = D
        · subst hb
          rw [upd_same] at e
          cases e
          exact ⟨hsz, us, nn, rv3, pD⟩
        · rw [upd_ne hb] at e
          refine (J4.hok b u e).stay (fun c v _ q => q) (fun c q => ?_) fun c xs q => ?_
          · rw [upd_ne (ne_of_none q pfree)]; exact q
          · rw [upd_ne (ne_of_none q pfree)]; exact q
      refine hRR _ _ _ ⟨D, upd H3 D (.lst ys), mC, rfl, I2.call' (ch := fp) J4.os un hokD J4.bare (fun b hb => ⟨(f2 b hb).2.2.2.1, (f2 b hb).2.1, (f2 b hb).2.2.2.2.1, (f2 b hb).2.2.2.2.2⟩), ?_, hnC, qn D pfree⟩
      have hCn : H3 C = none := J4.free
      refine ⟨by rw [upd_ne hDC.symm]; exact hCn, ?_, ?_, .inr ?_, fun x c e z => ?_, fun p hp z => ?_⟩
      · exact Nat.ne_of_gt (Nat.lt_of_lt_of_le I2.lt (by rw [hDD]; exact hCle))
      · exact I2.nofs (by rw [hDD]; exact hCle)
      · exact Nat.le_trans I2.sz (by rw [hDD]; exact hCle)
      · obtain ⟨v, q⟩ := I2.cell x c e
        exact absurd (Nat.lt_of_lt_of_le q.lt (by rw [z, hDD]; exact hCle)) (Nat.lt_irrefl _)
      · exact absurd (Nat.lt_of_lt_of_le (Heap.lt_size (I2.pin p hp).1) (by rw [z, hDD]; exact hCle)) (Nat.lt_irrefl _)
    · refine wpAny_mono (T.item (compCx X N scope cl C s2 H2 fp) rfl rfl rfl hc i _ s3 (csOf nl js σ) H3 (fun _ _ => False) I3 (stat fr3) st3 go) (fun r s4 hr => ?_) fun _ _ z => z
      obtain ⟨u, rfl, h4⟩ := hr
      show wpAny (model X.prog X.w) X.A (letOwnedTupleGo target (.ref it) u) _ _ s4
      refine thn h4 fun _ s5 ⟨x, H5, I5, r5, y5, st5, fr5⟩ => ?_
      have I5' := I5.pinned (stat fr5) (T.obj _ _ st5)
      refine thn (hg C s2 H2 fp _ s5 (csOf nl js σ) H5 x u _ I5' r5 (hk σ x H5 _ (step x H5 y5))) fun _ s6 ⟨σ6, H6, I6, ⟨hl6, hs6⟩, q6⟩ => ?_
      refine thn (ht C s2 H2 fp _ s6 σ6 H6 _ I6 q6) fun okb s7 ⟨H7, I7, q7⟩ => ?_
      -- the iterator and the list are pinned through
      have back : ∀ {H8 : Hp} {s8 : Shared}, Inv (compCx X N scope cl C s2 H2 fp) ([(D, { cls := .type "list", data := .seq (us : List Value).toArray nn })] ++ pinsAt fp s5.heap) σ6 H8 s8 →
          Inv (compCx X N scope cl C s2 H2 fp) [(D, { cls := .type "list", data := .seq (us : List Value).toArray nn })] (csOf nl js σ) H8 s8 ∧ tn (i + 1) s8.heap ∧ ∀ b ∈ fp, H8 b = none := fun {H8 s8} I8 => by
        refine ⟨I8.unpinned.weak hl6.symm hs6, T.keep _ _ _ st5 fun b hb o e => (I8.pin (b, o) (List.mem_append_right _ (List.mem_append_right _ (mem_pinsAt hb e)))).1, fun b hb => ?_⟩
        obtain ⟨o, e, d⟩ := T.obj _ _ st5 b hb
        exact (I8.pin (b, o) (List.mem_append_right _ (List.mem_append_right _ (mem_pinsAt hb e)))).2.1
      cases okb with
      | false =>
        have q7 : ∃ m', m' < n ∧ W (i + 1) m' ys H7 := by simpa using q7
        obtain ⟨m', hm, w7⟩ := q7
        obtain ⟨I8, st8, fr8⟩ := back I7
        show ∃ m, m < n ∧ _
        exact ⟨m', hm, i + 1, ys, us, nn, H7, I8, rv3, st8, fr8, w7⟩
      | true =>
        have q7 : te σ6 H7 fun y H4 => ∃ m', m' < n ∧ W (i + 1) m' (ys ++ [y]) H4 := by simpa using q7
        show wpAny (model X.prog X.w) X.A (eval elt (compEnvC scope cl C X.env)) _ _ s7
        refine thn (he C s2 H2 fp _ s7 σ6 H7 _ I7 q7) fun yv s8 ⟨y, H8, I8, ry, m', hm, w8⟩ => ?_
        obtain ⟨I9, st9, fr9⟩ := back I8
        obtain ⟨pD, pfree, pne, pnf, _⟩ := I9.pin (D, { cls := .type "list", data := .seq (us : List Value).toArray nn }) (by simp [compCx])
        refine wpAny_list_append_plain (items := us.toArray) ⟨nn, pD⟩ (fun h' hp' sb => ?_) (by have := rv3.length; simp; omega)
        obtain ⟨n', hp'⟩ := hp'
        have I10 : Inv (compCx X N scope cl C s2 H2 fp) [] (csOf nl js σ) H8 { s8 with heap := h' } := by
          refine (I9.pins_of (pins' := []) (fun p hp => absurd hp (by simp))).turned (t' := s8.toks) (it := D) (fun b o hb e => (sb.2 b hb).trans e) pfree pne (.inr (by show s2.heap.objs.size ≤ D; rw [hDD]; exact Nat.le_refl _)) (fun x c e => cellD x c D (Nat.le_refl _) e) (fun p hp => ?_)
          exact absurd hp (by simp [compCx])
        refine ⟨m', hm, i + 1, ys ++ [y], us ++ [yv], n', H8, I10.pins_of (fun p hp => ?_), rv3.append (.cons ry .nil), T.keep _ _ _ st9 fun b hb o e => (sb.2 b (nD b hb)).trans e, fr9, w8⟩
        have e : p = (D, { cls := .type "list", data := .seq (us ++ [yv]).toArray n' }) := by simpa using hp
        subst e
        exact ⟨by simpa using hp', pfree, pne, pnf, fun v z => nomatch z⟩
  exact codeAny_compStart_list (loop _ rfl) (T.self _ 0 _ _ _ st4 (loop _ rfl))
theorem pe_comp {N : List Str} {nl : Nat} {js : List Nat} {scope : Scope} {cl : List (Str × Addr)} {elt target iter : Expr} {ifs : List Expr} {pos : Pos} {wi : TI} {g : TG} {ti : TT} {te : TE}
    (hc : X.calm = true) (ok : CompOk X N nl js scope cl) (hi : PI X target iter wi) (hk : KeepsT g (csOf nl js))
    (hg : ∀ C s₀ H₀ ex, PG (compCx X N scope cl C s₀ H₀ ex) target g) (ht : ∀ C s₀ H₀ ex, PIfs (compCx X N scope cl C s₀ H₀ ex) ifs ti) (he : ∀ C s₀ H₀ ex, PE (compCx X N scope cl C s₀ H₀ ex) elt te)
    (hs : ∀ x, foldedSetIterable iter X.env x = pure x := by intro _; rfl) :
    PE X (.ListComp elt [⟨target, iter, ifs, 0⟩] scope pos) (tComp wi (csOf nl js) g ti te) := by
  intro pins s σ H Q I h
  rw [eval_ListComp]
  refine wpAny_comprehension_free (use := none) rfl hs ok.clos ok.kind ok.names (wpAny_mono (comp_run (E := X.xe) (pos := pos) (fun acc C => compPost (model X.prog X.w) X.A X.xe none (EP X pins σ Q) acc C) (fun acc C s' z => ?_) hc ok hi hk hg ht he I h) (fun _ _ z => z) fun _ _ z => z)
  obtain ⟨D, H', m, rfl, J, fC, hn, q⟩ := z
  refine ⟨m, hn, fun h' sb => ⟨.ref D, H', J.turned (t' := s'.toks) (fun b o hb e => (sb.2 b hb).trans e) fC.1 fC.2.1 fC.2.2.2.1 fC.2.2.2.2.1 fC.2.2.2.2.2, rfl, q⟩⟩
end
end L2
set_option Elab.async false
set_option linter.all false
set_option maxRecDepth 100000
set_option maxHeartbeats 4000000
namespace L2
open PySem PySem.Spec PyProof.Rows
inductive D where
  | non | bl (b : Bool) | int (i : Int) | str (x : Str) | tup (xs : List D) | lst (xs : List D) | dic (ks : List Key) (xs : List D)
mutual
def Rep (K : PySem.W.Frag) (H : Hp) : D → V → Prop
  | .non, v => v = .non
  | .bl b, v => v = .bl b
  | .int i, v => v = .int i
  | .str x, v => v = .str x
  | .tup ds, v => ∃ a vs, v = .ref a ∧ SqT K H a vs ∧ RepL K H ds vs
  | .lst ds, v => ∃ a vs, v = .ref a ∧ SqL K H a vs ∧ RepL K H ds vs
  | .dic ks ds, v => ∃ a vs, v = .ref a ∧ Rd H a (.dK (ks.zip vs)) ∧ ks.length = ds.length ∧ ks.Nodup ∧ RepL K H ds vs
def RepL (K : PySem.W.Frag) (H : Hp) : List D → List V → Prop
  | [], vs => vs = []
  | d :: ds, vs => ∃ v r, vs = v :: r ∧ Rep K H d v ∧ RepL K H ds r
end
theorem Same.rd {H H' : Hp} (e : Same H H') {a : Addr} {u : HO} (h : Rd H a u) : Rd H' a u := h.elim (fun z => .inl (e _ _ z)) fun ⟨o, z⟩ => .inr ⟨o, e _ _ z⟩
theorem Same.sqT {K : PySem.W.Frag} {H H' : Hp} (e : Same H H') {a : Addr} {xs : List V} (h : SqT K H a xs) : SqT K H' a xs := h.elim (fun z => .inl (e.rd z)) .inr
theorem Same.sqL {K : PySem.W.Frag} {H H' : Hp} (e : Same H H') {a : Addr} {xs : List V} (h : SqL K H a xs) : SqL K H' a xs := h.elim (fun z => .inl (e.rd z)) .inr
mutual
theorem Rep.mono {K : PySem.W.Frag} {H H' : Hp} (e : Same H H') : ∀ {d : D} {v : V}, Rep K H d v → Rep K H' d v
  | .non, _, h => by simp only [Rep] at h ⊢; exact h
  | .bl b, _, h => by simp only [Rep] at h ⊢; exact h
  | .int i, _, h => by simp only [Rep] at h ⊢; exact h
  | .str x, _, h => by simp only [Rep] at h ⊢; exact h
  | .tup ds, _, h => by
    simp only [Rep] at h ⊢
    obtain ⟨a, vs, h1, h2, h3⟩ := h
    exact ⟨a, vs, h1, e.sqT h2, RepL.mono e h3⟩
  | .lst ds, _, h => by
    simp only [Rep] at h ⊢
    obtain ⟨a, vs, h1, h2, h3⟩ := h
    exact ⟨a, vs, h1, e.sqL h2, RepL.mono e h3⟩
  | .dic ks ds, _, h => by
    simp only [Rep] at h ⊢
    obtain ⟨a, vs, h1, h2, h3, h4, h5⟩ := h
    exact ⟨a, vs, h1, e.rd h2, h3, h4, RepL.mono e h5⟩
theorem RepL.mono {K : PySem.W.Frag} {H H' : Hp} (e : Same H H') : ∀ {ds : List D} {vs : List V}, RepL K H ds vs → RepL K H' ds vs
  | [], _, h => by simp only [RepL] at h ⊢; exact h
  | d :: ds, _, h => by
    simp only [RepL] at h ⊢
    obtain ⟨v, r, h1, h2, h3⟩ := h
    exact ⟨v, r, h1, Rep.mono e h2, RepL.mono e h3⟩
end
theorem RepL.length {K : PySem.W.Frag} {H : Hp} : ∀ {ds : List D} {vs : List V}, RepL K H ds vs → ds.length = vs.length
  | [], _, h => by simp only [RepL] at h; subst h; rfl
  | d :: ds, _, h => by
    simp only [RepL] at h
    obtain ⟨v, r, h1, h2, h3⟩ := h
    subst h1
    simp [RepL.length h3]
theorem RepL.get {K : PySem.W.Frag} {H : Hp} : ∀ {ds : List D} {vs : List V} {i : Nat} {d : D}, RepL K H ds vs → ds[i]? = some d → ∃ v, vs[i]? = some v ∧ Rep K H d v
  | [], _, _, _, _, e => by simp at e
  | x :: ds, _, 0, d, h, e => by
    simp only [RepL] at h
    obtain ⟨v, r, h1, h2, h3⟩ := h
    subst h1
    simp at e
    subst e
    exact ⟨v, rfl, h2⟩
  | x :: ds, _, i + 1, d, h, e => by
    simp only [RepL] at h
    obtain ⟨v, r, h1, h2, h3⟩ := h
    subst h1
    obtain ⟨u, h4, h5⟩ := RepL.get (i := i) h3 (by simpa using e)
    exact ⟨u, by simpa using h4, h5⟩
theorem RepL.append {K : PySem.W.Frag} {H : Hp} : ∀ {ds es : List D} {vs us : List V}, RepL K H ds vs → RepL K H es us → RepL K H (ds ++ es) (vs ++ us)
  | [], _, _, _, h, h' => by simp only [RepL] at h; subst h; exact h'
  | d :: ds, _, _, _, h, h' => by
    simp only [RepL] at h
    obtain ⟨v, r, h1, h2, h3⟩ := h
    subst h1
    simp only [List.cons_append, RepL]
    exact ⟨v, _, rfl, h2, RepL.append h3 h'⟩
theorem RepL.drop {K : PySem.W.Frag} {H : Hp} : ∀ (n : Nat) {ds : List D} {vs : List V}, RepL K H ds vs → RepL K H (ds.drop n) (vs.drop n)
  | 0, _, _, h => h
  | _ + 1, [], _, h => by simp only [RepL] at h; subst h; simp [RepL]
  | n + 1, d :: ds, _, h => by
    simp only [RepL] at h
    obtain ⟨v, r, h1, h2, h3⟩ := h
    subst h1
    exact RepL.drop n h3
theorem RepL.take {K : PySem.W.Frag} {H : Hp} : ∀ (n : Nat) {ds : List D} {vs : List V}, RepL K H ds vs → RepL K H (ds.take n) (vs.take n)
  | 0, _, _, h => by simp [RepL]
  | _ + 1, [], _, h => by simp only [RepL] at h; subst h; simp [RepL]
  | n + 1, d :: ds, _, h => by
    simp only [RepL] at h
    obtain ⟨v, r, h1, h2, h3⟩ := h
    subst h1
    simp only [List.take_succ_cons, RepL]
    exact ⟨v, _, rfl, h2, RepL.take n h3⟩
theorem RepL.snoc {K : PySem.W.Frag} {H : Hp} {ds : List D} {vs : List V} {d : D} {v : V} (h : RepL K H ds vs) (r : Rep K H d v) : RepL K H (ds ++ [d]) (vs ++ [v]) :=
  h.append (by simp only [RepL]; exact ⟨v, [], rfl, r, rfl⟩)
structure Grow (G H G' H' : Hp) : Prop where
  g : Same G G'
  h : Same H H'
  s : Same G' H'
  n : ∀ a o, H a = some o → G a = none → G' a = none
theorem Grow.refl {G H : Hp} (s : Same G H) : Grow G H G H := ⟨Same.refl _, Same.refl _, s, fun _ _ _ n => n⟩
theorem Grow.trans {G H G1 H1 G2 H2 : Hp} (a : Grow G H G1 H1) (b : Grow G1 H1 G2 H2) : Grow G H G2 H2 :=
  ⟨a.g.trans b.g, a.h.trans b.h, b.s, fun x o e n => b.n x o (a.h x o e) (a.n x o e n)⟩
theorem Same.upd {G H : Hp} (s : Same G H) {p : Addr} (o : HO) : Same (upd G p o) (upd H p o) := fun b u e => by
  by_cases hb : b = p
  · subst hb; rw [upd_same] at e ⊢; exact e
  · rw [upd_ne hb] at e ⊢; exact s b u e
theorem same_new {H : Hp} {p : Addr} (o : HO) (n : H p = none) : Same H (L2.upd H p o) := fun b u e => by
  rw [upd_ne (ne_of_none e n)]; exact e
theorem Grow.laid {G H : Hp} (s : Same G H) {p : Addr} (o : HO) (n : H p = none) : Grow G H (L2.upd G p o) (L2.upd H p o) :=
  ⟨same_new o (s.free n), same_new o n, s.upd o, fun a u e z => by rw [upd_ne (ne_of_none e n)]; exact z⟩
inductive Mo where
  | lst (xs : List D) | dic (ks : List Key) (xs : List D)
@[simp] def Mo.d : Mo → D | .lst xs => .lst xs | .dic ks xs => .dic ks xs
@[simp] def Mo.vals : Mo → List D | .lst xs => xs | .dic _ xs => xs
def Mo.ho : Mo → List V → HO | .lst _, vs => .lst vs | .dic ks _, vs => .dK (ks.zip vs)
def Mo.ok : Mo → Prop | .lst _ => True | .dic ks xs => ks.length = xs.length ∧ ks.Nodup
inductive Sl where
  | sh (d : D) | pv (m : Mo) (o : Option Addr)
@[simp] def Sl.d : Sl → D | .sh d => d | .pv m _ => m.d
abbrev En := List (Option Sl)
def RepX (K : PySem.W.Frag) (B G H : Hp) : Sl → V → Prop
  | .sh d, v => Rep K G d v
  | .pv m o, v => ∃ a vs, v = .ref a ∧ B a = none ∧ G a = none ∧ H a = some (m.ho vs) ∧ m.ok ∧ RepL K G m.vals vs ∧ ∀ b, o = some b → b = a
theorem RepX.grow {K : PySem.W.Frag} {B G H G' H' : Hp} (g : Grow G H G' H') : ∀ {x : Sl} {v : V}, RepX K B G H x v → RepX K B G' H' x v
  | .sh d, _, h => Rep.mono g.g h
  | .pv m o, _, ⟨a, vs, h1, h0, h2, h3, h5, h4, h6⟩ => ⟨a, vs, h1, h0, g.n a _ h3 h2, g.h _ _ h3, h5, h4.mono g.g, h6⟩
structure RepS (K : PySem.W.Frag) (B G H : Hp) (δ : En) (σ : St) : Prop where
  len : δ.length = σ.length
  at_ : ∀ (i : Nat) (x : Sl), δ[i]? = some (some x) → ∃ v, σ[i]? = some (some v) ∧ RepX K B G H x v
  ap : ∀ (i j : Nat) (x y : Mo) (o o' : Option Addr), i ≠ j → δ[i]? = some (some (.pv x o)) → δ[j]? = some (some (.pv y o')) → σ[i]? ≠ σ[j]?
theorem RepS.grow {K : PySem.W.Frag} {B G H G' H' : Hp} {δ : En} {σ : St} (r : RepS K B G H δ σ) (g : Grow G H G' H') : RepS K B G' H' δ σ :=
  ⟨r.len, fun i x e => let ⟨v, h1, h2⟩ := r.at_ i x e; ⟨v, h1, h2.grow g⟩, r.ap⟩
theorem get_set {α : Type} {l : List α} {i j : Nat} {x y : α} (e : (l.set i x)[j]? = some y) : (i = j ∧ x = y) ∨ (i ≠ j ∧ l[j]? = some y) := by
  by_cases h : i = j
  · subst h
    by_cases hl : i < l.length
    · rw [List.getElem?_set_self hl] at e
      exact .inl ⟨rfl, Option.some.inj e⟩
    · rw [List.getElem?_eq_none (by simpa using hl)] at e; cases e
  · rw [List.getElem?_set_ne h] at e
    exact .inr ⟨h, e⟩
theorem RepS.put {K : PySem.W.Frag} {B G H : Hp} {δ : En} {σ : St} (r : RepS K B G H δ σ) (i : Nat) {x : Sl} {v : V} (h : RepX K B G H x v)
    (ha : ∀ m o, x = .pv m o → ∀ (j : Nat) (y : Mo) (o' : Option Addr), j ≠ i → δ[j]? = some (some (.pv y o')) → σ[j]? ≠ some (some v)) : RepS K B G H (δ.set i (some x)) (σ.set i (some v)) := by
  refine ⟨by simp [r.len], fun j y e => ?_, fun j l y z o o' hjl e1 e2 => ?_⟩
  · have hl0 := (List.getElem?_eq_some_iff.mp e).1
    rw [List.length_set, r.len] at hl0
    rcases get_set e with ⟨rfl, e'⟩ | ⟨hj, e'⟩
    · cases e'
      exact ⟨v, List.getElem?_set_self hl0, h⟩
    · rw [List.getElem?_set_ne hj]
      exact r.at_ j y e'
  · have inb : ∀ (m : Nat) (w : Mo) (o : Option Addr), (δ.set i (some x))[m]? = some (some (.pv w o)) → m < σ.length := fun m w o e => by
      have := (List.getElem?_eq_some_iff.mp e).1
      rw [List.length_set, r.len] at this
      exact this
    rcases get_set e1 with ⟨rfl, f1⟩ | ⟨h1, f1⟩
    · rcases get_set e2 with ⟨rfl, f2⟩ | ⟨h2, f2⟩
      · exact absurd rfl hjl
      · cases f1
        rw [List.getElem?_set_self (inb _ _ _ e1), List.getElem?_set_ne h2]
        exact fun z => ha _ _ rfl l _ _ (Ne.symm h2) f2 z.symm
    · rcases get_set e2 with ⟨rfl, f2⟩ | ⟨h2, f2⟩
      · cases f2
        rw [List.getElem?_set_self (inb _ _ _ e2), List.getElem?_set_ne h1]
        exact ha _ _ rfl j _ _ (Ne.symm h1) f1
      · rw [List.getElem?_set_ne h1, List.getElem?_set_ne h2]
        exact r.ap j l y z o o' hjl f1 f2
theorem RepS.set {K : PySem.W.Frag} {B G H : Hp} {δ : En} {σ : St} (r : RepS K B G H δ σ) (i : Nat) {d : D} {v : V} (h : Rep K G d v) : RepS K B G H (δ.set i (some (.sh d))) (σ.set i (some v)) :=
  r.put i (x := .sh d) h fun m o e => nomatch e
def RepB (K : PySem.W.Frag) (G H : Hp) (d : D) (v : V) : Prop := Rep K G d v ∨ ∃ (m : Mo) (a : Addr) (vs : List V), d = m.d ∧ v = .ref a ∧ H a = some (m.ho vs) ∧ m.ok ∧ RepL K G m.vals vs
theorem RepB.grow {K : PySem.W.Frag} {G H G' H' : Hp} {d : D} {v : V} (r : RepB K G H d v) (g : Grow G H G' H') : RepB K G' H' d v := by
  rcases r with r | ⟨m, a, vs, h1, h2, h3, h4, h5⟩
  · exact .inl (r.mono g.g)
  · exact .inr ⟨m, a, vs, h1, h2, g.h _ _ h3, h4, h5.mono g.g⟩
theorem RepB.lst {K : PySem.W.Frag} {G H : Hp} {ds : List D} {v : V} (r : RepB K G H (.lst ds) v) (s : Same G H) : ∃ a vs, v = .ref a ∧ SqL K H a vs ∧ RepL K G ds vs := by
  rcases r with r | ⟨m, a, vs, h1, h2, h3, h4, h5⟩
  · simp only [Rep] at r
    obtain ⟨a, vs, h1, h2, h3⟩ := r
    exact ⟨a, vs, h1, s.sqL h2, h3⟩
  · cases m with
    | lst xs => cases h1; exact ⟨a, vs, h2, SqL.of h3, h5⟩
    | dic ks xs => cases h1
theorem RepB.tup {K : PySem.W.Frag} {G H : Hp} {ds : List D} {v : V} (r : RepB K G H (.tup ds) v) : Rep K G (.tup ds) v := by
  rcases r with r | ⟨m, a, vs, h1, _⟩
  · exact r
  · cases m <;> cases h1
theorem RepB.dic {K : PySem.W.Frag} {G H : Hp} {ks : List Key} {ds : List D} {v : V} (r : RepB K G H (.dic ks ds) v) (s : Same G H) : ∃ a vs, v = .ref a ∧ Rd H a (.dK (ks.zip vs)) ∧ ks.length = ds.length ∧ ks.Nodup ∧ RepL K G ds vs := by
  rcases r with r | ⟨m, a, vs, h1, h2, h3, h4, h5⟩
  · simp only [Rep] at r
    obtain ⟨a, vs, h1, h2, h3, h4, h5⟩ := r
    exact ⟨a, vs, h1, s.rd h2, h3, h4, h5⟩
  · cases m with
    | lst xs => cases h1
    | dic ks' xs => cases h1; exact ⟨a, vs, h2, .inl h3, h4.1, h4.2, h5⟩
theorem RepB.all {K : PySem.W.Frag} {G H : Hp} {d : D} {v : V} (r : RepB K G H d v) (s : Same G H) : Rep K H d v := by
  rcases r with r | ⟨m, a, vs, h1, h2, h3, h4, h5⟩
  · exact r.mono s
  · subst h1
    cases m with
    | lst xs => simp only [Mo.d, Rep]; exact ⟨a, vs, h2, SqL.of h3, h5.mono s⟩
    | dic ks xs => simp only [Mo.d, Rep]; exact ⟨a, vs, h2, .inl h3, h4.1, h4.2, h5.mono s⟩
def RepLB (K : PySem.W.Frag) (G H : Hp) : List D → List V → Prop
  | [], vs => vs = []
  | d :: ds, vs => ∃ v r, vs = v :: r ∧ RepB K G H d v ∧ RepLB K G H ds r
abbrev FE := En → Option D
def Gives (K : PySem.W.Frag) (t : TE) (f : FE) : Prop := ∀ (B G H : Hp) (δ : En) (σ : St) (d : D) (Q : VK), Same G H → RepS K B G H δ σ → f δ = some d →
  (∀ v G' H', Grow G H G' H' → Rep K G' d v → Q v H') → t σ H Q
def GivesB (K : PySem.W.Frag) (t : TE) (f : FE) : Prop := ∀ (B G H : Hp) (δ : En) (σ : St) (d : D) (Q : VK), Same G H → RepS K B G H δ σ → f δ = some d →
  (∀ v G' H', Grow G H G' H' → RepB K G' H' d v → Q v H') → t σ H Q
def PD (X : Cx) (e : Expr) (f : FE) : Prop := ∃ t, PE X e t ∧ Gives X.K t f
def PB (X : Cx) (e : Expr) (f : FE) : Prop := ∃ t, PE X e t ∧ GivesB X.K t f
theorem PD.pb {X : Cx} {e : Expr} {f : FE} (h : PD X e f) : PB X e f := by
  obtain ⟨t, pt, k⟩ := h
  exact ⟨t, pt, fun B G H δ σ d Q sG rs ef q => k B G H δ σ d Q sG rs ef fun v G' H' g r => q v G' H' g (.inl r)⟩
inductive Rs where
  | sh (d : D) | fr (m : Mo)
@[simp] def Rs.d : Rs → D | .sh d => d | .fr m => m.d
@[simp] def Rs.sl : Rs → Sl | .sh d => .sh d | .fr m => .pv m none
abbrev FR := En → Option Rs
def WantR (K : PySem.W.Frag) (G H : Hp) (Q : VK) : Rs → Prop
  | .sh d => ∀ v G' H', Grow G H G' H' → Rep K G' d v → Q v H'
  | .fr m => ∀ p vs G' H', Grow G H G' H' → H' p = none → m.ok → RepL K G' m.vals vs → Q (.ref p) (upd H' p (m.ho vs))
def GivesR (K : PySem.W.Frag) (t : TE) (f : FR) : Prop := ∀ (B G H : Hp) (δ : En) (σ : St) (r : Rs) (Q : VK), Same G H → RepS K B G H δ σ → f δ = some r → WantR K G H Q r → t σ H Q
def PR (X : Cx) (e : Expr) (f : FR) : Prop := ∃ t, PE X e t ∧ GivesR X.K t f
@[simp] def fSh (f : FE) : FR := fun δ => (f δ).map .sh
@[simp] def fPub (f : FR) : FE := fun δ => (f δ).map Rs.d
theorem PD.pr {X : Cx} {e : Expr} {f : FE} (h : PD X e f) : PR X e (fSh f) := by
  obtain ⟨t, pt, k⟩ := h
  refine ⟨t, pt, fun B G H δ σ r Q sG rs ef q => ?_⟩
  unfold fSh at ef
  obtain ⟨d, e1, rfl⟩ := Option.map_eq_some_iff.mp ef
  exact k B G H δ σ d Q sG rs e1 q
theorem rep_pub {K : PySem.W.Frag} {G : Hp} {p : Addr} {m : Mo} {vs : List V} (hn : G p = none) (ok : m.ok) (r : RepL K G m.vals vs) : Rep K (upd G p (m.ho vs)) m.d (.ref p) := by
  cases m with
  | lst xs => simp only [Mo.d, Rep]; exact ⟨p, vs, rfl, SqL.of upd_same, r.mono (same_new _ hn)⟩
  | dic ks xs => simp only [Mo.d, Rep]; exact ⟨p, vs, rfl, .inl upd_same, ok.1, ok.2, r.mono (same_new _ hn)⟩
theorem WantR.of {K : PySem.W.Frag} {G H : Hp} {Q : VK} {r : Rs} (q : ∀ v G' H', Grow G H G' H' → Rep K G' r.d v → Q v H') : WantR K G H Q r := by
  cases r with
  | sh d => exact q
  | fr m => exact fun p vs G' H' g hp ok rl => q _ _ _ (g.trans (Grow.laid g.s _ hp)) (rep_pub (g.s.free hp) ok rl)
theorem PR.pd {X : Cx} {e : Expr} {f : FR} (h : PR X e f) : PD X e (fPub f) := by
  obtain ⟨t, pt, k⟩ := h
  refine ⟨t, pt, fun B G H δ σ d Q sG rs ef q => ?_⟩
  unfold fPub at ef
  obtain ⟨r, e1, rfl⟩ := Option.map_eq_some_iff.mp ef
  exact k B G H δ σ r Q sG rs e1 (WantR.of q)
def PDT (X : Cx) (e : Expr) (f : En → Option Bool) : Prop := ∃ t, PT X e t ∧ ∀ (B G H : Hp) (δ : En) (σ : St) (b : Bool) (Q : Bool → Hp → Prop), Same G H → RepS X.K B G H δ σ → f δ = some b →
  (∀ G' H', Grow G H G' H' → Q b H') → t σ H Q
def PDW (X : Cx) (e : Expr) (f : En → Option Bool) : Prop := ∃ t, PW X e t ∧ ∀ (B G H : Hp) (δ : En) (σ : St) (b : Bool) (Q : Bool → Hp → Prop), Same G H → RepS X.K B G H δ σ → f δ = some b →
  (∀ G' H', Grow G H G' H' → Q b H') → t σ H Q
def PAD (X : Cx) (es : List Expr) (f : En → Option (List D)) : Prop := ∃ t, PA X es t ∧ ∀ (B G H : Hp) (δ : En) (σ : St) (ds : List D) (Q : List V → Hp → Prop), Same G H → RepS X.K B G H δ σ → f δ = some ds →
  (∀ vs G' H', Grow G H G' H' → RepL X.K G' ds vs → Q vs H') → t σ H Q
def PAB (X : Cx) (es : List Expr) (f : En → Option (List D)) : Prop := ∃ t, PA X es t ∧ ∀ (B G H : Hp) (δ : En) (σ : St) (ds : List D) (Q : List V → Hp → Prop), Same G H → RepS X.K B G H δ σ → f δ = some ds →
  (∀ vs G' H', Grow G H G' H' → RepLB X.K G' H' ds vs → Q vs H') → t σ H Q
section
variable {X : Cx} {e a b c : Expr} {es : List Expr} {f g h : FE} {pos p : Pos}
@[simp] def fVar (i : Nat) : FE := fun δ => match δ[i]? with | some (some (.sh d)) => some d | _ => none
theorem pd_var (i : Nat) {x : Str} (hN : X.N[i]? = some x := by rfl) (hv : Vis X.env.scope x := by first | exact Or.inl rfl | exact Or.inr (Or.inl rfl) | exact Or.inr (Or.inr rfl)) (hd : (x == ("__debug__" : Str)) = false := by decide)
    (hcd : (x == ("__classdict__" : Str)) = false := by decide) : PD X (.Name x pos) (fVar i) := by
  refine ⟨tVar i, pe_var hN hv hd hcd, fun B G H δ σ d Q sG rs ef k => ?_⟩
  unfold fVar at ef
  split at ef
  · rename_i d' ed
    cases ef
    obtain ⟨v, h1, h2⟩ := rs.at_ i _ ed
    exact ⟨v, h1, k v G H (Grow.refl sG) h2⟩
  · cases ef
@[simp] def fVarB (i : Nat) : FE := fun δ => match δ[i]? with | some (some x) => some x.d | _ => none
theorem pb_var (i : Nat) {x : Str} (hN : X.N[i]? = some x := by rfl) (hv : Vis X.env.scope x := by first | exact Or.inl rfl | exact Or.inr (Or.inl rfl) | exact Or.inr (Or.inr rfl)) (hd : (x == ("__debug__" : Str)) = false := by decide)
    (hcd : (x == ("__classdict__" : Str)) = false := by decide) : PB X (.Name x pos) (fVarB i) := by
  refine ⟨tVar i, pe_var hN hv hd hcd, fun B G H δ σ d Q sG rs ef k => ?_⟩
  unfold fVarB at ef
  split at ef
  · rename_i y ed
    cases ef
    obtain ⟨v, h1, h2⟩ := rs.at_ i _ ed
    refine ⟨v, h1, k v G H (Grow.refl sG) ?_⟩
    cases y with
    | sh d => exact .inl h2
    | pv m o =>
      obtain ⟨a, vs, e1, _, _, e2, e3, e4, _⟩ := h2
      exact .inr ⟨m, a, vs, rfl, e1, e2, e3, e4⟩
  · cases ef
@[simp] def fC (d : D) : FE := fun _ => some d
theorem pd_int {i j} : PD X (.Constant (.int i) j pos) (fC (.int i)) := ⟨_, pe_int, fun B G H δ σ d Q sG rs ef k => by cases ef; exact k _ G H (Grow.refl sG) (by simp [Rep])⟩
theorem pd_bl {i j} : PD X (.Constant (.bool i) j pos) (fC (.bl i)) := ⟨_, pe_bl, fun B G H δ σ d Q sG rs ef k => by cases ef; exact k _ G H (Grow.refl sG) (by simp [Rep])⟩
theorem pd_str {i j} : PD X (.Constant (.str i) j pos) (fC (.str i)) := ⟨_, pe_str, fun B G H δ σ d Q sG rs ef k => by cases ef; exact k _ G H (Grow.refl sG) (by simp [Rep])⟩
@[simp] def fNil : En → Option (List D) := fun _ => some []
@[simp] def fCons (f : FE) (g : En → Option (List D)) : En → Option (List D) := fun δ => (f δ).bind fun d => (g δ).bind fun ds => some (d :: ds)
theorem pad_nil : PAD X [] fNil := ⟨_, pa_nil, fun B G H δ σ d Q sG rs ef k => by cases ef; exact k _ G H (Grow.refl sG) (by simp [RepL])⟩
theorem pad_cons {g : En → Option (List D)} (ha : PD X e f) (hr : PAD X es g) (hs : starEach (e :: es) X.env = (false, eval e X.env) :: starEach es X.env := by rfl) : PAD X (e :: es) (fCons f g) := by
  obtain ⟨ta, pa, ka⟩ := ha
  obtain ⟨tr, pr, kr⟩ := hr
  refine ⟨_, pa_cons pa pr hs, fun B G H δ σ ds Q sG rs ef k => ?_⟩
  unfold fCons at ef
  obtain ⟨d, e1, ef⟩ := Option.bind_eq_some_iff.mp ef
  obtain ⟨ds', e2, ef⟩ := Option.bind_eq_some_iff.mp ef
  cases ef
  refine ka B G H δ σ d _ sG rs e1 fun v G1 H1 g1 r1 => kr B G1 H1 δ σ ds' _ g1.s (rs.grow g1) e2 fun vs G2 H2 g2 r2 => ?_
  exact k _ G2 H2 (g1.trans g2) (by simp only [RepL]; exact ⟨v, vs, rfl, r1.mono g2.g, r2⟩)
theorem pab_nil : PAB X [] fNil := ⟨_, pa_nil, fun B G H δ σ d Q sG rs ef k => by cases ef; exact k _ G H (Grow.refl sG) rfl⟩
theorem pab_cons {g : En → Option (List D)} (ha : PB X e f) (hr : PAB X es g) (hs : starEach (e :: es) X.env = (false, eval e X.env) :: starEach es X.env := by rfl) : PAB X (e :: es) (fCons f g) := by
  obtain ⟨ta, pa, ka⟩ := ha
  obtain ⟨tr, pr, kr⟩ := hr
  refine ⟨_, pa_cons pa pr hs, fun B G H δ σ ds Q sG rs ef k => ?_⟩
  unfold fCons at ef
  obtain ⟨d, e1, ef⟩ := Option.bind_eq_some_iff.mp ef
  obtain ⟨ds', e2, ef⟩ := Option.bind_eq_some_iff.mp ef
  cases ef
  refine ka B G H δ σ d _ sG rs e1 fun v G1 H1 g1 r1 => kr B G1 H1 δ σ ds' _ g1.s (rs.grow g1) e2 fun vs G2 H2 g2 r2 => ?_
  exact k _ G2 H2 (g1.trans g2) ⟨v, vs, rfl, r1.grow g2, r2⟩
def spD (K : PySem.W.Frag) (M : List D → Option Rs) : Sp := fun vs H Q _ => ∃ G ds r, Same G H ∧ RepL K G ds vs ∧ M ds = some r ∧ WantR K G H Q r
def DefOk (P : Program) (w : World) (K : PySem.W.Frag) (mg : Str → Option Value) (base : Heap) (k : Nat) (x : Str) (ps : List Str) (M : List D → Option Rs) : Prop :=
  ∃ f fd, FnOk P w K mg base CX0 k f fd ps (spD K M) ∧ Binds K fd ps [] ∧ PySem.W.keepIn K (.ref f) = true ∧ mg x = some (.ref f)
@[simp] def fCallR (M : List D → Option Rs) (g : En → Option (List D)) : FR := fun δ => (g δ).bind M
theorem WantR.mono {K : PySem.W.Frag} {G H G1 H1 : Hp} {Q : VK} {r : Rs} (q : WantR K G H Q r) (g : Grow G H G1 H1) : WantR K G1 H1 Q r := by
  cases r with
  | sh d => exact fun v G' H' g' => q v G' H' (g.trans g')
  | fr m => exact fun p vs G' H' g' => q p vs G' H' (g.trans g')
theorem pr_call {k : Nat} {x : Str} {ps : List Str} {M : List D → Option Rs} {g : En → Option (List D)} (F : DefOk X.prog X.w X.K X.mg X.base k x ps M) (hr : Room k X.A) (ha : PAD X (e :: es) g) (hg : Gl X x := by rfl)
    (hdb : (x == ("__debug__" : Str)) = false := by decide) (he : starEach (e :: es) X.env = (false, eval e X.env) :: starEach es X.env := by rfl) (hpl : (backTo pos (starEach es X.env)).any (·.1) = false := by rfl) :
    PR X (.Call (.Name x p) (e :: es) [] pos) (fCallR M g) := by
  obtain ⟨f, fd, F, hb, hk, hm⟩ := F
  obtain ⟨ta, pa, ka⟩ := ha
  refine ⟨_, pe_call F hr hg hm hk hb .nil pass0 pa hdb he hpl, fun B G H δ σ r Q sG rs ef k => ?_⟩
  unfold fCallR at ef
  obtain ⟨ds, e1, ef⟩ := Option.bind_eq_some_iff.mp ef
  refine ka B G H δ σ ds _ sG rs e1 fun vs G1 H1 g1 r1 => ?_
  rw [List.append_nil]
  exact ⟨G1, ds, r, g1.s, r1, ef, k.mono g1⟩
def flatD : D → Bool | .non => true | .bl _ => true | .int _ => true | .str _ => true | _ => false
def CallD (X : Cx) (f : Value) (c : List D → Option D) : Prop := ∃ r, CallR X f r ∧ ∀ (G H : Hp) (ds : List D) (vs : List V) (d : D) (Q : VK), Same G H → RepLB X.K G H ds vs → c ds = some d →
  (∀ v G' H', Grow G H G' H' → Rep X.K G' d v → Q v H') → r vs H Q
@[simp] def fCallB (M : List D → Option D) (g : En → Option (List D)) : FE := fun δ => (g δ).bind M
theorem pd_callB {x : Str} {id : String} {cD : List D → Option D} {g : En → Option (List D)} (hc : CallD X (.builtin id) cD) (hm : X.mg x = none) (hv : bootBuiltins x = some (.builtin id)) (ha : PAB X (e :: es) g) (hg : Gl X x := by rfl)
    (hn : x ≠ "__name__" := by decide) (hdb : (x == ("__debug__" : Str)) = false := by decide)
    (he : starEach (e :: es) X.env = (false, eval e X.env) :: starEach es X.env := by rfl) (hpl : (backTo pos (starEach es X.env)).any (·.1) = false := by rfl) : PD X (.Call (.Name x p) (e :: es) [] pos) (fCallB cD g) := by
  obtain ⟨r, hc, kc⟩ := hc
  obtain ⟨ta, pa, ka⟩ := ha
  refine ⟨_, pe_callB hc hg hm hv pa hn hdb he hpl, fun B G H δ σ d Q sG rs ef k => ?_⟩
  unfold fCallB at ef
  obtain ⟨ds, e1, ef⟩ := Option.bind_eq_some_iff.mp ef
  exact ka B G H δ σ ds _ sG rs e1 fun vs G1 H1 g1 r1 => kc G1 H1 ds vs d Q g1.s r1 ef fun v G' H' g2 r2 => k v G' H' (g1.trans g2) r2
def OpD (X : Cx) (f : Value → Value → Sem Value) (o : D → D → Option D) : Prop := ∃ r, OpR X f r ∧ ∀ (G H : Hp) (x y : D) (v u : V) (d : D) (Q : VK), Same G H → RepB X.K G H x v → RepB X.K G H y u → o x y = some d →
  (∀ v G' H', Grow G H G' H' → Rep X.K G' d v → Q v H') → r v u H Q
theorem OpD.or {F : Value → Value → Sem Value} {o o' : D → D → Option D} (h : OpD X F o) (h' : OpD X F o') : OpD X F (fun x y => (o x y).or (o' x y)) := by
  obtain ⟨r, h1, h2⟩ := h
  obtain ⟨r', h1', h2'⟩ := h'
  refine ⟨_, h1.or h1', fun G H x y v u d Q sG rx ry e k => ?_⟩
  cases eo : o x y with
  | some z =>
    have : z = d := by simpa [eo] using e
    subst this
    exact .inl (h2 G H x y v u z Q sG rx ry eo k)
  | none => exact .inr (h2' G H x y v u d Q sG rx ry (by simpa [eo] using e) k)
@[simp] def f2 (o : D → D → Option D) (f g : FE) : FE := fun δ => (f δ).bind fun x => (g δ).bind fun y => o x y
theorem gives_op {r : R2} {o : D → D → Option D} {ta tb : TE} (ka : GivesB X.K ta f) (kb : GivesB X.K tb g) (ko : ∀ (G H : Hp) (x y : D) (v u : V) (d : D) (Q : VK), Same G H → RepB X.K G H x v → RepB X.K G H y u → o x y = some d →
    (∀ v G' H', Grow G H G' H' → Rep X.K G' d v → Q v H') → r v u H Q) : Gives X.K (tOp r ta tb) (f2 o f g) := fun B G H δ σ d Q sG rs ef k => by
  unfold f2 at ef
  obtain ⟨x, e1, ef⟩ := Option.bind_eq_some_iff.mp ef
  obtain ⟨y, e2, ef⟩ := Option.bind_eq_some_iff.mp ef
  exact ka B G H δ σ x _ sG rs e1 fun v G1 H1 g1 r1 => kb B G1 H1 δ σ y _ g1.s (rs.grow g1) e2 fun u G2 H2 g2 r2 =>
    ko G2 H2 x y v u d Q g2.s (r1.grow g2) r2 ef fun v G' H' g3 r3 => k v G' H' ((g1.trans g2).trans g3) r3
theorem pd_op {op : Operator} {o : D → D → Option D} (ho : OpD X (binaryOp op) o) (ha : PB X a f) (hb : PB X b g) : PD X (.BinOp a op b pos) (f2 o f g) := by
  obtain ⟨r, ho, ko⟩ := ho
  obtain ⟨ta, pa, ka⟩ := ha
  obtain ⟨tb, pb, kb⟩ := hb
  exact ⟨_, pe_op ho pa pb, gives_op ka kb ko⟩
theorem pd_cmp {op : CmpOp} {o : D → D → Option D} (ho : OpD X (compareOp op) o) (ha : PB X a f) (hb : PB X b g) (hm : behindInMarks op b = false := by first | exact nomark _ | with_unfolding_all rfl) : PD X (.Compare a [op] [b] pos) (f2 o f g) := by
  obtain ⟨r, ho, ko⟩ := ho
  obtain ⟨ta, pa, ka⟩ := ha
  obtain ⟨tb, pb, kb⟩ := hb
  exact ⟨_, pe_cmpR ho pa pb hm, gives_op ka kb ko⟩
@[simp] def fB (f : FE) : En → Option Bool := fun δ => match f δ with | some (.bl b) => some b | _ => none
theorem fB_some {δ : En} {b : Bool} (e : fB f δ = some b) : f δ = some (.bl b) := by
  unfold fB at e
  split at e
  · rename_i h; cases e; exact h
  · cases e
theorem pdt_cmp {op : CmpOp} {o : D → D → Option D} (ho : OpD X (compareOp op) o) (ha : PB X a f) (hb : PB X b g) (hm : behindInMarks op b = false := by first | exact nomark _ | with_unfolding_all rfl) : PDT X (.Compare a [op] [b] pos) (fB (f2 o f g)) := by
  obtain ⟨r, ho, ko⟩ := ho
  obtain ⟨ta, pa, ka⟩ := ha
  obtain ⟨tb, pb, kb⟩ := hb
  refine ⟨_, pt_cmpR ho pa pb hm, fun B G H δ σ q Q sG rs ef k => ?_⟩
  refine gives_op ka kb ko B G H δ σ _ _ sG rs (fB_some ef) fun v G' H' g1 r1 => ?_
  simp only [Rep] at r1
  exact ⟨q, r1, k G' H' g1⟩
theorem pdt_val (h : PD X e f) (he : ∀ whole, isTrue e X.env whole = (do let v ← whole; standAt e.pos; holding [v] (truthy v)) := by intro _; rfl) : PDT X e (fB f) := by
  obtain ⟨t, pe, ke⟩ := h
  refine ⟨_, pt_val pe he, fun B G H δ σ q Q sG rs ef k => ?_⟩
  refine ke B G H δ σ _ _ sG rs (fB_some ef) fun v G' H' g1 r1 => ?_
  simp only [Rep] at r1
  exact ⟨q, r1, k G' H' g1⟩
@[simp] def f3 (o o' : D → D → Option D) (f g h : FE) : FE := fun δ => (f δ).bind fun x => (g δ).bind fun y => (o x y).bind fun z => match z with | .bl true => (h δ).bind fun w => o' y w | .bl false => some (.bl false) | _ => none
@[simp] def bOr (f g : En → Option Bool) : En → Option Bool := fun δ => (f δ).bind fun x => if x = true then some true else g δ
@[simp] def bNot (f : En → Option Bool) : En → Option Bool := fun δ => (f δ).map (!·)
variable {fb gb : En → Option Bool} {rest : List Expr}
theorem PDW.pdt (h : PDW X e fb) : PDT X e fb := by
  obtain ⟨t, pw, k⟩ := h
  exact ⟨t, pw.pt, k⟩
theorem pdw_or1 (ha : PDT X a fb) : PDW X (.BoolOp .Or [a] pos) fb := by
  obtain ⟨t, pt, k⟩ := ha
  exact ⟨t, pw_or1 pt, k⟩
theorem pdw_or (ha : PDT X a fb) (hb : PDW X (.BoolOp .Or (b :: rest) pos) gb) : PDW X (.BoolOp .Or (a :: b :: rest) pos) (bOr fb gb) := by
  obtain ⟨t, pt, k1⟩ := ha
  obtain ⟨u, pu, k2⟩ := hb
  refine ⟨_, pw_or pt pu, fun B G H δ σ q Q sG rs ef k => ?_⟩
  unfold bOr at ef
  obtain ⟨x, e1, ef⟩ := Option.bind_eq_some_iff.mp ef
  refine k1 B G H δ σ x _ sG rs e1 fun G1 H1 g1 => ?_
  cases x with
  | false => rw [if_neg Bool.false_ne_true] at ef ⊢; exact k2 B G1 H1 δ σ q Q g1.s (rs.grow g1) ef fun G' H' g2 => k G' H' (g1.trans g2)
  | true => rw [if_pos rfl] at ef ⊢; cases ef; exact k G1 H1 g1
theorem pdt_not (ha : PDT X a fb) : PDT X (.UnaryOp .Not a pos) (bNot fb) := by
  obtain ⟨t, pt, k1⟩ := ha
  refine ⟨_, L2.pt_not pt, fun B G H δ σ q Q sG rs ef k => ?_⟩
  unfold bNot at ef
  obtain ⟨x, e1, ef⟩ := Option.map_eq_some_iff.mp ef
  subst ef
  exact k1 B G H δ σ x _ sG rs e1 fun G1 H1 g1 => k G1 H1 g1
@[simp] def fAnd (f g : FE) : FE := fun δ => match f δ with | some (.bl true) => g δ | some (.bl false) => some (.bl false) | _ => none
theorem pd_one {op} (h : PD X a f) : PD X (.BoolOp op [a] pos) f := by
  obtain ⟨t, pt, k⟩ := h
  exact ⟨t, pe_one pt, k⟩
theorem pd_and (ha : PD X a f) (hb : PD X (.BoolOp .And (b :: rest) pos) g) : PD X (.BoolOp .And (a :: b :: rest) pos) (fAnd f g) := by
  obtain ⟨t, pt, k1⟩ := ha
  obtain ⟨u, pu, k2⟩ := hb
  refine ⟨_, pe_and pt pu, fun B G H δ σ q Q sG rs ef k => ?_⟩
  unfold fAnd at ef
  split at ef
  · rename_i e1
    refine k1 B G H δ σ _ _ sG rs e1 fun v G1 H1 g1 r1 => ⟨true, by simpa only [Rep] using r1, ?_⟩
    rw [if_pos rfl]
    exact k2 B G1 H1 δ σ q Q g1.s (rs.grow g1) ef fun v G' H' g2 r2 => k v G' H' (g1.trans g2) r2
  · rename_i e1
    cases ef
    refine k1 B G H δ σ _ _ sG rs e1 fun v G1 H1 g1 r1 => ⟨false, by simpa only [Rep] using r1, ?_⟩
    rw [if_neg Bool.false_ne_true]
    exact k _ G1 H1 g1 (by simp [Rep])
  · cases ef
@[simp] def fTup (g : En → Option (List D)) : FE := fun δ => (g δ).bind fun ds => if ds.length ≤ sizeLine then some (.tup ds) else none
theorem rep_tup {K : PySem.W.Frag} {G : Hp} {p : Addr} {ds : List D} {vs : List V} (hn : G p = none) (r : RepL K G ds vs) : Rep K (upd G p (.tup vs)) (.tup ds) (.ref p) := by
  simp only [Rep]
  exact ⟨p, vs, rfl, SqT.of upd_same, r.mono (same_new _ hn)⟩
theorem rep_lst {K : PySem.W.Frag} {G : Hp} {p : Addr} {ds : List D} {vs : List V} (hn : G p = none) (r : RepL K G ds vs) : Rep K (upd G p (.lst vs)) (.lst ds) (.ref p) := by
  simp only [Rep]
  exact ⟨p, vs, rfl, SqL.of upd_same, r.mono (same_new _ hn)⟩
theorem pd_tup {x1} {g : En → Option (List D)} (ha : PAD X es g) : PD X (.Tuple es x1 pos) (fTup g) := by
  obtain ⟨t, pt, k1⟩ := ha
  refine ⟨_, pe_tup pt, fun B G H δ σ q Q sG rs ef k => ?_⟩
  unfold fTup at ef
  obtain ⟨ds, e1, ef⟩ := Option.bind_eq_some_iff.mp ef
  split at ef
  · rename_i hl
    cases ef
    exact k1 B G H δ σ ds _ sG rs e1 fun vs G1 H1 g1 r1 => ⟨by rw [← r1.length]; exact hl, fun p hp => k _ _ _ (g1.trans (Grow.laid g1.s _ hp)) (rep_tup (g1.s.free hp) r1)⟩
  · cases ef
@[simp] def fLstR (g : En → Option (List D)) : FR := fun δ => (g δ).bind fun ds => if ds.length ≤ sizeLine then some (.fr (.lst ds)) else none
theorem pr_lst {g : En → Option (List D)} (ha : PAD X es g) : PR X (.List es pos) (fLstR g) := by
  obtain ⟨t, pt, k1⟩ := ha
  refine ⟨_, pe_lst pt, fun B G H δ σ q Q sG rs ef k => ?_⟩
  unfold fLstR at ef
  obtain ⟨ds, e1, ef⟩ := Option.bind_eq_some_iff.mp ef
  split at ef
  · rename_i hl
    cases ef
    exact k1 B G H δ σ ds _ sG rs e1 fun vs G1 H1 g1 r1 => ⟨by rw [← r1.length]; exact hl, fun p hp => k p vs G1 H1 g1 hp True.intro r1⟩
  · cases ef
def ixD : D → D → Option D
  | .lst ds, .int i => atI ds i
  | .tup ds, .int i => atI ds i
  | .str z, .int i => if z.length ≤ sizeLine then (atI z.cps.toList i).map fun c => .str ⟨#[c]⟩ else none
  | _, _ => none
theorem RepL.atI {K : PySem.W.Frag} {H : Hp} {ds : List D} {vs : List V} {i : Int} {d : D} (r : RepL K H ds vs) (e : L2.atI ds i = some d) : ∃ v, L2.atI vs i = some v ∧ Rep K H d v := by
  unfold L2.atI at e ⊢
  rw [← r.length]
  obtain ⟨j, e1, e2⟩ := Option.bind_eq_some_iff.mp e
  obtain ⟨v, h1, h2⟩ := r.get e2
  exact ⟨v, by rw [e1]; exact h1, h2⟩
def keyD : D → Option Key | .int i => some (.inl i) | .str x => some (.inr x) | _ => none
def valD (ks : List Key) (ds : List D) (k : Key) : Option D := ((ks.zip ds).find? fun kv => decide (kv.1 = k)).map (·.2)
theorem valD_rep {K : PySem.W.Frag} {G : Hp} (k : Key) : ∀ {ks : List Key} {ds : List D} {vs : List V}, ks.length = ds.length → RepL K G ds vs → (∀ d, valD ks ds k = some d → ∃ v, valV (ks.zip vs) k = some v ∧ Rep K G d v) ∧ (valD ks ds k = none → valV (ks.zip vs) k = none)
  | [], _, _, _, _ => ⟨fun d e => (by cases e), fun _ => rfl⟩
  | k0 :: ks, [], _, hl, _ => by cases hl
  | k0 :: ks, d0 :: ds, _, hl, r => by
    simp only [RepL] at r
    obtain ⟨v, us, rfl, r1, r2⟩ := r
    have ih := valD_rep k (ks := ks) (ds := ds) (by simpa using hl) r2
    by_cases h : k0 = k
    · subst h
      refine ⟨fun d e => ?_, fun e => ?_⟩
      · have : d0 = d := by simpa [valD] using e
        subst this
        exact ⟨v, by simp [valV], r1⟩
      · simp [valD] at e
    · have e1 : valD (k0 :: ks) (d0 :: ds) k = valD ks ds k := by simp [valD, h]
      have e2 : valV ((k0 :: ks).zip (v :: us)) k = valV (ks.zip us) k := by simp [valV, h]
      rw [e1, e2]
      exact ih
theorem keyD_rep {K : PySem.W.Frag} {G H : Hp} {d : D} {k : Key} {v : V} (e : keyD d = some k) (r : RepB K G H d v) : v = kV k := by
  rcases r with r | ⟨m, a, vs, h1, _⟩
  · cases d <;> simp only [keyD, Rep] at e r <;> first | cases e | skip
    all_goals (subst r; rfl)
  · subst h1
    cases m <;> cases e
theorem RepB.flat {K : PySem.W.Frag} {G H : Hp} {d : D} {v : V} (e : flatD d = true) (r : RepB K G H d v) : Rep K G d v := by
  rcases r with r | ⟨m, a, vs, h1, _⟩
  · exact r
  · subst h1; cases m <;> cases e
def rIxD : R2 := fun x y H Q => ∃ a v, x = .ref a ∧ DGet H a y (some v) ∧ Q v H
theorem ix_dict (hu : X.A.units + 1 < cLine) : IxR X rIxD := by
  intro value slice pins s σ H x y v u Q I rx ry h hs
  obtain ⟨a, w', rfl, g, q⟩ := h
  cases rx
  exact tail_any (dict_typeIs I g) PySem.slot_dict_getitem.lookup (d_getItem hu I g ry fun w2 s' I' r' => ⟨_, H, I', r', q⟩) hs
def ixA : D → D → Option D
  | .dic ks ds, y => (keyD y).bind fun k => valD ks ds k
  | x, y => ixD x y
theorem pd_ix (hu : X.A.units + 1 < cLine) (ha : PB X a f) (hb : PB X b g) (hs : PlainIx b := by intro _ _; rfl) : PD X (.Subscript a b pos) (f2 ixA f g) := by
  obtain ⟨ta, pa, ka⟩ := ha
  obtain ⟨tb, pb, kb⟩ := hb
  refine ⟨_, pe_ix (ix_seq.or (ix_dict hu)) pa pb hs, gives_op ka kb fun G H x y v u d Q sG rx ry e k => ?_⟩
  unfold ixA at e
  split at e
  · obtain ⟨kk, e1, e2⟩ := Option.bind_eq_some_iff.mp e
    obtain ⟨a, vs, rfl, hd, hl, nd, rl⟩ := rx.dic sG
    obtain ⟨w', e3, r3⟩ := (valD_rep kk hl rl).1 d e2
    have := keyD_rep e1 ry
    subst this
    exact .inr ⟨a, w', rfl, .inl ⟨_, kk, hd, rfl, e3.symm⟩, k w' G H (Grow.refl sG) r3⟩
  · rename_i x' y' hx
    unfold ixD at e
    split at e
    · obtain ⟨p, vs, rfl, hq, rl⟩ := rx.lst sG
      have ry := ry.flat rfl
      simp only [Rep] at ry
      obtain ⟨w, e1, r1⟩ := rl.atI e
      exact .inl (.inl ⟨p, vs, _, w, rfl, ry, hq, e1, k w G H (Grow.refl sG) r1⟩)
    · have rx := rx.tup
      have ry := ry.flat rfl
      simp only [Rep] at rx ry
      obtain ⟨p, vs, rfl, hq, rl⟩ := rx
      obtain ⟨w, e1, r1⟩ := rl.atI e
      exact .inl (.inr (.inl ⟨p, vs, _, w, rfl, ry, sG.sqT hq, e1, k w G H (Grow.refl sG) r1⟩))
    · have rx := rx.flat rfl
      have ry := ry.flat rfl
      simp only [Rep] at rx ry
      split at e
      · rename_i hl
        obtain ⟨c, e1, rfl⟩ := Option.map_eq_some_iff.mp e
        exact .inl (.inr (.inr ⟨_, _, c, rx, ry, hl, e1, k _ G H (Grow.refl sG) (by simp [Rep])⟩))
      · cases e
    · cases e
end
end L2
set_option Elab.async false
set_option linter.all false
set_option maxRecDepth 100000
set_option maxHeartbeats 4000000
namespace L2
open PySem PySem.Spec PyProof.Rows
section
variable {X : Cx}
theorem opd_i0 {f : Value → Value → Sem Value} {g : Int → Int → V} {g' : Int → Int → D} (h : OpR X f (rI0 g)) (hg : ∀ G i j, Rep X.K G (g' i j) (g i j)) :
    OpD X f (fun x y => match x, y with | .int i, .int j => some (g' i j) | _, _ => none) := by
  refine ⟨_, h, fun G H x y v u d Q sG rx ry e k => ?_⟩
  dsimp only at e
  split at e
  · cases e
    have rx := rx.flat rfl
    have ry := ry.flat rfl
    simp only [Rep] at rx ry
    exact ⟨_, _, rx, ry, k _ G H (Grow.refl sG) (hg _ _ _)⟩
  · cases e
theorem opd_i {f : Value → Value → Sem Value} {C : Int → Int → Prop} [∀ i j, Decidable (C i j)] {g : Int → Int → V} {g' : Int → Int → D} (h : OpR X f (rI C g)) (hg : ∀ G i j, Rep X.K G (g' i j) (g i j)) :
    OpD X f (fun x y => match x, y with | .int i, .int j => if C i j then some (g' i j) else none | _, _ => none) := by
  refine ⟨_, h, fun G H x y v u d Q sG rx ry e k => ?_⟩
  dsimp only at e
  split at e
  · split at e
    · rename_i hc
      cases e
      have rx := rx.flat rfl
      have ry := ry.flat rfl
      simp only [Rep] at rx ry
      exact ⟨_, _, rx, ry, hc, k _ G H (Grow.refl sG) (hg _ _ _)⟩
    · cases e
  · cases e
instance (i j : Int) : Decidable (CDiv i j) := inferInstanceAs (Decidable (_ ∧ _))
instance (i j : Int) : Decidable (CMul i j) := inferInstanceAs (Decidable (_ ∨ _))
instance (i j : Int) : Decidable (CPow i j) := inferInstanceAs (Decidable (_ ∧ _ ∧ _))
def iAdd : D → D → Option D | .int i, .int j => some (.int (i + j)) | _, _ => none
def subD : D → D → Option D | .int i, .int j => some (.int (i - j)) | _, _ => none
def iMul : D → D → Option D | .int i, .int j => if CMul i j then some (.int (i * j)) else none | _, _ => none
def fdivD : D → D → Option D | .int i, .int j => if CDiv i j then some (.int (i / j)) else none | _, _ => none
def modD : D → D → Option D | .int i, .int j => if 0 < j then some (.int (i % j)) else none | _, _ => none
def powD : D → D → Option D | .int i, .int j => if CPow i j then some (.int (i ^ j.toNat)) else none | _, _ => none
theorem od_iadd : OpD X (binaryOp .Add) iAdd := opd_i0 op_add fun _ _ _ => by simp [Rep]
theorem od_sub : OpD X (binaryOp .Sub) subD := opd_i0 op_sub fun _ _ _ => by simp [Rep]
theorem od_imul : OpD X (binaryOp .Mult) iMul := opd_i op_mul fun _ _ _ => by simp [Rep]
theorem od_fdiv : OpD X (binaryOp .FloorDiv) fdivD := opd_i op_fdiv fun _ _ _ => by simp [Rep]
theorem od_mod : OpD X (binaryOp .Mod) modD := opd_i op_mod fun _ _ _ => by simp [Rep]
theorem od_pow : OpD X (binaryOp .Pow) powD := opd_i op_pow fun _ _ _ => by simp [Rep]
def sAdd : D → D → Option D | .str i, .str j => if i.length + j.length ≤ sizeLine then some (.str (i ++ j)) else none | _, _ => none
theorem od_sadd : OpD X (binaryOp .Add) sAdd := by
  refine ⟨_, op_add_str, fun G H x y v u d Q sG rx ry e k => ?_⟩
  unfold sAdd at e
  split at e
  · split at e
    · rename_i hc
      cases e
      have rx := rx.flat rfl
      have ry := ry.flat rfl
      simp only [Rep] at rx ry
      exact ⟨_, _, rx, ry, hc, k _ G H (Grow.refl sG) (by simp [Rep])⟩
    · cases e
  · cases e
def rCatL (K : PySem.W.Frag) : R2 := fun x y H Q => ∃ l b xs zs, x = .ref l ∧ y = .ref b ∧ SqL K H l xs ∧ SqL K H b zs ∧ xs.length + zs.length ≤ sizeLine ∧ ∀ p, H p = none → Q (.ref p) (upd H p (.lst (xs ++ zs)))
def lAdd : D → D → Option D | .lst i, .lst j => if i.length + j.length ≤ sizeLine then some (.lst (i ++ j)) else none | _, _ => none
theorem od_ladd (h : OpR X (binaryOp .Add) (rCatL X.K)) : OpD X (binaryOp .Add) lAdd := by
  refine ⟨_, h, fun G H x y v u d Q sG rx ry e k => ?_⟩
  unfold lAdd at e
  split at e
  · split at e
    · rename_i hc
      cases e
      obtain ⟨p1, xs, rfl, q1, r1⟩ := rx.lst sG
      obtain ⟨p2, ys, rfl, q2, r2⟩ := ry.lst sG
      exact ⟨p1, p2, xs, ys, rfl, rfl, q1, q2, by rw [← r1.length, ← r2.length]; exact hc, fun p hp => k _ _ _ (Grow.laid sG _ hp) (rep_lst (sG.free hp) (r1.append r2))⟩
    · cases e
  · cases e
def iCmp (f : Int → Int → Bool) : D → D → Option D | .int i, .int j => some (.bl (f i j)) | _, _ => none
theorem od_gt : OpD X (compareOp .Gt) (iCmp fun i j => decide (j < i)) := opd_i0 op_gt fun _ _ _ => by simp [Rep]
def scalV : D → Option V
  | .non => some .non | .bl b => some (.bl b) | .int i => some (.int i) | .str x => some (.str x) | _ => none
theorem scalV_flat {d : D} {w : V} (e : scalV d = some w) : flatD d = true := by
  cases d <;> first | rfl | cases e
theorem scalV_rep {K : PySem.W.Frag} {G H : Hp} {d : D} {v w : V} (e : scalV d = some w) (r : RepB K G H d v) : v = w := by
  have r := r.flat (scalV_flat e)
  cases d <;> simp only [scalV, Rep] at e r <;> first | cases e | skip
  all_goals exact r
def sEq (n : Bool) : D → D → Option D := fun x y => (scalV x).bind fun v => (scalV y).bind fun u => if scal v u = true then some (.bl (if n then !decide (v = u) else decide (v = u))) else none
theorem od_seq : OpD X (compareOp .Eq) (sEq false) := by
  refine ⟨_, op_eq, fun G H x y v u d Q sG rx ry e k => ?_⟩
  unfold sEq at e
  obtain ⟨v', e1, e⟩ := Option.bind_eq_some_iff.mp e
  obtain ⟨u', e2, e⟩ := Option.bind_eq_some_iff.mp e
  obtain rfl := scalV_rep e1 rx
  obtain rfl := scalV_rep e2 ry
  split at e
  · rename_i hs
    cases e
    exact ⟨hs, k _ G H (Grow.refl sG) (by simp [Rep])⟩
  · cases e
theorem od_sne : OpD X (compareOp .NotEq) (sEq true) := by
  refine ⟨_, op_ne, fun G H x y v u d Q sG rx ry e k => ?_⟩
  unfold sEq at e
  obtain ⟨v', e1, e⟩ := Option.bind_eq_some_iff.mp e
  obtain ⟨u', e2, e⟩ := Option.bind_eq_some_iff.mp e
  obtain rfl := scalV_rep e1 rx
  obtain rfl := scalV_rep e2 ry
  split at e
  · rename_i hs
    cases e
    exact ⟨hs, k _ G H (Grow.refl sG) (by simp [Rep])⟩
  · cases e
def toV : D → V | .non => .non | .bl b => .bl b | .int i => .int i | .str x => .str x | _ => .non
theorem rep_flat {K : PySem.W.Frag} {G : Hp} {d : D} {v : V} (e : flatD d = true) (r : Rep K G d v) : v = toV d ∧ flatV v = true := by
  cases d with
  | non => simp only [Rep] at r; subst r; exact ⟨rfl, rfl⟩
  | bl b => simp only [Rep] at r; subst r; exact ⟨rfl, rfl⟩
  | int b => simp only [Rep] at r; subst r; exact ⟨rfl, rfl⟩
  | str b => simp only [Rep] at r; subst r; exact ⟨rfl, rfl⟩
  | tup b => cases e
  | lst b => cases e
  | dic ks b => cases e
theorem repL_flat {K : PySem.W.Frag} {G : Hp} : ∀ {ds : List D} {vs : List V}, ds.all flatD = true → RepL K G ds vs → vs = ds.map toV ∧ vs.all flatV = true
  | [], _, _, r => by simp only [RepL] at r; subst r; exact ⟨rfl, rfl⟩
  | d :: ds, _, e, r => by
    simp only [RepL] at r
    obtain ⟨v, us, rfl, r1, r2⟩ := r
    rw [List.all_cons, Bool.and_eq_true] at e
    obtain ⟨h1, h2⟩ := rep_flat e.1 r1
    obtain ⟨h3, h4⟩ := repL_flat e.2 r2
    exact ⟨by rw [h1, h3]; rfl, by rw [List.all_cons, h2, h4]; rfl⟩
def inSeq (x : D) (ds : List D) : Option Bool := if flatD x = true ∧ ds.all flatD = true then some (inV (toV x) (ds.map toV)) else none
def inD (n : Bool) : D → D → Option D
  | x, .tup ds => (inSeq x ds).map fun b => .bl (if n then !b else b)
  | x, .lst ds => (inSeq x ds).map fun b => .bl (if n then !b else b)
  | .str i, .str j => some (.bl (if n then !(!(Builtin.Str.occurrences j i 0 j.length 1).isEmpty) else !(Builtin.Str.occurrences j i 0 j.length 1).isEmpty))
  | _, _ => none
theorem od_notin : OpD X (compareOp .NotIn) (inD true) := by
  refine ⟨_, (op_notIn_seq.or op_notIn_str), fun G H x y v u d Q sG rx ry e k => ?_⟩
  unfold inD at e
  split at e
  · obtain ⟨b, e1, rfl⟩ := Option.map_eq_some_iff.mp e
    unfold inSeq at e1
    split at e1
    · rename_i hc
      cases e1
      have ry := ry.tup
      simp only [Rep] at ry
      obtain ⟨p, vs, rfl, q, r⟩ := ry
      obtain ⟨h1, h2⟩ := rep_flat hc.1 (rx.flat hc.1)
      obtain ⟨h3, h4⟩ := repL_flat hc.2 r
      subst h1 h3
      exact .inl ⟨p, _, rfl, .inr (sG.sqT q), h2, h4, k _ G H (Grow.refl sG) (by simp [Rep])⟩
    · cases e1
  · obtain ⟨b, e1, rfl⟩ := Option.map_eq_some_iff.mp e
    unfold inSeq at e1
    split at e1
    · rename_i hc
      cases e1
      obtain ⟨p, vs, rfl, q, r⟩ := ry.lst sG
      obtain ⟨h1, h2⟩ := rep_flat hc.1 (rx.flat hc.1)
      obtain ⟨h3, h4⟩ := repL_flat hc.2 r
      subst h1 h3
      exact .inl ⟨p, _, rfl, .inl q, h2, h4, k _ G H (Grow.refl sG) (by simp [Rep])⟩
    · cases e1
  · cases e
    have rx := rx.flat rfl
    have ry := ry.flat rfl
    simp only [Rep] at rx ry
    exact .inr ⟨_, _, rx, ry, k _ G H (Grow.refl sG) (by simp [Rep])⟩
  · cases e
def cutD (xs : List D) (lo hi : Option Int) : List D := (xs.drop (HT.sIx xs.length 0 lo)).take (HT.sIx xs.length xs.length hi - HT.sIx xs.length 0 lo)
theorem RepL.cut {K : PySem.W.Frag} {G : Hp} {ds : List D} {vs : List V} (r : RepL K G ds vs) (lo hi : Option Int) : RepL K G (cutD ds lo hi) (cutV vs lo hi) := by
  unfold cutD cutV
  rw [r.length]
  exact (r.drop _).take _
def POD (X : Cx) (e : Option Expr) (f : En → Option (Option Int)) : Prop := ∃ t, PO X e t ∧ ∀ (B G H : Hp) (δ : En) (σ : St) (o : Option Int) (Q : Option Int → Hp → Prop), Same G H → RepS X.K B G H δ σ → f δ = some o →
  (∀ G' H', Grow G H G' H' → Q o H') → t σ H Q
theorem pod_none : POD X none (fun _ => some none) := ⟨_, po_none, fun B G H δ σ o Q sG rs e k => by cases e; exact k G H (Grow.refl sG)⟩
@[simp] def oInt (f : FE) : En → Option (Option Int) := fun δ => match f δ with | some (.int i) => some (some i) | _ => none
theorem pod_some {e : Expr} {f : FE} (h : PD X e f) : POD X (some e) (oInt f) := by
  obtain ⟨t, pt, k1⟩ := h
  refine ⟨_, po_some pt, fun B G H δ σ o Q sG rs e k => ?_⟩
  unfold oInt at e
  split at e
  · rename_i i e1
    cases e
    exact k1 B G H δ σ _ _ sG rs e1 fun v G' H' g1 r1 => ⟨i, by simpa only [Rep] using r1, k G' H' g1⟩
  · cases e
def slD (x : D) (lo hi : Option Int) : Option Rs := match x with
  | .lst ds => some (.fr (.lst (cutD ds lo hi)))
  | .tup ds => if HT.sIx ds.length 0 lo = 0 ∧ HT.sIx ds.length ds.length hi = ds.length then none else some (.sh (.tup (cutD ds lo hi)))
  | _ => none
def lenD : List D → Option D
  | [.lst ds] => some (.int ds.length)
  | [.tup ds] => some (.int ds.length)
  | [.str z] => if z.length ≤ sizeLine then some (.int z.length) else none
  | [.dic ks ds] => some (.int ds.length)
  | _ => none
theorem repLB_one {K : PySem.W.Frag} {G H : Hp} {d : D} {vs : List V} (r : RepLB K G H [d] vs) : ∃ v, vs = [v] ∧ RepB K G H d v := by
  obtain ⟨v, us, rfl, r1, r2⟩ := r
  simp only [RepLB] at r2
  subst r2
  exact ⟨v, rfl, r1⟩
theorem cd_len : CallD X (.builtin "len") lenD := by
  refine ⟨_, (call_len_seq.or call_len_str).or (show CallR X (.builtin "len") (fun xs H Q => ∃ a kvs, xs = [V.ref a] ∧ Rd H a (.dK kvs) ∧ Q (.int kvs.length) H) from ?_), fun G H ds vs d Q sG r e k => ?_⟩
  · intro pins s σ H xs us Q I r h
    obtain ⟨a, kvs, rfl, ha, q⟩ := h
    obtain ⟨u, rfl, ru⟩ := vals1 r
    cases ru
    exact d_len I ha fun t s' I' => ⟨.int kvs.length, H, I', ⟨t, rfl⟩, q⟩
  unfold lenD at e
  split at e
  · cases e
    obtain ⟨v, rfl, r1⟩ := repLB_one r
    obtain ⟨a, us, rfl, q, rl⟩ := r1.lst sG
    exact .inl (.inl ⟨a, us, rfl, .inl q, k _ G H (Grow.refl sG) (by simp [Rep, rl.length])⟩)
  · cases e
    obtain ⟨v, rfl, r1⟩ := repLB_one r
    have r1 := r1.tup
    simp only [Rep] at r1
    obtain ⟨a, us, rfl, q, rl⟩ := r1
    exact .inl (.inl ⟨a, us, rfl, .inr (sG.sqT q), k _ G H (Grow.refl sG) (by simp [Rep, rl.length])⟩)
  · split at e
    · rename_i hl
      cases e
      obtain ⟨v, rfl, r1⟩ := repLB_one r
      have r1 := r1.flat rfl
      simp only [Rep] at r1
      subst r1
      exact .inl (.inr ⟨_, rfl, hl, k _ G H (Grow.refl sG) (by simp [Rep])⟩)
    · cases e
  · cases e
    obtain ⟨v, rfl, r1⟩ := repLB_one r
    obtain ⟨a, us, rfl, q, hl, nd, rl⟩ := r1.dic sG
    refine .inr ⟨a, _, rfl, q, k _ G H (Grow.refl sG) ?_⟩
    have e2 : us.length = _ := rl.length.symm
    simp only [Rep, List.length_zip]
    congr 1
    omega
  · cases e
def tupD : List D → Option D
  | [.lst ds] => some (.tup ds)
  | [.tup ds] => some (.tup ds)
  | _ => none
def CallN (X : Cx) (f : Value) (c : List D → Option Mo) : Prop := ∃ r, CallR X f r ∧ ∀ (G H : Hp) (ds : List D) (vs : List V) (m : Mo) (Q : VK), Same G H → RepLB X.K G H ds vs → c ds = some m →
  (∀ p us, H p = none → m.ok → RepL X.K G m.vals us → Q (.ref p) (upd H p (m.ho us))) → r vs H Q
@[simp] def fCallN (c : List D → Option Mo) (g : En → Option (List D)) : FR := fun δ => (g δ).bind fun ds => (c ds).map .fr
theorem pr_callTy {e : Expr} {es : List Expr} {p pos : Pos} {x : Str} {T : String} {cD : List D → Option Mo} {g : En → Option (List D)} (hc : CallN X (.type T) cD) (hm : X.mg x = none) (hv : bootBuiltins x = some (.type T)) (ha : PAB X (e :: es) g) (hg : Gl X x := by rfl)
    (hn : x ≠ "__name__" := by decide) (hdb : (x == ("__debug__" : Str)) = false := by decide)
    (he : starEach (e :: es) X.env = (false, eval e X.env) :: starEach es X.env := by rfl) (hpl : (backTo pos (starEach es X.env)).any (·.1) = false := by rfl) : PR X (.Call (.Name x p) (e :: es) [] pos) (fCallN cD g) := by
  obtain ⟨r, hc, kc⟩ := hc
  obtain ⟨ta, pa, ka⟩ := ha
  refine ⟨_, pe_callTy hc hg hm hv pa hn hdb he hpl, fun B G H δ σ d Q sG rs ef k => ?_⟩
  unfold fCallN at ef
  obtain ⟨ds, e1, ef⟩ := Option.bind_eq_some_iff.mp ef
  obtain ⟨m, e2, rfl⟩ := Option.map_eq_some_iff.mp ef
  exact ka B G H δ σ ds _ sG rs e1 fun vs G1 H1 g1 r1 => kc G1 H1 ds vs m Q g1.s r1 e2 fun p us hp ok rl => k p us G1 H1 g1 hp ok rl
def lstN : List D → Option Mo
  | [.lst ds] => some (.lst ds)
  | [.tup ds] => some (.lst ds)
  | _ => none
theorem cn_list : CallN X (.type "list") lstN := by
  refine ⟨_, call_list_of, fun G H ds vs m Q sG r e k => ?_⟩
  unfold lstN at e
  split at e
  · cases e
    obtain ⟨v, rfl, r1⟩ := repLB_one r
    obtain ⟨a, us, rfl, q, rl⟩ := r1.lst sG
    exact ⟨a, us, rfl, .inl q, fun l hl => k l us hl True.intro rl⟩
  · cases e
    obtain ⟨v, rfl, r1⟩ := repLB_one r
    have r1 := r1.tup
    simp only [Rep] at r1
    obtain ⟨a, us, rfl, q, rl⟩ := r1
    exact ⟨a, us, rfl, .inr (sG.sqT q), fun l hl => k l us hl True.intro rl⟩
  · cases e
end
inductive Out where
  | nx (δ : En) | rt (r : Rs) (δ : En) | bk (δ : En) | ct (δ : En)
abbrev FS := En → Option Out
structure Stp (B G G' H' : Hp) : Prop where
  g : Same G G'
  s : Same G' H'
  b : Same B H'
  n : ∀ a o, B a = some o → G a = none → G' a = none
theorem Stp.refl {B G H : Hp} (s : Same G H) (b : Same B H) : Stp B G G H := ⟨Same.refl _, s, b, fun _ _ _ n => n⟩
theorem Stp.trans {B G G1 H1 G2 H2 : Hp} (a : Stp B G G1 H1) (c : Stp B G1 G2 H2) : Stp B G G2 H2 := ⟨a.g.trans c.g, c.s, c.b, fun x o e n => c.n x o e (a.n x o e n)⟩
theorem Grow.stp {B G H G' H' : Hp} (g : Grow G H G' H') (b : Same B H) : Stp B G G' H' := ⟨g.g, g.s, b.trans g.h, fun a o e n => g.n a o (b a o e) n⟩
def Want (K : PySem.W.Frag) (B G : Hp) (D : Ends) : Out → Prop
  | .nx δ' => ∀ σ' G' H', Stp B G G' H' → RepS K B G' H' δ' σ' → D.nx σ' H'
  | .bk δ' => ∀ σ' G' H', Stp B G G' H' → RepS K B G' H' δ' σ' → D.bk σ' H'
  | .ct δ' => ∀ σ' G' H', Stp B G G' H' → RepS K B G' H' δ' σ' → D.ct σ' H'
  | .rt (.sh d) δ' => ∀ v σ' G' H', Stp B G G' H' → RepS K B G' H' δ' σ' → Rep K G' d v → D.rt v H'
  | .rt (.fr m) δ' => ∀ p vs σ' G' H', Stp B G G' H' → RepS K B G' H' δ' σ' → H' p = none → m.ok → RepL K G' m.vals vs → D.rt (.ref p) (upd H' p (m.ho vs))
def GivesS (K : PySem.W.Frag) (t : TS) (F : FS) : Prop := ∀ (B G H : Hp) (δ : En) (σ : St) (o : Out) (D : Ends), Same G H → Same B H → RepS K B G H δ σ → F δ = some o → Want K B G D o → t D σ H
def PSD (X : Cx) (st : Stmt) (F : FS) : Prop := ∃ t, PS X st t ∧ GivesS X.K t F
def PSsD (X : Cx) (sts : List Stmt) (F : FS) : Prop := ∃ t, PSs X sts t ∧ GivesS X.K t F
theorem Want.mono {K : PySem.W.Frag} {B G G1 H1 : Hp} {D : Ends} {o : Out} (w : Want K B G D o) (g : Stp B G G1 H1) : Want K B G1 D o := by
  cases o with
  | nx δ => exact fun σ' G' H' a => w σ' G' H' (g.trans a)
  | bk δ => exact fun σ' G' H' a => w σ' G' H' (g.trans a)
  | ct δ => exact fun σ' G' H' a => w σ' G' H' (g.trans a)
  | rt r δ =>
    cases r with
    | sh d => exact fun v σ' G' H' a => w v σ' G' H' (g.trans a)
    | fr m => exact fun p vs σ' G' H' a => w p vs σ' G' H' (g.trans a)
section
variable {X : Cx} {st : Stmt} {rest sts : List Stmt} {F F' : FS} {pos : Pos} {f : FE} {e : Expr}
@[simp] def sNil : FS := fun δ => some (.nx δ)
@[simp] def sSeq (F F' : FS) : FS := fun δ => match F δ with | some (.nx δ') => F' δ' | o => o
theorem psd_nil : PSsD X [] sNil := ⟨_, pss_nil, fun B G H δ σ o D sG sB rs e w => by cases e; exact w σ G H (Stp.refl sG sB) rs⟩
theorem psd_cons (h1 : PSD X st F) (h2 : PSsD X rest F') : PSsD X (st :: rest) (sSeq F F') := by
  obtain ⟨t, p1, k1⟩ := h1
  obtain ⟨u, p2, k2⟩ := h2
  refine ⟨_, pss_cons p1 p2, fun B G H δ σ o D sG sB rs e w => ?_⟩
  unfold sSeq at e
  show t { D with nx := u D } σ H
  cases e1 : F δ with
  | none => rw [e1] at e; cases e
  | some o1 =>
    rw [e1] at e
    cases o1 with
    | nx δ' => exact k1 B G H δ σ (.nx δ') _ sG sB rs e1 fun σ' G' H' a r => k2 B G' H' δ' σ' o D a.s a.b r e (w.mono a)
    | rt d δ' =>
      cases e
      cases d with
      | sh d => exact k1 B G H δ σ (.rt (.sh d) δ') _ sG sB rs e1 w
      | fr m => exact k1 B G H δ σ (.rt (.fr m) δ') _ sG sB rs e1 w
    | bk δ' => cases e; exact k1 B G H δ σ (.bk δ') _ sG sB rs e1 w
    | ct δ' => cases e; exact k1 B G H δ σ (.ct δ') _ sG sB rs e1 w
@[simp] def sSet (i : Nat) (f : FE) : FS := fun δ => (f δ).map fun d => .nx (δ.set i (some (.sh d)))
theorem psd_set (i : Nat) {x : Str} {pos' : Pos} (hN : X.N.Nodup) (he : PD X e f) (hi : X.N[i]? = some x := by rfl) (hx : Loc X.env.scope x := by first | exact Or.inl rfl | exact Or.inr rfl)
    (hs : swapsWith e (some (.Name x pos')) pos.line X.env = pure false := by rfl) (hf : X.fn x = true ∨ X.env.scope.names.lookup x = some .local := by first | exact .inl rfl | exact .inr rfl) : PSD X (.Assign [.Name x pos'] e pos) (sSet i f) := by
  obtain ⟨t, pt, k⟩ := he
  refine ⟨_, ps_set hN hi hx pt hs hf, fun B G H δ σ o D sG sB rs e w => ?_⟩
  unfold sSet at e
  obtain ⟨d, e1, rfl⟩ := Option.map_eq_some_iff.mp e
  exact k B G H δ σ d _ sG rs e1 fun v G' H' g r => w _ G' H' (g.stp sB) ((rs.grow g).set i r)
@[simp] def sRet (f : FR) : FS := fun δ => (f δ).map fun r => .rt r δ
theorem psd_ret {f : FR} (he : PR X e f) : PSD X (.Return (some e) pos) (sRet f) := by
  obtain ⟨t, pt, k⟩ := he
  refine ⟨_, ps_ret pt, fun B G H δ σ o D sG sB rs e w => ?_⟩
  unfold sRet at e
  obtain ⟨d, e1, rfl⟩ := Option.map_eq_some_iff.mp e
  refine k B G H δ σ d _ sG rs e1 ?_
  cases d with
  | sh d => exact fun v G' H' g r => w v σ G' H' (g.stp sB) (rs.grow g) r
  | fr m => exact fun p vs G' H' g => w p vs σ G' H' (g.stp sB) (rs.grow g)
@[simp] def sSetR (i : Nat) (f : FR) : FS := fun δ => (f δ).map fun r => .nx (δ.set i (some r.sl))
theorem psd_setR (i : Nat) {x : Str} {pos' : Pos} {f : FR} (hN : X.N.Nodup) (he : PR X e f) (hi : X.N[i]? = some x := by rfl) (hx : Loc X.env.scope x := by first | exact Or.inl rfl | exact Or.inr rfl)
    (hs : swapsWith e (some (.Name x pos')) pos.line X.env = pure false := by rfl) (hf : X.fn x = true ∨ X.env.scope.names.lookup x = some .local := by first | exact .inl rfl | exact .inr rfl) : PSD X (.Assign [.Name x pos'] e pos) (sSetR i f) := by
  obtain ⟨t, pt, k⟩ := he
  refine ⟨_, ps_set hN hi hx pt hs hf, fun B G H δ σ o D sG sB rs e w => ?_⟩
  unfold sSetR at e
  obtain ⟨d, e1, rfl⟩ := Option.map_eq_some_iff.mp e
  refine k B G H δ σ d _ sG rs e1 ?_
  cases d with
  | sh d => exact fun v G' H' g r => w _ G' H' (g.stp sB) ((rs.grow g).set i r)
  | fr m =>
    intro p vs G' H' g hp ok rl
    have g2 : Grow G' H' G' (upd H' p (m.ho vs)) := ⟨Same.refl _, same_new _ hp, g.s.trans (same_new _ hp), fun _ _ _ n => n⟩
    have g3 := g.trans g2
    refine w _ G' _ (g3.stp sB) ((rs.grow g3).put i (x := .pv m none) ⟨p, vs, rfl, (sB.trans g.h).free hp, g.s.free hp, upd_same, ok, rl, fun _ z => nomatch z⟩ fun m' _ _ j y _ hj ej q => ?_)
    obtain ⟨v, h1, a, us, rfl, _, _, h4, _, _, _⟩ := (rs.grow g).at_ j _ ej
    rw [h1] at q
    cases q
    rw [hp] at h4
    cases h4
theorem RepS.upd {K : PySem.W.Frag} {B G H : Hp} {δ : En} {σ : St} (r : RepS K B G H δ σ) {i : Nat} {m m' : Mo} {o : Option Addr} {a : Addr} {us : List V} (em : δ[i]? = some (some (.pv m o))) (ea : σ[i]? = some (some (.ref a))) (hB : B a = none) (hG : G a = none) (ok : m'.ok) (rl : RepL K G m'.vals us) :
    RepS K B G (L2.upd H a (m'.ho us)) (δ.set i (some (.pv m' o))) σ := by
  refine ⟨by simp [r.len], fun j x e => ?_, fun j l x y o1 o2 hjl e1 e2 => ?_⟩
  · rcases get_set e with ⟨rfl, e'⟩ | ⟨hj, e'⟩
    · cases e'
      obtain ⟨v, w1, b, _, rfl, _, _, _, _, _, tg⟩ := r.at_ _ _ em
      rw [ea] at w1
      cases w1
      exact ⟨_, ea, a, us, rfl, hB, hG, upd_same, ok, rl, tg⟩
    · obtain ⟨v, h1, h2⟩ := r.at_ j x e'
      refine ⟨v, h1, ?_⟩
      cases x with
      | sh d => exact h2
      | pv m2 o2 =>
        obtain ⟨a2, us2, rfl, q1, q2, q3, q4, q5⟩ := h2
        have hne : a2 ≠ a := fun z => by
          subst z
          exact r.ap i j m m2 _ _ hj em e' (ea.trans h1.symm)
        exact ⟨a2, us2, rfl, q1, q2, by rw [upd_ne hne]; exact q3, q4, q5⟩
  · have old : ∀ (k : Nat) (z : Mo) (u : Option Addr), (δ.set i (some (.pv m' o)))[k]? = some (some (.pv z u)) → ∃ z' u', δ[k]? = some (some (.pv z' u')) := fun k z u e => by
      rcases get_set e with ⟨rfl, e'⟩ | ⟨_, e'⟩
      · exact ⟨m, o, em⟩
      · exact ⟨z, u, e'⟩
    obtain ⟨x', u1, f1⟩ := old j x _ e1
    obtain ⟨y', u2, f2⟩ := old l y _ e2
    exact r.ap j l x' y' _ _ hjl f1 f2
theorem stp_own {B G H : Hp} {a : Addr} {o : HO} (sG : Same G H) (sB : Same B H) (hB : B a = none) (hG : G a = none) : Stp B G G (L2.upd H a o) :=
  ⟨Same.refl _, fun b u e => by rw [upd_ne (ne_of_none e hG)]; exact sG b u e, fun b u e => by rw [upd_ne (ne_of_none e hB)]; exact sB b u e, fun _ _ _ n => n⟩
@[simp] def sApp (i : Nat) (f : FE) : FS := fun δ => match δ[i]? with
  | some (some (.pv (.lst ds) o)) => (f δ).bind fun d => if ds.length < sizeLine then some (.nx (δ.set i (some (.pv (.lst (ds ++ [d])) o)))) else none
  | _ => none
theorem psd_app (i : Nat) {x : Str} {p p1 p2 : Pos} (he : PD X e f) (hN : X.N[i]? = some x := by rfl) (hv : Vis X.env.scope x := by first | exact Or.inl rfl | exact Or.inr (Or.inl rfl) | exact Or.inr (Or.inr rfl))
    (hb : ∀ {t : TE} {tx : TE}, PE X (.Name x p) tx → PE X e t → PE X (.Call (.Attribute (.Name x p) "append" p1) [e] [] p2) (tBM X.K "list" rAppend tx (tCons t tNil)) := by
      intro t tx hx ht; exact pe_bm PySem.F.plainAttrs_list PySem.F.slot_list_append PySem.F.type_list_append mt_append hx (pa_cons ht pa_nil))
    (hd : (x == ("__debug__" : Str)) = false := by decide) (hcd : (x == ("__classdict__" : Str)) = false := by decide) (hs : swapsWith (.Call (.Attribute (.Name x p) "append" p1) [e] [] p2) none pos.line X.env = pure false := by rfl) :
    PSD X (.Expr (.Call (.Attribute (.Name x p) "append" p1) [e] [] p2) pos) (sApp i f) := by
  obtain ⟨t, pt, k⟩ := he
  refine ⟨_, ps_expr (hb (pe_var hN hv hd hcd) pt) hs, fun B G H δ σ o D sG sB rs e w => ?_⟩
  unfold sApp at e
  split at e
  · rename_i ds o em
    obtain ⟨d, e1, e⟩ := Option.bind_eq_some_iff.mp e
    split at e
    · rename_i hl
      cases e
      obtain ⟨v, h1, a, vs, rfl, h2, h3, h4, h5, h6, _⟩ := rs.at_ i _ em
      refine ⟨_, h1, .inl ⟨rfl, _, SqL.of h4⟩, k B G H δ σ d _ sG rs e1 fun u G1 H1 g1 r1 => ?_⟩
      have hH : H1 a = some (.lst vs) := g1.h _ _ h4
      have hG1 : G1 a = none := g1.n a _ h4 h3
      have rl : RepL X.K G1 (ds ++ [d]) (vs ++ [u]) := (h6.mono g1.g).snoc r1
      refine ⟨a, vs, u, rfl, rfl, hH, by rw [← RepL.length h6]; exact hl, ?_⟩
      exact w σ G1 _ ((g1.stp sB).trans (stp_own g1.s (sB.trans g1.h) h2 hG1)) ((rs.grow g1).upd (m' := .lst (ds ++ [d])) (us := vs ++ [u]) em h1 h2 hG1 True.intro rl)
    · cases e
  · cases e
@[simp] def pubS (i : Nat) (δ : En) : En := match δ[i]? with | some (some (.pv m _)) => δ.set i (some (.sh m.d)) | _ => δ
theorem RepS.pub {K : PySem.W.Frag} {B G H : Hp} {δ : En} {σ : St} (r : RepS K B G H δ σ) (sG : Same G H) (sB : Same B H) (i : Nat) : ∃ G', Stp B G G' H ∧ RepS K B G' H (pubS i δ) σ := by
  unfold pubS
  split
  · rename_i m _ em
    obtain ⟨v, h1, a, vs, rfl, h2, h3, h4, h5, h6, _⟩ := r.at_ i _ em
    have st : Stp B G (L2.upd G a (m.ho vs)) H := by
      refine ⟨same_new _ h3, fun b u e => ?_, sB, fun b o e n => ?_⟩
      · by_cases hb : b = a
        · subst hb; rw [upd_same] at e; cases e; exact h4
        · rw [upd_ne hb] at e; exact sG b u e
      · rw [upd_ne (ne_of_none e h2)]; exact n
    refine ⟨_, st, by simp [r.len], fun j x e => ?_, fun j l x y o1 o2 hjl e1 e2 => ?_⟩
    · rcases get_set e with ⟨rfl, e'⟩ | ⟨hj, e'⟩
      · cases e'
        exact ⟨_, h1, rep_pub h3 h5 h6⟩
      · obtain ⟨v, q1, q2⟩ := r.at_ j x e'
        refine ⟨v, q1, ?_⟩
        cases x with
        | sh d => exact Rep.mono st.g q2
        | pv m2 o2 =>
          obtain ⟨a2, us2, rfl, p1, p2, p3, p4, p5, p6⟩ := q2
          have hne : a2 ≠ a := fun z => by
            subst z
            exact r.ap i j m m2 _ _ hj em e' (h1.trans q1.symm)
          exact ⟨a2, us2, rfl, p1, by rw [upd_ne hne]; exact p2, p3, p4, p5.mono st.g, p6⟩
    · have old : ∀ (k : Nat) (z : Mo) (u : Option Addr), (δ.set i (some (.sh m.d)))[k]? = some (some (.pv z u)) → δ[k]? = some (some (.pv z u)) := fun k z u e => by
        rcases get_set e with ⟨rfl, e'⟩ | ⟨_, e'⟩
        · cases e'
        · exact e'
      exact r.ap j l x y _ _ hjl (old j x _ e1) (old l y _ e2)
  · exact ⟨G, Stp.refl sG sB, r⟩
theorem psd_pub (i : Nat) (h : PSD X st F) : PSD X st (fun δ => F (pubS i δ)) := by
  obtain ⟨t, pt, k⟩ := h
  refine ⟨t, pt, fun B G H δ σ o D sG sB rs e w => ?_⟩
  obtain ⟨G', s1, r1⟩ := rs.pub sG sB i
  exact k B G' H _ σ o D s1.s sB r1 e (w.mono s1)
@[simp] def sIf (c : En → Option Bool) (F F' : FS) : FS := fun δ => (c δ).bind fun b => if b = true then F δ else F' δ
theorem psd_if {c : Expr} {a b : List Stmt} {fb : En → Option Bool} (hc : PDT X c fb) (ha : PSsD X a F) (hb : PSsD X b F') : PSD X (.If c a b pos) (sIf fb F F') := by
  obtain ⟨tc, pc, kc⟩ := hc
  obtain ⟨ta, pa, ka⟩ := ha
  obtain ⟨tb, pb, kb⟩ := hb
  refine ⟨_, ps_if pc pa pb, fun B G H δ σ o D sG sB rs e w => ?_⟩
  unfold sIf at e
  obtain ⟨x, e1, e⟩ := Option.bind_eq_some_iff.mp e
  refine kc B G H δ σ x _ sG rs e1 fun G1 H1 g1 => ?_
  cases x with
  | true => rw [if_pos rfl] at e ⊢; exact ka B G1 H1 δ σ o D g1.s (sB.trans g1.h) (rs.grow g1) e (w.mono (g1.stp sB))
  | false => rw [if_neg Bool.false_ne_true] at e ⊢; exact kb B G1 H1 δ σ o D g1.s (sB.trans g1.h) (rs.grow g1) e (w.mono (g1.stp sB))
structure Wk (K : PySem.W.Frag) (J : It) (G : Hp) (xs : List D) : Prop where
  go : ∀ i d G' H', xs[i]? = some d → Same G G' → Same G' H' → J.go i H' ∧ ∀ x H2, J.yld i H' x H2 → H2 = H' ∧ Rep K G' d x
  stop : ∀ G' H', Same G G' → Same G' H' → J.stop xs.length H'
def PID (X : Cx) (tg iter : Expr) (f : En → Option (List D)) : Prop := ∃ wi, PI X tg iter wi ∧ ∀ (B G H : Hp) (δ : En) (σ : St) (xs : List D) (R : It → Hp → Prop), Same G H → RepS X.K B G H δ σ → f δ = some xs →
  (∀ J G' H', Grow G H G' H' → Wk X.K J G' xs → R J H') → wi σ H R
def signs (z : Str) : List D := z.cps.toList.map fun c => .str ⟨#[c]⟩
def rngD (lo : Int) (n : Nat) : List D := (List.range n).map fun (k : Nat) => .int (lo + (k : Int))
@[simp] def oRng (f : FE) : En → Option (List D) := fun δ => match f δ with | some (.int j) => if -(2 ^ 62) ≤ j ∧ j < 2 ^ 62 then some (rngD 0 j.toNat) else none | _ => none
variable {tg : Expr}
theorem pid_range {p : Pos} (hm : X.mg "range" = none) (he : PD X e f) (hg : Gl X "range" := by rfl) (hs : starEach [e] X.env = [(false, eval e X.env)] := by rfl) : PID X tg (.Call (.Name "range" p) [e] [] pos) (oRng f) := by
  obtain ⟨t, pt, k⟩ := he
  refine ⟨_, pi_range1 hg hm (pa_cons pt pa_nil hs) hs, fun B G H δ σ xs R sG rs e q => ?_⟩
  unfold oRng at e
  split at e
  · rename_i j e1
    split at e
    · rename_i hj
      cases e
      refine k B G H δ σ _ _ sG rs e1 fun v G1 H1 g1 r1 => ?_
      simp only [Rep] at r1
      subst r1
      refine ⟨j, rfl, hj.1, hj.2, q _ G1 H1 g1 ⟨fun i d G' H' ed a1 b1 => ?_, fun G' H' a1 b1 => ?_⟩⟩
      · unfold rngD at ed
        rw [List.getElem?_map] at ed
        obtain ⟨c, ec, rfl⟩ := Option.map_eq_some_iff.mp ed
        obtain ⟨hi, hc⟩ := List.getElem?_eq_some_iff.mp ec
        rw [List.length_range] at hi
        rw [List.getElem_range] at hc
        subst hc
        refine ⟨hi, fun x' H2 y => ⟨y.1, ?_⟩⟩
        rw [y.2]
        simp [Rep]
      · show j.toNat ≤ (rngD 0 j.toNat).length
        simp [rngD]
    · cases e
  · cases e
def forL (i : Nat) (F : FS) : List D → FS
  | [], δ => some (.nx δ)
  | x :: xs, δ => match F (δ.set i (some (.sh x))) with
    | some (.nx δ') => forL i F xs δ'
    | some (.ct δ') => forL i F xs δ'
    | some (.bk δ') => some (.nx δ')
    | some (.rt d δ') => some (.rt d δ')
    | none => none
@[simp] def sFor (i : Nat) (f : En → Option (List D)) (F : FS) : FS := fun δ => (f δ).bind fun xs => forL i F xs δ
theorem psd_for (i : Nat) {x : Str} {pos' : Pos} {iter : Expr} {body : List Stmt} {g : En → Option (List D)} (hN : X.N.Nodup) (hc : X.calm = true) (hp : PassesOwn (model X.prog X.w) X.A X.env X.xe) (hi : PID X (.Name x pos') iter g) (hb : PSsD X body F)
    (hix : X.N[i]? = some x := by rfl) (hx : Loc X.env.scope x := by first | exact Or.inl rfl | exact Or.inr rfl) (hf : X.fn x = true ∨ X.env.scope.names.lookup x = some .local := by first | exact .inl rfl | exact .inr rfl)
    (hs : ∀ x, foldedSetIterable iter X.env x = pure x := by intro _; rfl) : PSD X (.For (.Name x pos') iter body [] pos) (sFor i g F) := by
  obtain ⟨wi, pw, kw⟩ := hi
  obtain ⟨tb, pb, kb⟩ := hb
  refine ⟨_, ps_for hp hc pw (pg_name hN hix hx hf) pb hs, fun B G H δ σ o D sG sB rs e w => ?_⟩
  unfold sFor at e
  obtain ⟨xs, e1, e⟩ := Option.bind_eq_some_iff.mp e
  refine kw B G H δ σ xs _ sG rs e1 fun J G1 H1 g1 wk => ?_
  have st1 : Stp B G G1 H1 := g1.stp sB
  refine ⟨fun n m σ' H' => ∃ δ' G', m = xs.length - n ∧ n ≤ xs.length ∧ Stp B G1 G' H' ∧ RepS X.K B G' H' δ' σ' ∧ forL i F (xs.drop n) δ' = some o, ⟨_, δ, G1, rfl, Nat.zero_le _, Stp.refl st1.s st1.b, rs.grow g1, by simpa using e⟩, ?_⟩
  rintro n m σ' H' ⟨δ', G', rfl, hn, a1, rs', eo⟩
  by_cases hlt : n < xs.length
  · right
    obtain ⟨go, yl⟩ := wk.go n xs[n] G' H' (by simp [hlt]) a1.g a1.s
    rw [List.drop_eq_getElem_cons hlt] at eo
    unfold forL at eo
    refine ⟨go, fun σ2 H2 => ∃ m', m' < xs.length - n ∧ ∃ δ2 G2, m' = xs.length - (n + 1) ∧ n + 1 ≤ xs.length ∧ Stp B G1 G2 H2 ∧ RepS X.K B G2 H2 δ2 σ2 ∧ forL i F (xs.drop (n + 1)) δ2 = some o, fun σ2 H2 z => z, fun x H2 y => ?_⟩
    obtain ⟨rfl, rx⟩ := yl x H2 y
    show tb _ (σ'.set i (some x)) H2
    have again : ∀ {δ2 : En} {σ2 : St} {G2 H3 : Hp}, Stp B G' G2 H3 → RepS X.K B G2 H3 δ2 σ2 → forL i F (xs.drop (n + 1)) δ2 = some o →
        ∃ m', m' < xs.length - n ∧ ∃ δ2 G2, m' = xs.length - (n + 1) ∧ n + 1 ≤ xs.length ∧ Stp B G1 G2 H3 ∧ RepS X.K B G2 H3 δ2 σ2 ∧ forL i F (xs.drop (n + 1)) δ2 = some o :=
      fun {δ2 σ2 G2 H3} a r e => ⟨xs.length - (n + 1), by omega, δ2, G2, rfl, hlt, a1.trans a, r, e⟩
    cases eF : F (δ'.set i (some (.sh xs[n]))) with
    | none => rw [eF] at eo; cases eo
    | some o1 =>
      rw [eF] at eo
      refine kb B G' H2 _ _ o1 _ a1.s a1.b (rs'.set i rx) eF ?_
      cases o1 with
      | nx δ2 => exact fun σ2 G2 H3 a r => again a r eo
      | ct δ2 => exact fun σ2 G2 H3 a r => again a r eo
      | bk δ2 =>
        cases eo
        exact fun σ2 G2 H3 a r => w σ2 G2 H3 (st1.trans (a1.trans a)) r
      | rt r δ2 =>
        cases eo
        cases r with
        | sh d => exact fun v σ2 G2 H3 a r => w v σ2 G2 H3 (st1.trans (a1.trans a)) r
        | fr m => exact fun p vs σ2 G2 H3 a => w p vs σ2 G2 H3 (st1.trans (a1.trans a))
  · left
    have hnn : n = xs.length := by omega
    subst hnn
    rw [List.drop_of_length_le (Nat.le_refl _)] at eo
    cases eo
    exact ⟨wk.stop G' H' a1.g a1.s, w σ' G' H' (st1.trans a1) rs'⟩
def compL (c : D → Option Bool) (g : D → Option D) : List D → Option (List D)
  | [] => some []
  | x :: xs => (c x).bind fun b => if b = true then (g x).bind fun y => (compL c g xs).bind fun ys => some (y :: ys) else compL c g xs
@[simp] def csD (nl : Nat) (js : List Nat) (δ : En) : En := List.replicate nl none ++ js.map fun j => (δ[j]?).join
@[simp] def fComp (nl : Nat) (js : List Nat) (i : Nat) (it : En → Option (List D)) (c : En → Option Bool) (g : FE) : FR := fun δ => (it δ).bind fun xs =>
  if xs.length ≤ sizeLine then (compL (fun x => c ((csD nl js δ).set i (some (.sh x)))) (fun x => g ((csD nl js δ).set i (some (.sh x)))) xs).map fun ys => .fr (.lst ys) else none
def PIfsD (X : Cx) (ifs : List Expr) (f : En → Option Bool) : Prop := ∃ t, PIfs X ifs t ∧ ∀ (B G H : Hp) (δ : En) (σ : St) (b : Bool) (Q : Bool → Hp → Prop), Same G H → RepS X.K B G H δ σ → f δ = some b →
  (∀ G' H', Grow G H G' H' → Q b H') → t σ H Q
@[simp] def bYes : En → Option Bool := fun _ => some true
theorem pifd_nil : PIfsD X [] bYes := ⟨_, pifs_nil, fun B G H δ σ b Q sG rs e k => by cases e; exact k G H (Grow.refl sG)⟩
theorem cs_at {nl : Nat} {js : List Nat} {α : Type} {l : List (Option α)} {i : Nat} {x : α} (e : (List.replicate nl none ++ js.map fun j => (l[j]?).join)[i]? = some (some x)) : ∃ j, nl ≤ i ∧ js[i - nl]? = some j ∧ l[j]? = some (some x) := by
  rcases Nat.lt_or_ge i nl with z | z
  · rw [List.getElem?_append_left (by simpa using z), List.getElem?_replicate, if_pos z] at e; cases e
  · rw [List.getElem?_append_right (by simpa using z), List.length_replicate, List.getElem?_map] at e
    obtain ⟨j, ej, e⟩ := Option.map_eq_some_iff.mp e
    refine ⟨j, z, ej, ?_⟩
    cases q : l[j]? with
    | none => rw [q] at e; cases e
    | some y => rw [q] at e; rw [show y = some x from e]
theorem cs_to {nl : Nat} {js : List Nat} {α : Type} {l : List (Option α)} {i j : Nat} {x : Option α} (z : nl ≤ i) (ej : js[i - nl]? = some j) (e : l[j]? = some x) : (List.replicate nl none ++ js.map fun j => (l[j]?).join)[i]? = some x := by
  rw [List.getElem?_append_right (by simpa using z), List.length_replicate, List.getElem?_map, ej, Option.map_some, e]
  rfl
theorem RepS.cs {K : PySem.W.Frag} {B G H : Hp} {δ : En} {σ : St} (r : RepS K B G H δ σ) (nl : Nat) (js : List Nat) (hj : js.Nodup) : RepS K B G H (csD nl js δ) (csOf nl js σ) := by
  refine ⟨by simp [csD, csOf], fun i x e => ?_, fun i j x y o1 o2 hij e1 e2 => ?_⟩
  · obtain ⟨j, z, ej, ed⟩ := cs_at e
    obtain ⟨v, h1, h2⟩ := r.at_ j _ ed
    exact ⟨v, cs_to z ej h1, h2⟩
  · obtain ⟨j1, z1, ej1, ed1⟩ := cs_at e1
    obtain ⟨j2, z2, ej2, ed2⟩ := cs_at e2
    have hne : j1 ≠ j2 := fun q => by
      subst q
      have h1 := (List.getElem?_eq_some_iff.mp ej1)
      have h2 := (List.getElem?_eq_some_iff.mp ej2)
      obtain ⟨l1, q1⟩ := h1
      obtain ⟨l2, q2⟩ := h2
      have := (List.getElem_inj hj).mp (q1.trans q2.symm)
      omega
    obtain ⟨v1, h1, _⟩ := r.at_ j1 _ ed1
    obtain ⟨v2, h2, _⟩ := r.at_ j2 _ ed2
    have := r.ap j1 j2 x y _ _ hne ed1 ed2
    rw [show (csOf nl js σ)[i]? = σ[j1]? from (cs_to z1 ej1 h1).trans h1.symm, show (csOf nl js σ)[j]? = σ[j2]? from (cs_to z2 ej2 h2).trans h2.symm]
    exact this
theorem compL_len {c : D → Option Bool} {g : D → Option D} : ∀ {xs ys : List D}, compL c g xs = some ys → ys.length ≤ xs.length
  | [], ys, e => by cases e; exact Nat.le_refl _
  | x :: xs, ys, e => by
    unfold compL at e
    obtain ⟨b, e1, e⟩ := Option.bind_eq_some_iff.mp e
    split at e
    · obtain ⟨y, e2, e⟩ := Option.bind_eq_some_iff.mp e
      obtain ⟨zs, e3, e⟩ := Option.bind_eq_some_iff.mp e
      cases e
      have := compL_len e3
      simp only [List.length_cons]; omega
    · have := compL_len e
      simp only [List.length_cons]; omega
theorem gives_comp {wi : TI} {ti : TT} {te : TE} {it : En → Option (List D)} {c : En → Option Bool} {g : FE} {nl i : Nat} {js : List Nat}
    (kw : ∀ (B G H : Hp) (δ : En) (σ : St) (xs : List D) (R : It → Hp → Prop), Same G H → RepS X.K B G H δ σ → it δ = some xs → (∀ J G' H', Grow G H G' H' → Wk X.K J G' xs → R J H') → wi σ H R)
    (kt : ∀ (B G H : Hp) (δ : En) (σ : St) (b : Bool) (Q : Bool → Hp → Prop), Same G H → RepS X.K B G H δ σ → c δ = some b → (∀ G' H', Grow G H G' H' → Q b H') → ti σ H Q) (ke : Gives X.K te g) (hjs : js.Nodup) :
    GivesR X.K (tComp wi (csOf nl js) (gName i) ti te) (fComp nl js i it c g) := fun B G H δ σ d Q sG rs e k => by
  unfold fComp at e
  obtain ⟨xs, e1, e⟩ := Option.bind_eq_some_iff.mp e
  split at e
  · rename_i hl
    obtain ⟨zs, e2, rfl⟩ := Option.map_eq_some_iff.mp e
    refine kw B G H δ σ xs _ sG rs e1 fun J G1 H1 g1 wk => ?_
    refine ⟨fun n m ys H' => ∃ G' ws us, m = xs.length - n ∧ n ≤ xs.length ∧ Grow G H G' H' ∧ Same G1 G' ∧ RepL X.K G' ws ys ∧ zs = ws ++ us ∧ compL (fun x => c ((csD nl js δ).set i (some (.sh x)))) (fun x => g ((csD nl js δ).set i (some (.sh x)))) (xs.drop n) = some us,
      ⟨_, G1, [], zs, rfl, Nat.zero_le _, g1, Same.refl _, by simp [RepL], rfl, by simpa using e2⟩, ?_⟩
    rintro n m ys H' ⟨G', ws, us, rfl, hn, gr, s1, rl, rfl, ec⟩
    have hwl : (ws ++ us).length ≤ xs.length := compL_len e2
    refine ⟨by rw [← rl.length]; rw [List.length_append] at hwl; omega, ?_⟩
    by_cases hlt : n < xs.length
    · right
      obtain ⟨go, yl⟩ := wk.go n xs[n] G' H' (by simp [hlt]) s1 gr.s
      rw [List.drop_eq_getElem_cons hlt] at ec
      unfold compL at ec
      obtain ⟨b, ec1, ec⟩ := Option.bind_eq_some_iff.mp ec
      refine ⟨go, fun x H2 y => ?_⟩
      obtain ⟨rfl, rx⟩ := yl x H2 y
      show ti ((csOf nl js σ).set i (some x)) H2 _
      have rs2 := ((rs.grow gr).cs nl js hjs).set i rx
      refine kt B G' H2 _ _ b _ gr.s rs2 ec1 fun G3 H3 g3 => ?_
      cases b with
      | true =>
        rw [if_pos rfl] at ec ⊢
        obtain ⟨y', ec2, ec⟩ := Option.bind_eq_some_iff.mp ec
        obtain ⟨us', ec3, ec⟩ := Option.bind_eq_some_iff.mp ec
        cases ec
        refine ke B G3 H3 _ _ y' _ g3.s (rs2.grow g3) ec2 fun v G4 H4 g4 r4 => ?_
        exact ⟨xs.length - (n + 1), by omega, G4, ws ++ [y'], us', rfl, hlt, (gr.trans g3).trans g4, s1.trans (g3.g.trans g4.g), (rl.mono (g3.g.trans g4.g)).snoc r4, by simp, ec3⟩
      | false =>
        rw [if_neg Bool.false_ne_true] at ec ⊢
        exact ⟨xs.length - (n + 1), by omega, G3, ws, us, rfl, hlt, gr.trans g3, s1.trans g3.g, rl.mono g3.g, rfl, ec⟩
    · left
      have hnn : n = xs.length := by omega
      subst hnn
      rw [List.drop_of_length_le (Nat.le_refl _)] at ec
      cases ec
      refine ⟨wk.stop G' H' s1 gr.s, fun p hp => ?_⟩
      rw [List.append_nil] at k
      exact k p ys G' H' gr hp True.intro rl
  · cases e
theorem pr_comp {N : List Str} {nl i : Nat} {js : List Nat} {scope : Scope} {cl : List (Str × Addr)} {elt iter : Expr} {ifs : List Expr} {x : Str} {px pos : Pos} {it : En → Option (List D)} {c : En → Option Bool} {g : FE}
    (hc : X.calm = true) (ok : CompOk X N nl js scope cl) (hi : PID X (.Name x px) iter it) (hin : i < nl) (hNd : N.Nodup) (hix : N[i]? = some x) (hx : scope.names.lookup x = some .local) (hjs : js.Nodup)
    (ht : ∃ ti, (∀ C s₀ H₀ ex, PIfs (compCx X N scope cl C s₀ H₀ ex) ifs ti) ∧ ∀ (B G H : Hp) (δ : En) (σ : St) (b : Bool) (Q : Bool → Hp → Prop), Same G H → RepS X.K B G H δ σ → c δ = some b → (∀ G' H', Grow G H G' H' → Q b H') → ti σ H Q)
    (he : ∃ te, (∀ C s₀ H₀ ex, PE (compCx X N scope cl C s₀ H₀ ex) elt te) ∧ Gives X.K te g)
    (hs : ∀ x, foldedSetIterable iter X.env x = pure x := by intro _; rfl) :
    PR X (.ListComp elt [⟨.Name x px, iter, ifs, 0⟩] scope pos) (fComp nl js i it c g) := by
  obtain ⟨wi, pw, kw⟩ := hi
  obtain ⟨ti, pt, kt⟩ := ht
  obtain ⟨te, pe, ke⟩ := he
  refine ⟨_, pe_comp hc ok pw (keeps_name hin) (fun C s₀ H₀ ex => pg_name hNd hix (.inl (lookup_relabel_local hx)) (.inr (lookup_relabel_local hx))) pt pe hs, gives_comp kw kt ke hjs⟩
end
end L2
set_option Elab.async false
set_option linter.all false
set_option maxRecDepth 100000
set_option maxHeartbeats 4000000
namespace L2
open PySem PySem.Spec PyProof.Rows
section
variable {X : Cx}
theorem op_catL : OpR X (binaryOp .Add) (rCatL X.K) := by
  intro pins s σ H x y v u Q I rx ry h
  obtain ⟨l, b, xs, zs, rfl, rfl, hH, hB, hz, q⟩ := h
  cases rx
  cases ry
  obtain ⟨its, r, hl, hz1⟩ := I.list hH
  obtain ⟨its2, r2, hl2, hz2⟩ := I.list hB
  obtain ⟨⟨cls, dd, data, sl⟩, ho, hc, n, hd⟩ := hl.isList
  obtain ⟨⟨cls2, dd2, data2, sl2⟩, ho2, hc2, n2, hd2⟩ := hl2.isList
  simp only at hc hd hc2 hd2
  subst hc hd hc2 hd2
  have ea : its.toArray ++ its2.toArray = (its ++ its2).toArray := by simp
  have h1 := r.length
  have h2 := r2.length
  refine concat_meets ⟨_, ho, rfl⟩ ⟨_, ho2, rfl⟩ noFill_list_add seq_list_add PySem.F.slot_list_add PySem.F.entry_list_add (PySem.F.args_list_add_2 _ _) (list_addW l b its.toArray its2.toArray n n2 dd dd2 sl sl2 (by simp; omega)) ⟨ho, ho2, ?_⟩
  rw [ea]
  exact ⟨.ref _, _, I.lnew (t' := s.toks) (r.append r2) (by rw [List.length_append]; omega), rfl, q _ I.fresh⟩
def rCatT0 (K : PySem.W.Frag) : R2 := fun x y H Q => ∃ a b ys, x = .ref a ∧ y = .ref b ∧ SqT K H a [] ∧ SqT K H b ys ∧ Q (.ref b) H
theorem op_catT0 : OpR X (binaryOp .Add) (rCatT0 X.K) := by
  intro pins s σ H x y v u Q I rx ry h
  obtain ⟨a, b, ys, rfl, rfl, ha, hb, q⟩ := h
  cases rx
  cases ry
  obtain ⟨its, r1, p1, _⟩ := I.tuple ha
  obtain ⟨its2, r2, p2, _⟩ := I.tuple hb
  cases r1
  obtain ⟨⟨cls, dd, data, sl⟩, ho, hc, n, hd⟩ := id p1
  obtain ⟨⟨cls2, dd2, data2, sl2⟩, ho2, hc2, n2, hd2⟩ := id p2
  simp only at hc hd hc2 hd2
  subst hc hd hc2 hd2
  exact concat_meets ⟨_, ho, rfl⟩ ⟨_, ho2, rfl⟩ noFill_tuple_add seq_tuple_add PySem.F.slot_tuple_add PySem.F.entry_tuple_add (PySem.F.args_tuple_add_2 _ _)
      (tuple_addW0 a b #[] its2.toArray n n2 dd dd2 sl sl2 rfl) ⟨ho, ho2, ⟨.ref b, H, I, rfl, q⟩⟩
def tupAdd : D → D → Option D | .tup i, .tup j => if i.length + j.length ≤ sizeLine then some (.tup (i ++ j)) else none | _, _ => none
theorem od_tadd : OpD X (binaryOp .Add) tupAdd := by
  refine ⟨_, op_catT0.or op_catT, fun G H x y v u d Q sG rx ry e k => ?_⟩
  unfold tupAdd at e
  split at e
  · rename_i i j
    split at e
    · rename_i hc
      cases e
      have rx := rx.tup
      have ry := ry.tup
      have rx0 := rx
      have ry0 := ry
      simp only [Rep] at rx ry
      obtain ⟨p1, xs, rfl, q1, r1⟩ := rx
      obtain ⟨p2, ys, rfl, q2, r2⟩ := ry
      cases i with
      | nil =>
        have : xs = [] := by simpa only [RepL] using r1
        subst this
        exact .inl ⟨p1, p2, ys, rfl, rfl, sG.sqT q1, sG.sqT q2, k _ G H (Grow.refl sG) (by simpa using ry0)⟩
      | cons i0 is =>
        refine .inr ⟨p1, p2, xs, ys, rfl, rfl, sG.sqT q1, sG.sqT q2, ?_, by rw [← r1.length, ← r2.length]; exact hc, fun hy => ?_, fun hy p hp => k _ _ _ (Grow.laid sG _ hp) (rep_tup (sG.free hp) (r1.append r2))⟩
        · intro z
          have := r1.length
          rw [z] at this
          cases this
        · have : j = [] := by
            have := r2.length
            rw [hy] at this
            exact List.length_eq_zero_iff.mp this
          subst this
          exact k _ G H (Grow.refl sG) (by simpa using rx0)
    · cases e
  · cases e
def addD (x y : D) : Option D := (iAdd x y).or ((sAdd x y).or ((tupAdd x y).or (lAdd x y)))
theorem od_add : OpD X (binaryOp .Add) addD := od_iadd.or (od_sadd.or (od_tadd.or (od_ladd op_catL)))
def bools : List D → Option (List Bool)
  | [] => some []
  | .bl b :: ds => (bools ds).map (b :: ·)
  | _ => none
def tyD : D → String | .non => "NoneType" | .bl _ => "bool" | .int _ => "int" | .str _ => "str" | .tup _ => "tuple" | .lst _ => "list" | .dic _ _ => "dict"
theorem isinst_D {pins : List (Addr × Obj)} {σ : St} {G H : Hp} {s : Shared} {A : Around} {E : Value → Shared → Prop} {Q : Value → Shared → Prop} {c : Value} {b : Bool} {d : D} {x : V} {u : Value} (I : Inv X pins σ H s) (sG : Same G H) (r : Rep X.K G d x) (rx : RelV x u)
    (e : PySem.W.kitOne X.K (.type (tyD d)) c = some b) (h : ∀ tk, Q (.bool b) { s with toks := tk }) : wpAny (model X.prog X.w) A (call (.builtin "isinstance") [u, c]) Q E s := by
  cases d with
  | non => simp only [Rep] at r; subst r; exact isinst_ok I rx .non e h
  | bl y => simp only [Rep] at r; subst r; exact isinst_ok I rx (.bl _) e h
  | int i => simp only [Rep] at r; subst r; exact isinst_ok I rx (.int _) e h
  | str y => simp only [Rep] at r; subst r; exact isinst_ok I rx (.str _) e h
  | tup ds =>
    simp only [Rep] at r
    obtain ⟨a, vs, rfl, q, rl⟩ := r
    cases (show u = Value.ref a from rx)
    obtain ⟨its, _, ⟨o, h1, h2, _⟩, _⟩ := I.tuple (sG.sqT q)
    exact PySem.W.kia_one PySem.W.kitx_tuple I.kIn ⟨o, h1, h2⟩ e (fun z => nomatch z) h
  | lst ds =>
    simp only [Rep] at r
    obtain ⟨a, vs, rfl, q, rl⟩ := r
    cases (show u = Value.ref a from rx)
    obtain ⟨its, _, p, _⟩ := I.list (sG.sqL q)
    obtain ⟨o, h1, h2, _⟩ := p.isList
    exact PySem.W.kia_one PySem.W.kitx_list I.kIn ⟨o, h1, h2⟩ e (fun z => nomatch z) h
  | dic ks ds =>
    simp only [Rep] at r
    obtain ⟨a, vs, rfl, q, hl, nd, rl⟩ := r
    cases (show u = Value.ref a from rx)
    obtain ⟨_, _, us, _, dd⟩ := dk_rd I.hok (sG.rd q)
    obtain ⟨o, _, _, h1, h2, _⟩ := dd
    exact PySem.W.kia_one PySem.W.kitx_dict I.kIn ⟨o, h1, h2.1⟩ e (fun z => nomatch z) h
def isTy (T : String) (d : D) : Bool := tyD d == T || (T == "int" && tyD d == "bool")
def IsTyOk (K : PySem.W.Frag) (T : String) : Prop := ∀ d : D, PySem.W.kitOne K (.type (tyD d)) (.type T) = some (isTy T d)
@[simp] def fIs (T : String) (f : FE) : FE := fun δ => (f δ).map fun d => .bl (isTy T d)
theorem pd_is {e : Expr} {f : FE} {T : Str} {p pT pos : Pos} (T' : String) (hT : IsTyOk X.K T') (hm : X.mg "isinstance" = none) (hmT : X.mg T = none) (hv : bootBuiltins T = some (.type T')) (he : PB X e f) (hg : Gl X "isinstance" := by rfl) (hgT : Gl X T := by rfl) (hn : T ≠ "__name__" := by decide) (hd : (T == ("__debug__" : Str)) = false := by decide)
    (hs : starEach [e, .Name T pT] X.env = (false, eval e X.env) :: starEach [.Name T pT] X.env := by rfl) (hs2 : starEach [.Name T pT] X.env = (false, eval (.Name T pT) X.env) :: starEach [] X.env := by rfl) (hpl : (backTo pos (starEach [.Name T pT] X.env)).any (·.1) = false := by rfl)
    (hb : bootBuiltins "isinstance" = some (.builtin "isinstance") := by decide +kernel) :
    PD X (.Call (.Name "isinstance" p) [e, .Name T pT] [] pos) (fIs T' f) := by
  obtain ⟨t, pt, k1⟩ := he
  have hc : CallR X (.builtin "isinstance") (fun xs H Q => ∃ G d v, Same G H ∧ Rep X.K G d v ∧ xs = [v, .ty T'] ∧ Q (.bl (isTy T' d)) H) := by
    intro pins s σ H xs us Q I r h
    obtain ⟨G, d, v, sG, rd, rfl, q⟩ := h
    obtain ⟨u, w', rfl, r1, r2⟩ := vals2 r
    cases (show w' = Value.type T' from r2)
    exact isinst_D I sG rd r1 (hT d) fun tk => ⟨.bl _, H, I.tok tk, rfl, q⟩
  refine ⟨_, pe_callB hc hg hm hb (pa_cons pt (pa_cons (pe_bltn (v := .ty T') hgT hmT hv rfl hn hd) pa_nil hs2) hs) (by decide) (by decide) hs hpl, fun B G H δ σ d Q sG rs ef k => ?_⟩
  unfold fIs at ef
  obtain ⟨x, e1, rfl⟩ := Option.map_eq_some_iff.mp ef
  exact k1 B G H δ σ x _ sG rs e1 fun v G1 H1 g1 r1 => ⟨H1, x, v, Same.refl _, r1.all g1.s, rfl, k _ G1 H1 g1 (by simp [Rep])⟩
def tOf (K : PySem.W.Frag) (f : FE) : TE := fun σ H Q => ∃ B G δ d, Same G H ∧ RepS K B G H δ σ ∧ f δ = some d ∧ ∀ v G' H', Grow G H G' H' → Rep K G' d v → Q v H'
theorem PD.canon {e : Expr} {f : FE} (h : PD X e f) : PE X e (tOf X.K f) := by
  obtain ⟨t, pt, k⟩ := h
  intro pins s σ H Q I ⟨B, G, δ, d, sG, rs, ef, q⟩
  exact pt pins s σ H Q I (k B G H δ σ d Q sG rs ef q)
theorem gives_tOf {K : PySem.W.Frag} {f : FE} : Gives K (tOf K f) f := fun B G H δ σ d Q sG rs e k => ⟨B, G, δ, d, sG, rs, e, k⟩
def ttOf (K : PySem.W.Frag) (f : En → Option Bool) : TT := fun σ H Q => ∃ B G δ b, Same G H ∧ RepS K B G H δ σ ∧ f δ = some b ∧ ∀ G' H', Grow G H G' H' → Q b H'
theorem PIfsD.canon {ifs : List Expr} {f : En → Option Bool} (h : PIfsD X ifs f) : PIfs X ifs (ttOf X.K f) := by
  obtain ⟨t, pt, k⟩ := h
  intro pins s σ H Q I ⟨B, G, δ, b, sG, rs, ef, q⟩
  exact pt pins s σ H Q I (k B G H δ σ b Q sG rs ef q)
theorem compOk0 {N : List Str} {nl : Nat} {scope : Scope} (hk : scope.kind = .function) (hn : ∀ y ∈ scope.names, y.2 ≠ .free ∧ y.2 ≠ .cell) (hl : ∀ y ∈ scope.names, y.2 = .local → scope.names.lookup y.1 = some .local) (hN : N.length = nl) : CompOk X N nl [] scope [] where
  clos := closureFor_none fun x hx => (hn x hx).1
  nocell := fun y hy => (hn y hy).2
  kind := hk
  names := hl
  cells := fun x c e => nomatch e
  has := fun x h => by
    exfalso
    have key : ∀ k, (relabel scope X.env).names.lookup x = some k → k = .cell ∨ k = .free → False := fun k e hk => by
      have hm := PySem.mem_of_lookup e
      unfold relabel at hm
      obtain ⟨⟨n, k0⟩, h1, h2⟩ := List.mem_map.mp hm
      have hf := hn _ h1
      have hc : (k0 == NameKind.free && X.env.scope.kind == .function && X.env.kindOf n == some .cell) = false := by
        have : (k0 == NameKind.free) = false := by simpa using hf.1
        rw [this]; rfl
      dsimp only at h2
      rw [hc] at h2
      have e2 : k0 = k := congrArg Prod.snd h2
      subst e2
      rcases hk with z | z
      · exact hf.2 z
      · exact hf.1 z
    rcases h with h | h
    · exact key _ h (.inl rfl)
    · exact key _ h (.inr rfl)
  len := by simpa using hN
  free := fun k j x e => by simp at e
theorem pr_comp' {N : List Str} {nl i : Nat} {js : List Nat} {scope : Scope} {cl : List (Str × Addr)} {elt iter : Expr} {ifs : List Expr} {x : Str} {px pos : Pos} {it : En → Option (List D)} {c : En → Option Bool} {g : FE}
    (hc : X.calm = true) (ok : CompOk X N nl js scope cl) (hi : PID X (.Name x px) iter it) (hin : i < nl) (hNd : N.Nodup) (hix : N[i]? = some x) (hx : scope.names.lookup x = some .local)
    (hjs : js.Nodup) (ht : ∀ C s₀ H₀ ex, PIfsD (compCx X N scope cl C s₀ H₀ ex) ifs c) (he : ∀ C s₀ H₀ ex, PD (compCx X N scope cl C s₀ H₀ ex) elt g)
    (hs : ∀ x, foldedSetIterable iter X.env x = pure x := by intro _; rfl) :
    PR X (.ListComp elt [⟨.Name x px, iter, ifs, 0⟩] scope pos) (fComp nl js i it c g) :=
  pr_comp hc ok hi hin hNd hix hx hjs ⟨ttOf X.K c, fun C s₀ H₀ ex => (ht C s₀ H₀ ex).canon, fun B G H δ σ b Q sG rs e k => ⟨B, G, δ, b, sG, rs, e, k⟩⟩ ⟨tOf X.K g, fun C s₀ H₀ ex => (he C s₀ H₀ ex).canon, gives_tOf⟩ hs
end
section
variable {P : Program} {w : World} {K : PySem.W.Frag} {mg : Str → Option Value} {base : Heap}
def startD (N : List Str) (ds : List D) : En := ds.map (fun d => some (.sh d)) ++ List.replicate (N.length - ds.length) none
theorem repS_start {N : List Str} {G H : Hp} {ds : List D} {vs : List V} (r : RepL K G ds vs) : RepS K H G H (startD N ds) (start N vs) := by
  have hl := r.length
  refine ⟨by simp [startD, start, hl], fun i x e => ?_, fun i j x y _ _ _ e => ?_⟩
  · unfold startD at e
    unfold start
    by_cases hi : i < ds.length
    · rw [List.getElem?_append_left (by simpa using hi), List.getElem?_map] at e
      obtain ⟨d, e1, e2⟩ := Option.map_eq_some_iff.mp e
      cases e2
      obtain ⟨v, h1, h2⟩ := r.get e1
      exact ⟨v, by rw [List.getElem?_append_left (by simp; omega), List.getElem?_map, h1]; rfl, h2⟩
    · rw [List.getElem?_append_right (by simpa using hi), List.getElem?_replicate] at e
      split at e <;> cases e
  · exfalso
    unfold startD at e
    by_cases hi : i < ds.length
    · rw [List.getElem?_append_left (by simpa using hi), List.getElem?_map] at e
      obtain ⟨d, e1, e2⟩ := Option.map_eq_some_iff.mp e
      cases e2
    · rw [List.getElem?_append_right (by simpa using hi), List.getElem?_replicate] at e
      split at e <;> cases e
def runF (N : List Str) (n : Nat) (fb : FS) : List D → Option Rs := fun ds => if ds.length = n then (match fb (startD N ds) with | some (.rt d _) => some d | some (.nx _) => some (.sh .non) | _ => none) else none
def DefAt (K : PySem.W.Frag) (mg : Str → Option Value) (x : Str) (st : Stmt) : Prop := ∃ f fd, Fun K x x st f fd ∧ mg x = some (.ref f)
theorem defAt_mk {h : Heap} {x : Str} {st : Stmt} {f : Addr} {oc : Value} {od an : Option Addr} {osl : Array (Option Value)} {kV doc pm cdv ct : Value} (X : K.In h) (G : h.Ns mainGlobals mg) (a : PySem.W.nsIn K mainGlobals x = some (some (.ref f)))
    (l : K.lookup f = some ⟨oc, od, .func (PySem.W.fnOf x x (defArgs st) (defBody st) (defScope st) .none kV doc pm an cdv ct), osl⟩) (c : PySem.W.codeIn K cdv x = true) (k : PySem.W.keepIn K (.ref f) = true) : DefAt K mg x st :=
  ⟨f, _, fun_mk l c k, PySem.W.mg_of X G a⟩
abbrev cxD (P : Program) (w : World) (K : PySem.W.Frag) (mg : Str → Option Value) (base : Heap) (N : List Str) (x : Str) (scope : Scope) (f : Addr) (cdv : Value) (A : Around) (outer : List Env) (s : Shared) (H : Hp) (E : XK) : Cx :=
  (cxOf CX0 P w K mg base N x scope f cdv A outer s H E).nox
theorem def_runF {x : Str} {st : Stmt} {N ps : List Str} {k : Nat} {fb : FS} {f : Addr} {fd : FuncData} (F : Fun K x x st f fd) (S : FnScope N ps (defScope st))
    (hbody : ∀ (f : Addr) (cdv : Value) (A : Around) (outer : List Env) (s : Shared) (H : Hp) (E : XK), Room k (A.deeper (envOfC x (defScope st) s.heap.objs.size f cdv)) → PSsD (cxD P w K mg base N x (defScope st) f cdv A outer s H E) (defBody st) fb) :
    FnOk P w K mg base CX0 (k + 1) f fd ps (spD K (runF N ps.length fb)) := by
  refine F.ok S (fun vs H Q E h => ?_) (fun cdv A outer s H vs Q E hr h => ?_)
  · obtain ⟨G, ds, d, sG, r, e, _⟩ := h
    rw [← r.length]
    unfold runF at e
    split at e
    · rename_i hl; exact hl
    · cases e
  · obtain ⟨G, ds, d, sG, r, e, q⟩ := h
    obtain ⟨t, pt, kt⟩ := hbody f cdv A outer s H E hr
    refine ⟨t, pt, ?_⟩
    have gr : ∀ {G' H' : Hp}, Stp H G G' H' → Grow G H G' H' := fun a => ⟨a.g, a.b, a.s, a.n⟩
    unfold runF at e
    split at e
    · split at e
      · rename_i eb
        cases e
        refine kt H G H _ _ _ _ sG (Same.refl _) (repS_start r) eb ?_
        cases d with
        | sh d => exact fun v _ G' H' a _ rv => q v G' H' (gr a) rv
        | fr m => exact fun p vs _ G' H' a _ => q p vs G' H' (gr a)
      · rename_i eb
        cases e
        exact kt H G H _ _ _ _ sG (Same.refl _) (repS_start r) eb fun σ' G' H' a rv => q _ G' H' (gr a) (by simp [Rep])
      · cases e
    · cases e
theorem def_run {x : Str} {st : Stmt} {N ps : List Str} {k : Nat} {fb : FS} (F : DefAt K mg x st) (S : FnScope N ps (defScope st))
    (hb : ∀ (kV doc pm : Value) (an : Option Addr) (cdv ct : Value) (us : List Value), us.length = ps.length → bindArgs (PySem.W.fnOf x x (defArgs st) (defBody st) (defScope st) .none kV doc pm an cdv ct) ⟨us, []⟩ = pure (ps.zip us))
    (hbody : ∀ (f : Addr) (cdv : Value) (A : Around) (outer : List Env) (s : Shared) (H : Hp) (E : XK), Room k (A.deeper (envOfC x (defScope st) s.heap.objs.size f cdv)) → PSsD (cxD P w K mg base N x (defScope st) f cdv A outer s H E) (defBody st) fb) :
    DefOk P w K mg base (k + 1) x ps (runF N ps.length fb) := by
  obtain ⟨f, fd, F, hm⟩ := F
  exact ⟨f, fd, def_runF F S hbody, F.binds hb, F.kp, hm⟩
theorem law_at {l : PySem.W.OpenLaw} {w : World} {K : PySem.W.Frag} {mg : Str → Option Value} {fa : Addr} {st : Stmt} {k : Nat} {x : Str} {M : List D → Option Rs} (hfa : mg "law" = some (.ref fa)) (F : DefAt K mg "law" st)
    (hb : ∀ (kV doc pm : Value) (an : Option Addr) (cdv ct : Value) (u : Value), bindArgs (PySem.W.fnOf "law" "law" (defArgs st) (defBody st) (defScope st) .none kV doc pm an cdv ct) ⟨[u], []⟩ = pure [(x, u)])
    (ok : ∀ (f : Addr) (fd : FuncData) (base : Heap), Fun K "law" "law" st f fd → FnOk l.prog w K mg base CX0 k f fd [x] (spD K M)) :
    ∃ fd : FuncData, (∀ (s : Shared) (v : Value), BindsTo s fd ⟨[v], []⟩ [(x, v)]) ∧ ∀ base : Heap, K.In base → base.Ns mainGlobals mg → FnOk l.prog w K mg base CX0 k fa fd [x] (spD K M) := by
  obtain ⟨f, fd, F, hm⟩ := F
  rw [hfa] at hm
  cases hm
  refine ⟨fd, fun s v => ?_, fun base _ _ => ok _ _ base F⟩
  obtain ⟨oc, od, kV, doc, pm, an, cdv, ct, osl, rfl, lk, hcd⟩ := F.ex
  exact .of_eq (hb kV doc pm an cdv ct v)
theorem repL_ints {K : PySem.W.Frag} {H : Hp} : ∀ (ns : List Int), RepL K H (ns.map D.int) (ns.map V.int)
  | [] => by simp [RepL]
  | n :: ns => by
    simp only [List.map_cons, RepL]
    exact ⟨_, _, rfl, by simp [Rep], repL_ints ns⟩
theorem law_sp {K : PySem.W.Frag} {H : Hp} {a : Addr} {ns : List Int} {M : List D → Option Rs} (h : SqL K H a (ns.map V.int)) (e : M [.lst (ns.map D.int)] = some (.sh (.bl true))) : spD K M [.ref a] H (fun v _ => v = .bl true) fun _ _ _ => False := by
  refine ⟨H, [.lst (ns.map D.int)], .sh (.bl true), Same.refl _, ?_, e, fun v G' H' g r => by simpa only [Rep] using r⟩
  simp only [RepL, Rep]
  exact ⟨_, _, rfl, ⟨a, _, rfl, h, repL_ints ns⟩, rfl⟩
theorem tyOk_bool {K : PySem.W.Frag} : IsTyOk K "bool" := fun d => by cases d <;> rfl
theorem tyOk_str {K : PySem.W.Frag} : IsTyOk K "str" := fun d => by cases d <;> rfl
theorem tyOk_list {K : PySem.W.Frag} : IsTyOk K "list" := fun d => by cases d <;> rfl
end
section
variable {X : Cx}
def gtD : D → D → Option D := iCmp fun i j => decide (j < i)
def mulD : D → D → Option D := iMul
theorem od_mul : OpD X (binaryOp .Mult) mulD := od_imul
theorem pi_any {tg l : Expr} {tl : TE} (hl : PE X l tl) : PI X tg l (fun σ H R => tl σ H fun x H1 => (∃ a, x = .ref a ∧ (∃ xs, SqL X.K H1 a xs) ∧ R (Itl X.K a) H1) ∨ (∃ a, x = .ref a ∧ (∃ xs, SqT X.K H1 a xs) ∧ R (Itt X.K a) H1) ∨ (∃ z, x = .str z ∧ R (Its z) H1)) := by
  intro pins s σ H R I h
  -- the value first, then the walk by its kind
  refine thn (hl pins s σ H _ I h) fun v s1 ⟨x, H1, I1, r1, q1⟩ => ?_
  have lift : ∀ {wi : (It → Hp → Prop) → Prop}, True := fun {_} => trivial
  rcases q1 with ⟨a, e, ⟨xs, hq⟩, q⟩ | ⟨a, e, ⟨xs, hq⟩, q⟩ | ⟨z, e, q⟩
  · subst e
    cases r1
    obtain ⟨its, rv, p, hz⟩ := I1.list hq
    refine wpAny_pyIter_list p.isList ?_
    refine ⟨s1.heap.objs.size, [s1.heap.objs.size], _, _, H1, rfl, I1.kept (t' := s1.toks) fun b o e => Heap.get?_push_of_some _ e, turn_list a _, ⟨_, Heap.get?_push_size _ rfl, rfl, rfl⟩, fun b hb => ?_, q⟩
    have e : b = s1.heap.objs.size := by simpa using hb
    subst e
    exact I1.fpOk (Nat.le_refl _) (I1.hok.fresh (Nat.le_refl _))
  · subst e
    cases r1
    obtain ⟨its, rv, p, hz⟩ := I1.tuple hq
    refine wpAny_pyIter_tuple (show s1.heap.IsTuple a its.toArray from p) ?_
    refine ⟨s1.heap.objs.size, [s1.heap.objs.size], _, _, H1, rfl, I1.kept (t' := s1.toks) fun b o e => Heap.get?_push_of_some _ e, turn_tuple a _, ⟨_, Heap.get?_push_size _ rfl, rfl, rfl⟩, fun b hb => ?_, q⟩
    have e : b = s1.heap.objs.size := by simpa using hb
    subst e
    exact I1.fpOk (Nat.le_refl _) (I1.hok.fresh (Nat.le_refl _))
  · subst e
    obtain ⟨t, rfl⟩ := r1
    have fin : ∀ (T : String) (o : Obj), Turn X.prog X.w X.K tg (Its z) [s1.heap.objs.size] s1.heap.objs.size (fun i h => h.IsStrIter s1.heap.objs.size T z t i) →
        (s1.heap.push o).IsStrIter s1.heap.objs.size T z t 0 → PIE X pins σ tg R (.ref s1.heap.objs.size) { s1 with heap := s1.heap.push o } := fun T o TT st => by
      refine ⟨s1.heap.objs.size, [s1.heap.objs.size], _, _, H1, rfl, I1.kept (t' := s1.toks) fun b o e => Heap.get?_push_of_some _ e, TT, st, fun b hb => ?_, q⟩
      have e : b = s1.heap.objs.size := by simpa using hb
      subst e
      exact I1.fpOk (Nat.le_refl _) (I1.hok.fresh (Nat.le_refl _))
    cases ha : z.cps.all (· < 128)
    · exact wpAny_pyIter_wide ha (fin "str_iterator" _ (turn_str _ _ z t (fun A hA => Walks.strWide hA _ z t) fun A i s Q E st h => wpAny_pyIter_striter_wide st h) ⟨_, Heap.get?_push_size _ rfl, rfl, rfl⟩)
    · exact wpAny_pyIter_ascii ha (fin "str_ascii_iterator" _ (turn_str _ _ z t (fun A hA => Walks.strAscii hA _ z t) fun A i s Q E st h => wpAny_pyIter_striter_ascii st h) ⟨_, Heap.get?_push_size _ rfl, rfl, rfl⟩)
@[simp] def oSeq (f : FE) : En → Option (List D) := fun δ => match f δ with | some (.lst ds) => some ds | some (.tup ds) => some ds | some (.str z) => some (signs z) | _ => none
theorem pid_seq {tg e : Expr} {f : FE} (he : PD X e f) : PID X tg e (oSeq f) := by
  obtain ⟨t, pt, k⟩ := he
  refine ⟨_, pi_any pt, fun B G H δ σ xs R sG rs e q => ?_⟩
  unfold oSeq at e
  split at e
  · rename_i ds e1
    cases e
    refine k B G H δ σ _ _ sG rs e1 fun v G1 H1 g1 r1 => .inl ?_
    simp only [Rep] at r1
    obtain ⟨a, vs, rfl, hq, rl⟩ := r1
    refine ⟨a, rfl, ⟨vs, g1.s.sqL hq⟩, q _ G1 H1 g1 ⟨fun i d G' H' ed a1 b1 => ?_, fun G' H' a1 b1 => ⟨vs, (a1.trans b1).sqL hq, by rw [rl.length]; exact Nat.le_refl _⟩⟩⟩
    obtain ⟨x, ex, rx⟩ := rl.get ed
    refine ⟨⟨vs, x, (a1.trans b1).sqL hq, ex⟩, fun x' H2 y => ⟨y.1, ?_⟩⟩
    have := y.2 vs ((a1.trans b1).sqL hq)
    rw [ex] at this
    cases this
    exact rx.mono a1
  · rename_i ds e1
    cases e
    refine k B G H δ σ _ _ sG rs e1 fun v G1 H1 g1 r1 => .inr (.inl ?_)
    simp only [Rep] at r1
    obtain ⟨a, vs, rfl, hq, rl⟩ := r1
    refine ⟨a, rfl, ⟨vs, g1.s.sqT hq⟩, q _ G1 H1 g1 ⟨fun i d G' H' ed a1 b1 => ?_, fun G' H' a1 b1 => ⟨vs, (a1.trans b1).sqT hq, by rw [rl.length]; exact Nat.le_refl _⟩⟩⟩
    obtain ⟨x, ex, rx⟩ := rl.get ed
    refine ⟨⟨vs, x, (a1.trans b1).sqT hq, ex⟩, fun x' H2 y => ⟨y.1, ?_⟩⟩
    have := y.2 vs ((a1.trans b1).sqT hq)
    rw [ex] at this
    cases this
    exact rx.mono a1
  · rename_i z e1
    cases e
    refine k B G H δ σ _ _ sG rs e1 fun v G1 H1 g1 r1 => .inr (.inr ?_)
    simp only [Rep] at r1
    refine ⟨z, r1, q _ G1 H1 g1 ⟨fun i d G' H' ed a1 b1 => ?_, fun G' H' a1 b1 => ?_⟩⟩
    · unfold signs at ed
      rw [List.getElem?_map] at ed
      obtain ⟨c, ec, rfl⟩ := Option.map_eq_some_iff.mp ed
      have ec' : z.cps[i]? = some c := by simpa using ec
      refine ⟨?_, fun x' H2 y => ?_⟩
      · show i < z.cps.size
        obtain ⟨hi, _⟩ := Array.getElem?_eq_some_iff.mp ec'
        exact hi
      · obtain ⟨y1, c', ec2, rfl⟩ := y
        rw [ec'] at ec2
        cases ec2
        exact ⟨y1, by simp [Rep]⟩
    · show (signs z).length = z.cps.size
      simp [signs]
  · cases e
@[simp] def f1 (o : D → Option D) (f : FE) : FE := fun δ => (f δ).bind o
def negD : D → Option D | .int i => some (.int (-i)) | _ => none
theorem pd_neg {e : Expr} {f : FE} {pos : Pos} (he : PD X e f) : PD X (.UnaryOp .USub e pos) (f1 negD f) := by
  obtain ⟨t, pt, k1⟩ := he
  refine ⟨_, pe_un un_neg pt, fun B G H δ σ d Q sG rs ef k => ?_⟩
  unfold f1 at ef
  obtain ⟨x, e1, ef⟩ := Option.bind_eq_some_iff.mp ef
  unfold negD at ef
  split at ef
  · cases ef
    exact k1 B G H δ σ _ _ sG rs e1 fun v G1 H1 g1 r1 => ⟨_, by simpa only [Rep] using r1, k _ G1 H1 g1 (by simp [Rep])⟩
  · cases ef
end
end L2
set_option Elab.async false
set_option linter.all false
set_option maxRecDepth 100000
set_option maxHeartbeats 4000000
namespace L2
open PySem PySem.Spec PyProof.Rows
mutual
def eqA : D → D → Bool
  | .tup xs, y => match y with | .tup ys => eqAs xs ys | _ => false
  | .lst xs, y => match y with | .lst ys => eqAs xs ys | _ => false
  | .dic _ _, _ => false
  | .non, y => if flatD y = true then eqV .non (toV y) else false
  | .bl b, y => if flatD y = true then eqV (.bl b) (toV y) else false
  | .int i, y => if flatD y = true then eqV (.int i) (toV y) else false
  | .str x, y => if flatD y = true then eqV (.str x) (toV y) else false
def eqAs : List D → List D → Bool
  | [], ys => ys.isEmpty
  | x :: xs, ys => match ys with | [] => false | y :: ys => eqA x y && eqAs xs ys
end
def plainN : Nat → D → Bool
  | _, .dic _ _ => false
  | 0, .tup _ => false
  | 0, .lst _ => false
  | n + 1, .tup xs => xs.all (plainN n)
  | n + 1, .lst xs => xs.all (plainN n)
  | _, _ => true
theorem eqA_flat {x y : D} (hx : flatD x = true) (hy : flatD y = true) : eqA x y = eqV (toV x) (toV y) := by
  cases x with
  | tup _ => cases hx
  | lst _ => cases hx
  | dic _ _ => cases hx
  | _ => simp only [eqA, hy, if_true, toV]
theorem eqV_refl {v : V} (h : flatV v = true) : eqV v v = true := by
  cases v with
  | non => rfl
  | bl b => simp [eqV]
  | int b => simp [eqV]
  | str b => simp [eqV]
  | _ => cases h
theorem eqAs_ne : ∀ {xs ys : List D}, xs.length ≠ ys.length → eqAs xs ys = false
  | [], [], h => absurd rfl h
  | [], _ :: _, _ => by simp [eqAs]
  | _ :: _, [], _ => by simp [eqAs]
  | x :: xs, y :: ys, h => by
    simp only [eqAs]
    rw [eqAs_ne (fun z => h (by simp [z])), Bool.and_false]
theorem eqAs_all : ∀ {xs ys : List D}, xs.length = ys.length → eqAs xs ys = (List.range xs.length).all fun j => eqA (xs.getD j .non) (ys.getD j .non)
  | [], [], _ => by simp [eqAs]
  | x :: xs, y :: ys, h => by
    simp only [eqAs]
    rw [eqAs_all (show xs.length = ys.length by simpa using h), List.length_cons, List.range_succ_eq_map, List.all_cons, List.all_map]
    rfl
section
variable {X : Cx} {pins : List (Addr × Obj)} {σ : St} {H : Hp} {s : Shared}
theorem eqA_same (I : Inv X pins σ H s) : ∀ (n : Nat) {x y : D} {v : V}, plainN n x = true → plainN n y = true → Rep X.K H x v → Rep X.K H y v → eqA x y = true := by
  intro n
  have flatcase : ∀ {x y : D} {v : V}, flatD x = true → Rep X.K H x v → Rep X.K H y v → eqA x y = true := fun {x y v} hx rx ry => by
    have h1 := rep_flat hx rx
    have hy : flatD y = true := by
      cases y with
      | tup ys => simp only [Rep] at ry; obtain ⟨a, us, e, _⟩ := ry; exact absurd (h1.1.symm.trans e) (by cases x with | tup _ => cases hx | lst _ => cases hx | dic _ _ => cases hx | _ => intro z; cases z)
      | lst ys => simp only [Rep] at ry; obtain ⟨a, us, e, _⟩ := ry; exact absurd (h1.1.symm.trans e) (by cases x with | tup _ => cases hx | lst _ => cases hx | dic _ _ => cases hx | _ => intro z; cases z)
      | dic ks ys => simp only [Rep] at ry; obtain ⟨a, us, e, _⟩ := ry; exact absurd (h1.1.symm.trans e) (by cases x with | tup _ => cases hx | lst _ => cases hx | dic _ _ => cases hx | _ => intro z; cases z)
      | _ => rfl
    have h2 := rep_flat hy ry
    rw [eqA_flat hx hy, ← h1.1, ← h2.1]
    exact eqV_refl h1.2
  induction n with
  | zero =>
    intro x y v px py rx ry
    cases x with
    | tup xs => cases px
    | lst xs => cases px
    | dic ks xs => cases px
    | _ => exact flatcase rfl rx ry
  | succ n ih =>
    intro x y v px py rx ry
    have lists : ∀ {xs ys : List D} {vs : List V}, xs.all (plainN n) = true → ys.all (plainN n) = true → RepL X.K H xs vs → RepL X.K H ys vs → eqAs xs ys = true := by
      intro xs
      induction xs with
      | nil =>
        intro ys vs _ _ r1 r2
        simp only [RepL] at r1
        subst r1
        cases ys with
        | nil => simp [eqAs]
        | cons y ys => simp only [RepL] at r2; obtain ⟨_, _, e, _⟩ := r2; cases e
      | cons x xs ih2 =>
        intro ys vs p1 p2 r1 r2
        simp only [RepL] at r1
        obtain ⟨v, us, rfl, q1, q2⟩ := r1
        cases ys with
        | nil => simp only [RepL] at r2; cases r2
        | cons y ys =>
          simp only [RepL] at r2
          obtain ⟨v2, us2, e, q3, q4⟩ := r2
          cases e
          rw [List.all_cons, Bool.and_eq_true] at p1 p2
          simp only [eqAs]
          rw [ih p1.1 p2.1 q1 q3, ih2 p1.2 p2.2 q2 q4]
          rfl
    cases x with
    | tup xs =>
      simp only [Rep] at rx
      obtain ⟨a, vs, rfl, h1, h2⟩ := rx
      cases y with
      | tup ys =>
        simp only [Rep] at ry
        obtain ⟨b, us, e, h3, h4⟩ := ry
        cases e
        obtain rfl := I.tuple_inj h1 h3
        simp only [eqA]
        exact lists px py h2 h4
      | lst ys =>
        simp only [Rep] at ry
        obtain ⟨b, us, e, h3, h4⟩ := ry
        cases e
        obtain ⟨_, _, p1, _⟩ := I.tuple h1
        obtain ⟨_, _, p2, _⟩ := I.list h3
        obtain ⟨o1, g1, c1, _⟩ := p1
        obtain ⟨o2, g2, c2, _⟩ := p2.isList
        rw [g1] at g2; cases g2; rw [c1] at c2; exact absurd (Value.type.inj c2) (by decide)
      | dic ks ys => cases py
      | _ => simp only [Rep] at ry; cases ry
    | lst xs =>
      simp only [Rep] at rx
      obtain ⟨a, vs, rfl, h1, h2⟩ := rx
      cases y with
      | lst ys =>
        simp only [Rep] at ry
        obtain ⟨b, us, e, h3, h4⟩ := ry
        cases e
        obtain rfl := I.list_inj h1 h3
        simp only [eqA]
        exact lists px py h2 h4
      | tup ys =>
        simp only [Rep] at ry
        obtain ⟨b, us, e, h3, h4⟩ := ry
        cases e
        obtain ⟨_, _, p1, _⟩ := I.tuple h3
        obtain ⟨_, _, p2, _⟩ := I.list h1
        obtain ⟨o1, g1, c1, _⟩ := p1
        obtain ⟨o2, g2, c2, _⟩ := p2.isList
        rw [g1] at g2; cases g2; rw [c1] at c2; exact absurd (Value.type.inj c2) (by decide)
      | dic ks ys => cases py
      | _ => simp only [Rep] at ry; cases ry
    | dic ks xs => cases px
    | _ => exact flatcase rfl rx ry
theorem in1_units (A : Around) : A.in1.units = A.units + 1 := rfl
theorem eqAt_A (I : Inv X pins σ H s) : ∀ (n : Nat) {x y : D} {v v' : V} {u u' : Value} {A : Around}, plainN n x = true → plainN n y = true → Rep X.K H x v → Rep X.K H y v' → RelV v u → RelV v' u' → A.units + n < cLine → SeqAt.EqAt A s u u' (eqA x y) := by
  intro n
  -- a scalar and anything of no depth
  have ff : ∀ {x y : D} {v v' : V} {u u' : Value} {A : Around}, flatD x = true → flatD y = true → Rep X.K H x v → Rep X.K H y v' → RelV v u → RelV v' u' → SeqAt.EqAt A s u u' (eqA x y) := fun {x y v v' u u' A} hx hy rx ry r r' => by
    have h1 := rep_flat hx rx
    have h2 := rep_flat hy ry
    rw [eqA_flat hx hy, ← h1.1, ← h2.1]
    exact eqAt_V r r' h1.2 h2.2
  induction n with
  | zero =>
    intro x y v v' u u' A px py rx ry r r' hu
    refine ff ?_ ?_ rx ry r r'
    · cases x <;> first | rfl | cases px
    · cases y <;> first | rfl | cases py
  | succ n ih =>
    intro x y v v' u u' A px py rx ry r r' hu
    have hu' : A.units < cLine := by omega
    have items : ∀ {xs ys : List D} {vs us : List V} {its its2 : List Value}, xs.all (plainN n) = true → ys.all (plainN n) = true → RepL X.K H xs vs → RepL X.K H ys us → Vals vs its → Vals us its2 →
        ∀ j (h1 : j < its.toArray.size) (h2 : j < its2.toArray.size), SeqAt.EqAt A.in1 s its.toArray[j] its2.toArray[j] (eqA (xs.getD j .non) (ys.getD j .non)) := fun {xs ys vs us its its2} p1 p2 r1 r2 v1 v2 j h1 h2 => by
      have l1 := r1.length
      have l2 := r2.length
      have l3 := v1.length
      have l4 := v2.length
      have j1 : j < xs.length := by simp at h1; omega
      have j2 : j < ys.length := by simp at h2; omega
      have e1 : xs[j]? = some (xs.getD j .non) := by rw [List.getD_eq_getElem?_getD, List.getElem?_eq_getElem j1]; rfl
      have e2 : ys[j]? = some (ys.getD j .non) := by rw [List.getD_eq_getElem?_getD, List.getElem?_eq_getElem j2]; rfl
      obtain ⟨w1, g1, q1⟩ := r1.get e1
      obtain ⟨w2, g2, q2⟩ := r2.get e2
      obtain ⟨u1, k1, k2⟩ := v1.get g1
      obtain ⟨u2, k3, k4⟩ := v2.get g2
      have t1 : its.toArray[j] = u1 := by
        obtain ⟨_, z⟩ := List.getElem?_eq_some_iff.mp k1
        simpa using z
      have t2 : its2.toArray[j] = u2 := by
        obtain ⟨_, z⟩ := List.getElem?_eq_some_iff.mp k3
        simpa using z
      rw [t1, t2]
      exact ih (List.all_eq_true.mp p1 _ (List.mem_of_getElem? e1)) (List.all_eq_true.mp p2 _ (List.mem_of_getElem? e2)) q1 q2 k2 k4 (by rw [in1_units]; omega)
    have tups : ∀ {xs ys : List D}, plainN (n + 1) (.tup xs) = true → plainN (n + 1) (.tup ys) = true → Rep X.K H (.tup xs) v → Rep X.K H (.tup ys) v' → SeqAt.EqAt A s u u' (eqA (.tup xs) (.tup ys)) := fun {xs ys} px py rx ry => by
      have rx0 := rx
      have ry0 := ry
      simp only [Rep] at rx ry
      obtain ⟨a, vs, rfl, h1, h2⟩ := rx
      obtain ⟨b, us, rfl, h3, h4⟩ := ry
      cases r
      cases r'
      by_cases hab : a = b
      · subst hab
        rw [eqA_same I (n + 1) px py rx0 ry0]
        exact SeqAt.EqAt.same _
      · obtain ⟨its, v1, p1, _⟩ := I.tuple h1
        obtain ⟨its2, v2, p2, _⟩ := I.tuple h3
        have q := SeqAt.RcAt.tuples (e := fun j => eqA (xs.getD j .non) (ys.getD j .non)) p1 p2 hu' (items px py h2 h4 v1 v2)
        have e : ((List.range (min its.toArray.size its2.toArray.size)).all (fun j => eqA (xs.getD j .non) (ys.getD j .non)) && its.toArray.size == its2.toArray.size) = eqA (.tup xs) (.tup ys) := by
          have l1 := h2.length
          have l2 := h4.length
          have l3 := v1.length
          have l4 := v2.length
          simp only [eqA]
          by_cases hl : xs.length = ys.length
          · rw [eqAs_all hl]
            have : min its.toArray.size its2.toArray.size = xs.length := by simp; omega
            rw [this]
            have : (its.toArray.size == its2.toArray.size) = true := by simp; omega
            rw [this, Bool.and_true]
          · rw [eqAs_ne hl]
            have : (its.toArray.size == its2.toArray.size) = false := by simp; omega
            rw [this, Bool.and_false]
        rw [e] at q
        exact SeqAt.EqAt.of_refs hab q
    have lsts : ∀ {xs ys : List D}, plainN (n + 1) (.lst xs) = true → plainN (n + 1) (.lst ys) = true → Rep X.K H (.lst xs) v → Rep X.K H (.lst ys) v' → SeqAt.EqAt A s u u' (eqA (.lst xs) (.lst ys)) := fun {xs ys} px py rx ry => by
      have rx0 := rx
      have ry0 := ry
      simp only [Rep] at rx ry
      obtain ⟨a, vs, rfl, h1, h2⟩ := rx
      obtain ⟨b, us, rfl, h3, h4⟩ := ry
      cases r
      cases r'
      by_cases hab : a = b
      · subst hab
        rw [eqA_same I (n + 1) px py rx0 ry0]
        exact SeqAt.EqAt.same _
      · obtain ⟨its, v1, p1, _⟩ := I.list h1
        obtain ⟨its2, v2, p2, _⟩ := I.list h3
        have l1 := h2.length
        have l2 := h4.length
        have l3 := v1.length
        have l4 := v2.length
        simp only [eqA]
        by_cases hl : xs.length = ys.length
        · have q := SeqAt.RcAt.lists (e := fun j => eqA (xs.getD j .non) (ys.getD j .non)) p1.isList p2.isList (by simp; omega) hu' (items px py h2 h4 v1 v2)
          rw [eqAs_all hl]
          have : its.toArray.size = xs.length := by simp; omega
          rw [this] at q
          exact SeqAt.EqAt.of_refs hab q
        · rw [eqAs_ne hl]
          exact SeqAt.EqAt.of_refs hab (SeqAt.RcAt.lists_lengths p1.isList p2.isList (by simp; omega) hu')
    have tupAt : ∀ {xs : List D} {v : V} {u : Value}, Rep X.K H (.tup xs) v → RelV v u → ∃ a its, u = .ref a ∧ s.heap.IsTuple a its := fun {xs v u} h r => by
      simp only [Rep] at h
      obtain ⟨a, vs, rfl, h1, h2⟩ := h
      cases r
      obtain ⟨its, _, p, _⟩ := I.tuple h1
      exact ⟨a, _, rfl, p⟩
    have lstAt : ∀ {xs : List D} {v : V} {u : Value}, Rep X.K H (.lst xs) v → RelV v u → ∃ a its, u = .ref a ∧ s.heap.IsList a its := fun {xs v u} h r => by
      simp only [Rep] at h
      obtain ⟨a, vs, rfl, h1, h2⟩ := h
      cases r
      obtain ⟨its, _, p, _⟩ := I.list h1
      exact ⟨a, _, rfl, p.isList⟩
    cases x with
    | dic ks xs => cases px
    | tup xs =>
      cases y with
      | dic ks ys => cases py
      | tup ys => exact tups px py rx ry
      | lst ys =>
        obtain ⟨a, i1, rfl, t1⟩ := tupAt rx r
        obtain ⟨b, i2, rfl, t2⟩ := lstAt ry r'
        exact SeqAt.EqAt.tuple_list t1 t2 hu'
      | non => obtain ⟨a, i1, rfl, t1⟩ := tupAt rx r; simp only [Rep] at ry; subst ry; cases r'; exact SeqAt.EqAt.tuple_none t1 hu'
      | bl b => obtain ⟨a, i1, rfl, t1⟩ := tupAt rx r; simp only [Rep] at ry; subst ry; cases r'; exact SeqAt.EqAt.tuple_bool b t1 hu'
      | int b => obtain ⟨a, i1, rfl, t1⟩ := tupAt rx r; simp only [Rep] at ry; subst ry; obtain ⟨t, rfl⟩ := r'; exact SeqAt.EqAt.tuple_int b t t1 hu'
      | str b => obtain ⟨a, i1, rfl, t1⟩ := tupAt rx r; simp only [Rep] at ry; subst ry; obtain ⟨t, rfl⟩ := r'; exact SeqAt.EqAt.tuple_str b t t1 hu'
    | lst xs =>
      cases y with
      | dic ks ys => cases py
      | lst ys => exact lsts px py rx ry
      | tup ys =>
        obtain ⟨a, i1, rfl, t1⟩ := lstAt rx r
        obtain ⟨b, i2, rfl, t2⟩ := tupAt ry r'
        exact SeqAt.EqAt.list_tuple t1 t2 hu'
      | non => obtain ⟨a, i1, rfl, t1⟩ := lstAt rx r; simp only [Rep] at ry; subst ry; cases r'; exact SeqAt.EqAt.list_none t1 hu'
      | bl b => obtain ⟨a, i1, rfl, t1⟩ := lstAt rx r; simp only [Rep] at ry; subst ry; cases r'; exact SeqAt.EqAt.list_bool b t1 hu'
      | int b => obtain ⟨a, i1, rfl, t1⟩ := lstAt rx r; simp only [Rep] at ry; subst ry; obtain ⟨t, rfl⟩ := r'; exact SeqAt.EqAt.list_int b t t1 hu'
      | str b => obtain ⟨a, i1, rfl, t1⟩ := lstAt rx r; simp only [Rep] at ry; subst ry; obtain ⟨t, rfl⟩ := r'; exact SeqAt.EqAt.list_str b t t1 hu'
    | non =>
      cases y with
      | dic ks ys => cases py
      | tup ys => obtain ⟨a, i1, rfl, t1⟩ := tupAt ry r'; simp only [Rep] at rx; subst rx; cases r; exact SeqAt.EqAt.none_tuple t1 hu'
      | lst ys => obtain ⟨a, i1, rfl, t1⟩ := lstAt ry r'; simp only [Rep] at rx; subst rx; cases r; exact SeqAt.EqAt.none_list t1 hu'
      | _ => exact ff rfl rfl rx ry r r'
    | bl b =>
      cases y with
      | dic ks ys => cases py
      | tup ys => obtain ⟨a, i1, rfl, t1⟩ := tupAt ry r'; simp only [Rep] at rx; subst rx; cases r; exact SeqAt.EqAt.bool_tuple b t1 hu'
      | lst ys => obtain ⟨a, i1, rfl, t1⟩ := lstAt ry r'; simp only [Rep] at rx; subst rx; cases r; exact SeqAt.EqAt.bool_list b t1 hu'
      | _ => exact ff rfl rfl rx ry r r'
    | int b =>
      cases y with
      | dic ks ys => cases py
      | tup ys => obtain ⟨a, i1, rfl, t1⟩ := tupAt ry r'; simp only [Rep] at rx; subst rx; obtain ⟨t, rfl⟩ := r; exact SeqAt.EqAt.int_tuple b t t1 hu'
      | lst ys => obtain ⟨a, i1, rfl, t1⟩ := lstAt ry r'; simp only [Rep] at rx; subst rx; obtain ⟨t, rfl⟩ := r; exact SeqAt.EqAt.int_list b t t1 hu'
      | _ => exact ff rfl rfl rx ry r r'
    | str b =>
      cases y with
      | dic ks ys => cases py
      | tup ys => obtain ⟨a, i1, rfl, t1⟩ := tupAt ry r'; simp only [Rep] at rx; subst rx; obtain ⟨t, rfl⟩ := r; exact SeqAt.EqAt.str_tuple b t t1 hu'
      | lst ys => obtain ⟨a, i1, rfl, t1⟩ := lstAt ry r'; simp only [Rep] at rx; subst rx; obtain ⟨t, rfl⟩ := r; exact SeqAt.EqAt.str_list b t t1 hu'
      | _ => exact ff rfl rfl rx ry r r'
end
end L2
set_option Elab.async false
set_option linter.all false
set_option maxRecDepth 100000
set_option maxHeartbeats 4000000
namespace L2
open PySem PySem.Spec PyProof.Rows
section
variable {X : Cx} {pins : List (Addr × Obj)} {σ : St} {H : Hp} {s : Shared}
theorem items_A (I : Inv X pins σ H s) (n : Nat) {A : Around} (hu : A.units + n < cLine) {xs ys : List D} {vs us : List V} {its its2 : List Value} (p1 : xs.all (plainN n) = true) (p2 : ys.all (plainN n) = true) (r1 : RepL X.K H xs vs) (r2 : RepL X.K H ys us) (v1 : Vals vs its) (v2 : Vals us its2) :
    ∀ j (h1 : j < its.toArray.size) (h2 : j < its2.toArray.size), SeqAt.EqAt A s its.toArray[j] its2.toArray[j] (eqA (xs.getD j .non) (ys.getD j .non)) := fun j h1 h2 => by
  have l1 := r1.length
  have l2 := r2.length
  have l3 := v1.length
  have l4 := v2.length
  have j1 : j < xs.length := by simp at h1; omega
  have j2 : j < ys.length := by simp at h2; omega
  have e1 : xs[j]? = some (xs.getD j .non) := by rw [List.getD_eq_getElem?_getD, List.getElem?_eq_getElem j1]; rfl
  have e2 : ys[j]? = some (ys.getD j .non) := by rw [List.getD_eq_getElem?_getD, List.getElem?_eq_getElem j2]; rfl
  obtain ⟨w1, g1, q1⟩ := r1.get e1
  obtain ⟨w2, g2, q2⟩ := r2.get e2
  obtain ⟨u1, k1, k2⟩ := v1.get g1
  obtain ⟨u2, k3, k4⟩ := v2.get g2
  have t1 : its.toArray[j] = u1 := by
    obtain ⟨_, z⟩ := List.getElem?_eq_some_iff.mp k1
    simpa using z
  have t2 : its2.toArray[j] = u2 := by
    obtain ⟨_, z⟩ := List.getElem?_eq_some_iff.mp k3
    simpa using z
  rw [t1, t2]
  exact eqAt_A I n (List.all_eq_true.mp p1 _ (List.mem_of_getElem? e1)) (List.all_eq_true.mp p2 _ (List.mem_of_getElem? e2)) q1 q2 k2 k4 hu
theorem tups_eq {xs ys : List D} {its its2 : List Value} (l1 : xs.length = its.length) (l2 : ys.length = its2.length) :
    ((List.range (min its.toArray.size its2.toArray.size)).all (fun j => eqA (xs.getD j .non) (ys.getD j .non)) && its.toArray.size == its2.toArray.size) = eqAs xs ys := by
  by_cases hl : xs.length = ys.length
  · rw [eqAs_all hl]
    have : min its.toArray.size its2.toArray.size = xs.length := by simp; omega
    rw [this]
    have : (its.toArray.size == its2.toArray.size) = true := by simp; omega
    rw [this, Bool.and_true]
  · rw [eqAs_ne hl]
    have : (its.toArray.size == its2.toArray.size) = false := by simp; omega
    rw [this, Bool.and_false]
end
section
variable {X : Cx}
def rEqT (K : PySem.W.Frag) (neg : Bool) : R2 := fun v u H Q => ∃ xs ys, Rep K H (.tup xs) v ∧ Rep K H (.tup ys) u ∧ xs.all (plainN 8) = true ∧ ys.all (plainN 8) = true ∧ Q (.bl (if neg then !eqAs xs ys else eqAs xs ys)) H
def rEqLs (K : PySem.W.Frag) (neg : Bool) : R2 := fun v u H Q => ∃ xs ys, Rep K H (.lst xs) v ∧ Rep K H (.lst ys) u ∧ xs.all (plainN 8) = true ∧ ys.all (plainN 8) = true ∧ Q (.bl (if neg then !eqAs xs ys else eqAs xs ys)) H
theorem op_eqT (hu : X.A.units + 20 < cLine) : OpR X (compareOp .Eq) (rEqT X.K false) := by
  intro pins s σ H x y v u Q I rx ry h
  obtain ⟨xs, ys, r1, r2, p1, p2, q⟩ := h
  simp only [Rep] at r1 r2
  obtain ⟨a, vs, rfl, h1, h2⟩ := r1
  obtain ⟨b, us, rfl, h3, h4⟩ := r2
  cases rx
  cases ry
  obtain ⟨its, v1, t1, _⟩ := I.tuple h1
  obtain ⟨its2, v2, t2, _⟩ := I.tuple h3
  refine SeqAt.eq_tupleAt (e := fun j => eqA (xs.getD j .non) (ys.getD j .non)) t1 t2 (by omega) (items_A I 8 (by rw [in1_units]; omega) p1 p2 h2 h4 v1 v2) ?_
  rw [tups_eq (h2.length.trans v1.length) (h4.length.trans v2.length)]
  exact ⟨.bl _, H, I, rfl, q⟩
theorem op_neT (hu : X.A.units + 20 < cLine) : OpR X (compareOp .NotEq) (rEqT X.K true) := by
  intro pins s σ H x y v u Q I rx ry h
  obtain ⟨xs, ys, r1, r2, p1, p2, q⟩ := h
  simp only [Rep] at r1 r2
  obtain ⟨a, vs, rfl, h1, h2⟩ := r1
  obtain ⟨b, us, rfl, h3, h4⟩ := r2
  cases rx
  cases ry
  obtain ⟨its, v1, t1, _⟩ := I.tuple h1
  obtain ⟨its2, v2, t2, _⟩ := I.tuple h3
  refine SeqAt.RcNeAt.tuples (e := fun j => eqA (xs.getD j .non) (ys.getD j .non)) t1 t2 (by omega) (items_A I 8 (by rw [in1_units]; omega) p1 p2 h2 h4 v1 v2) _ _ _ _ ?_
  rw [tups_eq (h2.length.trans v1.length) (h4.length.trans v2.length)]
  exact ⟨.bl _, H, I, rfl, q⟩
theorem op_eqLs' (hu : X.A.units + 20 < cLine) : OpR X (compareOp .Eq) (rEqLs X.K false) := by
  intro pins s σ H x y v u Q I rx ry h
  obtain ⟨xs, ys, r1, r2, p1, p2, q⟩ := h
  simp only [Rep] at r1 r2
  obtain ⟨a, vs, rfl, h1, h2⟩ := r1
  obtain ⟨b, us, rfl, h3, h4⟩ := r2
  cases rx
  cases ry
  obtain ⟨its, v1, t1, _⟩ := I.list h1
  obtain ⟨its2, v2, t2, _⟩ := I.list h3
  have l1 := h2.length.trans v1.length
  have l2 := h4.length.trans v2.length
  by_cases hl : xs.length = ys.length
  · refine SeqAt.eq_listAt (e := fun j => eqA (xs.getD j .non) (ys.getD j .non)) t1.isList t2.isList (by simp; omega) (by omega) (items_A I 8 (by rw [in1_units]; omega) p1 p2 h2 h4 v1 v2) ?_
    have e := eqAs_all hl
    have : its.toArray.size = xs.length := by simp; omega
    rw [this, ← e]
    exact ⟨.bl _, H, I, rfl, q⟩
  · refine SeqAt.eq_list_lengthsAt t1.isList t2.isList (by simp; omega) (by omega) ⟨.bl _, H, I, rfl, ?_⟩
    rw [eqAs_ne hl] at q
    exact q
theorem op_neLs' (hu : X.A.units + 20 < cLine) : OpR X (compareOp .NotEq) (rEqLs X.K true) := by
  intro pins s σ H x y v u Q I rx ry h
  obtain ⟨xs, ys, r1, r2, p1, p2, q⟩ := h
  simp only [Rep] at r1 r2
  obtain ⟨a, vs, rfl, h1, h2⟩ := r1
  obtain ⟨b, us, rfl, h3, h4⟩ := r2
  cases rx
  cases ry
  obtain ⟨its, v1, t1, _⟩ := I.list h1
  obtain ⟨its2, v2, t2, _⟩ := I.list h3
  have l1 := h2.length.trans v1.length
  have l2 := h4.length.trans v2.length
  by_cases hl : xs.length = ys.length
  · refine SeqAt.RcNeAt.lists (e := fun j => eqA (xs.getD j .non) (ys.getD j .non)) t1.isList t2.isList (by simp; omega) (by omega) (items_A I 8 (by rw [in1_units]; omega) p1 p2 h2 h4 v1 v2) _ _ _ _ ?_
    have e := eqAs_all hl
    have : its.toArray.size = xs.length := by simp; omega
    rw [this, ← e]
    exact ⟨.bl _, H, I, rfl, q⟩
  · refine SeqAt.RcNeAt.lists_lengths t1.isList t2.isList (by simp; omega) (by omega) _ _ _ _ ⟨.bl _, H, I, rfl, ?_⟩
    rw [eqAs_ne hl] at q
    exact q
def eqSeq (neg : Bool) : D → D → Option D
  | .tup xs, .tup ys => if xs.all (plainN 8) = true ∧ ys.all (plainN 8) = true then some (.bl (if neg then !eqAs xs ys else eqAs xs ys)) else none
  | .lst xs, .lst ys => if xs.all (plainN 8) = true ∧ ys.all (plainN 8) = true then some (.bl (if neg then !eqAs xs ys else eqAs xs ys)) else none
  | _, _ => none
theorem od_eqSeq {f : Value → Value → Sem Value} {neg : Bool} (h1 : OpR X f (rEqT X.K neg)) (h2 : OpR X f (rEqLs X.K neg)) : OpD X f (eqSeq neg) := by
  refine ⟨_, h1.or h2, fun G H x y v u d Q sG rx ry e k => ?_⟩
  unfold eqSeq at e
  split at e
  · split at e
    · rename_i hc
      cases e
      exact .inl ⟨_, _, rx.all sG, ry.all sG, hc.1, hc.2, k _ G H (Grow.refl sG) (by simp [Rep])⟩
    · cases e
  · split at e
    · rename_i hc
      cases e
      exact .inr ⟨_, _, rx.all sG, ry.all sG, hc.1, hc.2, k _ G H (Grow.refl sG) (by simp [Rep])⟩
    · cases e
  · cases e
def eqDic (ks : List Key) (xs : List D) (ls : List Key) (ys : List D) : Bool := xs.length == ys.length && (ks.zip xs).all fun kv => match valD ls ys kv.1 with | some y => eqA kv.2 y | none => false
theorem hits_D {pins : List (Addr × Obj)} {σ : St} {H : Hp} {s : Shared} (I : Inv X pins σ H s) {A : Around} (hu : A.units + 8 < cLine) {ls : List Key} {ys : List D} {ws : List V} {kb : List (Key × Value)} (hl : ls.length = ys.length) (r2 : RepL X.K H ys ws) (p2 : ys.all (plainN 8) = true) (vb : KV (ls.zip ws) kb) :
    ∀ {ks : List Key} {xs : List D} {vs : List V} {ka : List (Key × Value)}, ks.length = xs.length → RepL X.K H xs vs → xs.all (plainN 8) = true → KV (ks.zip vs) ka →
      PySem.W.KeqHits A s kb ka ((ks.zip xs).all fun kv => match valD ls ys kv.1 with | some y => eqA kv.2 y | none => false) := by
  intro ks
  induction ks with
  | nil =>
    intro xs vs ka _ _ _ va
    simp only [List.zip_nil_left] at va
    cases va
    exact .nil
  | cons k ks ih =>
    intro xs vs ka hl' r1 p1 va
    cases xs with
    | nil => cases hl'
    | cons x xs =>
      simp only [RepL] at r1
      obtain ⟨v, us, rfl, q1, q2⟩ := r1
      rw [List.all_cons, Bool.and_eq_true] at p1
      simp only [List.zip_cons_cons] at va
      cases va with
      | @cons p q l1 l2 hp ht =>
        obtain ⟨k', u⟩ := q
        obtain ⟨e1, ru⟩ := hp
        have e1 : k = k' := e1
        subst e1
        have ru : RelV v u := ru
        rw [List.zip_cons_cons, List.all_cons]
        dsimp only
        have hv := valD_rep k hl r2
        have hw := vb.val k
        cases ev : valD ls ys k with
        | none =>
          rw [hv.2 ev] at hw
          exact .miss hw.none_of
        | some y =>
          obtain ⟨w', e3, r3⟩ := hv.1 y ev
          rw [e3] at hw
          obtain ⟨u', e4, r4⟩ := hw.some_of
          have py : plainN 8 y = true := by
            refine List.all_eq_true.mp p2 y ?_
            unfold valD at ev
            obtain ⟨kv, hkv, rfl⟩ := Option.map_eq_some_iff.mp ev
            exact (List.of_mem_zip (List.mem_of_find?_eq_some hkv)).2
          exact .hit e4 (eqAt_A I 8 p1.1 py q1 r3 ru r4 hu) (ih (by simpa using hl') q2 p1.2 ht)
def rEqDc (K : PySem.W.Frag) (neg : Bool) : R2 := fun v u H Q => ∃ ks xs ls ys, Rep K H (.dic ks xs) v ∧ Rep K H (.dic ls ys) u ∧ xs.all (plainN 8) = true ∧ ys.all (plainN 8) = true ∧ Q (.bl (if neg then !eqDic ks xs ls ys else eqDic ks xs ls ys)) H
theorem dic_at {pins : List (Addr × Obj)} {σ : St} {H : Hp} {s : Shared} (I : Inv X pins σ H s) {ks : List Key} {xs : List D} {v : V} (h : Rep X.K H (.dic ks xs) v) : ∃ a vs ka, v = .ref a ∧ (a == sysModules) = false ∧ s.heap.DictOf (mixKind X.prog X.w) a ka ∧ KV (ks.zip vs) ka ∧ ks.length = xs.length ∧ RepL X.K H xs vs ∧ ka.length = xs.length := by
  simp only [Rep] at h
  obtain ⟨a, vs, rfl, h1, h2, h3, h4⟩ := h
  obtain ⟨_, h5, ka, h6, h7⟩ := dk_rd I.hok h1
  refine ⟨a, vs, ka, rfl, h5, h7, h6, h2, h4, ?_⟩
  have := h6.length
  rw [List.length_zip] at this
  have := h4.length
  omega
theorem op_eqDc (hu : X.A.units + 20 < cLine) : OpR X (compareOp .Eq) (rEqDc X.K false) := by
  intro pins s σ H x y v u Q I rx ry h
  obtain ⟨ks, xs, ls, ys, r1, r2, p1, p2, q⟩ := h
  obtain ⟨a, vs, ka, rfl, m1, d1, k1, l1, rl1, n1⟩ := dic_at I r1
  obtain ⟨b, us, kb, rfl, m2, d2, k2, l2, rl2, n2⟩ := dic_at I r2
  cases rx
  cases ry
  refine PySem.W.keq_eq m1 m2 d1 d2 (by omega) (fun _ => hits_D I (by rw [in1_units]; omega) l2 rl2 p2 k2 l1 rl1 p1 k1) ⟨.bl _, H, I, rfl, ?_⟩
  rw [n1, n2]
  exact q
theorem op_neDc (hu : X.A.units + 20 < cLine) : OpR X (compareOp .NotEq) (rEqDc X.K true) := by
  intro pins s σ H x y v u Q I rx ry h
  obtain ⟨ks, xs, ls, ys, r1, r2, p1, p2, q⟩ := h
  obtain ⟨a, vs, ka, rfl, m1, d1, k1, l1, rl1, n1⟩ := dic_at I r1
  obtain ⟨b, us, kb, rfl, m2, d2, k2, l2, rl2, n2⟩ := dic_at I r2
  cases rx
  cases ry
  refine PySem.W.keq_ne m1 m2 d1 d2 (by omega) (fun _ => hits_D I (by rw [in1_units]; omega) l2 rl2 p2 k2 l1 rl1 p1 k1) ⟨.bl _, H, I, rfl, ?_⟩
  rw [n1, n2]
  exact q
def eqDc (neg : Bool) : D → D → Option D
  | .dic ks xs, .dic ls ys => if xs.all (plainN 8) = true ∧ ys.all (plainN 8) = true then some (.bl (if neg then !eqDic ks xs ls ys else eqDic ks xs ls ys)) else none
  | _, _ => none
theorem od_eqDc {f : Value → Value → Sem Value} {neg : Bool} (h1 : OpR X f (rEqDc X.K neg)) : OpD X f (eqDc neg) := by
  refine ⟨_, h1, fun G H x y v u d Q sG rx ry e k => ?_⟩
  unfold eqDc at e
  split at e
  · split at e
    · rename_i hc
      cases e
      exact ⟨_, _, _, _, rx.all sG, ry.all sG, hc.1, hc.2, k _ G H (Grow.refl sG) (by simp [Rep])⟩
    · cases e
  · cases e
def eqO (neg : Bool) (x y : D) : Option D := (sEq neg x y).or ((eqSeq neg x y).or (eqDc neg x y))
theorem od_eqO (hu : X.A.units + 20 < cLine) : OpD X (compareOp .Eq) (eqO false) := od_seq.or ((od_eqSeq (op_eqT hu) (op_eqLs' hu)).or (od_eqDc (op_eqDc hu)))
theorem od_neO (hu : X.A.units + 20 < cLine) : OpD X (compareOp .NotEq) (eqO true) := od_sne.or ((od_eqSeq (op_neT hu) (op_neLs' hu)).or (od_eqDc (op_neDc hu)))
end
end L2
set_option Elab.async false
set_option linter.all false
set_option maxRecDepth 100000
set_option maxHeartbeats 4000000
namespace L2
open PySem PySem.Spec PyProof.Rows
section
variable {X : Cx} {e : Expr} {f : FE} {pos : Pos}
end
end L2
set_option Elab.async false
set_option linter.all false
set_option maxRecDepth 100000
set_option maxHeartbeats 4000000
namespace L2
open PySem PySem.Spec PyProof.Rows
end L2
set_option Elab.async false
set_option linter.all false
set_option maxRecDepth 100000
set_option maxHeartbeats 4000000
namespace L2
open PySem PySem.Spec PyProof.Rows
section
variable {X : Cx}
def nonD : D → Bool | .non => true | _ => false
theorem nonD_rep {K : PySem.W.Frag} {G H : Hp} {d : D} {v : V} (r : RepB K G H d v) : decide (v = .non) = nonD d := by
  rcases r with r | ⟨m, a, vs, h1, h2, _⟩
  · cases d with
    | non => simp only [Rep] at r; subst r; rfl
    | bl b => simp only [Rep] at r; subst r; rfl
    | int b => simp only [Rep] at r; subst r; rfl
    | str b => simp only [Rep] at r; subst r; rfl
    | tup b => simp only [Rep] at r; obtain ⟨_, _, rfl, _⟩ := r; rfl
    | lst b => simp only [Rep] at r; obtain ⟨_, _, rfl, _⟩ := r; rfl
    | dic b c => simp only [Rep] at r; obtain ⟨_, _, rfl, _⟩ := r; rfl
  · subst h1 h2; cases m <;> rfl
def isN (n : Bool) : D → D → Option D | x, .non => some (.bl (if n then !nonD x else nonD x)) | _, _ => none
theorem od_notN : OpD X (compareOp .IsNot) (isN true) := by
  refine ⟨_, op_notN, fun G H x y v u d Q sG rx ry e k => ?_⟩
  unfold isN at e
  split at e
  · cases e
    have ry := ry.flat rfl
    simp only [Rep] at ry
    refine ⟨ry, ?_⟩
    rw [nonD_rep rx]
    exact k _ G H (Grow.refl sG) (by simp [Rep])
  · cases e
end
end L2
set_option Elab.async false
set_option linter.all false
set_option maxRecDepth 100000
set_option maxHeartbeats 4000000
namespace L2
open PySem PySem.Spec PyProof.Rows
section
variable {X : Cx} {pins : List (Addr × Obj)} {σ : St} {H : Hp} {s : Shared} {a : Addr} {kvs : List (Key × V)} {k : Key} {d : V} {u r : Value} {A : Around} {E : Value → Shared → Prop}
end
section
variable {X : Cx} {o e f : Expr} {apos cpos : Pos} {td ty tx : TE}
end
section
variable {X : Cx} {e a b : Expr} {pos : Pos}
end
end L2
set_option Elab.async false
set_option linter.all false
set_option maxRecDepth 100000
set_option maxHeartbeats 4000000
namespace HT
open PySem PySem.Spec PyProof.Rows
variable {prog : Program} {w : World} {A : Around} {E : Value → Shared → Prop} {s : Shared}
theorem getItem_tuple_all {t sl : Addr} {items : Array Value} {vl vu : Value} {lo hi : Option Int} {Q : Value → Shared → Prop} (ht : IsTup s.heap t items) (hs : s.heap.IsSliceOf sl vl vu .none) (pl : IsPart vl lo) (pu : IsPart vu hi)
    (hw : sIx items.size 0 lo = 0 ∧ sIx items.size items.size hi = items.size) (h : Q (.ref t) s) : wpAny (model prog w) A (getItem (.ref t) (.ref sl)) Q E s := by
  obtain ⟨os, hos, hcs, hds⟩ := id hs
  have hTs : s.TypeIs (.ref sl) "slice" := ⟨os, hos, hcs⟩
  unfold getItem
  try with_reducible refine wpAny_holding ?_
  first | refine wpAny_bind (wpAny_pure ?_) | skip
  refine wpAny_bind (wpAny_sequenceKey ht.typeIs (by decide) ?_)
  refine wpAny_bind (wpAny_callSpecial?_slot (name := Str.ofString "__getitem__") ht.typeIs PyProof.Rows.slot_tuple_getitem
    (wpAny_call_entry PyProof.Rows.slot_tuple_getitem ht.typeIs entry_tuple_getitem ?_ (args_tuple_getitem _ _)))
  show wpAny _ _ (Builtin.Tuple.tupleItemsOf (.ref t) >>= _) _ _ s
  refine wpAny_bind (tupleItemsOf_ ht ?_)
  refine wpAny_bind (wpAny_typeOf hTs ?_)
  rw [if_pos (by decide)]
  refine wpAny_bind (sliceApplied_gen hs pl pu ?_)
  have hno : (((sIx items.size 0 lo : Nat) : Int) == 0 && (1 : Int) == 1 && (sIx items.size items.size hi - sIx items.size 0 lo) == items.size) = true := by
    rw [hw.1, hw.2]; simp
  show wpAny _ _ (if (((sIx items.size 0 lo : Nat) : Int) == 0 && (1 : Int) == 1 && (sIx items.size items.size hi - sIx items.size 0 lo) == items.size) = true then _ else _) _ _ s
  rw [if_pos hno]
  refine wpAny_bind ?_
  unfold Builtin.Tuple.tupleIsExact
  refine wpAny_bind (wpAny_typeOf ht.typeIs (wpAny_pure ?_))
  rw [if_pos (by decide)]
  refine wpAny_bind (wpAny_rule ?_)
  first
    | exact wpAny_pure ⟨_, rfl, wpAny_pure h⟩
    | exact wpAny_bind (wpAny_pure ⟨_, rfl, wpAny_pure h⟩)
    | exact wpAny_pure (wpAny_pure ⟨_, rfl, wpAny_pure h⟩)
    | exact wpAny_pure (wpAny_pure h)
end HT
namespace L2
open PySem PySem.Spec PyProof.Rows
section
variable {X : Cx}
def rSlTA (K : PySem.W.Frag) : V → Option Int → Option Int → Hp → VK → Prop := fun x lo hi H Q => ∃ a xs, x = .ref a ∧ SqT K H a xs ∧
  (HT.sIx xs.length 0 lo = 0 ∧ HT.sIx xs.length xs.length hi = xs.length) ∧ Q (.ref a) H
theorem sl_tupA : SlR X (rSlTA X.K) := by
  intro pins s σ H x v vl vu lo hi sl Q I rx hs pl pu h
  obtain ⟨a, xs, rfl, hx, hw, q⟩ := h
  cases rx
  obtain ⟨its, r, ht, hz⟩ := I.tuple hx
  have hlen : its.toArray.size = xs.length := by rw [List.size_toArray]; exact r.length.symm
  refine ⟨"tuple", _, PyProof.Rows.slot_tuple_getitem.lookup, ht.typeIs, ?_⟩
  exact HT.getItem_tuple_all ht hs pl pu (by rw [hlen]; exact hw) ⟨.ref a, H, I, rfl, q⟩
def slA (x : D) (lo hi : Option Int) : Option Rs := match x with
  | .lst ds => some (.fr (.lst (cutD ds lo hi)))
  | .tup ds => some (.sh (.tup (cutD ds lo hi)))
  | _ => none
theorem cutD_all {ds : List D} {lo hi : Option Int} (h : HT.sIx ds.length 0 lo = 0 ∧ HT.sIx ds.length ds.length hi = ds.length) : cutD ds lo hi = ds := by
  unfold cutD
  rw [h.1, h.2]
  simp
@[simp] def fSlA (f : FE) (l h : En → Option (Option Int)) : FR := fun δ => (f δ).bind fun x => (l δ).bind fun lo => (h δ).bind fun hi => slA x lo hi
theorem pr_slA {e : Expr} {f : FE} {lo hi : Option Expr} {fl fh : En → Option (Option Int)} {pos p2 : Pos} (he : PB X e f) (hl : POD X lo fl) (hh : POD X hi fh) : PR X (.Subscript e (.Slice lo hi none p2) pos) (fSlA f fl fh) := by
  obtain ⟨t, pt, k1⟩ := he
  obtain ⟨tl, pl, kl⟩ := hl
  obtain ⟨th, ph, kh⟩ := hh
  refine ⟨_, pe_slice ((sl_list.or sl_tup).or sl_tupA) pt pl ph, fun B G H δ σ d Q sG rs e k => ?_⟩
  unfold fSlA at e
  obtain ⟨x, e1, e⟩ := Option.bind_eq_some_iff.mp e
  obtain ⟨l, e2, e⟩ := Option.bind_eq_some_iff.mp e
  obtain ⟨h, e3, e⟩ := Option.bind_eq_some_iff.mp e
  refine k1 B G H δ σ x _ sG rs e1 fun v G1 H1 g1 r1 => kl B G1 H1 δ σ l _ g1.s (rs.grow g1) e2 fun G2 H2 g2 => kh B G2 H2 δ σ h _ g2.s (rs.grow (g1.trans g2)) e3 fun G3 H3 g3 => ?_
  have g13 := (g1.trans g2).trans g3
  have r3 := r1.grow (g2.trans g3)
  unfold slA at e
  split at e
  · cases e
    obtain ⟨a, vs, rfl, q, rl⟩ := r3.lst g3.s
    exact .inl (.inl ⟨a, vs, rfl, q, fun p hp => k p _ G3 H3 g13 hp True.intro (rl.cut l h)⟩)
  · rename_i ds _ _
    cases e
    have r3 := r3.tup
    have r4 := r3
    simp only [Rep] at r4
    obtain ⟨a, vs, rfl, q, rl⟩ := r4
    by_cases hw : HT.sIx ds.length 0 l = 0 ∧ HT.sIx ds.length ds.length h = ds.length
    · rw [cutD_all hw] at k
      exact .inr ⟨a, vs, rfl, g3.s.sqT q, by rw [← rl.length]; exact hw, k _ _ _ g13 r3⟩
    · exact .inl (.inr ⟨a, vs, rfl, g3.s.sqT q, by rw [← rl.length]; exact hw, fun p hp => k _ _ _ (g13.trans (Grow.laid g3.s _ hp)) (rep_tup (g3.s.free hp) (rl.cut l h))⟩)
  · cases e
end
end L2
set_option Elab.async false
set_option linter.all false
set_option maxRecDepth 100000
set_option maxHeartbeats 4000000
namespace L2
open PySem PySem.Spec PyProof.Rows
section
variable {prog : Program} {w : World} {A : Around} {E : Value → Shared → Prop} {s : Shared}
theorem nextOf_tuple_item {it t : Addr} {i : Nat} {items : Array Value} {x : Value} {Q : Value → Shared → Prop} (hit : s.heap.IsTupleIter it t i) (ht : s.heap.IsTuple t items) (hx : items[i]? = some x)
    (hQ : ∀ h' : Heap, h'.IsTupleIter it t (i + 1) → Heap.SameBut it s.heap h' → Q x { s with heap := h' }) : wpAny (model prog w) A (Builtin.SmallTypes.nextOf (.ref it)) Q E s := by
  obtain ⟨o, ho, hc, hd⟩ := id hit
  obtain ⟨ol, hol, _, nl, hdl⟩ := ht
  unfold Builtin.SmallTypes.nextOf
  refine wpAny_bind (wpAny_callSpecial?_slot (Heap.IsTupleIter.typeIs hit) F.slot_tuple_iterator_next (wpAny_call_entry F.slot_tuple_iterator_next (Heap.IsTupleIter.typeIs hit) F.entry_tuple_iterator_next ?_ (F.args_tuple_iterator_next_1 _)))
  refine wpAny_bind (show wpAny _ _ (pure (Value.ref it, [])) _ _ _ from wpAny_pure ?_)
  refine wpAny_bind (wpAny_field ho hd rfl ?_)
  refine Eq.mpr (congrArg (fun m => wpAny (model prog w) A.in1 m _ _ s) (if_neg Bool.false_ne_true)) ?_
  refine wpAny_bind (wpAny_field ho hd rfl ?_)
  refine wpAny_bind (wpAny_seqItems hol hdl ?_)
  show wpAny _ _ (match items[i]? with | some x => _ | none => _) _ _ s
  rw [hx]
  refine wpAny_bind (wpAny_setField ho hd (by simp) (wpAny_pure ⟨x, rfl, wpAny_pure (hQ _ ?_ (Heap.SameBut.update _ _ _))⟩))
  exact ⟨_, Heap.get?_update_self _ ho (Obj.isFreed_of_fields (Obj.data_mapFields hd _)), (Obj.cls_mapFields o _).trans hc, by rw [Obj.data_mapFields hd]; simp [rawInt]⟩
end
end L2
set_option Elab.async false
set_option linter.all false
set_option maxRecDepth 100000
set_option maxHeartbeats 4000000
namespace L2
open PySem PySem.Spec PyProof.Rows
section
variable {prog : Program} {w : World} {A : Around} {E : Value → Shared → Prop} {s : Shared}
theorem stopIter {α : Type} {Q : α → Shared → Prop} (hh : A.handled = none) (hE : ∀ (h' : Heap) (e : Addr), (∀ c o, s.heap.get? c = some o → h'.get? c = some o) → (∃ o, h'.get? e = some o ∧ o.cls = .type "StopIteration") → E (.ref e) { s with heap := h' }) :
    wpAny (model prog w) A (Builtin.SmallTypes.stopIteration (α := α)) Q E s := by
  unfold Builtin.SmallTypes.stopIteration
  refine wpAny_bind ?_
  unfold newExc
  refine wpAny_bind (wpAny_newObj_type ?_ (by show (0 : Nat) ≤ sizeLine; exact Nat.zero_le _))
  refine wpAny_bind (wpAny_of_eq (Eq.refl (firstArgMember (Value.type "StopIteration") [])) ?_)
  refine wpAny_newObj_type ?_ (sizeOk_excFields _ _ _ _ _ _ _ _)
  unfold raiseNew
  refine wpAny_bind (wpAny_handled ?_)
  rw [hh]
  refine wpAny_throw (hE _ _ (fun c o e => Heap.get?_push_of_some _ (Heap.get?_push_of_some _ e)) ⟨_, Heap.get?_push_size _ rfl, rfl⟩)
theorem nextOf_tuple_end {it t : Addr} {i : Nat} {items : Array Value} {Q : Value → Shared → Prop} (hh : A.handled = none) (hit : s.heap.IsTupleIter it t i) (ht : s.heap.IsTuple t items) (hx : items[i]? = none)
    (hE : ∀ (h' : Heap) (e : Addr), Heap.ExtBut it s.heap h' → (∃ o, h'.get? e = some o ∧ o.cls = .type "StopIteration") → E (.ref e) { s with heap := h' }) : wpAny (model prog w) A (Builtin.SmallTypes.nextOf (.ref it)) Q E s := by
  obtain ⟨o, ho, hc, hd⟩ := id hit
  obtain ⟨ol, hol, _, nl, hdl⟩ := ht
  unfold Builtin.SmallTypes.nextOf
  refine wpAny_bind (wpAny_callSpecial?_slot (Heap.IsTupleIter.typeIs hit) F.slot_tuple_iterator_next (wpAny_call_entry F.slot_tuple_iterator_next (Heap.IsTupleIter.typeIs hit) F.entry_tuple_iterator_next ?_ (F.args_tuple_iterator_next_1 _)))
  refine wpAny_bind (show wpAny _ _ (pure (Value.ref it, [])) _ _ _ from wpAny_pure ?_)
  refine wpAny_bind (wpAny_field ho hd rfl ?_)
  refine Eq.mpr (congrArg (fun m => wpAny (model prog w) A.in1 m _ _ s) (if_neg Bool.false_ne_true)) ?_
  refine wpAny_bind (wpAny_field ho hd rfl ?_)
  refine wpAny_bind (wpAny_seqItems hol hdl ?_)
  show wpAny _ _ (match items[i]? with | some x => _ | none => _) _ _ s
  rw [hx]
  refine wpAny_bind (wpAny_rule (wpAny_bind (wpAny_setField ho hd (by simp) ?_)))
  refine stopIter (A := A.in1) hh fun h' e k he => hE h' e (fun c q hc' e' => k c q ?_) he
  exact (Heap.SameBut.update s.heap it _).extBut c q hc' e'
def QIter (tp : Bool) (h : Heap) (it l : Addr) (i : Nat) : Prop := match tp with | true => h.IsTupleIter it l i | false => h.IsListIter it l i
def QSeq (tp : Bool) (h : Heap) (l : Addr) (xs : Array Value) : Prop := match tp with | true => h.IsTuple l xs | false => h.IsList l xs
theorem QIter.keep {tp : Bool} {h h' : Heap} {it l : Addr} {i : Nat} (q : QIter tp h it l i) (k : ∀ o, h.get? it = some o → h'.get? it = some o) : QIter tp h' it l i := by
  cases tp with
  | true => obtain ⟨o, e, r⟩ := q; exact ⟨o, k o e, r⟩
  | false => obtain ⟨o, e, r⟩ := q; exact ⟨o, k o e, r⟩
theorem QSeq.keep {tp : Bool} {h h' : Heap} {l : Addr} {xs : Array Value} (q : QSeq tp h l xs) (k : ∀ o, h.get? l = some o → h'.get? l = some o) : QSeq tp h' l xs := by
  cases tp with
  | true => obtain ⟨o, e, r⟩ := q; exact ⟨o, k o e, r⟩
  | false => obtain ⟨o, e, r⟩ := q; exact ⟨o, k o e, r⟩
theorem nextOf_q_item {tp : Bool} {it t : Addr} {i : Nat} {items : Array Value} {x : Value} {Q : Value → Shared → Prop} (hit : QIter tp s.heap it t i) (ht : QSeq tp s.heap t items) (hx : items[i]? = some x)
    (hQ : ∀ h' : Heap, QIter tp h' it t (i + 1) → Heap.SameBut it s.heap h' → Q x { s with heap := h' }) : wpAny (model prog w) A (Builtin.SmallTypes.nextOf (.ref it)) Q E s := by
  cases tp with
  | true => exact nextOf_tuple_item hit ht hx hQ
  | false => exact wpAny_nextOf_list_item hit ht hx hQ
theorem nextOf_q_end {tp : Bool} {it t : Addr} {i : Nat} {items : Array Value} {Q : Value → Shared → Prop} (hh : A.handled = none) (hit : QIter tp s.heap it t i) (ht : QSeq tp s.heap t items) (hx : items[i]? = none)
    (hE : ∀ (h' : Heap) (e : Addr), Heap.ExtBut it s.heap h' → (∃ o, h'.get? e = some o ∧ o.cls = .type "StopIteration") → E (.ref e) { s with heap := h' }) : wpAny (model prog w) A (Builtin.SmallTypes.nextOf (.ref it)) Q E s := by
  cases tp with
  | true => exact nextOf_tuple_end hh hit ht hx hE
  | false => exact wpAny_nextOf_list_end hh hit ht hx hE
end
end L2
set_option Elab.async false
set_option linter.all false
set_option maxRecDepth 100000
set_option maxHeartbeats 4000000
namespace L2
open PySem PySem.Spec PyProof.Rows
section
variable {prog : Program} {w : World} {A : Around} {E : Value → Shared → Prop} {s : Shared}
theorem zipq_item {z TI TO i1 i2 l1 l2 : Addr} {t1 t2 : Bool} {k1 k2 : Nat} {xs ys : Array Value} {x y a b : Value} {Q : Value → Shared → Prop} (D : ZipApart z TI TO i1 i2 l1 l2) (hz : IsZip s.heap z TI TO .none)
    (hTI : IsPair s.heap TI (.ref i1) (.ref i2)) (hTO : IsPair s.heap TO a b) (h1 : QIter t1 s.heap i1 l1 k1) (h2 : QIter t2 s.heap i2 l2 k2) (hl1 : QSeq t1 s.heap l1 xs) (hl2 : QSeq t2 s.heap l2 ys) (hx : xs[k1]? = some x) (hy : ys[k2]? = some y)
    (hQ : ∀ h' : Heap, IsZip h' z TI TO (rawInt s.heap.objs.size) → IsPair h' TO x y → QIter t1 h' i1 l1 (k1 + 1) → QIter t2 h' i2 l2 (k2 + 1) → IsPair h' s.heap.objs.size x y →
      (∀ c o, c ≠ z → c ≠ TO → c ≠ i1 → c ≠ i2 → s.heap.get? c = some o → h'.get? c = some o) → Q (.ref s.heap.objs.size) { s with heap := h' }) :
    wpAny (model prog w) A (Builtin.«zip.__next__» { pos := [.ref z] }) (fun fin s' => ∃ v, fin = Fin.done (Flow.ret v) ∧ Q v s') E s := by
  unfold Builtin.«zip.__next__»
  refine wpAny_bind (show wpAny _ _ (pure (Value.ref z, [])) _ _ _ from wpAny_pure ?_)
  refine wpAny_bind (wpAny_field hz rfl rfl ?_)
  refine wpAny_bind (wpAny_field hz rfl rfl ?_)
  refine wpAny_bind (wpAny_seqItems hTI rfl ?_)
  dsimp only
  refine Eq.mpr (congrArg (fun m => wpAny (model prog w) A m _ _ s) (if_neg (show ¬ (#[Value.ref i1, Value.ref i2].isEmpty = true) by simp))) ?_
  refine wpAny_bind (show wpAny _ _ (Builtin.SmallTypes.ownedTupleIsFree (.ref z)) _ _ _ from ?_)
  unfold Builtin.SmallTypes.ownedTupleIsFree
  refine wpAny_bind (wpAny_field hz rfl rfl (wpAny_pure ?_))
  refine Eq.mpr (congrArg (fun m => wpAny (model prog w) A m _ _ s) (if_pos rfl)) ?_
  refine wpAny_bind (wpAny_rule (wpAny_bind (wpAny_field hz rfl rfl ?_)))
  refine wpAny_bind (wpAny_setField hz rfl (by simp) ?_)
  have hs1 := Heap.SameBut.update s.heap z (Obj.mapFields fun x => x.setIfInBounds 0 Value.ellipsis)
  have hz1 : IsZip (s.heap.update z (Obj.mapFields fun x => x.setIfInBounds 0 Value.ellipsis)) z TI TO .ellipsis := Heap.get?_update_self _ hz rfl
  generalize s.heap.update z (Obj.mapFields fun x => x.setIfInBounds 0 Value.ellipsis) = H1 at hs1 hz1 ⊢
  refine wpAny_bind ?_
  show wpAny _ _ (forIn [(Value.ref i1, 0), (Value.ref i2, 1)] _ _) _ _ _
  rw [List.forIn_cons]
  refine wpAny_bind (wpAny_bind (wpAny_onRaise ?_))
  show wpAny _ _ (Builtin.SmallTypes.nextOf (.ref i1) >>= fun v => pure (some v)) _ _ _
  refine wpAny_bind (nextOf_q_item (tp := t1) (t := l1) (i := k1) (items := xs) (x := x) (h1.keep fun o e => (hs1.2 i1 D.i1z).trans e) (hl1.keep fun o e => (hs1.2 l1 D.l1z).trans e) hx fun H2 q2 hs2 => wpAny_pure ?_)
  have hTO2 : IsPair H2 TO a b := (hs2.2 TO D.TOi1).trans ((hs1.2 TO D.TOz).trans hTO)
  refine wpAny_bind (wpAny_seqItems hTO2 rfl (wpAny_bind (wpAny_updateSeq_pair hTO2 fun H3 hTO3 hs3 => wpAny_bind (wpAny_letGo (wpAny_pure ?_)))))
  have hTO3 : IsPair H3 TO x b := hTO3
  show wpAny _ _ (forIn [(Value.ref i2, 1)] _ _) _ _ _
  rw [List.forIn_cons]
  refine wpAny_bind (wpAny_bind (wpAny_onRaise ?_))
  show wpAny _ _ (Builtin.SmallTypes.nextOf (.ref i2) >>= fun v => pure (some v)) _ _ _
  have k3 : ∀ c o, c ≠ z → c ≠ i1 → c ≠ TO → s.heap.get? c = some o → H3.get? c = some o := fun c o a1 a2 a3 e => (hs3.2 c a3).trans ((hs2.2 c a2).trans ((hs1.2 c a1).trans e))
  refine wpAny_bind (nextOf_q_item (tp := t2) (t := l2) (i := k2) (items := ys) (x := y) (h2.keep fun o e => k3 _ _ D.i2z D.i12.symm D.TOi2.symm e) (hl2.keep fun o e => k3 _ _ D.l2z D.l2i1 D.l2TO e) hy fun H4 q4 hs4 => wpAny_pure ?_)
  have hTO4 : IsPair H4 TO x b := (hs4.2 TO D.TOi2).trans hTO3
  refine wpAny_bind (wpAny_seqItems hTO4 rfl (wpAny_bind (wpAny_updateSeq_pair hTO4 fun H5 hTO5 hs5 => wpAny_bind (wpAny_letGo (wpAny_pure ?_)))))
  have hTO5 : IsPair H5 TO x y := hTO5
  show wpAny _ _ (forIn [] _ _) _ _ _
  rw [List.forIn_nil]
  refine wpAny_pure ?_
  refine wpAny_bind (wpAny_seqItems hTO5 rfl ?_)
  have hz5 : IsZip H5 z TI TO .ellipsis := (hs5.2 z D.TOz.symm).trans ((hs4.2 z D.i2z.symm).trans ((hs3.2 z D.TOz.symm).trans ((hs2.2 z D.i1z.symm).trans hz1)))
  have sz : H5.objs.size = s.heap.objs.size := by
    have a1 := hs1.1; have a2 := hs2.1; have a3 := hs3.1; have a4 := hs4.1; have a5 := hs5.1
    dsimp only at a2 a3 a4 a5
    omega
  refine wpAny_bind (wpAny_newObj_type (T := "tuple") (data := .seq #[x, y]) ?_ (by show (2 : Nat) ≤ sizeLine; decide))
  have nz : H5.objs.size ≠ z := fun e => absurd (Heap.lt_size hz5) (by rw [e]; exact Nat.lt_irrefl _)
  have hz6 : IsZip (H5.push { cls := .type "tuple", data := .seq #[x, y] }) z TI TO .ellipsis := Heap.get?_push_of_some _ hz5
  have hT6 : IsPair (H5.push { cls := .type "tuple", data := .seq #[x, y] }) H5.objs.size x y := Heap.get?_push_size _ rfl
  have k6 : ∀ c o, H5.get? c = some o → (H5.push { cls := .type "tuple", data := .seq #[x, y] }).get? c = some o := fun c o e => Heap.get?_push_of_some _ e
  show wpAny _ _ (Builtin.SmallTypes.ownedTupleHandOut (.ref z) (.ref H5.objs.size) >>= fun _ => ret (.ref H5.objs.size)) _ _ { s with heap := H5.push { cls := .type "tuple", data := .seq #[x, y] } }
  generalize H5.push { cls := .type "tuple", data := .seq #[x, y] } = H6 at hz6 hT6 k6 ⊢
  rw [sz] at hT6 nz ⊢
  refine wpAny_bind ?_
  unfold Builtin.SmallTypes.ownedTupleHandOut
  refine wpAny_bind (wpAny_setField hz6 rfl (by simp) ?_)
  have hs7 := Heap.SameBut.update H6 z (Obj.mapFields fun x => x.setIfInBounds 0 (rawInt s.heap.objs.size))
  have hz7 : IsZip (H6.update z (Obj.mapFields fun x => x.setIfInBounds 0 (rawInt s.heap.objs.size))) z TI TO (rawInt s.heap.objs.size) := Heap.get?_update_self _ hz6 rfl
  generalize H6.update z (Obj.mapFields fun x => x.setIfInBounds 0 (rawInt s.heap.objs.size)) = H7 at hs7 hz7 ⊢
  refine wpAny_setField hz7 rfl (by simp) ?_
  have hs8 := Heap.SameBut.update H7 z (Obj.mapFields fun x => x.setIfInBounds 1 (Value.bool false))
  have hz8 : IsZip (H7.update z (Obj.mapFields fun x => x.setIfInBounds 1 (Value.bool false))) z TI TO (rawInt s.heap.objs.size) := Heap.get?_update_self _ hz7 rfl
  show wpAny _ _ _ _ _ { s with heap := H7.update z (Obj.mapFields fun x => x.setIfInBounds 1 (Value.bool false)) }
  generalize H7.update z (Obj.mapFields fun x => x.setIfInBounds 1 (Value.bool false)) = H8 at hs8 hz8 ⊢
  have k8 : ∀ c o, c ≠ z → H5.get? c = some o → H8.get? c = some o := fun c o n e => (hs8.2 c n).trans ((hs7.2 c n).trans (k6 c o e))
  have q2' : QIter t1 H8 i1 l1 (k1 + 1) := q2.keep fun o e => k8 _ _ D.i1z ((hs5.2 i1 D.TOi1.symm).trans ((hs4.2 i1 D.i12).trans ((hs3.2 i1 D.TOi1.symm).trans e)))
  have q4' : QIter t2 H8 i2 l2 (k2 + 1) := q4.keep fun o e => k8 _ _ D.i2z ((hs5.2 i2 D.TOi2.symm).trans e)
  refine wpAny_pure ⟨_, rfl, hQ H8 hz8 (k8 _ _ D.TOz hTO5) q2' q4' ((hs8.2 _ nz).trans ((hs7.2 _ nz).trans hT6)) fun c o n1 n2 n3 n4 e => ?_⟩
  exact k8 c o n1 ((hs5.2 c n2).trans ((hs4.2 c n4).trans (k3 c o n1 n3 n2 e)))
end
end L2
set_option Elab.async false
set_option linter.all false
set_option maxRecDepth 100000
set_option maxHeartbeats 4000000
namespace L2
open PySem PySem.Spec PyProof.Rows
section
variable {prog : Program} {w : World} {A : Around} {E : Value → Shared → Prop} {s : Shared}
theorem zipq_end {z TI TO i1 i2 l1 l2 : Addr} {t1 t2 : Bool} {k1 k2 : Nat} {xs ys : Array Value} {a b : Value} {Q : PySem.Fin → Shared → Prop} (hh : A.handled = none) (D : ZipApart z TI TO i1 i2 l1 l2) (hz : IsZip s.heap z TI TO .none)
    (hTI : IsPair s.heap TI (.ref i1) (.ref i2)) (hTO : IsPair s.heap TO a b) (h1 : QIter t1 s.heap i1 l1 k1) (h2 : QIter t2 s.heap i2 l2 k2) (hl1 : QSeq t1 s.heap l1 xs) (hl2 : QSeq t2 s.heap l2 ys) (hend : xs[k1]? = none ∨ ys[k2]? = none)
    (hE : ∀ (h' : Heap) (e : Addr), (∀ c o, c ≠ z → c ≠ TO → c ≠ i1 → c ≠ i2 → s.heap.get? c = some o → h'.get? c = some o) → (∃ o, h'.get? e = some o ∧ o.cls = .type "StopIteration") → E (.ref e) { s with heap := h' }) :
    wpAny (model prog w) A (Builtin.«zip.__next__» { pos := [.ref z] }) Q E s := by
  unfold Builtin.«zip.__next__»
  refine wpAny_bind (show wpAny _ _ (pure (Value.ref z, [])) _ _ _ from wpAny_pure ?_)
  refine wpAny_bind (wpAny_field hz rfl rfl ?_)
  refine wpAny_bind (wpAny_field hz rfl rfl ?_)
  refine wpAny_bind (wpAny_seqItems hTI rfl ?_)
  dsimp only
  refine Eq.mpr (congrArg (fun m => wpAny (model prog w) A m _ _ s) (if_neg (show ¬ (#[Value.ref i1, Value.ref i2].isEmpty = true) by simp))) ?_
  refine wpAny_bind (show wpAny _ _ (Builtin.SmallTypes.ownedTupleIsFree (.ref z)) _ _ _ from ?_)
  unfold Builtin.SmallTypes.ownedTupleIsFree
  refine wpAny_bind (wpAny_field hz rfl rfl (wpAny_pure ?_))
  refine Eq.mpr (congrArg (fun m => wpAny (model prog w) A m _ _ s) (if_pos rfl)) ?_
  refine wpAny_bind (wpAny_rule (wpAny_bind (wpAny_field hz rfl rfl ?_)))
  refine wpAny_bind (wpAny_setField hz rfl (by simp) ?_)
  have hs1 := Heap.SameBut.update s.heap z (Obj.mapFields fun x => x.setIfInBounds 0 Value.ellipsis)
  have hz1 : IsZip (s.heap.update z (Obj.mapFields fun x => x.setIfInBounds 0 Value.ellipsis)) z TI TO .ellipsis := Heap.get?_update_self _ hz rfl
  generalize s.heap.update z (Obj.mapFields fun x => x.setIfInBounds 0 Value.ellipsis) = H1 at hs1 hz1 ⊢
  refine wpAny_bind ?_
  show wpAny _ _ (forIn [(Value.ref i1, 0), (Value.ref i2, 1)] _ _) _ _ _
  rw [List.forIn_cons]
  -- once a StopIteration has come
  have fin : ∀ (H' : Heap) (e : Addr), IsZip H' z TI TO .ellipsis → (∀ c o, c ≠ z → c ≠ TO → c ≠ i1 → c ≠ i2 → s.heap.get? c = some o → H'.get? c = some o) → (∃ o, H'.get? e = some o ∧ o.cls = .type "StopIteration") →
      wpAny (model prog w) A (setField (.ref z) 0 Value.none) (fun _ s'' => E (.ref e) s'') E { s with heap := H' } := fun H' e hz' k he => by
    refine wpAny_setField hz' rfl (by simp) (hE _ e (fun c o n1 n2 n3 n4 e' => ((Heap.SameBut.update H' z _).2 c n1).trans (k c o n1 n2 n3 n4 e')) ?_)
    obtain ⟨o, ho, hc⟩ := he
    have ne : e ≠ z := fun z' => by
      subst z'
      have hz'' : some o = _ := ho.symm.trans hz'
      have := Option.some.inj hz''
      subst this
      exact absurd (show (Value.type "zip" : Value) = Value.type "StopIteration" from hc) (by intro q; injection q with q; exact absurd q (by decide))
    exact ⟨o, ((Heap.SameBut.update H' z _).2 e ne).trans ho, hc⟩
  cases hx : xs[k1]? with
  | none =>
    refine wpAny_bind (wpAny_bind (wpAny_onRaise ?_))
    show wpAny _ _ (Builtin.SmallTypes.nextOf (.ref i1) >>= fun v => pure (some v)) _ _ _
    refine wpAny_bind (nextOf_q_end hh (tp := t1) (t := l1) (i := k1) (items := xs) (h1.keep fun o e => (hs1.2 i1 D.i1z).trans e) (hl1.keep fun o e => (hs1.2 l1 D.l1z).trans e) hx fun H2 e hs2 he => ?_)
    exact fin H2 e (hs2 z _ D.i1z.symm hz1) (fun c o n1 n2 n3 n4 e' => hs2 c o n3 ((hs1.2 c n1).trans e')) he
  | some x =>
    have hy : ys[k2]? = none := hend.resolve_left (by rw [hx]; exact fun z => nomatch z)
    refine wpAny_bind (wpAny_bind (wpAny_onRaise ?_))
    show wpAny _ _ (Builtin.SmallTypes.nextOf (.ref i1) >>= fun v => pure (some v)) _ _ _
    refine wpAny_bind (nextOf_q_item (tp := t1) (t := l1) (i := k1) (items := xs) (x := x) (h1.keep fun o e => (hs1.2 i1 D.i1z).trans e) (hl1.keep fun o e => (hs1.2 l1 D.l1z).trans e) hx fun H2 q2 hs2 => wpAny_pure ?_)
    have hTO2 : IsPair H2 TO a b := (hs2.2 TO D.TOi1).trans ((hs1.2 TO D.TOz).trans hTO)
    refine wpAny_bind (wpAny_seqItems hTO2 rfl (wpAny_bind (wpAny_updateSeq_pair hTO2 fun H3 hTO3 hs3 => wpAny_bind (wpAny_letGo (wpAny_pure ?_)))))
    show wpAny _ _ (forIn [(Value.ref i2, 1)] _ _) _ _ _
    rw [List.forIn_cons]
    refine wpAny_bind (wpAny_bind (wpAny_onRaise ?_))
    show wpAny _ _ (Builtin.SmallTypes.nextOf (.ref i2) >>= fun v => pure (some v)) _ _ _
    have k3 : ∀ c o, c ≠ z → c ≠ i1 → c ≠ TO → s.heap.get? c = some o → H3.get? c = some o := fun c o a1 a2 a3 e => (hs3.2 c a3).trans ((hs2.2 c a2).trans ((hs1.2 c a1).trans e))
    have hz3 : IsZip H3 z TI TO .ellipsis := (hs3.2 z D.TOz.symm).trans ((hs2.2 z D.i1z.symm).trans hz1)
    refine wpAny_bind (nextOf_q_end hh (tp := t2) (t := l2) (i := k2) (items := ys) (h2.keep fun o e => k3 _ _ D.i2z D.i12.symm D.TOi2.symm e) (hl2.keep fun o e => k3 _ _ D.l2z D.l2i1 D.l2TO e) hy fun H4 e hs4 he => ?_)
    exact fin H4 e (hs4 z _ D.i2z.symm hz3) (fun c o n1 n2 n3 n4 e' => hs4 c o n4 (k3 c o n1 n3 n2 e')) he
theorem pyNext_zipq_item {z TI TO i1 i2 l1 l2 : Addr} {t1 t2 : Bool} {k1 k2 : Nat} {xs ys : Array Value} {x y a b : Value} {Q : Option Value → Shared → Prop} (D : ZipApart z TI TO i1 i2 l1 l2) (hz : IsZip s.heap z TI TO .none)
    (hTI : IsPair s.heap TI (.ref i1) (.ref i2)) (hTO : IsPair s.heap TO a b) (h1 : QIter t1 s.heap i1 l1 k1) (h2 : QIter t2 s.heap i2 l2 k2) (hl1 : QSeq t1 s.heap l1 xs) (hl2 : QSeq t2 s.heap l2 ys) (hx : xs[k1]? = some x) (hy : ys[k2]? = some y)
    (hQ : ∀ h' : Heap, IsZip h' z TI TO (rawInt s.heap.objs.size) → IsPair h' TO x y → QIter t1 h' i1 l1 (k1 + 1) → QIter t2 h' i2 l2 (k2 + 1) → IsPair h' s.heap.objs.size x y →
      (∀ c o, c ≠ z → c ≠ TO → c ≠ i1 → c ≠ i2 → s.heap.get? c = some o → h'.get? c = some o) → Q (some (.ref s.heap.objs.size)) { s with heap := h' }) :
    wpAny (model prog w) A (pyNext (.ref z)) Q E s := by
  have hT : s.TypeIs (.ref z) "zip" := ⟨_, hz, rfl⟩
  refine wpAny_bind (wpAny_attempt (wpAny_callSpecial?_slot hT F.slot_zip_next (wpAny_call_entry F.slot_zip_next hT F.entry_zip_next ?_ (F.args_zip_next_1 _))))
  exact zipq_item (A := A.in1) D hz hTI hTO h1 h2 hl1 hl2 hx hy fun h' a1 a2 a3 a4 a5 a6 => wpAny_pure (hQ h' a1 a2 a3 a4 a5 a6)
theorem pyNext_zipq_end {z TI TO i1 i2 l1 l2 : Addr} {t1 t2 : Bool} {k1 k2 : Nat} {xs ys : Array Value} {a b : Value} {Q : Option Value → Shared → Prop} (hh : A.handled = none) (D : ZipApart z TI TO i1 i2 l1 l2) (hz : IsZip s.heap z TI TO .none)
    (hTI : IsPair s.heap TI (.ref i1) (.ref i2)) (hTO : IsPair s.heap TO a b) (h1 : QIter t1 s.heap i1 l1 k1) (h2 : QIter t2 s.heap i2 l2 k2) (hl1 : QSeq t1 s.heap l1 xs) (hl2 : QSeq t2 s.heap l2 ys) (hend : xs[k1]? = none ∨ ys[k2]? = none)
    (hQ : ∀ h' : Heap, (∀ c o, c ≠ z → c ≠ TO → c ≠ i1 → c ≠ i2 → s.heap.get? c = some o → h'.get? c = some o) → Q none { s with heap := h' }) :
    wpAny (model prog w) A (pyNext (.ref z)) Q E s := by
  have hT : s.TypeIs (.ref z) "zip" := ⟨_, hz, rfl⟩
  refine wpAny_bind (wpAny_attempt (wpAny_callSpecial?_slot hT F.slot_zip_next (wpAny_call_entry F.slot_zip_next hT F.entry_zip_next ?_ (F.args_zip_next_1 _))))
  refine zipq_end (A := A.in1) hh D hz hTI hTO h1 h2 hl1 hl2 hend fun h' e hk he => ?_
  obtain ⟨o, ho, hc⟩ := he
  exact wpAny_bind (wpAny_isInstance ⟨o, ho, hc⟩ isSubtype_stop (wpAny_pure (hQ h' hk)))
end
end L2
set_option Elab.async false
set_option linter.all false
set_option maxRecDepth 100000
set_option maxHeartbeats 4000000
namespace L2
open PySem PySem.Spec PyProof.Rows
section
variable {prog : Program} {w : World} {A : Around} {E : Value → Shared → Prop} {s : Shared}
theorem pyIter_q {tp : Bool} {l : Addr} {xs : Array Value} {Q : Value → Shared → Prop} (h : QSeq tp s.heap l xs)
    (hQ : ∀ h' : Heap, h'.objs.size = s.heap.objs.size + 1 → QIter tp h' s.heap.objs.size l 0 → (∀ c o, s.heap.get? c = some o → h'.get? c = some o) → Q (.ref s.heap.objs.size) { s with heap := h' }) :
    wpAny (model prog w) A (pyIter (.ref l)) Q E s := by
  cases tp with
  | true => exact wpAny_pyIter_tuple h (hQ _ (Heap.size_push _ _) ⟨_, Heap.get?_push_size _ rfl, rfl, rfl⟩ fun c o e => Heap.get?_push_of_some _ e)
  | false => exact wpAny_pyIter_list h (hQ _ (Heap.size_push _ _) ⟨_, Heap.get?_push_size _ rfl, rfl, rfl⟩ fun c o e => Heap.get?_push_of_some _ e)
theorem meets_zipq (t1 t2 : Bool) (l1 l2 : Addr) (xs ys : Array Value) : Meets (Builtin.«zip.__new__» { pos := [.type "zip", .ref l1, .ref l2] }) fun _ R s => QSeq t1 s.heap l1 xs ∧ QSeq t2 s.heap l2 ys ∧
    ∀ h' : Heap, IsZip h' (s.heap.objs.size + 4) (s.heap.objs.size + 2) (s.heap.objs.size + 3) .none → IsPair h' (s.heap.objs.size + 2) (.ref s.heap.objs.size) (.ref (s.heap.objs.size + 1)) → IsPair h' (s.heap.objs.size + 3) .none .none →
      QIter t1 h' s.heap.objs.size l1 0 → QIter t2 h' (s.heap.objs.size + 1) l2 0 → h'.objs.size = s.heap.objs.size + 5 → (∀ c o, s.heap.get? c = some o → h'.get? c = some o) → R (.ok (.ret (.ref (s.heap.objs.size + 4)))) { s with heap := h' } := by
  refine Meets.of_wp fun prog w A R s h => ?_
  obtain ⟨q1, q2, h⟩ := h
  unfold Builtin.«zip.__new__»
  have e0 : Builtin.SmallTypes.newClass "zip" { pos := [Value.type "zip", Value.ref l1, Value.ref l2] } = (do
      let b ← isSubtype (.type "zip") (.type "zip")
      if (!b) = true then do
          rule (toString "zip" ++ toString ".__new__.no-subtype")
          let a ← typeName (.type "zip")
          let b ← typeName (.type "zip")
          let __r ← raiseErrorMade "TypeError" (toString "zip" ++ toString ".__new__(" ++ toString a ++ toString "): " ++ toString b ++ toString " is not a subtype of " ++ toString "zip")
          (fun (_ : Unit) => (pure (Value.type "zip", [Value.ref l1, Value.ref l2]) : Sem (Value × List Value))) __r
        else pure (Value.type "zip", [Value.ref l1, Value.ref l2])) := rfl
  rw [e0]
  refine wpAny_bind (wpAny_bind (wpAny_of_eq sub_zip (wpAny_ite_false rfl (wpAny_pure ?_))))
  dsimp only
  refine wpAny_ite_false rfl ?_
  clear e0
  refine wpAny_bind ?_
  unfold Builtin.SmallTypes.iterAll
  dsimp only
  refine wpAny_bind ?_
  rw [List.forIn_cons]
  refine wpAny_bind (wpAny_bind (wpAny_holding (pyIter_q q1 fun H1 z1 i1 k1 => wpAny_pure ?_)))
  show wpAny _ _ (forIn [Value.ref l2] _ _) _ _ _
  rw [List.forIn_cons]
  refine wpAny_bind (wpAny_bind (wpAny_holding (pyIter_q (s := { s with heap := H1 }) (q2.keep fun o e => k1 _ _ e) fun H2 z2 i2 k2 => wpAny_pure ?_)))
  show wpAny _ _ (forIn [] _ _) _ _ _
  rw [List.forIn_nil]
  refine wpAny_pure (wpAny_pure ?_)
  dsimp only at z1 z2 i2 k2
  rw [z1] at i2 z2
  refine wpAny_bind (wpAny_newObj_type (T := "tuple") (data := .seq #[.ref s.heap.objs.size, .ref H1.objs.size]) ?_ (by show (2 : Nat) ≤ sizeLine; decide))
  show wpAny _ _ _ _ _ { s with heap := H2.push { cls := .type "tuple", data := .seq #[.ref s.heap.objs.size, .ref H1.objs.size] } }
  rw [z1]
  have z3 : (H2.push { cls := .type "tuple", data := .seq #[.ref s.heap.objs.size, .ref (s.heap.objs.size + 1)] }).objs.size = s.heap.objs.size + 3 := by rw [Heap.size_push]; omega
  have g3 : IsPair (H2.push { cls := .type "tuple", data := .seq #[.ref s.heap.objs.size, .ref (s.heap.objs.size + 1)] }) (s.heap.objs.size + 2) (.ref s.heap.objs.size) (.ref (s.heap.objs.size + 1)) := by
    have := Heap.get?_push_size H2 (o := { cls := .type "tuple", data := .seq #[.ref s.heap.objs.size, .ref (s.heap.objs.size + 1)] }) rfl
    rw [z2] at this
    exact this
  have k3 : ∀ c o, H2.get? c = some o → (H2.push { cls := .type "tuple", data := .seq #[.ref s.heap.objs.size, .ref (s.heap.objs.size + 1)] }).get? c = some o := fun c o e => Heap.get?_push_of_some _ e
  have eH2 : H2.objs.size = s.heap.objs.size + 2 := by omega
  show wpAny _ _ (newTuple (List.map (fun _ => Value.none) [Value.ref s.heap.objs.size, Value.ref H1.objs.size]) >>= fun t => Builtin.SmallTypes.newRecord (Value.type "zip") (Builtin.SmallTypes.ownedTupleFields ++ [Value.bool false, .ref H2.objs.size, t]) >>= fun r => ret r) _ _ _
  rw [eH2]
  generalize H2.push { cls := .type "tuple", data := .seq #[.ref s.heap.objs.size, .ref (s.heap.objs.size + 1)] } = H3 at z3 g3 k3 ⊢
  refine wpAny_bind (wpAny_newObj_type (T := "tuple") (data := .seq #[.none, .none]) ?_ (by show (2 : Nat) ≤ sizeLine; decide))
  have z4 : (H3.push { cls := .type "tuple", data := .seq #[.none, .none] }).objs.size = s.heap.objs.size + 4 := by rw [Heap.size_push]; omega
  have g4 : IsPair (H3.push { cls := .type "tuple", data := .seq #[.none, .none] }) (s.heap.objs.size + 3) .none .none := by
    have := Heap.get?_push_size H3 (o := { cls := .type "tuple", data := .seq #[.none, .none] }) rfl
    rw [z3] at this
    exact this
  have k4 : ∀ c o, H3.get? c = some o → (H3.push { cls := .type "tuple", data := .seq #[.none, .none] }).get? c = some o := fun c o e => Heap.get?_push_of_some _ e
  show wpAny _ _ (newObj (.type "zip") (.fields #[.none, .bool false, .bool false, .ref (s.heap.objs.size + 2), .ref H3.objs.size]) none >>= fun r => ret r) _ _ { s with heap := H3.push { cls := .type "tuple", data := .seq #[.none, .none] } }
  rw [z3]
  generalize H3.push { cls := .type "tuple", data := .seq #[.none, .none] } = H4 at z4 g4 k4 ⊢
  refine wpAny_bind (wpAny_newObj_type ?_ (by show (5 : Nat) ≤ sizeLine + 2; decide))
  refine wpAny_pure ⟨_, rfl, ?_⟩
  have g5 := Heap.get?_push_size H4 (o := { cls := .type "zip", data := .fields #[.none, .bool false, .bool false, .ref (s.heap.objs.size + 2), .ref (s.heap.objs.size + 3)] }) rfl
  rw [z4] at g5
  show R (.ok (.ret (.ref H4.objs.size))) { s with heap := H4.push _ }
  rw [z4]
  have k5 : ∀ c o, H4.get? c = some o → (H4.push { cls := .type "zip", data := .fields #[.none, .bool false, .bool false, .ref (s.heap.objs.size + 2), .ref (s.heap.objs.size + 3)] }).get? c = some o := fun c o e => Heap.get?_push_of_some _ e
  exact h _ g5 (k5 _ _ (k4 _ _ g3)) (k5 _ _ g4) (i1.keep fun o e => k5 _ _ (k4 _ _ (k3 _ _ (k2 _ _ e)))) (i2.keep fun o e => k5 _ _ (k4 _ _ (k3 _ _ e))) (by rw [Heap.size_push]; omega) fun c o e => k5 _ _ (k4 _ _ (k3 _ _ (k2 _ _ (k1 _ _ e))))
theorem call_zipq {t1 t2 : Bool} {l1 l2 : Addr} {xs ys : Array Value} {Q : Value → Shared → Prop} (q1 : QSeq t1 s.heap l1 xs) (q2 : QSeq t2 s.heap l2 ys)
    (h : ∀ h' : Heap, IsZip h' (s.heap.objs.size + 4) (s.heap.objs.size + 2) (s.heap.objs.size + 3) .none → IsPair h' (s.heap.objs.size + 2) (.ref s.heap.objs.size) (.ref (s.heap.objs.size + 1)) → IsPair h' (s.heap.objs.size + 3) .none .none →
      QIter t1 h' s.heap.objs.size l1 0 → QIter t2 h' (s.heap.objs.size + 1) l2 0 → h'.objs.size = s.heap.objs.size + 5 → (∀ c o, s.heap.get? c = some o → h'.get? c = some o) → Q (.ref (s.heap.objs.size + 4)) { s with heap := h' }) :
    wpAny (model prog w) A (call (.type "zip") [.ref l1, .ref l2]) Q E s :=
  callType_new F.called_zip (by decide) (F.typeCall_zip_2 _ _) (F.newCall_zip_2 _ _) (fun obj => F.args_object_init_3 obj _ _) F.entry_zip_new (meets_zipq t1 t2 l1 l2 xs ys)
    ⟨q1, q2, fun h' a1 a2 a3 a4 a5 a6 a7 => ⟨⟨_, a1, rfl⟩, h h' a1 a2 a3 a4 a5 a6 a7⟩⟩
end
end L2
set_option Elab.async false
set_option linter.all false
set_option maxRecDepth 100000
set_option maxHeartbeats 4000000
namespace L2
open PySem PySem.Spec PyProof.Rows
section
variable {X : Cx} {pins : List (Addr × Obj)} {σ : List (Option V)} {H H' : Hp} {s : Shared} {h' : Heap}
theorem Inv.turnedL {t' : Nat} {its : List Addr} (I : Inv X pins σ H s) (k : ∀ b o, b ∉ its → s.heap.get? b = some o → h'.get? b = some o) (hf : ∀ it ∈ its, FpOk X pins H it) : Inv X pins σ H { s with heap := h', toks := t' } := by
  have nit : ∀ b u, H b = some u → b ∉ its := fun b u e z => by rw [(hf b z).1] at e; cases e
  have hL : X.env.locals ∉ its := fun z => (hf _ z).2.1 rfl
  refine I.step (g' := s.gens) (d' := s.drawn) (ch := its) (fun b hb => ?_) (fun b o _ _ hc e _ => k b o hc e) (fun b o _ _ hc e _ => ⟨o.slots, k b o hc e⟩) (fun _ _ _ _ n => n)
    (fun b o hc e => ⟨o, k b o hc e⟩) (fun _ _ e => e) (fun _ _ _ e => e) (fun b ps e => ⟨#[], by rw [e]; simp⟩) (fun m hm => ?_) (fun b u e => ?_) I.bare
  · obtain ⟨f0, f1, f2, f3, f4, f5⟩ := hf b hb
    exact ⟨f3, f1, f4, f5⟩
  · obtain ⟨o, es, ep, ho, r⟩ := hm
    exact ⟨o, es, ep, k _ o hL ho, r⟩
  · refine (I.hok b u e).stay (fun c v hc q => k c v ?_ q) (fun _ q => q) fun _ _ q => q
    rcases hc with z | z
    · rw [z]; exact nit b u e
    · exact nit c _ z
end
def SqQ (tp : Bool) (K : PySem.W.Frag) (H : Hp) (a : Addr) (xs : List V) : Prop := match tp with | true => SqT K H a xs | false => SqL K H a xs
section
variable {X : Cx} {pins : List (Addr × Obj)} {σ : St} {H : Hp} {s : Shared}
theorem SqQ.at {tp : Bool} {a : Addr} {xs : List V} (I : Inv X pins σ H s) (h : SqQ tp X.K H a xs) : ∃ its : List Value, Vals xs its ∧ QSeq tp s.heap a its.toArray ∧ xs.length ≤ sizeLine := by
  cases tp with
  | true => obtain ⟨its, r, p, z⟩ := I.tuple h; exact ⟨its, r, p, z⟩
  | false => obtain ⟨its, r, p, z⟩ := I.list h; exact ⟨its, r, p.isList, z⟩
theorem SqQ.inj {tp : Bool} {a : Addr} {xs ys : List V} (I : Inv X pins σ H s) (h : SqQ tp X.K H a xs) (h' : SqQ tp X.K H a ys) : xs = ys := by
  cases tp with
  | true => exact I.tuple_inj h h'
  | false => exact I.list_inj h h'
end
def Itz (K : PySem.W.Frag) (t1 t2 : Bool) (l1 l2 : Addr) : It := ⟨
  fun i H => ∃ xs ys x y, SqQ t1 K H l1 xs ∧ SqQ t2 K H l2 ys ∧ xs[i]? = some x ∧ ys[i]? = some y,
  fun i H v H' => ∃ p x y, v = .ref p ∧ H p = none ∧ H' = upd H p (.tup [x, y]) ∧ (∀ xs, SqQ t1 K H l1 xs → xs[i]? = some x) ∧ ∀ ys, SqQ t2 K H l2 ys → ys[i]? = some y,
  fun i H => ∃ xs ys, SqQ t1 K H l1 xs ∧ SqQ t2 K H l2 ys ∧ (xs.length ≤ i ∨ ys.length ≤ i)⟩
def ZipSt (t1 t2 : Bool) (z TI TO i1 i2 l1 l2 : Addr) (i : Nat) (h : Heap) : Prop := IsZip h z TI TO .none ∧ IsPair h TI (.ref i1) (.ref i2) ∧ (∃ a b, IsPair h TO a b) ∧ QIter t1 h i1 l1 i ∧ QIter t2 h i2 l2 i
theorem QIter.obj {tp : Bool} {h : Heap} {it l : Addr} {i : Nat} (q : QIter tp h it l i) : ∃ o, h.get? it = some o ∧ ∀ v, o.data ≠ .cell v := by
  cases tp with
  | true => obtain ⟨o, e, c, d⟩ := q; exact ⟨o, e, fun v z => by rw [d] at z; cases z⟩
  | false => obtain ⟨o, e, c, d⟩ := q; exact ⟨o, e, fun v z => by rw [d] at z; cases z⟩
theorem turn_zipq {P : Program} {w : World} {K : PySem.W.Frag} {elts : List Expr} {k : Nat} {pos : Pos} {z TI TO i1 i2 l1 l2 : Addr} {t1 t2 : Bool} (D : ZipApart z TI TO i1 i2 l1 l2) :
    Turn P w K (.Tuple elts k pos) (Itz K t1 t2 l1 l2) [z, TI, TO, i1, i2] z (ZipSt t1 t2 z TI TO i1 i2 l1 l2) where
  mem := by simp
  obj := fun i h ⟨a1, a2, ⟨a, b, a3⟩, a4, a5⟩ c hc => by
    simp only [List.mem_cons, List.not_mem_nil, or_false] at hc
    rcases hc with rfl | rfl | rfl | rfl | rfl
    · exact ⟨_, a1, fun v q => nomatch q⟩
    · exact ⟨_, a2, fun v q => nomatch q⟩
    · exact ⟨_, a3, fun v q => nomatch q⟩
    · exact a4.obj
    · exact a5.obj
  keep := fun i h h' ⟨a1, a2, ⟨a, b, a3⟩, a4, a5⟩ k => ⟨k z (by simp) _ a1, k TI (by simp) _ a2, ⟨a, b, k TO (by simp) _ a3⟩, a4.keep fun o e => k i1 (by simp) o e, a5.keep fun o e => k i2 (by simp) o e⟩
  item := by
    intro X hP hw hK hc i pins s σ H E I hf st hg
    subst hP hw hK
    obtain ⟨a1, a2, ⟨a, b, a3⟩, a4, a5⟩ := st
    obtain ⟨xs, ys, x, y, q1, q2, hx, hy⟩ := hg
    obtain ⟨us, r1, p1, _⟩ := q1.at I
    obtain ⟨vs, r2, p2, _⟩ := q2.at I
    obtain ⟨u, hu, ru⟩ := r1.get hx
    obtain ⟨v, hv, rv⟩ := r2.get hy
    refine pyNext_zipq_item D a1 a2 a3 a4 a5 p1 p2 (x := u) (y := v) (by simpa using hu) (by simpa using hv) fun h1 b1 b2 b3 b4 b5 b6 => ⟨_, rfl, ?_⟩
    refine wpAny_letOwnedTupleGo_zip (s := { s with heap := h1 }) b1 fun h2 c1 c2 => ?_
    have nT : ∀ c ∈ [z, TI, TO, i1, i2], c ≠ s.heap.objs.size := fun c hc e => by
      obtain ⟨o, ho, _⟩ : ∃ o, s.heap.get? c = some o ∧ True := by
        simp only [List.mem_cons, List.not_mem_nil, or_false] at hc
        rcases hc with rfl | rfl | rfl | rfl | rfl
        · exact ⟨_, a1, trivial⟩
        · exact ⟨_, a2, trivial⟩
        · exact ⟨_, a3, trivial⟩
        · obtain ⟨o, e, _⟩ := a4.obj; exact ⟨o, e, trivial⟩
        · obtain ⟨o, e, _⟩ := a5.obj; exact ⟨o, e, trivial⟩
      exact absurd (Heap.lt_size ho) (by rw [e]; exact Nat.lt_irrefl _)
    have I1 : Inv X pins σ (upd H s.heap.objs.size (.tup [x, y])) { s with heap := s.heap.push { cls := .type "tuple", data := .seq #[u, v] } } :=
      I.laid (t' := s.toks) (o := .tup [x, y]) (fun b ob q => Heap.get?_push_of_some _ q) (Nat.le_refl _) ⟨by show (2 : Nat) ≤ sizeLine; decide, [u, v], .cons ru (.cons rv .nil), IsTup.new _ _⟩
    have I2 : Inv X pins σ (upd H s.heap.objs.size (.tup [x, y])) { s with heap := h2 } := by
      refine Inv.turnedL (s := { s with heap := s.heap.push { cls := .type "tuple", data := .seq #[u, v] } }) (t' := s.toks) (its := [z, TI, TO, i1, i2]) I1 (fun c o nc e => ?_) fun c hc => ?_
      · have ne : ∀ d ∈ [z, TI, TO, i1, i2], c ≠ d := fun d hd q => nc (q ▸ hd)
        refine (c2.2 c (ne z (by simp))).trans ?_
        by_cases hcs : c = s.heap.objs.size
        · subst hcs
          have e' : some _ = some o := (Heap.get?_push_size s.heap (o := { cls := .type "tuple", data := .seq #[u, v] }) rfl).symm.trans e
          rw [← e']
          exact b5
        · refine b6 c o (ne z (by simp)) (ne TO (by simp)) (ne i1 (by simp)) (ne i2 (by simp)) ?_
          exact (Heap.get?_push_ne s.heap c _ hcs).symm.trans e
      · obtain ⟨f0, f⟩ := hf c hc
        exact ⟨by rw [upd_ne (nT c hc)]; exact f0, f⟩
    refine ⟨.ref s.heap.objs.size, _, I2, rfl, ⟨_, x, y, rfl, I.hok.fresh (Nat.le_refl _), rfl, fun zs hz => by rw [SqQ.inj I hz q1]; exact hx, fun zs hz => by rw [SqQ.inj I hz q2]; exact hy⟩, ⟨c1, ?_, ⟨u, v, ?_⟩, ?_, ?_⟩, fun c hc => ?_⟩
    · exact (c2.2 TI D.TIz).trans (b6 _ _ D.TIz D.TITO D.TIi1 D.TIi2 a2)
    · exact (c2.2 TO D.TOz).trans b2
    · exact b3.keep fun o e => (c2.2 i1 D.i1z).trans e
    · exact b4.keep fun o e => (c2.2 i2 D.i2z).trans e
    · rw [upd_ne (nT c hc)]; exact (hf c hc).1
  done := by
    intro X hP hw hK hc i pins s σ H E I hf st hg
    subst hP hw hK
    obtain ⟨a1, a2, ⟨a, b, a3⟩, a4, a5⟩ := st
    obtain ⟨xs, ys, q1, q2, hx⟩ := hg
    obtain ⟨us, r1, p1, _⟩ := q1.at I
    obtain ⟨vs, r2, p2, _⟩ := q2.at I
    have l1 := r1.length
    have l2 := r2.length
    refine pyNext_zipq_end (I.ok.hd hc) D a1 a2 a3 a4 a5 p1 p2 (by simp; omega) fun h1 b6 => ⟨rfl, I.turnedL (t' := s.toks) (its := [z, TI, TO, i1, i2]) (fun c o nc e => ?_) hf⟩
    have ne : ∀ d ∈ [z, TI, TO, i1, i2], c ≠ d := fun d hd q => nc (q ▸ hd)
    exact b6 c o (ne z (by simp)) (ne TO (by simp)) (ne i1 (by simp)) (ne i2 (by simp)) e
  self := fun _ _ _ _ _ st h => wpAny_pyIter_zip st.1 h
end L2
set_option Elab.async false
set_option linter.all false
set_option maxRecDepth 100000
set_option maxHeartbeats 4000000
namespace L2
open PySem PySem.Spec PyProof.Rows
section
variable {X : Cx}
def iZip (K : PySem.W.Frag) (ta : TA) : TI := fun σ H R => ta σ H fun vs H1 => ∃ t1 t2 l1 l2 xs ys, vs = [.ref l1, .ref l2] ∧ SqQ t1 K H1 l1 xs ∧ SqQ t2 K H1 l2 ys ∧ R (Itz K t1 t2 l1 l2) H1
theorem pi_zip {elts : List Expr} {k : Nat} {p' : Pos} {a b : Expr} {ta : TA} {p pos : Pos} (hg : Gl X "zip") (hm : X.mg "zip" = none) (ha : PA X [a, b] ta) (hs : starEach [a, b] X.env = [(false, eval a X.env), (false, eval b X.env)] := by rfl) (hs2 : starEach [b] X.env = [(false, eval b X.env)] := by rfl) :
    PI X (.Tuple elts k p') (.Call (.Name "zip" p) [a, b] [] pos) (iZip X.K ta) := by
  intro pins s σ H R I h
  refine Call_ (ld_blt I hg hm boot_zip (PyProof.Rows.callWith_type1 (thn (ha pos pins s σ H _ I h) fun us s1 ⟨vs, H1, I1, r1, q1⟩ => ?_) (by rw [hs, hs2]) (by rw [hs2]; rfl)))
  obtain ⟨t1, t2, l1, l2, xs, ys, e, z1, z2, q⟩ := q1
  subst e
  cases r1 with
  | cons r rr =>
    cases rr with
    | cons r' rr =>
      cases rr
      cases r
      cases r'
      obtain ⟨us, _, p1, _⟩ := z1.at I1
      obtain ⟨vs, _, p2, _⟩ := z2.at I1
      have lt : ∀ {tp : Bool} {l : Addr} {zs : Array Value}, QSeq tp s1.heap l zs → l < s1.heap.objs.size := fun {tp l zs} q => by
        cases tp with
        | true => obtain ⟨o, e, _⟩ := q; exact Heap.lt_size e
        | false => obtain ⟨o, e, _⟩ := q; exact Heap.lt_size e
      refine call_zipq p1 p2 fun h' a1 a2 a3 a4 a5 a6 a7 => ?_
      refine wpAny_pyIter_zip (s := { s1 with heap := h' }) a1 ?_
      refine ⟨_, _, _, _, H1, rfl, I1.kept (t' := s1.toks) a7, turn_zipq (zipApart_new (lt p1) (lt p2)), ⟨a1, a2, ⟨_, _, a3⟩, a4, a5⟩, fun c hc => ?_, q⟩
      have hge : s1.heap.objs.size ≤ c := by
        simp only [List.mem_cons, List.not_mem_nil, or_false] at hc
        rcases hc with rfl | rfl | rfl | rfl | rfl
        · exact Nat.le_add_right _ _
        · exact Nat.le_add_right _ _
        · exact Nat.le_add_right _ _
        · exact Nat.le_refl _
        · exact Nat.le_add_right _ _
      exact I1.fpOk hge (I1.hok.fresh hge)
def seqD : D → Option (Bool × List D) | .lst ds => some (false, ds) | .tup ds => some (true, ds) | _ => none
theorem seqD_rep {K : PySem.W.Frag} {G H : Hp} {d : D} {tp : Bool} {ds : List D} {v : V} (e : seqD d = some (tp, ds)) (r : Rep K G d v) (s : Same G H) : ∃ a vs, v = .ref a ∧ SqQ tp K H a vs ∧ RepL K G ds vs := by
  cases d with
  | lst xs =>
    cases e
    simp only [Rep] at r
    obtain ⟨a, vs, h1, h2, h3⟩ := r
    exact ⟨a, vs, h1, s.sqL h2, h3⟩
  | tup xs =>
    cases e
    simp only [Rep] at r
    obtain ⟨a, vs, h1, h2, h3⟩ := r
    exact ⟨a, vs, h1, s.sqT h2, h3⟩
  | non => cases e
  | bl b => cases e
  | int b => cases e
  | str b => cases e
  | dic b c => cases e
theorem SqQ.mono {tp : Bool} {K : PySem.W.Frag} {H H' : Hp} {a : Addr} {vs : List V} (q : SqQ tp K H a vs) (s : Same H H') : SqQ tp K H' a vs := by
  cases tp with
  | true => exact s.sqT q
  | false => exact s.sqL q
@[simp] def oZip (f g : FE) : En → Option (List (D × D)) := fun δ => (f δ).bind fun x => (g δ).bind fun y => (seqD x).bind fun xs => (seqD y).map fun ys => xs.2.zip ys.2
def forL2 (i j : Nat) (F : FS) : List (D × D) → FS
  | [], δ => some (.nx δ)
  | x :: xs, δ => match F ((δ.set i (some (.sh x.1))).set j (some (.sh x.2))) with
    | some (.nx δ') => forL2 i j F xs δ'
    | some (.ct δ') => forL2 i j F xs δ'
    | some (.bk δ') => some (.nx δ')
    | some (.rt d δ') => some (.rt d δ')
    | none => none
@[simp] def sForZ (i j : Nat) (f : En → Option (List (D × D))) (F : FS) : FS := fun δ => (f δ).bind fun xs => forL2 i j F xs δ
theorem psd_forZ (i j : Nat) {x y : Str} {px py pt p pos pf : Pos} {k : Nat} {a b : Expr} {fa fb : FE} {F : FS} {body : List Stmt} (hN : X.N.Nodup) (hc : X.calm = true) (hp : PassesOwn (model X.prog X.w) X.A X.env X.xe) (hm : X.mg "zip" = none)
    (ha : PD X a fa) (hb : PD X b fb) (hbody : PSsD X body F)
    (hix : X.N[i]? = some x := by rfl) (hx : Loc X.env.scope x := by first | exact Or.inl rfl | exact Or.inr rfl) (hfx : X.fn x = true ∨ X.env.scope.names.lookup x = some .local := by first | exact .inl rfl | exact .inr rfl)
    (hjy : X.N[j]? = some y := by rfl) (hy : Loc X.env.scope y := by first | exact Or.inl rfl | exact Or.inr rfl) (hfy : X.fn y = true ∨ X.env.scope.names.lookup y = some .local := by first | exact .inl rfl | exact .inr rfl)
    (hg : Gl X "zip" := by rfl) (hs : starEach [a, b] X.env = [(false, eval a X.env), (false, eval b X.env)] := by rfl) (hs2 : starEach [b] X.env = [(false, eval b X.env)] := by rfl) (hs3 : starEach [] X.env = [] := by rfl)
    (ht1 : (assignEach [.Name x px, .Name y py] X.env).map (·.2) = assign (.Name x px) X.env :: (assignEach [.Name y py] X.env).map (·.2) := by rfl) (ht2 : (assignEach [.Name y py] X.env).map (·.2) = assign (.Name y py) X.env :: (assignEach [] X.env).map (·.2) := by rfl)
    (hn : (assignEach [.Name x px, .Name y py] X.env).length = 2 := by rfl) (hst : (assignEach [.Name x px, .Name y py] X.env).findIdx? (·.1) = none := by rfl)
    (hfold : ∀ x, foldedSetIterable (.Call (.Name "zip" p) [a, b] [] pos) X.env x = pure x := by intro _; rfl) :
    PSD X (.For (.Tuple [.Name x px, .Name y py] k pt) (.Call (.Name "zip" p) [a, b] [] pos) body [] pf) (sForZ i j (oZip fa fb) F) := by
  obtain ⟨t1, q1, k1⟩ := ha
  obtain ⟨t2, q2, k2⟩ := hb
  obtain ⟨tb, pb, kb⟩ := hbody
  refine ⟨_, ps_for hp hc (pi_zip hg hm (pa_cons q1 (pa_cons q2 pa_nil (by rw [hs2, hs3])) (by rw [hs, hs2])) hs hs2) (pg_tup (n := 2) hc (pgs_cons (pg_name hN hix hx hfx) (pgs_cons (pg_name hN hjy hy hfy) pgs_nil ht2) ht1) hn hst) pb hfold, fun B G H δ σ o D sG sB rs e w => ?_⟩
  unfold sForZ at e
  obtain ⟨ps, e0, e⟩ := Option.bind_eq_some_iff.mp e
  unfold oZip at e0
  obtain ⟨dx, e1, e0⟩ := Option.bind_eq_some_iff.mp e0
  obtain ⟨dy, e2, e0⟩ := Option.bind_eq_some_iff.mp e0
  obtain ⟨⟨tp1, xs⟩, e3, e0⟩ := Option.bind_eq_some_iff.mp e0
  obtain ⟨⟨tp2, ys⟩, e4, e0⟩ := Option.map_eq_some_iff.mp e0
  dsimp only at e0
  refine k1 B G H δ σ _ _ sG rs e1 fun v1 G1 H1 g1 r1 => k2 B G1 H1 δ σ _ _ g1.s (rs.grow g1) e2 fun v2 G2 H2 g2 r2 => ?_
  obtain ⟨l1, vs, rfl, z1, rl1⟩ := seqD_rep e3 (r1.mono g2.g) (Same.refl G2)
  obtain ⟨l2, us, rfl, z2, rl2⟩ := seqD_rep e4 r2 (Same.refl G2)
  refine ⟨tp1, tp2, l1, l2, vs, us, rfl, z1.mono g2.s, z2.mono g2.s, ?_⟩
  have g12 := g1.trans g2
  have st1 : Stp B G G2 H2 := g12.stp sB
  have len : ps.length = min vs.length us.length := by rw [← e0, List.length_zip, rl1.length, rl2.length]
  refine ⟨fun n m σ' H' => ∃ δ' G', m = ps.length - n ∧ n ≤ ps.length ∧ Stp B G2 G' H' ∧ RepS X.K B G' H' δ' σ' ∧ forL2 i j F (ps.drop n) δ' = some o, ⟨_, δ, G2, rfl, Nat.zero_le _, Stp.refl st1.s st1.b, rs.grow g12, by simpa using e⟩, ?_⟩
  rintro n m σ' H' ⟨δ', G', rfl, hn', a1, rs', eo⟩
  have z1' := z1.mono (a1.g.trans a1.s)
  have z2' := z2.mono (a1.g.trans a1.s)
  by_cases hlt : n < ps.length
  · right
    obtain ⟨dx', dy', ep⟩ : ∃ p q, ps[n] = (p, q) := ⟨_, _, rfl⟩
    have en : ps[n]? = some (dx', dy') := by rw [List.getElem?_eq_getElem hlt, ep]
    rw [← e0] at en
    obtain ⟨ex, ey⟩ := List.getElem?_zip_eq_some.mp en
    obtain ⟨vx, hvx, rvx⟩ := rl1.get ex
    obtain ⟨vy, hvy, rvy⟩ := rl2.get ey
    rw [List.drop_eq_getElem_cons hlt, ep] at eo
    unfold forL2 at eo
    refine ⟨⟨vs, us, vx, vy, z1', z2', hvx, hvy⟩, fun σ2 H2 => ∃ m', m' < ps.length - n ∧ ∃ δ2 G3, m' = ps.length - (n + 1) ∧ n + 1 ≤ ps.length ∧ Stp B G2 G3 H2 ∧ RepS X.K B G3 H2 δ2 σ2 ∧ forL2 i j F (ps.drop (n + 1)) δ2 = some o, fun σ2 H2 z => z, fun x H3 y => ?_⟩
    obtain ⟨p, ux, uy, rfl, hpn, rfl, y1, y2⟩ := y
    have eux : ux = vx := Option.some.inj ((y1 _ z1').symm.trans hvx)
    have euy : uy = vy := Option.some.inj ((y2 _ z2').symm.trans hvy)
    subst eux euy
    refine ⟨p, [ux, uy], rfl, SqT.of upd_same, rfl, ux, [uy], rfl, uy, [], rfl, rfl, ?_⟩
    have gN : Grow G' H' G' (upd H' p (.tup [ux, uy])) := ⟨Same.refl _, same_new _ hpn, a1.s.trans (same_new _ hpn), fun _ _ _ n => n⟩
    have stN : Stp B G' G' (upd H' p (.tup [ux, uy])) := gN.stp a1.b
    have again : ∀ {δ2 : En} {σ2 : St} {G3 H3 : Hp}, Stp B G' G3 H3 → RepS X.K B G3 H3 δ2 σ2 → forL2 i j F (ps.drop (n + 1)) δ2 = some o →
        ∃ m', m' < ps.length - n ∧ ∃ δ2 G3, m' = ps.length - (n + 1) ∧ n + 1 ≤ ps.length ∧ Stp B G2 G3 H3 ∧ RepS X.K B G3 H3 δ2 σ2 ∧ forL2 i j F (ps.drop (n + 1)) δ2 = some o :=
      fun {δ2 σ2 G3 H3} a r e => ⟨ps.length - (n + 1), by omega, δ2, G3, rfl, hlt, a1.trans a, r, e⟩
    cases eF : F ((δ'.set i (some (.sh dx'))).set j (some (.sh dy'))) with
    | none => rw [eF] at eo; cases eo
    | some o1 =>
      rw [eF] at eo
      refine kb B G' _ _ _ o1 _ gN.s (a1.b.trans gN.h) (((rs'.grow gN).set i (rvx.mono a1.g)).set j (rvy.mono a1.g)) eF ?_
      cases o1 with
      | nx δ2 => exact fun σ2 G3 H3 a r => again (stN.trans a) r eo
      | ct δ2 => exact fun σ2 G3 H3 a r => again (stN.trans a) r eo
      | bk δ2 =>
        cases eo
        exact fun σ2 G3 H3 a r => w σ2 G3 H3 (st1.trans (a1.trans (stN.trans a))) r
      | rt r δ2 =>
        cases eo
        cases r with
        | sh d => exact fun v σ2 G3 H3 a r => w v σ2 G3 H3 (st1.trans (a1.trans (stN.trans a))) r
        | fr m => exact fun p vs σ2 G3 H3 a => w p vs σ2 G3 H3 (st1.trans (a1.trans (stN.trans a)))
  · left
    have hnn : n = ps.length := by omega
    subst hnn
    rw [List.drop_of_length_le (Nat.le_refl _)] at eo
    cases eo
    exact ⟨⟨vs, us, z1', z2', by omega⟩, w σ' G' H' (st1.trans a1) rs'⟩
end
end L2
set_option Elab.async false
set_option linter.all false
set_option maxRecDepth 100000
set_option maxHeartbeats 4000000
namespace L2
open PySem PySem.Spec PyProof.Rows
section
variable {X : Cx} {e : Expr} {es : List Expr} {pos p : Pos}
end
end L2
set_option Elab.async false
set_option linter.all false
set_option maxRecDepth 100000
set_option maxHeartbeats 4000000
namespace L2
open PySem PySem.Spec PyProof.Rows
section
variable {X : Cx}
end
end L2
set_option Elab.async false
set_option linter.all false
set_option maxRecDepth 100000
set_option maxHeartbeats 4000000
namespace L2
open PySem PySem.Spec PyProof.Rows
open Classical in
section
variable {P : Program} {w : World} {K : PySem.W.Frag} {mg : Str → Option Value} {base : Heap}
end
inductive Ar where | own (j : Nat) | val (f : FE)
section
variable {X : Cx} {e : Expr} {es : List Expr} {f : FE} {ars : List Ar} {pos p : Pos}
end
end L2
set_option Elab.async false
set_option linter.all false
set_option maxRecDepth 100000
set_option maxHeartbeats 4000000
namespace L2
open PySem PySem.Spec PyProof.Rows
section
variable {K : PySem.W.Frag} {G : Hp} {δ : En} {σ : St}
end
open Classical in
section
variable {X : Cx} {e : Expr} {es : List Expr} {pos p : Pos} {ars : List Ar}
end
end L2
set_option Elab.async false
set_option linter.all false
set_option maxRecDepth 100000
set_option maxHeartbeats 4000000
namespace L2
open PySem PySem.Spec PyProof.Rows
section
variable {X : Cx} {e : Expr} {es : List Expr} {pos p : Pos}
end
end L2
set_option Elab.async false
set_option linter.all false
set_option maxRecDepth 100000
set_option maxHeartbeats 4000000
namespace L2
open PySem PySem.Spec PyProof.Rows
section
variable {X : Cx} {e : Expr} {es : List Expr} {pos p : Pos}
end
end L2
set_option Elab.async false
set_option linter.all false
set_option maxRecDepth 100000
set_option maxHeartbeats 4000000
namespace L2
open PySem PySem.Spec PyProof.Rows
section
variable {X : Cx} {e : Expr} {es : List Expr} {pos p : Pos}
end
section
variable {X : Cx} {e : Expr} {es : List Expr} {pos p : Pos}
end
end L2
set_option Elab.async false
set_option linter.all false
set_option maxRecDepth 100000
set_option maxHeartbeats 4000000
namespace L2
open PySem PySem.Spec PyProof.Rows
section
variable {X : Cx} {e : Expr} {es : List Expr} {pos p : Pos}
def rInDc (neg : Bool) : R2 := fun x y H Q => ∃ a o, y = .ref a ∧ DGet H a x o ∧ Q (.bl (if neg then !o.isSome else o.isSome)) H
theorem op_inDc (hu : X.A.units + 20 < cLine) : OpR X (compareOp .In) (rInDc false) := by
  intro pins s σ H x y v u Q I rx ry h
  obtain ⟨a, o, rfl, g, q⟩ := h
  cases ry
  exact d_in (by omega) I g rx fun s' I' => ⟨.bl _, H, I', rfl, q⟩
theorem op_notinDc (hu : X.A.units + 20 < cLine) : OpR X (compareOp .NotIn) (rInDc true) := by
  intro pins s σ H x y v u Q I rx ry h
  obtain ⟨a, o, rfl, g, q⟩ := h
  cases ry
  exact d_notIn (by omega) I g rx fun s' I' => ⟨.bl _, H, I', rfl, q⟩
def inDc (neg : Bool) : D → D → Option D
  | x, .dic ks ds => (keyD x).map fun k => .bl (if neg then !(valD ks ds k).isSome else (valD ks ds k).isSome)
  | _, _ => none
theorem od_inDc' {f : Value → Value → Sem Value} {neg : Bool} (h : OpR X f (rInDc neg)) : OpD X f (inDc neg) := by
  refine ⟨_, h, fun G H x y v u d Q sG rx ry e k => ?_⟩
  unfold inDc at e
  split at e
  · rename_i x' ks ds
    obtain ⟨kk, e1, rfl⟩ := Option.map_eq_some_iff.mp e
    obtain ⟨a, vs, rfl, hd, hl, nd, rl⟩ := ry.dic sG
    have := keyD_rep e1 rx
    subst this
    refine ⟨a, valV (ks.zip vs) kk, rfl, .inl ⟨_, kk, hd, rfl, rfl⟩, ?_⟩
    have hs : (valV (ks.zip vs) kk).isSome = (valD ks ds kk).isSome := by
      cases ed : valD ks ds kk with
      | none => rw [(valD_rep kk hl rl).2 ed]; rfl
      | some y => obtain ⟨w', e3, _⟩ := (valD_rep kk hl rl).1 y ed; rw [e3]; rfl
    rw [hs]
    exact k _ G H (Grow.refl sG) (by simp [Rep])
  · cases e
theorem od_notinAll (hu : X.A.units + 20 < cLine) : OpD X (compareOp .NotIn) (fun x y => (inD true x y).or (inDc true x y)) := od_notin.or (od_inDc' (op_notinDc hu))
end
end L2
set_option Elab.async false
set_option linter.all false
set_option maxRecDepth 100000
set_option maxHeartbeats 4000000
namespace L2
open PySem PySem.Spec PyProof.Rows
theorem eqV_congr {a b x : V} (h : eqV a b = true) : eqV a x = eqV b x := by
  cases a <;> cases b <;> simp only [eqV, Bool.false_eq_true, beq_iff_eq] at h <;> first | rfl | (cases x <;> simp_all [eqV]) | skip
  all_goals (try (cases h))
  all_goals (rename_i b1 b2; cases b1 <;> cases b2 <;> rfl)
theorem eqA_tup {xs : List D} {y : D} (h : eqA (.tup xs) y = true) : ∃ ys, y = .tup ys ∧ eqAs xs ys = true := by
  cases y with
  | tup ys => exact ⟨ys, rfl, by simpa only [eqA] using h⟩
  | _ => simp [eqA] at h
theorem eqA_lst {xs : List D} {y : D} (h : eqA (.lst xs) y = true) : ∃ ys, y = .lst ys ∧ eqAs xs ys = true := by
  cases y with
  | lst ys => exact ⟨ys, rfl, by simpa only [eqA] using h⟩
  | _ => simp [eqA] at h
theorem eqA_congr : ∀ (n : Nat) {a b x : D}, plainN n a = true → plainN n b = true → plainN n x = true → eqA a b = true → eqA a x = eqA b x := by
  intro n
  have flatc : ∀ {a b x : D}, flatD a = true → eqA a b = true → flatD b = true := fun {a b x} ha h => by
    cases a <;> first | exact absurd ha Bool.false_ne_true | (cases b <;> first | rfl | (simp [eqA, flatD] at h))
  have fc : ∀ {a b x : D}, flatD a = true → eqA a b = true → eqA a x = eqA b x := fun {a b x} ha h => by
    have hb : flatD b = true := flatc (x := x) ha h
    rw [eqA_flat ha hb] at h
    by_cases hx : flatD x = true
    · rw [eqA_flat ha hx, eqA_flat hb hx]
      exact eqV_congr h
    · have e1 : ∀ {c : D}, flatD c = true → eqA c x = false := fun {c} hc => by
        cases c <;> first | exact absurd hc Bool.false_ne_true | (cases x <;> first | (exact absurd rfl hx) | simp [eqA, flatD])
      rw [e1 ha, e1 hb]
  induction n with
  | zero =>
    intro a b x pa pb px h
    refine fc ?_ h
    cases a <;> first | rfl | exact absurd pa Bool.false_ne_true
  | succ n ih =>
    intro a b x pa pb px h
    have lists : ∀ {xs ys zs : List D}, xs.all (plainN n) = true → ys.all (plainN n) = true → zs.all (plainN n) = true → eqAs xs ys = true → eqAs xs zs = eqAs ys zs := by
      intro xs
      induction xs with
      | nil =>
        intro ys zs _ _ _ h
        cases ys with
        | nil => rfl
        | cons y ys => simp [eqAs] at h
      | cons x xs ih2 =>
        intro ys zs p1 p2 p3 h
        cases ys with
        | nil => simp [eqAs] at h
        | cons y ys =>
          simp only [eqAs, Bool.and_eq_true] at h
          rw [List.all_cons, Bool.and_eq_true] at p1 p2
          cases zs with
          | nil => simp [eqAs]
          | cons z zs =>
            rw [List.all_cons, Bool.and_eq_true] at p3
            simp only [eqAs]
            rw [ih p1.1 p2.1 p3.1 h.1, ih2 p1.2 p2.2 p3.2 h.2]
    cases a with
    | tup xs =>
      obtain ⟨ys, rfl, h⟩ := eqA_tup h
      cases x with
      | tup zs => simp only [eqA]; exact lists pa pb px h
      | _ => simp [eqA]
    | lst xs =>
      obtain ⟨ys, rfl, h⟩ := eqA_lst h
      cases x with
      | lst zs => simp only [eqA]; exact lists pa pb px h
      | _ => simp [eqA]
    | dic ks xs => cases pa
    | _ => exact fc rfl h
section
variable {X : Cx}
theorem relV_inj {v v' : V} {u : Value} (h : RelV v u) (h' : RelV v' u) : v = v' := by
  cases v <;> cases v' <;> simp only [RelV] at h h' <;> first | rfl | (subst h; cases h'; done) | (subst h; cases h'; rfl) | (obtain ⟨t, rfl⟩ := h; obtain ⟨t', e⟩ := h'; cases e; rfl) | (obtain ⟨t, rfl⟩ := h; cases h'; done) | (obtain ⟨t, rfl⟩ := h; obtain ⟨t', e⟩ := h'; cases e; done) | (obtain ⟨t, rfl⟩ := h'; cases h; done)
def inA (x : D) (ds : List D) : Bool := ds.any fun d => eqA d x
open Classical in
noncomputable def firstD : List Value → List D → Value → D
  | u :: us, d :: ds, w => if u = w then d else firstD us ds w
  | _, _, _ => .non
theorem firstD_spec {K : PySem.W.Frag} {H : Hp} : ∀ {ds : List D} {vs : List V} {us : List Value}, RepL K H ds vs → Vals vs us → ∀ w ∈ us, ∃ v, firstD us ds w ∈ ds ∧ Rep K H (firstD us ds w) v ∧ RelV v w
  | [], _, _, r, v => fun w hw => by simp only [RepL] at r; subst r; cases v; cases hw
  | d :: ds, _, _, r, v => fun w hw => by
    simp only [RepL] at r
    obtain ⟨v0, vr, rfl, r0, rl⟩ := r
    cases v with
    | cons rv rvs =>
      rename_i u us
      unfold firstD
      split
      · rename_i e
        subst e
        exact ⟨v0, List.mem_cons_self, r0, rv⟩
      · rename_i hne
        rcases List.mem_cons.mp hw with rfl | hw
        · exact absurd rfl hne
        · obtain ⟨v, h1, h2, h3⟩ := firstD_spec rl rvs w hw
          exact ⟨v, List.mem_cons_of_mem _ h1, h2, h3⟩
theorem any_first {pins : List (Addr × Obj)} {σ : St} {H : Hp} {s : Shared} (I : Inv X pins σ H s) {x : D} (px : plainN 8 x = true) {ds : List D} {vs : List V} {us : List Value} (pd : ds.all (plainN 8) = true) (r : RepL X.K H ds vs) (v : Vals vs us) :
    us.any (fun w => eqA (firstD us ds w) x) = inA x ds := by
  have key : ∀ (i : Nat) (d : D) (w : Value), ds[i]? = some d → us[i]? = some w → eqA (firstD us ds w) x = eqA d x := fun i d w ed ew => by
    obtain ⟨v1, h1, h2, h3⟩ := firstD_spec r v w (List.mem_of_getElem? ew)
    obtain ⟨v2, g1, g2⟩ := r.get ed
    obtain ⟨u2, k1, k2⟩ := v.get g1
    rw [ew] at k1
    cases k1
    have := relV_inj h3 k2
    subst this
    have p1 := List.all_eq_true.mp pd _ h1
    have p2 := List.all_eq_true.mp pd _ (List.mem_of_getElem? ed)
    exact eqA_congr 8 p1 p2 px (eqA_same I 8 p1 p2 h2 g2)
  have hl : ds.length = us.length := r.length.trans v.length
  unfold inA
  rw [Bool.eq_iff_iff, List.any_eq_true, List.any_eq_true]
  constructor
  · rintro ⟨w, hw, e⟩
    obtain ⟨i, hi⟩ := List.mem_iff_getElem?.mp hw
    have hlt := (List.getElem?_eq_some_iff.mp hi).1
    have hd : ds[i]? = some ds[i] := List.getElem?_eq_getElem (by omega)
    exact ⟨ds[i], List.getElem_mem _, by rw [← key i _ w hd hi]; exact e⟩
  · rintro ⟨d, hd, e⟩
    obtain ⟨i, hi⟩ := List.mem_iff_getElem?.mp hd
    have hlt := (List.getElem?_eq_some_iff.mp hi).1
    have hw : us[i]? = some us[i] := List.getElem?_eq_getElem (by omega)
    exact ⟨us[i], List.getElem_mem _, by rw [key i d _ hi hw]; exact e⟩
def rInA (K : PySem.W.Frag) (neg : Bool) : R2 := fun v u H Q => ∃ x ds, Rep K H x v ∧ (Rep K H (.lst ds) u ∨ Rep K H (.tup ds) u) ∧ plainN 8 x = true ∧ ds.all (plainN 8) = true ∧ Q (.bl (if neg then !inA x ds else inA x ds)) H
theorem op_inA (hu : X.A.units + 20 < cLine) : OpR X (compareOp .In) (rInA X.K false) := by
  intro pins s σ H y z v u Q I ry rz h
  obtain ⟨x, ds, r1, r2, p1, p2, q⟩ := h
  rcases r2 with r2 | r2
  · simp only [Rep] at r2
    obtain ⟨b, us, rfl, h3, h4⟩ := r2
    cases rz
    obtain ⟨its, rv, pl, hz⟩ := I.list h3
    refine SeqAt.in_listAt (fun w => eqA (firstD its ds w) x) pl.isList (fun w hw => ?_) ⟨.bl _, H, I, rfl, ?_⟩
    · obtain ⟨v1, g1, g2, g3⟩ := firstD_spec h4 rv w (by simpa using hw)
      exact eqAt_A I 8 (List.all_eq_true.mp p2 _ g1) p1 g2 r1 g3 ry (by rw [in1_units]; omega)
    · rw [show its.toArray.any (fun w => eqA (firstD its ds w) x) = its.any (fun w => eqA (firstD its ds w) x) by simp, any_first I p1 p2 h4 rv]
      exact q
  · simp only [Rep] at r2
    obtain ⟨b, us, rfl, h3, h4⟩ := r2
    cases rz
    obtain ⟨its, rv, pl, hz⟩ := I.tuple h3
    refine SeqAt.in_tupleAt (fun w => eqA (firstD its ds w) x) pl (fun w hw => ?_) ⟨.bl _, H, I, rfl, ?_⟩
    · obtain ⟨v1, g1, g2, g3⟩ := firstD_spec h4 rv w (by simpa using hw)
      exact eqAt_A I 8 (List.all_eq_true.mp p2 _ g1) p1 g2 r1 g3 ry (by rw [in1_units]; omega)
    · rw [show its.toArray.any (fun w => eqA (firstD its ds w) x) = its.any (fun w => eqA (firstD its ds w) x) by simp, any_first I p1 p2 h4 rv]
      exact q
theorem op_notinA (hu : X.A.units + 20 < cLine) : OpR X (compareOp .NotIn) (rInA X.K true) := by
  intro pins s σ H y z v u Q I ry rz h
  obtain ⟨x, ds, r1, r2, p1, p2, q⟩ := h
  rcases r2 with r2 | r2
  · simp only [Rep] at r2
    obtain ⟨b, us, rfl, h3, h4⟩ := r2
    cases rz
    obtain ⟨its, rv, pl, hz⟩ := I.list h3
    refine SeqAt.notIn_listAt (fun w => eqA (firstD its ds w) x) pl.isList (fun w hw => ?_) ⟨.bl _, H, I, rfl, ?_⟩
    · obtain ⟨v1, g1, g2, g3⟩ := firstD_spec h4 rv w (by simpa using hw)
      exact eqAt_A I 8 (List.all_eq_true.mp p2 _ g1) p1 g2 r1 g3 ry (by rw [in1_units]; omega)
    · rw [show its.toArray.any (fun w => eqA (firstD its ds w) x) = its.any (fun w => eqA (firstD its ds w) x) by simp, any_first I p1 p2 h4 rv]
      exact q
  · simp only [Rep] at r2
    obtain ⟨b, us, rfl, h3, h4⟩ := r2
    cases rz
    obtain ⟨its, rv, pl, hz⟩ := I.tuple h3
    refine SeqAt.notIn_tupleAt (fun w => eqA (firstD its ds w) x) pl (fun w hw => ?_) ⟨.bl _, H, I, rfl, ?_⟩
    · obtain ⟨v1, g1, g2, g3⟩ := firstD_spec h4 rv w (by simpa using hw)
      exact eqAt_A I 8 (List.all_eq_true.mp p2 _ g1) p1 g2 r1 g3 ry (by rw [in1_units]; omega)
    · rw [show its.toArray.any (fun w => eqA (firstD its ds w) x) = its.any (fun w => eqA (firstD its ds w) x) by simp, any_first I p1 p2 h4 rv]
      exact q
def inAD (neg : Bool) : D → D → Option D
  | x, .lst ds => if plainN 8 x = true ∧ ds.all (plainN 8) = true then some (.bl (if neg then !inA x ds else inA x ds)) else none
  | x, .tup ds => if plainN 8 x = true ∧ ds.all (plainN 8) = true then some (.bl (if neg then !inA x ds else inA x ds)) else none
  | _, _ => none
theorem od_inA' {f : Value → Value → Sem Value} {neg : Bool} (h : OpR X f (rInA X.K neg)) : OpD X f (inAD neg) := by
  refine ⟨_, h, fun G H x y v u d Q sG rx ry e k => ?_⟩
  unfold inAD at e
  split at e
  · split at e
    · rename_i hp
      cases e
      exact ⟨x, _, rx.all sG, .inl (ry.all sG), hp.1, hp.2, k _ G H (Grow.refl sG) (by simp [Rep])⟩
    · cases e
  · split at e
    · rename_i hp
      cases e
      exact ⟨x, _, rx.all sG, .inr (ry.all sG), hp.1, hp.2, k _ G H (Grow.refl sG) (by simp [Rep])⟩
    · cases e
  · cases e
def inE (neg : Bool) (x y : D) : Option D := (inAD neg x y).or ((inD neg x y).or (inDc neg x y))
theorem od_notinE (hu : X.A.units + 20 < cLine) : OpD X (compareOp .NotIn) (inE true) := (od_inA' (op_notinA hu)).or (od_notinAll hu)
end
end L2
set_option Elab.async false
set_option linter.all false
set_option maxRecDepth 100000
set_option maxHeartbeats 4000000
namespace L2
open PySem PySem.Spec PyProof.Rows
open PySem.AutoSeq1 (wpAny_loadPart')
open PySem.MeetsSeq PySem.MeetsSeq2 PySem.MeetsSeq3 PySem.SeqAt
def EqP (pr : Program) (w : World) (A : Around) (s : Shared) (u v : Value) (c : Bool) : Prop := ∀ (E : Value → Shared → Prop) (Q : Bool → Shared → Prop), Q c s → wpAny (model pr w) A (eqBool u v) Q E s
abbrev lstObj (d : Option Addr) (xs : Array Value) (n : Nat) (sl : Array (Option Value)) : Obj := { cls := .type "list", dict := d, data := .seq xs n, slots := sl }
theorem ne_loopP {pr : Program} {w : World} (p q : Addr) (xs ys : Array Value) (n m : Nat) (d1 d2 : Option Addr) (s1 s2 : Array (Option Value)) (hz : xs.size = ys.size) (e : Nat → Bool) (k : Nat) :
    ∀ i : Nat, xs.size - i = k → ∀ (A : Around) (R : Result → Shared → Prop) (s : Shared), s.heap.get? p = some (lstObj d1 xs n s1) → s.heap.get? q = some (lstObj d2 ys m s2) →
      (∀ j (h1 : j < xs.size) (h2 : j < ys.size), EqP pr w A.in1 s xs[j] ys[j] (e j)) → R (.ok (.ret (.bool (!((List.range xs.size).drop i).all e)))) s →
      wpAny (model pr w) A.in1 (Builtin.«list.__eq__.loop» ⟨[.ref p, .ref q, rawInt i, rawInt 3], []⟩)
        (fun fin s' => match fin with | .done f => R (.ok f) s' | .again c' => c'.quiet = true ∧ codeAny (model pr w) A c' R s') (fun e s' => R (.error e) s') s := by
  induction k with
  | zero =>
    intro i hk A R s hp hq he h
    obtain ⟨hh, g, d, tk, os⟩ := s
    wp_walk using wpAny_loadPart' hp, wpAny_loadPart' hq
    have z1 : xs[((i : Nat) : Int).toNat]? = none := by simp; omega
    have z2 : ys[((i : Nat) : Int).toNat]? = none := by simp; omega
    have zd : (List.range xs.size).drop i = [] := by simp; omega
    rw [zd] at h
    rw [z1, z2]
    wp_walk using wpAny_loadPart' hp, wpAny_loadPart' hq
    show R (.ok (.ret (.bool (xs.size != ys.size)))) _
    rw [hz]
    simpa using h
  | succ k ih =>
    intro i hk A R s hp hq he h
    obtain ⟨hh, g, d, tk, os⟩ := s
    wp_walk using wpAny_loadPart' hp, wpAny_loadPart' hq
    have l1 : i < xs.size := by omega
    have l2 : i < ys.size := by omega
    have z1 : xs[((i : Nat) : Int).toNat]? = some xs[i] := by simp [l1]
    have z2 : ys[((i : Nat) : Int).toNat]? = some ys[i] := by simp [l2]
    have zd : (List.range xs.size).drop i = i :: (List.range xs.size).drop (i + 1) := by simp [List.drop_eq_getElem_cons, l1]
    have zc : ((i : Int) + 1) = ((i + 1 : Nat) : Int) := by push_cast; rfl
    rw [zd, List.all_cons] at h
    rw [z1, z2]
    refine wpAny_bind (he i l1 l2 _ _ ?_)
    cases ei : e i with
    | true =>
      rw [ei] at h
      wp_walk
      rw [zc]
      exact ⟨plainId_quiet plain_eq_loop _, codeAny_builtin entry_eq_loop (by rw [Around.under_plainId plain_eq_loop _]; exact ih (i + 1) (by omega) A R _ hp hq he (by simpa using h))⟩
    | false =>
      rw [ei] at h
      wp_walk using wpAny_loadPart' hp, wpAny_loadPart' hq
      rw [z1, z2]
      wp_walk
      simpa using h
theorem ne_listP {pr : Program} {w : World} {A : Around} {E : Value → Shared → Prop} {s : Shared} {p q : Addr} {xs ys : Array Value} {e : Nat → Bool} {Q : Value → Shared → Prop} (hl : s.heap.IsList p xs) (hb : s.heap.IsList q ys) (hz : xs.size = ys.size) (hu : A.units < cLine)
    (he : ∀ j (h1 : j < xs.size) (h2 : j < ys.size), EqP pr w A.in1 s xs[j] ys[j] (e j)) (h : Q (.bool (!(List.range xs.size).all e)) s) : wpAny (model pr w) A (compareOp .NotEq (.ref p) (.ref q)) Q E s := by
  obtain ⟨⟨c1, d1, dt1, s1⟩, ho, hc, n, hd⟩ := id hl
  obtain ⟨⟨c2, d2, dt2, s2⟩, ho2, hc2, m, hd2⟩ := id hb
  simp only at hc hd hc2 hd2
  subst hc hd hc2 hd2
  refine wpAny_richCompare_same_room (op := .NotEq) ⟨_, ho, rfl⟩ ⟨_, ho2, rfl⟩ PySem.F.slot_list_ne (wpAny_call (codeAny_call_builtin PySem.F.slot_list_ne.plain PySem.F.entry_list_ne (PySem.F.slot_list_ne.check _ _ _ _ _ _ _ _ ⟨_, ho, rfl⟩ (PySem.F.args_list_ne_2 _ _) ?_))) hu
  obtain ⟨hh, g, d, tk, os⟩ := s
  have f3 := PySem.AutoSeq1.sub_list_list
  have hne : ¬ (xs.size != ys.size) = true := by simp [hz]
  wp_walk using wpAny_loadPart' ho, wpAny_loadPart' ho2
  exact ⟨plainId_quiet plain_eq_loop _, codeAny_builtin entry_eq_loop (by rw [Around.under_plainId plain_eq_loop _]; exact ne_loopP p q xs ys n m d1 d2 s1 s2 hz e _ 0 rfl A (PySem.wants (fun v s' => v ≠ .notImplemented ∧ Q v s') E) _ ho ho2 he (show Value.bool (!((List.range xs.size).drop 0).all e) ≠ Value.notImplemented ∧ Q (.bool (!((List.range xs.size).drop 0).all e)) _ from ⟨(fun z => nomatch z), by simpa using h⟩))⟩
def itemOk : D → D → Bool
  | .dic _ xs, .dic _ ys => xs.all (plainN 8) && ys.all (plainN 8)
  | x, y => plainN 8 x && plainN 8 y
def eqI : D → D → Bool
  | .dic ks xs, .dic ls ys => eqDic ks xs ls ys
  | x, y => eqA x y
def itemsOk : List D → List D → Bool
  | x :: xs, y :: ys => itemOk x y && itemsOk xs ys
  | [], [] => true
  | _, _ => false
def eqIs : List D → List D → Bool
  | x :: xs, y :: ys => eqI x y && eqIs xs ys
  | [], [] => true
  | _, _ => false
theorem itemsOk_len : ∀ {xs ys : List D}, itemsOk xs ys = true → xs.length = ys.length
  | [], [], _ => rfl
  | x :: xs, y :: ys, h => by
    simp only [itemsOk, Bool.and_eq_true] at h
    simp [itemsOk_len h.2]
  | [], _ :: _, h => by cases h
  | _ :: _, [], h => by cases h
theorem itemsOk_get : ∀ {xs ys : List D} {j : Nat} {x y : D}, itemsOk xs ys = true → xs[j]? = some x → ys[j]? = some y → itemOk x y = true
  | [], _, j, x, y, _, e, _ => by simp at e
  | _ :: _, [], j, x, y, h, _, _ => by cases h
  | a :: xs, b :: ys, j, x, y, h, e1, e2 => by
    simp only [itemsOk, Bool.and_eq_true] at h
    cases j with
    | zero => simp at e1 e2; subst e1 e2; exact h.1
    | succ j => exact itemsOk_get h.2 (by simpa using e1) (by simpa using e2)
theorem eqIs_all : ∀ {xs ys : List D}, itemsOk xs ys = true → eqIs xs ys = (List.range xs.length).all fun j => eqI (xs.getD j .non) (ys.getD j .non)
  | [], [], _ => rfl
  | x :: xs, y :: ys, h => by
    simp only [itemsOk, Bool.and_eq_true] at h
    simp only [eqIs]
    rw [eqIs_all h.2, List.length_cons, List.range_succ_eq_map, List.all_cons, List.all_map]
    rfl
  | [], _ :: _, h => by cases h
  | _ :: _, [], h => by cases h
theorem rd_inj {H : Hp} {a : Addr} {k1 k2 : List (Key × V)} (h1 : Rd H a (.dK k1)) (h2 : Rd H a (.dK k2)) : k1 = k2 := by
  rcases h1 with h1 | ⟨o1, h1⟩
  · rcases h2 with h2 | ⟨o2, h2⟩
    · rw [h1] at h2; cases h2; rfl
    · rw [h1] at h2; cases h2
  · rcases h2 with h2 | ⟨o2, h2⟩
    · rw [h1] at h2; cases h2
    · rw [h1] at h2; cases h2; rfl
section
variable {X : Cx} {pins : List (Addr × Obj)} {σ : St} {H : Hp} {s : Shared}
theorem zip_inj {α β : Type} : ∀ {as as' : List α} {bs bs' : List β}, as.length = bs.length → as'.length = bs'.length → as.zip bs = as'.zip bs' → as = as' ∧ bs = bs'
  | [], [], [], [], _, _, _ => ⟨rfl, rfl⟩
  | [], a :: as', [], b :: bs', _, _, e => by simp at e
  | a :: as, [], b :: bs, [], _, _, e => by simp at e
  | a :: as, a' :: as', b :: bs, b' :: bs', h1, h2, e => by
    simp only [List.zip_cons_cons, List.cons.injEq, Prod.mk.injEq] at e
    obtain ⟨r1, r2⟩ := zip_inj (by simpa using h1) (by simpa using h2) e.2
    exact ⟨by rw [e.1.1, r1], by rw [e.1.2, r2]⟩
theorem dic_same (I : Inv X pins σ H s) {ks ls : List Key} {xs ys : List D} {v : V} (p1 : xs.all (plainN 8) = true) (p2 : ys.all (plainN 8) = true) (r1 : Rep X.K H (.dic ks xs) v) (r2 : Rep X.K H (.dic ls ys) v) : eqDic ks xs ls ys = true := by
  simp only [Rep] at r1 r2
  obtain ⟨a, vs, rfl, h1, l1, n1, q1⟩ := r1
  obtain ⟨b, us, e, h2, l2, n2, q2⟩ := r2
  cases e
  obtain ⟨rfl, rfl⟩ := zip_inj (l1.trans q1.length) (l2.trans q2.length) (rd_inj h1 h2)
  unfold eqDic
  rw [Bool.and_eq_true, List.all_eq_true]
  refine ⟨by rw [q1.length, q2.length]; simp, fun kv hkv => ?_⟩
  have key : ∀ {ks : List Key} {xs ys : List D} {vs : List V}, ks.Nodup → RepL X.K H xs vs → RepL X.K H ys vs → xs.all (plainN 8) = true → ys.all (plainN 8) = true → ∀ kv ∈ ks.zip xs, ∃ y, valD ks ys kv.1 = some y ∧ eqA kv.2 y = true := by
    intro ks
    induction ks with
    | nil => intro xs ys vs _ _ _ _ _ kv h; simp at h
    | cons k0 ks ih =>
      intro xs ys vs hn a1 a2 b1 b2 kv h
      cases xs with
      | nil => simp at h
      | cons x xs =>
        simp only [RepL] at a1
        obtain ⟨v0, vr, rfl, a3, a4⟩ := a1
        cases ys with
        | nil => simp only [RepL] at a2; cases a2
        | cons y ys =>
          simp only [RepL] at a2
          obtain ⟨v1, vr', e, a5, a6⟩ := a2
          cases e
          rw [List.all_cons, Bool.and_eq_true] at b1 b2
          have hn' := List.nodup_cons.mp hn
          rw [List.zip_cons_cons] at h
          rcases List.mem_cons.mp h with rfl | h
          · exact ⟨y, by unfold valD; simp, eqA_same I 8 b1.1 b2.1 a3 a5⟩
          · obtain ⟨y', e1, e2⟩ := ih hn'.2 a4 a6 b1.2 b2.2 kv h
            have hk : kv.1 ∈ ks := (List.of_mem_zip h).1
            refine ⟨y', ?_, e2⟩
            unfold valD at e1 ⊢
            rw [List.zip_cons_cons, List.find?_cons]
            rw [show decide ((k0, y).1 = kv.1) = false from decide_eq_false fun z => hn'.1 (by rw [show k0 = kv.1 from z]; exact hk)]
            exact e1
  obtain ⟨y, e1, e2⟩ := key n1 q1 q2 p1 p2 kv hkv
  rw [e1]
  exact e2
theorem eqP_I (I : Inv X pins σ H s) {A : Around} (hu : A.units + 12 < cLine) {x y : D} {v v' : V} {u u' : Value} (ok : itemOk x y = true) (rx : Rep X.K H x v) (ry : Rep X.K H y v') (r : RelV v u) (r' : RelV v' u') : EqP X.prog X.w A s u u' (eqI x y) := by
  have plain : plainN 8 x = true → plainN 8 y = true → EqP X.prog X.w A s u u' (eqA x y) := fun p1 p2 E Q hq => eqAt_A I 8 p1 p2 rx ry r r' (by omega) X.prog X.w E Q hq
  cases x with
  | dic ks xs =>
    cases y with
    | dic ls ys =>
      simp only [itemOk, Bool.and_eq_true] at ok
      intro E Q hq
      have r1 := rx
      have r2 := ry
      obtain ⟨a, vs, ka, rfl, m1, d1, k1, l1, rl1, n1⟩ := dic_at I r1
      obtain ⟨b, us, kb, rfl, m2, d2, k2, l2, rl2, n2⟩ := dic_at I r2
      cases r
      cases r'
      by_cases hab : a = b
      · subst hab
        have e1 : eqI (.dic ks xs) (.dic ls ys) = true := dic_same I ok.1 ok.2 rx ry
        rw [e1] at hq
        exact (PySem.SeqAt.EqAt.same (.ref a) : PySem.SeqAt.EqAt A s (.ref a) (.ref a) true) X.prog X.w E Q hq
      · have hne : (Value.ref a == Value.ref b) ≠ true := fun z => hab (by have := eq_of_beq z; injection this)
        unfold eqBool
        refine wpAny_holding ?_
        refine wpAny_ite_split (fun z => absurd z hne) (fun _ => ?_)
        refine wpAny_bind (show wpAny (model X.prog X.w) A (compareOp .Eq (.ref a) (.ref b)) _ E s from ?_)
        refine PySem.W.keq_eq m1 m2 d1 d2 (by omega) (fun _ => hits_D I (by rw [in1_units]; omega) l2 rl2 ok.2 k2 l1 rl1 ok.1 k1) (wpAny_truthy_bool ?_)
        rw [n1, n2]
        exact hq
    | _ => simp [itemOk, plainN] at ok
  | _ =>
    cases y with
    | dic ls ys => simp [itemOk, plainN] at ok
    | _ => simp only [itemOk, Bool.and_eq_true] at ok; exact plain ok.1 ok.2
end
end L2
set_option Elab.async false
set_option linter.all false
set_option maxRecDepth 100000
set_option maxHeartbeats 4000000
namespace L2
open PySem PySem.Spec PyProof.Rows
section
variable {X : Cx}
def rNeI (K : PySem.W.Frag) : R2 := fun v u H Q => ∃ xs ys, Rep K H (.lst xs) v ∧ Rep K H (.lst ys) u ∧ itemsOk xs ys = true ∧ Q (.bl (!eqIs xs ys)) H
theorem op_neI (hu : X.A.units + 20 < cLine) : OpR X (compareOp .NotEq) (rNeI X.K) := by
  intro pins s σ H x y v u Q I rx ry h
  obtain ⟨xs, ys, r1, r2, ok, q⟩ := h
  simp only [Rep] at r1 r2
  obtain ⟨a, vs, rfl, h1, h2⟩ := r1
  obtain ⟨b, us, rfl, h3, h4⟩ := r2
  cases rx
  cases ry
  obtain ⟨its, v1, t1, _⟩ := I.list h1
  obtain ⟨its2, v2, t2, _⟩ := I.list h3
  have le := itemsOk_len ok
  have l1 : xs.length = its.length := h2.length.trans v1.length
  have l2 : ys.length = its2.length := h4.length.trans v2.length
  refine ne_listP (e := fun j => eqI (xs.getD j .non) (ys.getD j .non)) t1.isList t2.isList (by simp; omega) (by omega) (fun j z1 z2 => ?_) ?_
  · have j1 : j < xs.length := by simp at z1; omega
    have j2 : j < ys.length := by simp at z2; omega
    have e1 : xs[j]? = some (xs.getD j .non) := by rw [List.getD_eq_getElem?_getD, List.getElem?_eq_getElem j1]; rfl
    have e2 : ys[j]? = some (ys.getD j .non) := by rw [List.getD_eq_getElem?_getD, List.getElem?_eq_getElem j2]; rfl
    obtain ⟨w1, g1, q1⟩ := h2.get e1
    obtain ⟨w2, g2, q2⟩ := h4.get e2
    obtain ⟨u1, k1, k2⟩ := v1.get g1
    obtain ⟨u2, k3, k4⟩ := v2.get g2
    have t1 : its.toArray[j] = u1 := by
      obtain ⟨_, z⟩ := List.getElem?_eq_some_iff.mp k1
      simpa using z
    have t2 : its2.toArray[j] = u2 := by
      obtain ⟨_, z⟩ := List.getElem?_eq_some_iff.mp k3
      simpa using z
    rw [t1, t2]
    exact eqP_I I (by rw [in1_units]; omega) (itemsOk_get ok e1 e2) q1 q2 k2 k4
  · refine ⟨.bl _, H, I, rfl, ?_⟩
    rw [show its.toArray.size = xs.length by simp; omega, ← eqIs_all ok]
    exact q
def neI : D → D → Option D
  | .lst xs, .lst ys => if itemsOk xs ys = true then some (.bl (!eqIs xs ys)) else none
  | _, _ => none
theorem od_neI (hu : X.A.units + 20 < cLine) : OpD X (compareOp .NotEq) neI := by
  refine ⟨_, op_neI hu, fun G H x y v u d Q sG rx ry e k => ?_⟩
  unfold neI at e
  split at e
  · split at e
    · rename_i ok
      cases e
      exact ⟨_, _, rx.all sG, ry.all sG, ok, k _ G H (Grow.refl sG) (by simp [Rep])⟩
    · cases e
  · cases e
def neE (x y : D) : Option D := (eqO true x y).or (neI x y)
theorem od_neE (hu : X.A.units + 20 < cLine) : OpD X (compareOp .NotEq) neE := (od_neO hu).or (od_neI hu)
end
end L2
set_option Elab.async false
set_option linter.all false
set_option maxRecDepth 100000
set_option maxHeartbeats 4000000
namespace L2
open PySem PySem.Spec PyProof.Rows
end L2
set_option Elab.async false
set_option linter.all false
set_option maxRecDepth 100000
set_option maxHeartbeats 4000000
namespace L2
open PySem PySem.Spec PyProof.Rows
def Op {α : Type} (o : Option α) (R : α → Prop) : Prop := ∃ d, o = some d ∧ R d
def So (o : Option Out) (N : En → Prop) (T : Rs → En → Prop) : Prop := ∃ u, o = some u ∧ match u with | .nx δ => N δ | .rt r δ => T r δ | _ => False
theorem op_some {α : Type} {d : α} {R : α → Prop} (k : R d) : Op (some d) R := ⟨d, rfl, k⟩
theorem Op.eq {α : Type} {o : Option α} {d : α} (h : Op o fun x => x = d) : o = some d := by obtain ⟨x, e, rfl⟩ := h; exact e
theorem op_of {α : Type} {o : Option α} {d : α} {R : α → Prop} (e : o = some d) (h : R d) : Op o R := ⟨d, e, h⟩
theorem So.mono {o : Option Out} {N N' : En → Prop} {T T' : Rs → En → Prop} (h : So o N T) (k : ∀ δ, N δ → N' δ) (k' : ∀ r δ, T r δ → T' r δ) : So o N' T' := by
  obtain ⟨u, e, h⟩ := h
  refine ⟨u, e, ?_⟩
  cases u with
  | nx δ => exact k δ h
  | rt r δ => exact k' r δ h
  | bk δ => exact h
  | ct δ => exact h
def IsBl (R : Bool → Prop) : D → Prop | .bl b => R b | _ => False
def IsIn (R : Int → Prop) : D → Prop | .int b => R b | _ => False
def IsSq (R : List D → Prop) : D → Prop | .lst xs => R xs | .tup xs => R xs | .str z => R (signs z) | _ => False
def PubR (R : D → Prop) (r : Rs) : Prop := R r.d
def SetK (N : En → Prop) (δ : En) (i : Nat) (x : Sl) : Prop := N (δ.set i (some x))
def SetR (N : En → Prop) (δ : En) (i : Nat) (r : Rs) : Prop := N (δ.set i (some r.sl))
theorem pub_sh {R : D → Prop} {d : D} (k : R d) : PubR R (.sh d) := k
theorem pub_l {R : D → Prop} {xs : List D} (k : R (.lst xs)) : PubR R (.fr (.lst xs)) := k
theorem setK {N : En → Prop} {δ δ' : En} {i : Nat} {x : Sl} (e : δ.set i (some x) = δ') (k : N δ') : SetK N δ i x := by unfold SetK; rw [e]; exact k
theorem setR_fr {N : En → Prop} {δ : En} {i : Nat} {m : Mo} (k : SetK N δ i (.pv m none)) : SetR N δ i (.fr m) := k
theorem ite_t {A B : Prop} (h : A) : if true = true then A else B := h
theorem ite_f {A B : Prop} (h : B) : if false = true then A else B := h
theorem ite_rt {b : Bool} {A B : Prop} (e : b = true) (h : A) : if b = true then A else B := by rw [if_pos e]; exact h
theorem ite_rf {b : Bool} {A B : Prop} (e : b = false) (h : B) : if b = true then A else B := by rw [if_neg (by rw [e]; exact Bool.false_ne_true)]; exact h
theorem isBl_k {R : Bool → Prop} {b : Bool} (k : R b) : IsBl R (.bl b) := k
theorem isIn_k {R : Int → Prop} {b : Int} (k : R b) : IsIn R (.int b) := k
theorem isSq_l {R : List D → Prop} {b : List D} (k : R b) : IsSq R (.lst b) := k
theorem isSq_t {R : List D → Prop} {b : List D} (k : R b) : IsSq R (.tup b) := k
section
variable {f g h : FE} {fr : FR} {F F' : FS} {c c' : En → Option Bool} {δ : En} {i j : Nat} {ga : En → Option (List D)} {R : D → Prop} {Rr : Rs → Prop} {N : En → Prop} {T : Rs → En → Prop}
theorem op_f2 {o : D → D → Option D} (k : Op (f δ) fun x => Op (g δ) fun y => Op (o x y) R) : Op (f2 o f g δ) R := by
  obtain ⟨x, e1, y, e2, z, e3, k⟩ := k
  exact ⟨z, by unfold f2; rw [e1, Option.bind_some, e2, Option.bind_some, e3], k⟩
theorem op_f1 {o : D → Option D} (k : Op (f δ) fun x => Op (o x) R) : Op (f1 o f δ) R := by
  obtain ⟨x, e1, z, e3, k⟩ := k
  exact ⟨z, by unfold f1; rw [e1, Option.bind_some, e3], k⟩
theorem op_varB {x : Sl} (e : δ[i]? = some (some x)) (k : R x.d) : Op (fVarB i δ) R := ⟨x.d, by unfold fVarB; rw [e], k⟩
theorem op_var {x : D} (e : δ[i]? = some (some (.sh x))) (k : R x) : Op (fVar i δ) R := ⟨x, by unfold fVar; rw [e], k⟩
theorem op_varBs {d : D} (e : δ[i]? = some (some (.sh d))) (k : R d) : Op (fVarB i δ) R := op_varB e k
theorem op_varBl {xs : List D} {o : Option Addr} (e : δ[i]? = some (some (.pv (.lst xs) o))) (k : R (.lst xs)) : Op (fVarB i δ) R := op_varB e k
theorem op_C {d : D} (k : R d) : Op (fC d δ) R := ⟨d, rfl, k⟩
theorem op_nil {R : List D → Prop} (k : R []) : Op (fNil δ) R := ⟨_, rfl, k⟩
theorem op_cons {R : List D → Prop} (k : Op (f δ) fun d => Op (ga δ) fun ds => R (d :: ds)) : Op (fCons f ga δ) R := by
  obtain ⟨x, e1, y, e2, k⟩ := k
  exact ⟨_, by unfold fCons; rw [e1, Option.bind_some, e2, Option.bind_some], k⟩
theorem op_callR {M : List D → Option Rs} (k : Op (ga δ) fun ds => Op (M ds) Rr) : Op (fCallR M ga δ) Rr := by
  obtain ⟨x, e1, y, e2, k⟩ := k
  exact ⟨_, by unfold fCallR; rw [e1, Option.bind_some, e2], k⟩
theorem op_callB {M : List D → Option D} (k : Op (ga δ) fun ds => Op (M ds) R) : Op (fCallB M ga δ) R := by
  obtain ⟨x, e1, y, e2, k⟩ := k
  exact ⟨_, by unfold fCallB; rw [e1, Option.bind_some, e2], k⟩
theorem op_callN {M : List D → Option Mo} (k : Op (ga δ) fun ds => Op (M ds) fun m => Rr (.fr m)) : Op (fCallN M ga δ) Rr := by
  obtain ⟨x, e1, y, e2, k⟩ := k
  exact ⟨_, by unfold fCallN; rw [e1, Option.bind_some, e2]; rfl, k⟩
theorem op_pub (k : Op (fr δ) (PubR R)) : Op (fPub fr δ) R := by
  obtain ⟨x, e1, k⟩ := k
  exact ⟨_, by unfold fPub; rw [e1]; rfl, k⟩
theorem op_sh (k : Op (f δ) fun d => Rr (.sh d)) : Op (fSh f δ) Rr := by
  obtain ⟨x, e1, k⟩ := k
  exact ⟨_, by unfold fSh; rw [e1]; rfl, k⟩
theorem op_fB {R : Bool → Prop} (k : Op (f δ) (IsBl R)) : Op (fB f δ) R := by
  obtain ⟨x, e1, k⟩ := k
  cases x with
  | bl b => exact ⟨b, by unfold fB; rw [e1], k⟩
  | _ => exact k.elim
theorem op_bOr {R : Bool → Prop} (k : Op (c δ) fun x => if x = true then R true else Op (c' δ) R) : Op (bOr c c' δ) R := by
  obtain ⟨x, e1, k⟩ := k
  cases x with
  | false => obtain ⟨y, e2, k⟩ := (show Op (c' δ) R from k); exact ⟨y, by unfold bOr; rw [e1, Option.bind_some, if_neg Bool.false_ne_true, e2], k⟩
  | true => exact ⟨true, by unfold bOr; rw [e1, Option.bind_some, if_pos rfl], k⟩
theorem op_bNot {R : Bool → Prop} (k : Op (c δ) fun x => R (!x)) : Op (bNot c δ) R := by
  obtain ⟨x, e1, k⟩ := k
  exact ⟨_, by unfold bNot; rw [e1]; rfl, k⟩
theorem op_fAnd (k : Op (f δ) (IsBl fun x => if x = true then Op (g δ) R else R (.bl false))) : Op (fAnd f g δ) R := by
  obtain ⟨x, e1, k⟩ := k
  cases x with
  | bl b =>
    cases b with
    | true => obtain ⟨y, e2, k⟩ := (show Op (g δ) R from k); exact ⟨y, by unfold fAnd; rw [e1]; exact e2, k⟩
    | false => exact ⟨_, by unfold fAnd; rw [e1], k⟩
  | _ => exact k.elim
theorem op_tup (k : Op (ga δ) fun ds => ds.length ≤ sizeLine ∧ R (.tup ds)) : Op (fTup ga δ) R := by
  obtain ⟨x, e1, k0, k⟩ := k
  exact ⟨_, by unfold fTup; rw [e1, Option.bind_some, if_pos k0], k⟩
theorem op_lstR (k : Op (ga δ) fun ds => ds.length ≤ sizeLine ∧ Rr (.fr (.lst ds))) : Op (fLstR ga δ) Rr := by
  obtain ⟨x, e1, k0, k⟩ := k
  exact ⟨_, by unfold fLstR; rw [e1, Option.bind_some, if_pos k0], k⟩
theorem op_is {s : String} (k : Op (f δ) fun d => R (.bl (isTy s d))) : Op (fIs s f δ) R := by
  obtain ⟨x, e1, k⟩ := k
  exact ⟨_, by unfold fIs; rw [e1]; rfl, k⟩
theorem op_oInt {R : Option Int → Prop} (k : Op (f δ) (IsIn fun i => R (some i))) : Op (oInt f δ) R := by
  obtain ⟨x, e1, k⟩ := k
  cases x with
  | int b => exact ⟨_, by unfold oInt; rw [e1], k⟩
  | _ => exact k.elim
theorem op_sl {l h : En → Option (Option Int)} (k : Op (f δ) fun x => Op (l δ) fun lo => Op (h δ) fun hi => Op (slA x lo hi) Rr) : Op (fSlA f l h δ) Rr := by
  obtain ⟨x, e1, y, e2, z, e3, w, e4, k⟩ := k
  exact ⟨w, by unfold fSlA; rw [e1, Option.bind_some, e2, Option.bind_some, e3, Option.bind_some, e4], k⟩
theorem op_oSeq {R : List D → Prop} (k : Op (f δ) (IsSq R)) : Op (oSeq f δ) R := by
  obtain ⟨x, e1, k⟩ := k
  cases x with
  | lst xs => exact ⟨_, by unfold oSeq; rw [e1], k⟩
  | tup xs => exact ⟨_, by unfold oSeq; rw [e1], k⟩
  | str xs => exact ⟨_, by unfold oSeq; rw [e1], k⟩
  | _ => exact k.elim
theorem op_oRng {R : List D → Prop} (k : Op (f δ) (IsIn fun i => (-(2 ^ 62) ≤ i ∧ i < 2 ^ 62) ∧ R (rngD 0 i.toNat))) : Op (oRng f δ) R := by
  obtain ⟨x, e1, k⟩ := k
  cases x with
  | int b => obtain ⟨k0, k⟩ := k; exact ⟨_, by unfold oRng; rw [e1]; dsimp only; rw [if_pos k0], k⟩
  | _ => exact k.elim
theorem op_comp {nl : Nat} {js : List Nat} {it : En → Option (List D)} {Rr : Rs → Prop} (k : Op (it δ) fun xs => xs.length ≤ sizeLine ∧ Op (compL (fun x => c ((csD nl js δ).set i (some (.sh x)))) (fun x => g ((csD nl js δ).set i (some (.sh x)))) xs) fun ys => Rr (.fr (.lst ys))) : Op (fComp nl js i it c g δ) Rr := by
  obtain ⟨x, e1, k0, y, e2, k⟩ := k
  exact ⟨_, by unfold fComp; rw [e1, Option.bind_some, if_pos k0, e2]; rfl, k⟩
theorem op_compY {α : Type} {k : α → D} {hh : α → D} {g : D → Option D} {xs : List α} {R : List D → Prop} (h1 : ∀ x ∈ xs, Op (g (k x)) fun d => d = hh x) (q : R (xs.map hh)) : Op (compL (fun x => some true) g (xs.map k)) R := by
  refine ⟨_, ?_, q⟩
  clear q
  induction xs with
  | nil => rfl
  | cons x xs ih =>
    rw [List.map_cons]
    unfold compL
    rw [(h1 x List.mem_cons_self).eq, ih fun y hy => h1 y (List.mem_cons_of_mem _ hy)]
    rfl
theorem so_seq (k : So (F δ) (fun δ' => So (F' δ') N T) T) : So (sSeq F F' δ) N T := by
  obtain ⟨u, e, k⟩ := k
  cases u with
  | nx δ' => obtain ⟨w, e2, k⟩ := k; exact ⟨w, by unfold sSeq; rw [e]; exact e2, k⟩
  | rt r δ' => exact ⟨.rt r δ', by unfold sSeq; rw [e], k⟩
  | bk δ => exact k.elim
  | ct δ => exact k.elim
theorem so_if (k : Op (c δ) fun x => if x = true then So (F δ) N T else So (F' δ) N T) : So (sIf c F F' δ) N T := by
  obtain ⟨x, e1, k⟩ := k
  cases x with
  | true => obtain ⟨y, e2, k⟩ := (show So (F δ) N T from k); exact ⟨y, by unfold sIf; rw [e1]; exact e2, k⟩
  | false => obtain ⟨y, e2, k⟩ := (show So (F' δ) N T from k); exact ⟨y, by unfold sIf; rw [e1]; exact e2, k⟩
theorem so_nil (k : N δ) : So (sNil δ) N T := ⟨_, rfl, k⟩
theorem so_set (k : Op (f δ) fun d => SetK N δ i (.sh d)) : So (sSet i f δ) N T := by
  obtain ⟨x, e1, k⟩ := k
  exact ⟨_, by unfold sSet; rw [e1]; rfl, k⟩
theorem so_setR (k : Op (fr δ) fun r => SetR N δ i r) : So (sSetR i fr δ) N T := by
  obtain ⟨x, e1, k⟩ := k
  exact ⟨_, by unfold sSetR; rw [e1]; rfl, k⟩
theorem so_ret (k : Op (fr δ) fun r => T r δ) : So (sRet fr δ) N T := by
  obtain ⟨x, e1, k⟩ := k
  exact ⟨_, by unfold sRet; rw [e1]; rfl, k⟩
theorem so_app {ds : List D} {o : Option Addr} (e : δ[i]? = some (some (.pv (.lst ds) o))) (k : Op (f δ) fun d => ds.length < sizeLine ∧ SetK N δ i (.pv (.lst (ds ++ [d])) o)) : So (sApp i f δ) N T := by
  obtain ⟨x, e1, k0, k⟩ := k
  exact ⟨_, by unfold sApp; rw [e]; dsimp only; rw [e1, Option.bind_some, if_pos k0], k⟩
theorem so_for {it : En → Option (List D)} (k : Op (it δ) fun xs => So (forL i F xs δ) N T) : So (sFor i it F δ) N T := by
  obtain ⟨x, e1, u, e2, k⟩ := k
  exact ⟨u, by unfold sFor; rw [e1]; exact e2, k⟩
theorem so_forL (I : Nat → En → Prop) {xs : List D} (h0 : I 0 δ) (st : ∀ k x, xs[k]? = some x → ∀ δ, I k δ → So (F (δ.set i (some (.sh x)))) (I (k + 1)) T) (q : ∀ δ, I xs.length δ → N δ) : So (forL i F xs δ) N T := by
  have key : ∀ (ys : List D) (k : Nat) (δ : En), xs.drop k = ys → k ≤ xs.length → I k δ → So (forL i F ys δ) (I xs.length) T := by
    intro ys
    induction ys with
    | nil =>
      intro k δ e hle h
      have hk : xs.length ≤ k := by simpa using e
      have : k = xs.length := by omega
      subst this
      exact ⟨_, rfl, h⟩
    | cons y ys ih =>
      intro k δ e hle h
      have hk : xs[k]? = some y := by
        have := congrArg (·[0]?) e
        simpa using this
      have hlt : k < xs.length := (List.getElem?_eq_some_iff.mp hk).1
      have hd : xs.drop (k + 1) = ys := by rw [← List.drop_drop, e]; rfl
      obtain ⟨u, e1, k1⟩ := st k y hk δ h
      cases u with
      | nx δ' =>
        obtain ⟨w, e2, k2⟩ := ih (k + 1) δ' hd hlt k1
        exact ⟨w, by unfold forL; rw [e1]; exact e2, k2⟩
      | rt r δ' => exact ⟨.rt r δ', by unfold forL; rw [e1], k1⟩
      | bk δ => exact k1.elim
      | ct δ => exact k1.elim
  exact (key xs 0 δ rfl (Nat.zero_le _) h0).mono q fun _ _ h => h
theorem so_forL2 (I : Nat → En → Prop) {xs : List (D × D)} (h0 : I 0 δ) (st : ∀ k x, xs[k]? = some x → ∀ δ, I k δ → So (F ((δ.set i (some (.sh x.1))).set j (some (.sh x.2)))) (I (k + 1)) T) (q : ∀ δ, I xs.length δ → N δ) : So (forL2 i j F xs δ) N T := by
  have key : ∀ (ys : List (D × D)) (k : Nat) (δ : En), xs.drop k = ys → k ≤ xs.length → I k δ → So (forL2 i j F ys δ) (I xs.length) T := by
    intro ys
    induction ys with
    | nil =>
      intro k δ e hle h
      have hk : xs.length ≤ k := by simpa using e
      have : k = xs.length := by omega
      subst this
      exact ⟨_, rfl, h⟩
    | cons y ys ih =>
      intro k δ e hle h
      have hk : xs[k]? = some y := by
        have := congrArg (·[0]?) e
        simpa using this
      have hlt : k < xs.length := (List.getElem?_eq_some_iff.mp hk).1
      have hd : xs.drop (k + 1) = ys := by rw [← List.drop_drop, e]; rfl
      obtain ⟨u, e1, k1⟩ := st k y hk δ h
      cases u with
      | nx δ' =>
        obtain ⟨w, e2, k2⟩ := ih (k + 1) δ' hd hlt k1
        exact ⟨w, by unfold forL2; rw [e1]; exact e2, k2⟩
      | rt r δ' => exact ⟨.rt r δ', by unfold forL2; rw [e1], k1⟩
      | bk δ => exact k1.elim
      | ct δ => exact k1.elim
  exact (key xs 0 δ rfl (Nat.zero_le _) h0).mono q fun _ _ h => h
theorem so_forZ {z : En → Option (List (D × D))} (k : Op (z δ) fun xs => So (forL2 i j F xs δ) N T) : So (sForZ i j z F δ) N T := by
  obtain ⟨x, e1, u, e2, k⟩ := k
  exact ⟨u, by unfold sForZ; rw [e1]; exact e2, k⟩
theorem op_zip {R : List (D × D) → Prop} (k : Op (f δ) fun x => Op (g δ) fun y => Op (seqD x) fun xs => Op (seqD y) fun ys => R (xs.2.zip ys.2)) : Op (oZip f g δ) R := by
  obtain ⟨x, e1, y, e2, z, e3, w, e4, k⟩ := k
  exact ⟨_, by unfold oZip; rw [e1, Option.bind_some, e2, Option.bind_some, e3, Option.bind_some, e4]; rfl, k⟩
theorem so_pub {m : Mo} {o : Option Addr} (e : δ[i]? = some (some (.pv m o))) (k : So (F (δ.set i (some (.sh m.d)))) N T) : So (F (pubS i δ)) N T := by
  unfold pubS
  rw [e]
  exact k
theorem o_sub {i j : Int} (k : R (.int (i - j))) : Op (subD (.int i) (.int j)) R := ⟨_, rfl, k⟩
theorem o_div {i j : Int} (h : CDiv i j) (k : R (.int (i / j))) : Op (fdivD (.int i) (.int j)) R := ⟨_, by show (if CDiv i j then _ else _) = _; rw [if_pos h], k⟩
theorem o_mod {i j : Int} (h : 0 < j) (k : R (.int (i % j))) : Op (modD (.int i) (.int j)) R := ⟨_, by show (if 0 < j then _ else _) = _; rw [if_pos h], k⟩
theorem o_pow {i j : Int} (h : CPow i j) (k : R (.int (i ^ j.toNat))) : Op (powD (.int i) (.int j)) R := ⟨_, by show (if CPow i j then _ else _) = _; rw [if_pos h], k⟩
theorem o_neg {i : Int} (k : R (.int (-i))) : Op (negD (.int i)) R := ⟨_, rfl, k⟩
theorem dec_intV {i j : Int} : decide (V.int i = V.int j) = decide (i = j) := decide_eq_decide.mpr ⟨V.int.inj, fun e => e ▸ rfl⟩
theorem o_neI {i j : Int} (k : R (.bl (!decide (i = j)))) : Op (eqO true (.int i) (.int j)) R := ⟨_, by show some (D.bl (!decide (V.int i = V.int j))) = _; rw [dec_intV], k⟩
theorem o_neE {x y : D} (k : Op (eqO true x y) R) : Op (neE x y) R := by
  obtain ⟨d, e, k⟩ := k
  exact ⟨d, by unfold neE; rw [e]; rfl, k⟩
theorem o_neEI {i j : Int} (k : R (.bl (!decide (i = j)))) : Op (neE (.int i) (.int j)) R := o_neE (o_neI k)
theorem o_lenL {xs : List D} (k : R (.int xs.length)) : Op (lenD [.lst xs]) R := ⟨_, rfl, k⟩
theorem o_lenT {xs : List D} (k : R (.int xs.length)) : Op (lenD [.tup xs]) R := ⟨_, rfl, k⟩
theorem o_slL {xs : List D} {lo hi : Option Int} {Rr : Rs → Prop} (k : Rr (.fr (.lst (cutD xs lo hi)))) : Op (slA (.lst xs) lo hi) Rr := ⟨_, rfl, k⟩
theorem o_seqT {xs : List D} {R : Bool × List D → Prop} (k : R (true, xs)) : Op (seqD (.tup xs)) R := ⟨_, rfl, k⟩
theorem o_seqL {xs : List D} {R : Bool × List D → Prop} (k : R (false, xs)) : Op (seqD (.lst xs)) R := ⟨_, rfl, k⟩
theorem o_ixL {xs : List D} {k : Nat} {x : D} (e : xs[k]? = some x) (q : R x) : Op (ixA (.lst xs) (.int k)) R := ⟨x, atI_nat e, q⟩
theorem o_ixT {xs : List D} {k : Nat} {x : D} (e : xs[k]? = some x) (q : R x) : Op (ixA (.tup xs) (.int k)) R := ⟨x, atI_nat e, q⟩
theorem o_ixLm {xs : List D} {i : Int} (h0 : 0 ≤ i) (h1 : i < xs.length) (q : ∀ x ∈ xs, R x) : Op (ixA (.lst xs) (.int i)) R := by
  obtain ⟨n, rfl⟩ : ∃ n : Nat, i = n := ⟨i.toNat, by omega⟩
  have hn : n < xs.length := by omega
  exact o_ixL (List.getElem?_eq_getElem hn) (q _ (List.getElem_mem hn))
theorem op_runE {N : List Str} {n : Nat} {fb : FS} {ds : List D} {R : Rs → Prop} {δ : En} (hl : ds.length = n) (hs : startD N ds = δ) (k : So (fb δ) (fun _ => R (.sh .non)) fun r _ => R r) : Op (runF N n fb ds) R := by
  subst hs
  obtain ⟨u, e, k⟩ := k
  cases u with
  | nx δ => exact ⟨_, by unfold runF; rw [if_pos hl, e], k⟩
  | rt r δ' => exact ⟨_, by unfold runF; rw [if_pos hl, e], k⟩
  | bk δ => exact k.elim
  | ct δ => exact k.elim
end
end L2
local macro_rules | `(tactic| walk_at "wp1") => `(tactic| first
  | with_reducible refine L2.so_retX ?_
  | with_reducible refine L2.so_unp ?_
  | with_reducible refine L2.op_xFst ?_
  | with_reducible refine L2.op_xNil ?_
  | with_reducible refine L2.op_xCons ?_
  | with_reducible refine L2.op_xTup ?_
  | with_reducible refine L2.op_xCallG ?_
  | with_reducible refine L2.op_xCallT ?_
  | with_reducible refine L2.op_xCallM ?_
  | with_reducible refine L2.op_callM1 ?_
  | with_reducible refine L2.op_xComp ?_
  | ((with_reducible refine L2.so_ext (ds := ?ds) (o := ?o) ?h ?_); case h => exact rfl)
  | ((with_reducible refine L2.so_lput (ds := ?ds) (o := ?o) ?h ?_); case h => exact rfl)
  | ((with_reducible refine L2.op_pop (ds := ?ds) (d := ?d) (o := ?o) ?h ?_); case h => exact rfl)
  | with_reducible refine L2.so_seq ?_
  | with_reducible refine L2.so_set ?_
  | with_reducible refine L2.so_setR ?_
  | with_reducible refine L2.so_setX ?_
  | with_reducible refine L2.so_ret ?_
  | with_reducible refine L2.so_nil ?_
  | with_reducible refine L2.so_for ?_
  | with_reducible refine L2.so_forZ ?_
  | ((with_reducible refine L2.so_retVs (d := ?d) ?h ?_); case h => exact rfl)
  | ((with_reducible refine L2.so_retVp (o := ?o) (m := ?m) ?h ?_); case h => exact rfl)
  | ((with_reducible refine L2.so_app (o := ?o) (ds := ?ds) ?h ?_); case h => exact rfl)
  | ((with_reducible refine L2.so_dput (o := ?o) (ks := ?ks) (ds := ?ds) ?h ?_); case h => exact rfl)
  | ((with_reducible refine L2.setK (δ' := ?δ2) ?h ?_); case h => dsimp only [List.set]; exact rfl)
  | with_reducible refine L2.setR_sh ?_
  | with_reducible refine L2.setR_fr ?_
  | with_reducible refine L2.pub_sh ?_
  | with_reducible refine L2.pub_l ?_
  | with_reducible refine L2.pub_d ?_
  | with_reducible refine L2.ite_t ?_
  | with_reducible refine L2.ite_f ?_
  | ((with_reducible refine L2.ite_rt ?h ?_); case h => exact rfl)
  | ((with_reducible refine L2.ite_rf ?h ?_); case h => exact rfl)
  | with_reducible refine L2.isBl_k ?_
  | with_reducible refine L2.isIn_k ?_
  | with_reducible refine L2.isSq_l ?_
  | with_reducible refine L2.isSq_t ?_
  | with_reducible refine L2.isSq_s ?_
  | with_reducible refine L2.op_f2 ?_
  | with_reducible refine L2.op_f1 ?_
  | ((with_reducible refine L2.op_varBs (d := ?d) ?h ?_); case h => exact rfl)
  | ((with_reducible refine L2.op_varBl (o := ?o) (xs := ?xs) ?h ?_); case h => exact rfl)
  | ((with_reducible refine L2.op_varBd (o := ?o) (ks := ?ks) (xs := ?xs) ?h ?_); case h => exact rfl)
  | ((with_reducible refine L2.op_var (x := ?x) ?h ?_); case h => exact rfl)
  | ((with_reducible refine L2.op_xSetd (o := ?o) (ks := ?ks) (ds := ?ds) ?h ?_); case h => exact rfl)
  | with_reducible refine L2.op_C ?_
  | with_reducible refine L2.op_nil ?_
  | with_reducible refine L2.op_cons ?_
  | with_reducible refine L2.op_callR ?_
  | with_reducible refine L2.op_callB ?_
  | with_reducible refine L2.op_callN ?_
  | with_reducible refine L2.op_callG ?_
  | with_reducible refine L2.op_pub ?_
  | with_reducible refine L2.op_sh ?_
  | with_reducible refine L2.op_fB ?_
  | with_reducible refine L2.op_f3 ?_
  | with_reducible refine L2.op_bAnd ?_
  | with_reducible refine L2.op_bOr ?_
  | with_reducible refine L2.op_bNot ?_
  | with_reducible refine L2.op_fAnd ?_
  | with_reducible refine L2.op_fOr ?_
  | with_reducible refine L2.op_fNot ?_
  | with_reducible refine L2.op_fIf ?_
  | with_reducible refine L2.op_bYes ?_
  | with_reducible refine L2.op_tup ?_
  | with_reducible refine L2.op_lstR ?_
  | with_reducible refine L2.op_dicR ?_
  | with_reducible refine L2.op_is ?_
  | with_reducible refine L2.op_oInt ?_
  | with_reducible refine L2.op_sl ?_
  | with_reducible refine L2.op_none ?_
  | with_reducible refine L2.op_some ?_
  | with_reducible refine L2.op_get2 ?_
  | with_reducible refine L2.op_oSeq ?_
  | with_reducible refine L2.op_oRng ?_
  | with_reducible refine L2.op_oRng2 ?_
  | with_reducible refine L2.op_comp ?_
  | with_reducible refine L2.op_xD ?_
  | with_reducible refine L2.op_xIf ?_
  | with_reducible refine L2.op_zip ?_
  | with_reducible refine L2.o_add ?_
  | with_reducible refine L2.o_sub ?_
  | with_reducible refine L2.o_neg ?_
  | with_reducible refine L2.o_lt ?_
  | with_reducible refine L2.o_gt ?_
  | with_reducible refine L2.o_ge ?_
  | with_reducible refine L2.o_le ?_
  | with_reducible refine L2.o_eqI ?_
  | with_reducible refine L2.o_neI ?_
  | with_reducible refine L2.o_neEI ?_
  | with_reducible refine L2.o_lenL ?_
  | with_reducible refine L2.o_lenT ?_
  | with_reducible refine L2.o_tupL ?_
  | with_reducible refine L2.o_tupT ?_
  | with_reducible refine L2.o_intI ?_
  | with_reducible refine L2.o_intB ?_
  | with_reducible refine L2.o_isN ?_
  | with_reducible refine L2.o_slL ?_
  | with_reducible refine L2.o_slT ?_
  | with_reducible refine L2.o_keyI ?_
  | with_reducible refine L2.o_keyS ?_
  | with_reducible refine L2.o_seqT ?_
  | with_reducible refine L2.o_seqL ?_
  | with_reducible refine L2.o_dicN ?_
  | with_reducible refine L2.o_max ?_
  | with_reducible refine L2.o_min ?_
  | ((with_reducible refine L2.o_mul ?h ?_); case h => first | decide | exact Or.inr (by decide) | exact Or.inl (by decide) | exact ⟨by decide, by decide⟩ | omega)
  | ((with_reducible refine L2.o_div ?h ?_); case h => first | decide | exact Or.inr (by decide) | exact Or.inl (by decide) | exact ⟨by decide, by decide⟩ | omega)
  | ((with_reducible refine L2.o_mod ?h ?_); case h => first | decide | exact Or.inr (by decide) | exact Or.inl (by decide) | exact ⟨by decide, by decide⟩ | omega)
  | ((with_reducible refine L2.o_pow ?h ?_); case h => first | decide | exact Or.inr (by decide) | exact Or.inl (by decide) | exact ⟨by decide, by decide⟩ | omega))
local macro_rules | `(tactic| walk_at "wp") => `(tactic| repeat first | walk_at "wp1" | with_reducible refine L2.so_if ?_)
local macro_rules | `(tactic| walk_at "wpn") => `(tactic| repeat walk_at "wp1")
local macro_rules | `(tactic| walk_at "wrun") => `(tactic| (refine L2.op_runE (δ := ?d) rfl ?h ?_; case h => simp only [L2.startD, List.map_cons, List.map_nil, List.length_cons, List.length_nil, List.replicate, List.cons_append, List.nil_append, Nat.reduceAdd, Nat.reduceSub]; exact rfl))
local macro_rules | `(tactic| walk_at "wrunM") => `(tactic| (refine L2.op_runMS (δ := ?d) rfl ?h ?_; case h => simp only [L2.startS, List.map_cons, List.map_nil, List.length_cons, List.length_nil, List.replicate, List.cons_append, List.nil_append, Nat.reduceAdd, Nat.reduceSub]; exact rfl))
set_option Elab.async false
set_option linter.all false
set_option maxRecDepth 100000
set_option maxHeartbeats 4000000
namespace L2
open PySem PySem.W PyProof.Rows
def kRun {α : Type} (lt : Nat → Nat → Bool) : KasT α → α
  | .ret a => a
  | .ask i j k => kRun lt (k (lt i j))
theorem kRun_bind {α β : Type} {lt : Nat → Nat → Bool} {f : α → KasT β} : ∀ (t : KasT α), kRun lt (t.bind f) = kRun lt (f (kRun lt t))
  | .ret _ => rfl
  | .ask i j k => by
    show kRun lt ((k (lt i j)).bind f) = _
    rw [kRun_bind (k (lt i j))]
    rfl
structure WkO (lt : Nat → Nat → Bool) : Prop where
  irr : ∀ a, lt a a = false
  asy : ∀ a b, lt a b = true → lt b a = false
  ngt : ∀ a b c, lt a b = false → lt b c = false → lt a c = false
section
variable {lt : Nat → Nat → Bool}
def ix (p : Array Nat) (i : Nat) : Nat := p.getD i 0
theorem ix_eq {p q : Array Nat} {i j : Nat} (h : p[i]? = q[j]?) : ix p i = ix q j := by
  unfold ix
  rw [Array.getD_eq_getD_getElem?, Array.getD_eq_getD_getElem?, h]
def Up (lt : Nat → Nat → Bool) (p : Array Nat) (n : Nat) : Prop := ∀ i j, i < j → j < n → lt (ix p j) (ix p i) = false
def Dn (lt : Nat → Nat → Bool) (p : Array Nat) (n : Nat) : Prop := ∀ i j, i < j → j < n → lt (ix p i) (ix p j) = false
theorem Up.step (w : WkO lt) {p : Array Nat} {n : Nat} (u : Up lt p n) (h : n = 0 ∨ lt (ix p n) (ix p (n - 1)) = false) : Up lt p (n + 1) := fun i j hi hj => by
  by_cases e : j = n
  · subst e
    rcases h with h | h
    · omega
    · by_cases e2 : i = j - 1
      · subst e2; exact h
      · exact w.ngt _ _ _ h (u i (j - 1) (by omega) (by omega))
  · exact u i j hi (by omega)
theorem Dn.step (w : WkO lt) {p : Array Nat} {n : Nat} (u : Dn lt p n) (h : n = 0 ∨ lt (ix p (n - 1)) (ix p n) = false) : Dn lt p (n + 1) := fun i j hi hj => by
  by_cases e : j = n
  · subst e
    rcases h with h | h
    · omega
    · by_cases e2 : i = j - 1
      · subst e2; exact h
      · exact w.ngt _ _ _ (u i (j - 1) (by omega) (by omega)) h
  · exact u i j hi (by omega)
theorem asc_ok (w : WkO lt) (p : Array Nat) : ∀ (f n : Nat), 1 ≤ n → Up lt p n → n ≤ kRun lt (kas_asc p f n) ∧ kRun lt (kas_asc p f n) ≤ n + f ∧ Up lt p (kRun lt (kas_asc p f n))
  | 0, n, _, u => ⟨Nat.le_refl _, Nat.le_refl _, u⟩
  | f + 1, n, h1, u => by
    show n ≤ kRun lt (if lt (p.getD n 0) (p.getD (n - 1) 0) = true then .ret n else kas_asc p f (n + 1)) ∧ _
    cases e : lt (p.getD n 0) (p.getD (n - 1) 0) with
    | true =>
      have : kRun lt (kas_asc p (f + 1) n) = n := by
        show kRun lt (if lt (p.getD n 0) (p.getD (n - 1) 0) = true then .ret n else kas_asc p f (n + 1)) = n
        rw [e]; rfl
      rw [this]
      exact ⟨Nat.le_refl _, by omega, u⟩
    | false =>
      have : kRun lt (kas_asc p (f + 1) n) = kRun lt (kas_asc p f (n + 1)) := by
        show kRun lt (if lt (p.getD n 0) (p.getD (n - 1) 0) = true then .ret n else kas_asc p f (n + 1)) = _
        rw [e]; rfl
      rw [this]
      have := asc_ok w p f (n + 1) (by omega) (u.step w (.inr e))
      exact ⟨by simpa using Nat.le_trans (Nat.le_succ n) this.1, by omega, this.2.2⟩
theorem rev_ix {p : Array Nat} {i j : Nat} (hj : j ≤ p.size) (k : Nat) : ix (kas_rev p i j) k = if i ≤ k ∧ k < j then ix p (i + j - 1 - k) else ix p k := by
  have h := getElem?_mirror_all (xs := p) (i := i) hj k
  split
  · rename_i c
    rw [if_pos c] at h
    exact ix_eq h
  · rename_i c
    rw [if_neg c] at h
    exact ix_eq h
theorem rev_size' (p : Array Nat) (i j : Nat) : (kas_rev p i j).size = p.size := mirror_size _ _ _ _
theorem rev_perm (p : Array Nat) (i j : Nat) : (kas_rev p i j).Perm p := mirror_perm _ _ _ _
def Lk (lt : Nat → Nat → Bool) (p : Array Nat) (n q : Nat) : Prop := ∀ i, n - (q + 1) ≤ i → i < n → lt (ix p i) (ix p (n - 1)) = false ∧ lt (ix p (n - 1)) (ix p i) = false
theorem Lk.all (w : WkO lt) {p : Array Nat} {n q : Nat} (l : Lk lt p n q) {i j : Nat} (hi : n - (q + 1) ≤ i) (hi' : i < n) (hj : n - (q + 1) ≤ j) (hj' : j < n) : lt (ix p i) (ix p j) = false :=
  w.ngt _ _ _ (l i hi hi').1 (l j hj hj').2
theorem dn_rev (w : WkO lt) {p : Array Nat} {n q : Nat} (hn : n ≤ p.size) (d : Dn lt p n) (l : Lk lt p n q) : Dn lt (kas_rev p (n - (q + 1)) n) n := fun i j hij hj => by
  have h2 := rev_ix (i := n - (q + 1)) hn
  rw [h2, h2]
  by_cases c1 : n - (q + 1) ≤ i
  · rw [if_pos ⟨c1, by omega⟩, if_pos ⟨by omega, hj⟩]
    exact l.all w (by omega) (by omega) (by omega) (by omega)
  · rw [if_neg (fun z => c1 z.1)]
    by_cases c2 : n - (q + 1) ≤ j
    · rw [if_pos ⟨c2, hj⟩]
      exact d _ _ (by omega) (by omega)
    · rw [if_neg (fun z => c2 z.1)]
      exact d _ _ hij hj
theorem desc_ok (w : WkO lt) (N : Nat) : ∀ (f : Nat) (p : Array Nat) (n q : Nat), p.size = N → 1 ≤ n → n + f ≤ N → q + 1 ≤ n → Dn lt p n → Lk lt p n q →
    ∃ p' n' q', kRun lt (kas_desc f p n q) = (p', n', q') ∧ p'.Perm p ∧ n ≤ n' ∧ n' ≤ n + f ∧ q' + 1 ≤ n' ∧ Dn lt p' n' ∧ Lk lt p' n' q'
  | 0, p, n, q, _, h1, _, hq, d, l => ⟨p, n, q, rfl, Array.Perm.refl _, Nat.le_refl _, Nat.le_refl _, hq, d, l⟩
  | f + 1, p, n, q, hN, h1, hf, hq, d, l => by
    cases e : lt (p.getD n 0) (p.getD (n - 1) 0) with
    | true =>
      have e' : lt (ix p (n - 1)) (ix p n) = false := w.asy _ _ e
      by_cases c : q > 0
      · have r : kRun lt (kas_desc (f + 1) p n q) = kRun lt (kas_desc f (kas_rev p (n - (q + 1)) n) (n + 1) 0) := by
          show kRun lt (if lt (p.getD n 0) (p.getD (n - 1) 0) = true then _ else _) = _
          rw [e, if_pos rfl, if_pos c]
        have hn : n ≤ p.size := by omega
        have d1 := dn_rev w hn d l
        have i1 := rev_ix (i := n - (q + 1)) hn
        have d2 : Dn lt (kas_rev p (n - (q + 1)) n) (n + 1) := d1.step w (.inr (by
          rw [i1 (n - 1), if_pos (by omega), i1 n, if_neg (by omega)]
          exact w.ngt _ _ _ (l.all w (by omega) (by omega) (by omega) (by omega)) e'))
        obtain ⟨p', n', q', a1, a2, a3, a4, a5, a6, a7⟩ := desc_ok w N f (kas_rev p (n - (q + 1)) n) (n + 1) 0 ((rev_size' _ _ _).trans hN) (by omega) (by omega) (by omega) d2
          (fun i hi hi' => by
            have : i = n := by omega
            subst this
            exact ⟨w.irr _, w.irr _⟩)
        exact ⟨p', n', q', r.trans a1, a2.trans (rev_perm _ _ _), by omega, by omega, a5, a6, a7⟩
      · have r : kRun lt (kas_desc (f + 1) p n q) = kRun lt (kas_desc f p (n + 1) 0) := by
          show kRun lt (if lt (p.getD n 0) (p.getD (n - 1) 0) = true then _ else _) = _
          rw [e, if_pos rfl, if_neg c]
        obtain ⟨p', n', q', a1, a2, a3, a4, a5, a6, a7⟩ := desc_ok w N f p (n + 1) 0 hN (by omega) (by omega) (by omega) (d.step w (.inr e'))
          (fun i hi hi' => by
            have : i = n := by omega
            subst this
            exact ⟨w.irr _, w.irr _⟩)
        exact ⟨p', n', q', r.trans a1, a2, by omega, by omega, a5, a6, a7⟩
    | false =>
      cases e2 : lt (p.getD (n - 1) 0) (p.getD n 0) with
      | true =>
        have r : kRun lt (kas_desc (f + 1) p n q) = (p, n, q) := by
          show kRun lt (if lt (p.getD n 0) (p.getD (n - 1) 0) = true then _ else _) = _
          rw [e, if_neg (by decide)]
          show kRun lt (if lt (p.getD (n - 1) 0) (p.getD n 0) = true then _ else _) = _
          rw [e2, if_pos rfl]
          rfl
        exact ⟨p, n, q, r, Array.Perm.refl _, Nat.le_refl _, by omega, hq, d, l⟩
      | false =>
        have r : kRun lt (kas_desc (f + 1) p n q) = kRun lt (kas_desc f p (n + 1) (q + 1)) := by
          show kRun lt (if lt (p.getD n 0) (p.getD (n - 1) 0) = true then _ else _) = _
          rw [e, if_neg (by decide)]
          show kRun lt (if lt (p.getD (n - 1) 0) (p.getD n 0) = true then _ else _) = _
          rw [e2, if_neg (by decide)]
        obtain ⟨p', n', q', a1, a2, a3, a4, a5, a6, a7⟩ := desc_ok w N f p (n + 1) (q + 1) hN (by omega) (by omega) (by omega) (d.step w (.inr e2))
          (fun i hi hi' => by
            show lt (ix p i) (ix p n) = false ∧ lt (ix p n) (ix p i) = false
            by_cases c : i = n
            · subst c; exact ⟨w.irr _, w.irr _⟩
            · have := l i (by omega) (by omega)
              exact ⟨w.ngt _ _ _ this.1 e2, w.ngt _ _ _ e this.2⟩)
        exact ⟨p', n', q', r.trans a1, a2, by omega, by omega, a5, a6, a7⟩
theorem up_rev {p : Array Nat} {n : Nat} (hn : n ≤ p.size) (d : Dn lt p n) : Up lt (kas_rev p 0 n) n := fun i j hij hj => by
  have h := rev_ix (i := 0) hn
  rw [h, h, if_pos ⟨Nat.zero_le _, hj⟩, if_pos ⟨Nat.zero_le _, by omega⟩]
  exact d _ _ (by omega) (by omega)
theorem tail3_ok (w : WkO lt) {p : Array Nat} {n nrem : Nat} (h1 : 1 ≤ n) (hn : n ≤ nrem) (hz : nrem ≤ p.size) (d : Dn lt p n) :
    ∃ m p', kRun lt (kas_tail3 n nrem p) = (m, p') ∧ p'.Perm p ∧ 1 ≤ m ∧ m ≤ nrem ∧ Up lt p' m := by
  have a := asc_ok w (kas_rev p 0 n) (nrem - n) n h1 (up_rev (by omega) d)
  refine ⟨_, _, ?_, rev_perm p 0 n, Nat.le_trans h1 a.1, by omega, a.2.2⟩
  unfold kas_tail3
  rw [kRun_bind]
  rfl
theorem descPart_ok (w : WkO lt) {p : Array Nat} {n nrem : Nat} (h1 : 1 ≤ n) (hn : n + 1 ≤ nrem) (hz : nrem ≤ p.size) (d : Dn lt p (n + 1)) :
    ∃ m p', kRun lt (kas_descPart n nrem p) = (m, p') ∧ p'.Perm p ∧ 1 ≤ m ∧ m ≤ nrem ∧ Up lt p' m := by
  obtain ⟨p', n', q', a1, a2, a3, a4, a5, a6, a7⟩ := desc_ok w p.size (nrem - (n + 1)) p (n + 1) 0 rfl (by omega) (by omega) (by omega) d (fun i hi hi' => by
    have : i = n := by omega
    subst this
    exact ⟨w.irr _, w.irr _⟩)
  have hs : p'.size = p.size := a2.size_eq
  unfold kas_descPart
  rw [kRun_bind, a1]
  dsimp only
  by_cases c : q' > 0
  · rw [if_pos c]
    obtain ⟨m, p2, b1, b2, b3⟩ := tail3_ok w (p := kas_rev p' (n' - (q' + 1)) n') (n := n') (nrem := nrem) (by omega) (by omega) (by rw [rev_size']; omega) (dn_rev w (by omega) a6 a7)
    exact ⟨m, p2, b1, b2.trans ((rev_perm _ _ _).trans a2), b3⟩
  · rw [if_neg c]
    obtain ⟨m, p2, b1, b2, b3⟩ := tail3_ok w (p := p') (n := n') (nrem := nrem) (by omega) (by omega) (by omega) a6
    exact ⟨m, p2, b1, b2.trans a2, b3⟩
theorem count_ok (w : WkO lt) {p : Array Nat} {nrem : Nat} (h1 : 1 ≤ nrem) (hz : nrem ≤ p.size) :
    ∃ m p', kRun lt (kas_count nrem p) = (m, p') ∧ p'.Perm p ∧ 1 ≤ m ∧ m ≤ nrem ∧ Up lt p' m := by
  have a := asc_ok w p (nrem - 1) 1 (Nat.le_refl _) (fun i j hi hj => by omega)
  -- the run ended ahead: what comes is less
  have key : ∀ (f n : Nat), kRun lt (kas_asc p f n) < n + f → lt (ix p (kRun lt (kas_asc p f n))) (ix p (kRun lt (kas_asc p f n) - 1)) = true := by
    intro f
    induction f with
    | zero => intro n h; exact absurd h (by show ¬ n < n + 0; omega)
    | succ f ih =>
      intro n h
      cases e : lt (p.getD n 0) (p.getD (n - 1) 0) with
      | true =>
        have r : kRun lt (kas_asc p (f + 1) n) = n := by
          show kRun lt (if lt (p.getD n 0) (p.getD (n - 1) 0) = true then .ret n else kas_asc p f (n + 1)) = n
          rw [e]; rfl
        rw [r]; exact e
      | false =>
        have r : kRun lt (kas_asc p (f + 1) n) = kRun lt (kas_asc p f (n + 1)) := by
          show kRun lt (if lt (p.getD n 0) (p.getD (n - 1) 0) = true then .ret n else kas_asc p f (n + 1)) = _
          rw [e]; rfl
        rw [r] at h ⊢
        exact ih (n + 1) (by omega)
  unfold kas_count
  rw [kRun_bind]
  generalize hm : kRun lt (kas_asc p (nrem - 1) 1) = n at a
  by_cases c : n = nrem
  · rw [if_pos (by simpa using c)]
    exact ⟨n, p, rfl, Array.Perm.refl _, a.1, by omega, a.2.2⟩
  · rw [if_neg (by simpa using c)]
    have less := key (nrem - 1) 1 (by rw [hm]; omega)
    rw [hm] at less
    by_cases c2 : n > 1
    · rw [if_pos c2]
      show ∃ m p', kRun lt (if lt (p.getD 0 0) (p.getD (n - 1) 0) = true then _ else _) = _ ∧ _
      cases e : lt (p.getD 0 0) (p.getD (n - 1) 0) with
      | true =>
        rw [if_pos rfl]
        exact ⟨n, p, rfl, Array.Perm.refl _, a.1, by omega, a.2.2⟩
      | false =>
        rw [if_neg (by decide)]
        -- all alike
        have al : ∀ i j, i < n → j < n → lt (ix p i) (ix p j) = false := fun i j hi hj => by
          have f1 : ∀ i, i < n → lt (ix p i) (ix p 0) = false := fun i hi => by
            by_cases c : i = 0
            · subst c; exact w.irr _
            · exact a.2.2 0 i (by omega) hi
          have f2 : ∀ i, i < n → lt (ix p (n - 1)) (ix p i) = false := fun i hi => by
            by_cases c : i = n - 1
            · subst c; exact w.irr _
            · exact a.2.2 i (n - 1) (by omega) (by omega)
          exact w.ngt _ _ _ (f1 i hi) (w.ngt _ _ _ e (f2 j hj))
        have hr := rev_ix (p := p) (i := 0) (j := n) (by omega)
        have d : Dn lt (kas_rev p 0 n) (n + 1) := Dn.step w (fun i j hij hj => by
            rw [hr, hr, if_pos ⟨Nat.zero_le _, by omega⟩, if_pos ⟨Nat.zero_le _, hj⟩]
            exact al _ _ (by omega) (by omega)) (.inr (by
            rw [hr (n - 1), if_pos (by omega), hr n, if_neg (by omega)]
            exact w.ngt _ _ _ (al _ (n - 1) (by omega) (by omega)) (w.asy _ _ less)))
        obtain ⟨m, p2, b1, b2, b3⟩ := descPart_ok w (p := kas_rev p 0 n) (n := n) (nrem := nrem) (by omega) (by omega) (by rw [rev_size']; omega) d
        exact ⟨m, p2, b1, b2.trans (rev_perm _ _ _), b3⟩
    · rw [if_neg c2]
      have hn1 : n = 1 := by omega
      subst hn1
      exact descPart_ok w (Nat.le_refl _) (by omega) hz (Dn.step w (fun i j hij hj => by omega) (.inr (w.asy _ _ less)))
theorem place_ok (w : WkO lt) (p : Array Nat) (k : Nat) (u : Up lt p k) : ∀ (f l r : Nat), l ≤ r → r ≤ k → r - l ≤ f → (∀ i, i < l → lt (ix p k) (ix p i) = false) → (∀ i, r ≤ i → i < k → lt (ix p k) (ix p i) = true) →
    ∃ m, kRun lt (kas_place p k f l r) = m ∧ m ≤ k ∧ (∀ i, i < m → lt (ix p k) (ix p i) = false) ∧ (∀ i, m ≤ i → i < k → lt (ix p k) (ix p i) = true)
  | 0, l, r, h1, h2, h3, a, b => ⟨l, rfl, by omega, a, fun i hi hk => b i (by omega) hk⟩
  | f + 1, l, r, h1, h2, h3, a, b => by
    by_cases c : l ≥ r
    · have e : kRun lt (kas_place p k (f + 1) l r) = l := by
        show kRun lt (if l ≥ r then .ret l else _) = l
        rw [if_pos c]; rfl
      exact ⟨l, e, by omega, a, fun i hi hk => b i (by omega) hk⟩
    · cases e : lt (p.getD k 0) (p.getD ((l + r) / 2) 0) with
      | true =>
        have e2 : kRun lt (kas_place p k (f + 1) l r) = kRun lt (kas_place p k f l ((l + r) / 2)) := by
          show kRun lt (if l ≥ r then .ret l else _) = _
          rw [if_neg c]
          show kRun lt (if lt (p.getD k 0) (p.getD ((l + r) / 2) 0) = true then _ else _) = _
          rw [e, if_pos rfl]
        rw [e2]
        refine place_ok w p k u f l ((l + r) / 2) (by omega) (by omega) (by omega) a fun i hi hk => ?_
        by_cases q : i = (l + r) / 2
        · subst q; exact e
        · cases z : lt (ix p k) (ix p i) with
          | true => rfl
          | false =>
            have := w.ngt _ _ _ z (u ((l + r) / 2) i (by omega) hk)
            rw [show lt (ix p k) (ix p ((l + r) / 2)) = true from e] at this
            cases this
      | false =>
        have e2 : kRun lt (kas_place p k (f + 1) l r) = kRun lt (kas_place p k f ((l + r) / 2 + 1) r) := by
          show kRun lt (if l ≥ r then .ret l else _) = _
          rw [if_neg c]
          show kRun lt (if lt (p.getD k 0) (p.getD ((l + r) / 2) 0) = true then _ else _) = _
          rw [e, if_neg (by decide)]
        rw [e2]
        refine place_ok w p k u f ((l + r) / 2 + 1) r (by omega) (by omega) (by omega) (fun i hi => ?_) b
        by_cases q : i = (l + r) / 2
        · subst q; exact e
        · exact w.ngt _ _ _ e (u i ((l + r) / 2) (by omega) (by omega))
theorem bub_ix {p : Array Nat} {src : Nat} (hs : src < p.size) (d : Nat) (hd : d ≤ src) (k : Nat) : ix (bubble p src d) k = if k = src - d then ix p src else if src - d < k ∧ k ≤ src then ix p (k - 1) else ix p k := by
  have h := getElem?_bubble hs d hd k
  split
  · rename_i c
    rw [if_pos c] at h
    exact ix_eq h
  · rename_i c
    rw [if_neg c] at h
    split
    · rename_i c2
      rw [if_pos c2] at h
      exact ix_eq h
    · rename_i c2
      rw [if_neg c2] at h
      exact ix_eq h
theorem bin_ok (w : WkO lt) : ∀ (f : Nat) (p : Array Nat) (k : Nat), k + f ≤ p.size → Up lt p k → (kRun lt (kas_bin f p k)).Perm p ∧ Up lt (kRun lt (kas_bin f p k)) (k + f)
  | 0, p, k, _, u => ⟨Array.Perm.refl _, u⟩
  | f + 1, p, k, hz, u => by
    obtain ⟨m, e, hm, a, b⟩ := place_ok w p k u k 0 k (Nat.zero_le _) (Nat.le_refl _) (by omega) (fun i hi => by omega) (fun i hi hk => by omega)
    have r : kRun lt (kas_bin (f + 1) p k) = kRun lt (kas_bin f (bubble p k (k - m)) (k + 1)) := by
      show kRun lt ((kas_place p k k 0 k).bind _) = _
      rw [kRun_bind, e]
    have hb := bub_ix (p := p) (src := k) (by omega) (k - m) (by omega)
    have hkm : k - (k - m) = m := by omega
    rw [hkm] at hb
    have u2 : Up lt (bubble p k (k - m)) (k + 1) := fun i j hij hj => by
      rw [hb i, hb j]
      by_cases c1 : j = m
      · subst c1
        rw [if_pos rfl, if_neg (by omega), if_neg (by omega)]
        exact a i hij
      · rw [if_neg c1]
        by_cases c2 : i = m
        · subst c2
          rw [if_pos rfl, if_pos (by omega)]
          exact w.asy _ _ (b (j - 1) (by omega) (by omega))
        · rw [if_neg c2]
          by_cases c3 : m < j ∧ j ≤ k
          · rw [if_pos c3]
            by_cases c4 : m < i ∧ i ≤ k
            · rw [if_pos c4]
              exact u _ _ (by omega) (by omega)
            · rw [if_neg c4]
              exact u _ _ (by omega) (by omega)
          · rw [if_neg c3, if_neg (by omega)]
            exact u _ _ hij (by omega)
    have := bin_ok w f (bubble p k (k - m)) (k + 1) (by rw [bubble_size]; omega) u2
    rw [r]
    exact ⟨this.1.trans (bubble_perm _ _ _), by have h := this.2; rw [show k + 1 + f = k + (f + 1) by omega] at h; exact h⟩
theorem sort_ok (w : WkO lt) {n : Nat} (h : 1 ≤ n) : (kRun lt (kas_sort n)).Perm (List.toArray (List.range n)) ∧ Up lt (kRun lt (kas_sort n)) n := by
  obtain ⟨m, p', a1, a2, a3, a4, a5⟩ := count_ok w (p := List.toArray (List.range n)) (nrem := n) h (by simp)
  have hs : p'.size = n := by rw [a2.size_eq]; simp
  unfold kas_sort
  rw [kRun_bind, a1]
  dsimp only
  by_cases c : m < n
  · rw [if_pos c]
    have hmx : max m 1 = m := by omega
    rw [hmx]
    have := bin_ok w (n - m) p' m (by omega) a5
    exact ⟨this.1.trans a2, by have h := this.2; rw [show m + (n - m) = n by omega] at h; exact h⟩
  · rw [if_neg c]
    have : m = n := by omega
    subst this
    exact ⟨a2, a5⟩
end
def InR {α : Type} (n : Nat) (P : α → Prop) : KasT α → Prop
  | .ret a => P a
  | .ask i j k => i < n ∧ j < n ∧ ∀ b, InR n P (k b)
theorem InR.bind {α β : Type} {n : Nat} {P : α → Prop} {P' : β → Prop} {f : α → KasT β} : ∀ {t : KasT α}, InR n P t → (∀ a, P a → InR n P' (f a)) → InR n P' (t.bind f)
  | .ret a, h, hf => hf a h
  | .ask i j k, h, hf => ⟨h.1, h.2.1, fun b => InR.bind (h.2.2 b) hf⟩
def Bel (n : Nat) (p : Array Nat) : Prop := 0 < n ∧ ∀ x ∈ p.toList, x < n
theorem Bel.at {n : Nat} {p : Array Nat} (h : Bel n p) (i : Nat) : p.getD i 0 < n := by
  by_cases c : i < p.size
  · have e : p.getD i 0 = p[i] := by simp [Array.getD, c]
    rw [e]
    exact h.2 _ (by simp)
  · have e : p.getD i 0 = 0 := by simp [Array.getD, c]
    rw [e]; exact h.1
theorem Bel.perm {n : Nat} {p q : Array Nat} (h : Bel n p) (e : q.Perm p) : Bel n q := ⟨h.1, fun x hx => h.2 x ((Array.perm_iff_toList_perm.mp e).mem_iff.mp hx)⟩
theorem Bel.rev {n : Nat} {p : Array Nat} (h : Bel n p) (i j : Nat) : Bel n (kas_rev p i j) := h.perm (mirror_perm _ _ _ _)
theorem inR_asc {n : Nat} {p : Array Nat} (h : Bel n p) : ∀ f m, InR n (fun _ => True) (kas_asc p f m)
  | 0, m => trivial
  | f + 1, m => ⟨h.at _, h.at _, fun b => by
    cases b with
    | true => exact trivial
    | false => exact inR_asc h f (m + 1)⟩
theorem inR_desc {n : Nat} : ∀ f (p : Array Nat) m q, Bel n p → InR n (fun r => Bel n r.1) (kas_desc f p m q)
  | 0, p, m, q, h => h
  | f + 1, p, m, q, h => ⟨h.at _, h.at _, fun b => by
    cases b with
    | true =>
      show InR n _ (if q > 0 then _ else _)
      split
      · exact inR_desc f _ _ _ (h.rev _ _)
      · exact inR_desc f _ _ _ h
    | false =>
      exact ⟨h.at _, h.at _, fun d => by
        cases d with
        | true => exact h
        | false => exact inR_desc f _ _ _ h⟩⟩
theorem inR_tail3 {n : Nat} {p : Array Nat} (h : Bel n p) (m nrem : Nat) : InR n (fun r => Bel n r.2) (kas_tail3 m nrem p) := (inR_asc (h.rev _ _) _ _).bind fun _ _ => h.rev _ _
theorem inR_descPart {n : Nat} {p : Array Nat} (h : Bel n p) (m nrem : Nat) : InR n (fun r => Bel n r.2) (kas_descPart m nrem p) := (inR_desc _ _ _ _ h).bind fun r hr => by
  split
  · exact inR_tail3 (hr.rev _ _) _ _
  · exact inR_tail3 hr _ _
theorem inR_count {n : Nat} {p : Array Nat} (h : Bel n p) (nrem : Nat) : InR n (fun r => Bel n r.2) (kas_count nrem p) := (inR_asc h _ _).bind fun m _ => by
  split
  · exact h
  · split
    · exact ⟨h.at _, h.at _, fun b => by
        cases b with
        | true => exact h
        | false => exact inR_descPart (h.rev _ _) _ _⟩
    · exact inR_descPart h _ _
theorem inR_place {n : Nat} {p : Array Nat} (h : Bel n p) (k : Nat) : ∀ f l r, InR n (fun _ => True) (kas_place p k f l r)
  | 0, l, r => trivial
  | f + 1, l, r => by
    unfold kas_place
    split
    · exact trivial
    · exact ⟨h.at _, h.at _, fun b => by
        cases b with
        | true => exact inR_place h k f _ _
        | false => exact inR_place h k f _ _⟩
theorem inR_bin {n : Nat} : ∀ f (p : Array Nat) k, Bel n p → InR n (fun _ => True) (kas_bin f p k)
  | 0, p, k, h => trivial
  | f + 1, p, k, h => (inR_place h _ _ _ _).bind fun l _ => inR_bin f _ _ (h.perm (bubble_perm _ _ _))
theorem inR_sort {n : Nat} (hn : 0 < n) : InR n (fun _ => True) (kas_sort n) := (inR_count (n := n) ⟨hn, fun x hx => by simpa using hx⟩ n).bind fun r hr => by
  split
  · exact inR_bin _ _ _ hr
  · exact trivial
end L2
set_option Elab.async false
set_option linter.all false
set_option maxRecDepth 100000
set_option maxHeartbeats 4000000
namespace L2
open PySem
open PySem.AutoSeq1 (wpAny_loadPart')
open PySem.MeetsSeq PySem.MeetsSeq2 PySem.MeetsSeq3 PySem.SeqRoads2 PySem.SeqAt
def LtRc (A : Around) (s : Shared) (y x : Value) (b : Bool) : Prop :=
  ∀ (prog : Program) (w : World) (E : Value → Shared → Prop) (Q : Value → Shared → Prop), Q (.bool b) s → wpAny (model prog w) A (richCompare .Lt y x) Q E s
def lexF (e t : Nat → Bool) (fin : Bool) : List Nat → Bool
  | [] => fin
  | j :: js => if e j = true then lexF e t fin js else t j
theorem tuple_ltAt (l b : Addr) (items items2 : Array Value) (n n2 : Nat) (dd dd2 : Option Addr) (sl sl2 : Array (Option Value)) (e t : Nat → Bool) :
    Meets (Builtin.«tuple.__lt__» ⟨[.ref l, .ref b], []⟩)
      (fun A R s => s.heap.get? l = some { cls := .type "tuple", dict := dd, data := .seq items n, slots := sl } ∧ s.heap.get? b = some { cls := .type "tuple", dict := dd2, data := .seq items2 n2, slots := sl2 } ∧
        (∀ j (h1 : j < items.size) (h2 : j < items2.size), EqAt A.in1 s items[j] items2[j] (e j)) ∧ (∀ j (h1 : j < items.size) (h2 : j < items2.size), (∀ m, m < j → e m = true) → e j = false → LtRc A.in1 s items[j] items2[j] (t j)) ∧
        R (.ok (.ret (.bool (lexF e t (decide (items.size < items2.size)) (List.range (min items.size items2.size)))))) s) :=
  .of_wp fun prog w A R s h => by
    obtain ⟨hp, g, d, tk, os⟩ := s; obtain ⟨hl, hb, he, ht, h⟩ := h
    have f2 := AutoSeq1.sub_tuple_tuple
    have hZ : (items.toList.zip items2.toList).length = min items.size items2.size := by simp
    wp_walk using wpAny_loadPart' hl, wpAny_loadPart' hb, wpAny_forIn_list _ (fun rest b s' => b.1 = none ∧ s' = ⟨hp, g, d, tk, os⟩ ∧ ∃ i, rest = (items.toList.zip items2.toList).drop i ∧ (∀ m, m < i → e m = true) ∧
      R (.ok (.ret (.bool (lexF e t (decide (items.size < items2.size)) ((List.range (min items.size items2.size)).drop i))))) ⟨hp, g, d, tk, os⟩) _
    case turn =>
      rintro ⟨y, x⟩ rest b s' ⟨hb', rfl, i, hz, hal, hR⟩
      have hlt : i < (items.toList.zip items2.toList).length := by
        rcases Nat.lt_or_ge i (items.toList.zip items2.toList).length with h' | h'
        · exact h'
        · rw [List.drop_of_length_le h'] at hz; cases hz
      have hm : i < min items.size items2.size := hZ ▸ hlt
      have h1 : i < items.size := Nat.lt_of_lt_of_le hm (Nat.min_le_left _ _)
      have h2 : i < items2.size := Nat.lt_of_lt_of_le hm (Nat.min_le_right _ _)
      rw [List.drop_eq_getElem_cons hlt] at hz
      injection hz with hyx hrest
      have hy : y = items[i] := by have := congrArg Prod.fst hyx; simpa using this
      have hx : x = items2[i] := by have := congrArg Prod.snd hyx; simpa using this
      subst hy hx
      have hd : (List.range (min items.size items2.size)).drop i = i :: (List.range (min items.size items2.size)).drop (i + 1) := by simp [List.drop_eq_getElem_cons, hm]
      rw [hd] at hR
      refine wpAny_bind (he i h1 h2 prog w _ _ ?_)
      cases hy : e i with
      | true =>
        have hR : R (.ok (.ret (.bool (lexF e t (decide (items.size < items2.size)) ((List.range (min items.size items2.size)).drop (i + 1)))))) ⟨hp, g, d, tk, os⟩ := by
          simpa only [lexF, hy, if_true] using hR
        wp_walk
        exact ⟨rfl, rfl, i + 1, hrest, fun m hm' => (Nat.lt_succ_iff_lt_or_eq.mp hm').elim (hal m) fun z => z ▸ hy, hR⟩
      | false =>
        have hR : R (.ok (.ret (.bool (t i)))) ⟨hp, g, d, tk, os⟩ := by
          simpa only [lexF, hy, Bool.false_eq_true, if_false] using hR
        generalize hRC : richCompare = RC
        wp_walk
        subst hRC
        refine ht i h1 h2 hal hy prog w _ _ ?_
        wp_walk
        exact ⟨_, rfl, hR⟩
    case fin =>
      rintro ⟨b1, b2⟩ s' ⟨hb', rfl, i, hz, hal, hR⟩
      simp only at hb'
      subst hb'
      have hge : min items.size items2.size ≤ i := by
        rcases Nat.lt_or_ge i (items.toList.zip items2.toList).length with h' | h'
        · rw [List.drop_eq_getElem_cons h'] at hz; cases hz
        · exact hZ ▸ h'
      rw [List.drop_of_length_le (by simpa using hge)] at hR
      wp_walk
      exact ⟨_, rfl, by simpa [Builtin.Tuple.tupleCompareSizes, lexF] using hR⟩
    case h =>
      exact ⟨rfl, rfl, 0, rfl, fun m hm => absurd hm (Nat.not_lt_zero m), by simpa using h⟩
theorem lt_loopAt (l b : Addr) (items items2 : Array Value) (n n2 : Nat) (dd dd2 : Option Addr) (sl sl2 : Array (Option Value)) (e t : Nat → Bool) (k : Nat) :
    ∀ i : Nat, min items.size items2.size - i = k → i ≤ min items.size items2.size → (∀ m, m < i → e m = true) → Meets (Builtin.«list.__eq__.loop» ⟨[.ref l, .ref b, rawInt i, rawInt 0], []⟩)
      (fun A R s => s.heap.get? l = some { cls := .type "list", dict := dd, data := .seq items n, slots := sl } ∧ s.heap.get? b = some { cls := .type "list", dict := dd2, data := .seq items2 n2, slots := sl2 } ∧
        (∀ j (h1 : j < items.size) (h2 : j < items2.size), EqAt A.in1 s items[j] items2[j] (e j)) ∧ (∀ j (h1 : j < items.size) (h2 : j < items2.size), (∀ m, m < j → e m = true) → e j = false → LtRc A.in1 s items[j] items2[j] (t j)) ∧
        R (.ok (.ret (.bool (lexF e t (decide (items.size < items2.size)) ((List.range (min items.size items2.size)).drop i))))) s) := by
  induction k with
  | zero =>
    intro i hk hle hal prog w A R s h
    obtain ⟨hp, g, d, tk, os⟩ := s; obtain ⟨hl, hb, he, ht, h⟩ := h
    wp_walk using wpAny_loadPart' hl, wpAny_loadPart' hb
    have hd : (List.range (min items.size items2.size)).drop i = [] := by simp; omega
    rw [hd] at h
    have hR : R (.ok (.ret (.bool (decide (items.size < items2.size))))) ⟨hp, g, d, tk, os⟩ := h
    by_cases c : i < items.size
    · have hi1 : items[((i : Nat) : Int).toNat]? = some items[i] := by simp [c]
      have hi2 : items2[((i : Nat) : Int).toNat]? = none := by simp; omega
      rw [hi1, hi2]
      wp_walk using wpAny_loadPart' hl, wpAny_loadPart' hb
      exact hR
    · have hi1 : items[((i : Nat) : Int).toNat]? = none := by simp; omega
      rw [hi1]
      by_cases c2 : i < items2.size
      · have hi2 : items2[((i : Nat) : Int).toNat]? = some items2[i] := by simp [c2]
        rw [hi2]
        wp_walk using wpAny_loadPart' hl, wpAny_loadPart' hb
        exact hR
      · have hi2 : items2[((i : Nat) : Int).toNat]? = none := by simp; omega
        rw [hi2]
        wp_walk using wpAny_loadPart' hl, wpAny_loadPart' hb
        exact hR
  | succ k ih =>
    intro i hk hle hal prog w A R s h
    obtain ⟨hp, g, d, tk, os⟩ := s; obtain ⟨hl, hb, he, ht, h⟩ := h
    wp_walk using wpAny_loadPart' hl, wpAny_loadPart' hb
    have hlt : i < items.size := by omega
    have hlt2 : i < items2.size := by omega
    have hi1 : items[((i : Nat) : Int).toNat]? = some items[i] := by simp [hlt]
    have hi2 : items2[((i : Nat) : Int).toNat]? = some items2[i] := by simp [hlt2]
    have hm : i < min items.size items2.size := by omega
    have hd : (List.range (min items.size items2.size)).drop i = i :: (List.range (min items.size items2.size)).drop (i + 1) := by simp [List.drop_eq_getElem_cons, hm]
    have hc : ((i : Int) + 1) = ((i + 1 : Nat) : Int) := by push_cast; rfl
    rw [hd] at h
    rw [hi1, hi2]
    refine wpAny_bind (he i hlt hlt2 prog w _ _ ?_)
    cases hb' : e i with
    | true =>
      have h : R (.ok (.ret (.bool (lexF e t (decide (items.size < items2.size)) ((List.range (min items.size items2.size)).drop (i + 1)))))) ⟨hp, g, d, tk, os⟩ := by
        simpa only [lexF, hb', if_true] using h
      wp_walk
      rw [hc]
      exact ⟨plainId_quiet plain_eq_loop _, codeAny_builtin entry_eq_loop (by
        rw [Around.under_plainId plain_eq_loop _]
        exact ih (i + 1) (by omega) (by omega) (fun m hm' => (Nat.lt_succ_iff_lt_or_eq.mp hm').elim (hal m) fun z => z ▸ hb') prog w A R _ ⟨hl, hb, he, ht, h⟩)⟩
    | false =>
      have h : R (.ok (.ret (.bool (t i)))) ⟨hp, g, d, tk, os⟩ := by
        simpa only [lexF, hb', Bool.false_eq_true, if_false] using h
      generalize hRC : richCompare = RC
      wp_walk using wpAny_loadPart' hl, wpAny_loadPart' hb
      rw [hi1, hi2]
      wp_walk
      subst hRC
      refine ht i hlt hlt2 hal hb' prog w _ _ ?_
      wp_walk
      exact h
theorem list_ltAt (l b : Addr) (items items2 : Array Value) (n n2 : Nat) (dd dd2 : Option Addr) (sl sl2 : Array (Option Value)) (e t : Nat → Bool) :
    Meets (Builtin.«list.__lt__» ⟨[.ref l, .ref b], []⟩)
      (fun A R s => s.heap.get? l = some { cls := .type "list", dict := dd, data := .seq items n, slots := sl } ∧ s.heap.get? b = some { cls := .type "list", dict := dd2, data := .seq items2 n2, slots := sl2 } ∧
        (∀ j (h1 : j < items.size) (h2 : j < items2.size), EqAt A.in1 s items[j] items2[j] (e j)) ∧ (∀ j (h1 : j < items.size) (h2 : j < items2.size), (∀ m, m < j → e m = true) → e j = false → LtRc A.in1 s items[j] items2[j] (t j)) ∧
        R (.ok (.ret (.bool (lexF e t (decide (items.size < items2.size)) (List.range (min items.size items2.size)))))) s) := by
  intro prog w A R s h
  obtain ⟨hp, g, d, tk, os⟩ := s; obtain ⟨hl, hb, he, ht, h⟩ := h
  have f3 := AutoSeq1.sub_list_list
  wp_walk using wpAny_loadPart' hl, wpAny_loadPart' hb
  exact ⟨plainId_quiet plain_eq_loop _, codeAny_builtin entry_eq_loop (by
    rw [Around.under_plainId plain_eq_loop _]
    exact lt_loopAt l b items items2 n n2 dd dd2 sl sl2 e t _ 0 rfl (Nat.zero_le _) (fun m hm => absurd hm (Nat.not_lt_zero m)) prog w A R _ ⟨hl, hb, he, ht, by simpa using h⟩)⟩
section
variable {A : Around} {s : Shared}
theorem LtRc.lists {l b : Addr} {items items2 : Array Value} {e t : Nat → Bool} (hl : s.heap.IsList l items) (hb : s.heap.IsList b items2) (hu : A.units < cLine)
    (he : ∀ j (h1 : j < items.size) (h2 : j < items2.size), EqAt A.in1 s items[j] items2[j] (e j)) (ht : ∀ j (h1 : j < items.size) (h2 : j < items2.size), (∀ m, m < j → e m = true) → e j = false → LtRc A.in1 s items[j] items2[j] (t j)) :
    LtRc A s (.ref l) (.ref b) (lexF e t (decide (items.size < items2.size)) (List.range (min items.size items2.size))) := fun prog w E Q h => by
  obtain ⟨⟨cls, dd, data, sl⟩, ho, hc, n, hd⟩ := id hl
  obtain ⟨⟨cls2, dd2, data2, sl2⟩, ho2, hc2, n2, hd2⟩ := id hb
  simp only at hc hd hc2 hd2
  subst hc hd hc2 hd2
  exact richCompare_meets_room (op := .Lt) ⟨_, ho, rfl⟩ ⟨_, ho2, rfl⟩ F.slot_list_lt F.entry_list_lt (F.args_list_lt_2 _ _) (list_ltAt l b items items2 n n2 dd dd2 sl sl2 e t)
    ⟨ho, ho2, he, ht, show Value.bool _ ≠ Value.notImplemented ∧ Q (.bool _) s from ⟨(fun x => nomatch x), h⟩⟩ hu
theorem LtRc.tuples {l b : Addr} {items items2 : Array Value} {e t : Nat → Bool} (hl : s.heap.IsTuple l items) (hb : s.heap.IsTuple b items2) (hu : A.units < cLine)
    (he : ∀ j (h1 : j < items.size) (h2 : j < items2.size), EqAt A.in1 s items[j] items2[j] (e j)) (ht : ∀ j (h1 : j < items.size) (h2 : j < items2.size), (∀ m, m < j → e m = true) → e j = false → LtRc A.in1 s items[j] items2[j] (t j)) :
    LtRc A s (.ref l) (.ref b) (lexF e t (decide (items.size < items2.size)) (List.range (min items.size items2.size))) := fun prog w E Q h => by
  obtain ⟨⟨cls, dd, data, sl⟩, ho, hc, n, hd⟩ := id hl
  obtain ⟨⟨cls2, dd2, data2, sl2⟩, ho2, hc2, n2, hd2⟩ := id hb
  simp only at hc hd hc2 hd2
  subst hc hd hc2 hd2
  exact richCompare_meets_room (op := .Lt) ⟨_, ho, rfl⟩ ⟨_, ho2, rfl⟩ F.slot_tuple_lt F.entry_tuple_lt (F.args_tuple_lt_2 _ _) (tuple_ltAt l b items items2 n n2 dd dd2 sl sl2 e t)
    ⟨ho, ho2, he, ht, show Value.bool _ ≠ Value.notImplemented ∧ Q (.bool _) s from ⟨(fun x => nomatch x), h⟩⟩ hu
theorem LtRc.int (a b : Int) (t u : Tok) : LtRc A s (.int a t) (.int b u) (decide (a < b)) := fun prog w E Q h => PyProof.Rows.lt_int h
theorem LtRc.str (a b : Str) (t u : Tok) : LtRc A s (.str a t) (.str b u) (decide (a.cps.toList < b.cps.toList)) := fun prog w E Q h => PyProof.Rows.lt_str h
end
end L2
set_option Elab.async false
set_option linter.all false
set_option maxRecDepth 100000
set_option maxHeartbeats 4000000
namespace L2
open PySem PySem.Spec PySem.W PyProof.Rows
mutual
def ltA : D → D → Option Bool
  | .int i, y => match y with | .int j => some (decide (i < j)) | _ => none
  | .str x, y => match y with | .str z => some (decide (x.cps.toList < z.cps.toList)) | _ => none
  | .tup xs, y => match y with | .tup ys => ltAs xs ys | _ => none
  | .lst xs, y => match y with | .lst ys => ltAs xs ys | _ => none
  | .non, _ => none
  | .bl _, _ => none
  | .dic _ _, _ => none
def ltAs : List D → List D → Option Bool
  | [], ys => some (!ys.isEmpty)
  | x :: xs, ys => match ys with | [] => some false | y :: ys => if eqA x y = true then ltAs xs ys else ltA x y
end
def ltE : D → D → Option D := fun x y => if plainN 8 x = true ∧ plainN 8 y = true then (ltA x y).map .bl else none
def isnB : D → D → Option D | .bl i, .bl j => some (.bl (!(i == j))) | _, _ => none
def notA (x y : D) : Option D := (isN true x y).or (isnB x y)
def keysD (M : List D → Option Rs) : List D → Option (List D)
  | [] => some []
  | d :: ds => (M [d]).bind fun r => (keysD M ds).map (r.d :: ·)
def ltK (ks : List D) (i j : Nat) : Bool := (ltA (ks.getD i (ks.headD .non)) (ks.getD j (ks.headD .non))).getD false
def strKey : D → Bool | .tup (.str _ :: _) => true | _ => false
def intKey : D → Bool | .tup (.int _ :: _) => true | _ => false
def sortable (ks : List D) : Bool := (ks.all strKey || ks.all intKey) && ks.all (plainN 8) && ks.all fun x => ks.all fun y => (ltA x y).isSome
def sortIx (ks : List D) : List Nat := if ks.length < 2 then List.range ks.length else (kRun (ltK ks) (kas_sort ks.length)).toList
def sortBy (ks ds : List D) : List D := (sortIx ks).map fun i => ds.getD i .non
def sortKD (M : List D → Option Rs) (ds : List D) : Option (List D) := (keysD M ds).bind fun ks => if ds.length < 64 ∧ sortable ks = true then some (sortBy ks ds) else none
@[simp] def fSortK (M : List D → Option Rs) (f : FE) : FR := fun δ => (f δ).bind fun d => match d with | .lst ds => (sortKD M ds).map fun ys => .fr (.lst ys) | _ => none
@[simp] def fRev (f : FE) : FR := fun δ => (f δ).bind fun d => match d with | .lst ds => some (.fr (.lst ds.reverse)) | _ => none
end L2
set_option Elab.async false
set_option linter.all false
set_option maxRecDepth 100000
set_option maxHeartbeats 4000000
namespace L2
open PySem PySem.Spec PyProof.Rows
theorem lexF_map (e t : Nat → Bool) (fin : Bool) (f : Nat → Nat) : ∀ l : List Nat, lexF e t fin (l.map f) = lexF (fun j => e (f j)) (fun j => t (f j)) fin l
  | [] => rfl
  | j :: l => by
    simp only [List.map_cons, lexF]
    rw [lexF_map e t fin f l]
def eAt (xs ys : List D) (j : Nat) : Bool := eqA (xs.getD j .non) (ys.getD j .non)
def tAt (xs ys : List D) (j : Nat) : Bool := (ltA (xs.getD j .non) (ys.getD j .non)).getD false
theorem lex_ltAs : ∀ {xs ys : List D} {b : Bool}, ltAs xs ys = some b → lexF (eAt xs ys) (tAt xs ys) (decide (xs.length < ys.length)) (List.range (min xs.length ys.length)) = b
  | [], ys, b, h => by
    simp only [ltAs, Option.some.injEq] at h
    simp only [List.length_nil, Nat.zero_min, List.range_zero, lexF]
    rw [← h]
    cases ys <;> simp
  | x :: xs, [], b, h => by
    simp only [ltAs, Option.some.injEq] at h
    simp only [List.length_nil, Nat.min_zero, List.range_zero, lexF]
    rw [← h]
    simp
  | x :: xs, y :: ys, b, h => by
    simp only [ltAs] at h
    have e1 : min (x :: xs).length (y :: ys).length = min xs.length ys.length + 1 := by simp only [List.length_cons]; omega
    rw [e1, List.range_succ_eq_map, lexF, lexF_map]
    by_cases c : eqA x y = true
    · rw [if_pos c] at h
      rw [if_pos (show eAt (x :: xs) (y :: ys) 0 = true from c)]
      have := lex_ltAs h
      have e2 : decide ((x :: xs).length < (y :: ys).length) = decide (xs.length < ys.length) := by simp only [List.length_cons, Nat.add_lt_add_iff_right]
      rw [e2]
      exact this
    · rw [if_neg c] at h
      rw [if_neg (show ¬ eAt (x :: xs) (y :: ys) 0 = true from c)]
      show (ltA x y).getD false = b
      rw [h]; rfl
theorem first_ltAs : ∀ {xs ys : List D} {b : Bool}, ltAs xs ys = some b → ∀ j, j < xs.length → j < ys.length → (∀ m, m < j → eAt xs ys m = true) → eAt xs ys j = false → ltA (xs.getD j .non) (ys.getD j .non) = some (tAt xs ys j)
  | [], ys, b, h, j, h1, h2, ha, hf => absurd h1 (Nat.not_lt_zero j)
  | x :: xs, [], b, h, j, h1, h2, ha, hf => absurd h2 (Nat.not_lt_zero j)
  | x :: xs, y :: ys, b, h, 0, h1, h2, ha, hf => by
    simp only [ltAs] at h
    rw [if_neg (show ¬ eqA x y = true from fun z => by rw [show eAt (x :: xs) (y :: ys) 0 = true from z] at hf; cases hf)] at h
    show ltA x y = some ((ltA x y).getD false)
    rw [h]; rfl
  | x :: xs, y :: ys, b, h, j + 1, h1, h2, ha, hf => by
    simp only [ltAs] at h
    rw [if_pos (show eqA x y = true from ha 0 (Nat.zero_lt_succ j))] at h
    exact first_ltAs h j (by simpa using h1) (by simpa using h2) (fun m hm => ha (m + 1) (by omega)) hf
section
variable {X : Cx} {pins : List (Addr × Obj)} {σ : St} {H : Hp} {s : Shared}
theorem ltRc_A (I : Inv X pins σ H s) : ∀ (n : Nat) {x y : D} {v v' : V} {u u' : Value} {A : Around} {b : Bool}, plainN n x = true → plainN n y = true → ltA x y = some b → Rep X.K H x v → Rep X.K H y v' → RelV v u → RelV v' u' → A.units + n < cLine → LtRc A s u u' b := by
  intro n
  have ff : ∀ {x y : D} {v v' : V} {u u' : Value} {A : Around} {b : Bool}, (∀ xs, x ≠ .tup xs) → (∀ xs, x ≠ .lst xs) → ltA x y = some b → Rep X.K H x v → Rep X.K H y v' → RelV v u → RelV v' u' → LtRc A s u u' b := by
    intro x y v v' u u' A b n1 n2 h rx ry r r'
    cases x with
    | tup xs => exact absurd rfl (n1 xs)
    | lst xs => exact absurd rfl (n2 xs)
    | non => simp only [ltA] at h; cases h
    | bl _ => simp only [ltA] at h; cases h
    | dic _ _ => simp only [ltA] at h; cases h
    | int i =>
      cases y <;> simp only [ltA] at h <;> cases h
      simp only [Rep] at rx ry
      subst rx ry
      obtain ⟨t, rfl⟩ := r
      obtain ⟨t', rfl⟩ := r'
      exact LtRc.int _ _ _ _
    | str i =>
      cases y <;> simp only [ltA] at h <;> cases h
      simp only [Rep] at rx ry
      subst rx ry
      obtain ⟨t, rfl⟩ := r
      obtain ⟨t', rfl⟩ := r'
      exact LtRc.str _ _ _ _
  induction n with
  | zero =>
    intro x y v v' u u' A b px py h rx ry r r' hu
    refine ff ?_ ?_ h rx ry r r'
    · intro xs e; subst e; cases px
    · intro xs e; subst e; cases px
  | succ n ih =>
    intro x y v v' u u' A b px py h rx ry r r' hu
    have items : ∀ {xs ys : List D} {vs us : List V} {its its2 : List Value}, ltAs xs ys = some b → xs.all (plainN n) = true → ys.all (plainN n) = true → RepL X.K H xs vs → RepL X.K H ys us → Vals vs its → Vals us its2 →
        ∀ j (h1 : j < its.toArray.size) (h2 : j < its2.toArray.size), (∀ m, m < j → eAt xs ys m = true) → eAt xs ys j = false → LtRc A.in1 s its.toArray[j] its2.toArray[j] (tAt xs ys j) := fun {xs ys vs us its its2} hlt p1 p2 r1 r2 v1 v2 j h1 h2 ha hf => by
      have l1 := r1.length
      have l2 := r2.length
      have l3 := v1.length
      have l4 := v2.length
      have j1 : j < xs.length := by simp at h1; omega
      have j2 : j < ys.length := by simp at h2; omega
      have e1 : xs[j]? = some (xs.getD j .non) := by rw [List.getD_eq_getElem?_getD, List.getElem?_eq_getElem j1]; rfl
      have e2 : ys[j]? = some (ys.getD j .non) := by rw [List.getD_eq_getElem?_getD, List.getElem?_eq_getElem j2]; rfl
      obtain ⟨w1, g1, q1⟩ := r1.get e1
      obtain ⟨w2, g2, q2⟩ := r2.get e2
      obtain ⟨u1, k1, k2⟩ := v1.get g1
      obtain ⟨u2, k3, k4⟩ := v2.get g2
      have t1 : its.toArray[j] = u1 := by
        obtain ⟨_, z⟩ := List.getElem?_eq_some_iff.mp k1
        simpa using z
      have t2 : its2.toArray[j] = u2 := by
        obtain ⟨_, z⟩ := List.getElem?_eq_some_iff.mp k3
        simpa using z
      rw [t1, t2]
      exact ih (List.all_eq_true.mp p1 _ (List.mem_of_getElem? e1)) (List.all_eq_true.mp p2 _ (List.mem_of_getElem? e2)) (first_ltAs hlt j j1 j2 ha hf) q1 q2 k2 k4 (by rw [in1_units]; omega)
    cases x with
    | tup xs =>
      cases y <;> simp only [ltA] at h <;> try cases h
      rename_i ys
      simp only [Rep] at rx ry
      obtain ⟨a, vs, rfl, h1, h2⟩ := rx
      obtain ⟨b', us, rfl, h3, h4⟩ := ry
      cases r
      cases r'
      obtain ⟨its, v1, p1, _⟩ := I.tuple h1
      obtain ⟨its2, v2, p2, _⟩ := I.tuple h3
      have q := LtRc.tuples (A := A) (e := eAt xs ys) (t := tAt xs ys) p1 p2 (by omega) (items_A I n (by rw [in1_units]; omega) px py h2 h4 v1 v2) (items h px py h2 h4 v1 v2)
      have z1 : its.toArray.size = xs.length := by simp [h2.length, v1.length]
      have z2 : its2.toArray.size = ys.length := by simp [h4.length, v2.length]
      rw [z1, z2, lex_ltAs h] at q
      exact q
    | lst xs =>
      cases y <;> simp only [ltA] at h <;> try cases h
      rename_i ys
      simp only [Rep] at rx ry
      obtain ⟨a, vs, rfl, h1, h2⟩ := rx
      obtain ⟨b', us, rfl, h3, h4⟩ := ry
      cases r
      cases r'
      obtain ⟨its, v1, p1, _⟩ := I.list h1
      obtain ⟨its2, v2, p2, _⟩ := I.list h3
      have q := LtRc.lists (A := A) (e := eAt xs ys) (t := tAt xs ys) p1.isList p2.isList (by omega) (items_A I n (by rw [in1_units]; omega) px py h2 h4 v1 v2) (items h px py h2 h4 v1 v2)
      have z1 : its.toArray.size = xs.length := by simp [h2.length, v1.length]
      have z2 : its2.toArray.size = ys.length := by simp [h4.length, v2.length]
      rw [z1, z2, lex_ltAs h] at q
      exact q
    | _ => exact ff (fun _ z => by cases z) (fun _ z => by cases z) h rx ry r r'
end
section
variable {X : Cx}
def rLtA (K : PySem.W.Frag) : R2 := fun v u H Q => ∃ x y b, Rep K H x v ∧ Rep K H y u ∧ plainN 8 x = true ∧ plainN 8 y = true ∧ ltA x y = some b ∧ Q (.bl b) H
theorem op_ltA (hu : X.A.units + 20 < cLine) : OpR X (compareOp .Lt) (rLtA X.K) := by
  intro pins s σ H x y v u Q I rx ry h
  obtain ⟨dx, dy, b, r1, r2, p1, p2, e, q⟩ := h
  exact ltRc_A I 8 p1 p2 e r1 r2 rx ry (by omega) X.prog X.w _ _ ⟨.bl b, H, I, rfl, q⟩
theorem od_ltE (hu : X.A.units + 20 < cLine) : OpD X (compareOp .Lt) ltE := by
  refine ⟨_, op_ltA hu, fun G H x y v u d Q sG rx ry e k => ?_⟩
  unfold ltE at e
  split at e
  · rename_i hc
    obtain ⟨b, e1, rfl⟩ := Option.map_eq_some_iff.mp e
    exact ⟨x, y, b, rx.all sG, ry.all sG, hc.1, hc.2, e1, k _ G H (Grow.refl sG) (by simp [Rep])⟩
  · cases e
end
end L2
set_option Elab.async false
set_option linter.all false
set_option maxRecDepth 100000
set_option maxHeartbeats 4000000
namespace L2
open PySem PySem.Spec PySem.W PyProof.Rows
theorem kWp_run {α : Type} {n : Nat} {P : α → Prop} {cmp : Nat → Nat → (Bool → Shared → Prop) → Shared → Prop} {lt : Nat → Nat → Bool} {s : Shared} {Q : α → Shared → Prop}
    (hc : ∀ i j C, i < n → j < n → C (lt i j) s → cmp i j C s) : ∀ (t : KasT α), InR n P t → Q (kRun lt t) s → t.kasWp cmp Q s
  | .ret a, _, q => q
  | .ask i j k, h, q => hc i j _ h.1 h.2.1 (kWp_run hc (k (lt i j)) (h.2.2 _) q)
section
variable {X : Cx} {pins : List (Addr × Obj)} {σ : St} {H : Hp} {s : Shared}
theorem run_fnF {k : Nat} {f : Addr} {fd : FuncData} {ps : List Str} {sp : Sp} {Q : VK} {E : XK} {us : List Value} {vs : List V} (F : FnOk X.prog X.w X.K X.mg X.base CX0 k f fd ps sp) (hr : Room k X.A.in1.in1) (hb : Binds X.K fd ps [])
    (I : Inv X pins σ H s) (r : Vals vs us) (h : sp vs H Q E) : wpAny (model X.prog X.w) X.A.in1.in1 (call (.ref f) us) (EP X pins σ Q) (fun _ _ => False) s := by
  have hl : us.length = ps.length := by rw [← r.length]; exact F.len _ _ _ _ h
  have hb' := hb s us I.kIn (by rw [List.append_nil]; exact hl)
  rw [List.append_nil] at hb'
  refine wpAny_call (codeAny_mono (F.run X.A.in1.in1 X.stack s H ⟨us, []⟩ us vs Q E hr I.env0.in1.in1 hb' r h) fun r s' hq => ?_)
  cases r with
  | error e => exact hq
  | ok fl =>
    cases fl with
    | ret u => exact I.after hq
    | next => exact False.elim hq
    | brk => exact False.elim hq
    | cont => exact False.elim hq
theorem lex_A (I : Inv X pins σ H s) {A : Around} {b : Bool} {Q : Bool → Shared → Prop} (hu : A.units + 8 < cLine) : ∀ {xs ys : List D} {vs us : List V} {its its2 : List Value} (i : Nat) {c fin : Bool}, ltAs xs ys = some c → fin = decide (xs.length < ys.length) →
    xs.all (plainN 7) = true → ys.all (plainN 7) = true → RepL X.K H xs vs → RepL X.K H ys us → Vals vs its → Vals us its2 →
    (i = 0 → (∃ x y xr yr, xs = .str x :: xr ∧ ys = .str y :: yr) ∨ ∃ x y xr yr, xs = .int x :: xr ∧ ys = .int y :: yr) → Q c s → KatLex X.prog X.w A b fin Q (its.zip its2) i s
  | [], ys, vs, us, its, its2, i, c, fin, h, hf, p1, p2, r1, r2, v1, v2, h0, q => by
    simp only [RepL] at r1
    subst r1
    cases v1
    simp only [ltAs, Option.some.injEq] at h
    refine kat_nil ?_
    rw [hf]
    have : decide (([] : List D).length < ys.length) = c := by rw [← h]; cases ys <;> simp
    rw [this]; exact q
  | x :: xs, [], vs, us, its, its2, i, c, fin, h, hf, p1, p2, r1, r2, v1, v2, h0, q => by
    simp only [RepL] at r2
    subst r2
    cases v2
    simp only [ltAs, Option.some.injEq] at h
    rw [List.zip_nil_right]
    refine kat_nil ?_
    rw [hf]
    have : decide ((x :: xs).length < ([] : List D).length) = c := by rw [← h]; simp
    rw [this]; exact q
  | x :: xs, y :: ys, vs, us, its, its2, i, c, fin, h, hf, p1, p2, r1, r2, v1, v2, h0, q => by
    simp only [RepL] at r1 r2
    obtain ⟨v, vr, rfl, rx, rxs⟩ := r1
    obtain ⟨u, ur, rfl, ry, rys⟩ := r2
    cases v1 with
    | @cons _ a _ its hva v1 =>
    cases v2 with
    | @cons _ d _ its2 hud v2 =>
    rw [List.all_cons, Bool.and_eq_true] at p1 p2
    rw [List.zip_cons_cons]
    refine kat_cons (eqAt_A I 7 p1.1 p2.1 rx ry hva hud (by omega) X.prog X.w _ _ ?_)
    simp only [ltAs] at h
    cases e : eqA x y with
    | true =>
      rw [e, if_pos rfl] at h
      refine kat_yes (lex_A I hu (i + 1) h ?_ p1.2 p2.2 rxs rys v1 v2 (fun z => absurd z (Nat.succ_ne_zero i)) q)
      rw [hf]; simp only [List.length_cons, Nat.add_lt_add_iff_right]
    | false =>
      rw [e, if_neg Bool.false_ne_true] at h
      refine kat_no ?_
      by_cases hi : i = 0
      · subst hi
        cases b with
        | true =>
          show wpAny _ _ (oneLt' true a d) _ _ _
          rcases h0 rfl with ⟨x', y', xr, yr, e1, e2⟩ | ⟨x', y', xr, yr, e1, e2⟩
          · cases e1; cases e2
            simp only [Rep] at rx ry
            subst rx ry
            obtain ⟨t, rfl⟩ := hva
            obtain ⟨t', rfl⟩ := hud
            refine oneLt_str ?_
            simp only [ltA, Option.some.injEq] at h
            rw [h]; exact q
          · cases e1; cases e2
            simp only [Rep] at rx ry
            subst rx ry
            obtain ⟨t, rfl⟩ := hva
            obtain ⟨t', rfl⟩ := hud
            refine oneLt_int ?_
            simp only [ltA, Option.some.injEq] at h
            rw [h]; exact q
        | false => exact kat_one _ _ (ltRc_A I 7 p1.1 p2.1 h rx ry hva hud (by omega) X.prog X.w _ _ q)
      · have : (b && i == 0) = false := by simp [hi]
        rw [this]
        exact kat_one _ _ (ltRc_A I 7 p1.1 p2.1 h rx ry hva hud (by omega) X.prog X.w _ _ q)
theorem Inv.track {a : Addr} {o : HO} {h' : Heap} {t' : Nat} (I : Inv X pins σ H s) (hn : H a = none) (hL : a ≠ X.env.locals) (h1 : a ∈ X.ex ∨ X.s₀.heap.objs.size ≤ a) (h2 : ∀ x c, X.env.cells.lookup x = some c → c ≠ a) (h3 : ∀ p ∈ X.pn ++ pins, p.1 ≠ a)
    (k : ∀ b u, b ≠ a → s.heap.get? b = some u → h'.get? b = some u) (new : ObjOk X.prog X.w (upd H a o) h' a o) : Inv X pins σ (upd H a o) { s with heap := h', toks := t' } := by
  refine I.step (g' := s.gens) (d' := s.drawn) (ch := [a]) (fun b hb => ?_) (fun b o _ _ hc e _ => k b o (fun z => hc (by simp [z])) e) (fun b o _ _ hc e _ => ⟨o.slots, k b o (fun z => hc (by simp [z])) e⟩)
    (fun b o hc e n => by rw [upd_ne (fun z => hc (by simp [z]))]; exact n) (fun b o hc e => ⟨o, k b o (fun z => hc (by simp [z])) e⟩) (fun b xs e => by rw [upd_ne (ne_of_none e hn)]; exact e) (fun b o u e => by rw [upd_ne (ne_of_none e hn)]; exact e)
    (fun b ps e => ⟨#[], by rw [upd_ne (ne_of_none e hn), e]; simp⟩) (fun m hm => ?_) (fun b u e => ?_) I.bare
  · have e : b = a := by simpa using hb
    subst e
    exact ⟨h1, hL, h2, h3⟩
  · obtain ⟨o, es, ep, ho, r⟩ := hm
    exact ⟨o, es, ep, k _ o (Ne.symm hL) ho, r⟩
  · by_cases hb : b = a
    · subst hb; rw [upd_same] at e; cases e; exact new
    · rw [upd_ne hb] at e
      refine (I.hok b u e).stay (fun c v hc q => k c v ?_ q) (fun c q => by rw [upd_ne (ne_of_none q hn)]; exact q) fun c xs q => by rw [upd_ne (ne_of_none q hn)]; exact q
      rcases hc with z | z
      · rw [z]; exact hb
      · exact ne_of_none z hn
structure SkSt (X : Cx) (pins : List (Addr × Obj)) (σ : St) (G H : Hp) (D kS : Addr) (oD : Obj) (kd : List L2.D) (G1 H1 : Hp) (s1 : Shared) (kvs : List V) : Prop where
  inv : Inv X ((D, oD) :: pins) σ H1 s1
  gr : Grow G H G1 H1
  gK : G1 kS = none
  hK : H1 kS = some (.lst kvs)
  rep : RepL X.K G1 kd kvs
theorem keys_run {k : Nat} {f : Addr} {fd : FuncData} {p : Str} {M : List L2.D → Option Rs} (F : FnOk X.prog X.w X.K X.mg X.base CX0 k f fd [p] (spD X.K M)) (hr : Room k X.A.in1.in1) (hb : Binds X.K fd [p] []) {G : Hp} {D kS : Addr} {oD : Obj} (hkS : H kS = none)
    {body : Value → PUnit → Sem (ForInStep PUnit)} {E : Value → Shared → Prop}
    (hbd : ∀ (x : Value) (s1 : Shared) (R : ForInStep PUnit → Shared → Prop), wpAny (model X.prog X.w) X.A.in1.in1 (call (.ref f) [x]) (fun k s2 => wpAny (model X.prog X.w) X.A.in1.in1 (Builtin.List.listUpdate (.ref kS) (·.push k)) (fun _ s3 => R (.yield ⟨⟩) s3) E s2) (fun _ _ => False) s1 → wpAny (model X.prog X.w) X.A.in1.in1 (body x ⟨⟩) R E s1) :
    ∀ (ds : List L2.D) (vs : List V) (us : List Value) (ks kd : List L2.D) (G1 H1 : Hp) (s1 : Shared) (kvs : List V) (Q : PUnit → Shared → Prop), keysD M ds = some ks → RepL X.K G ds vs → Vals vs us → kd.length + ds.length < 64 → SkSt X pins σ G H D kS oD kd G1 H1 s1 kvs →
      (∀ G2 H2 s2 kvs2, SkSt X pins σ G H D kS oD (kd ++ ks) G2 H2 s2 kvs2 → Q ⟨⟩ s2) → wpAny (model X.prog X.w) X.A.in1.in1 (forIn us PUnit.unit body) Q E s1
  | [], vs, us, ks, kd, G1, H1, s1, kvs, Q, ek, rl, rv, hn, S, q => by
    simp only [RepL] at rl
    subst rl
    cases rv
    cases ek
    rw [List.append_nil] at q
    rw [List.forIn_nil]
    exact wpAny_pure (q _ _ _ _ S)
  | d :: ds, vs, us, ks, kd, G1, H1, s1, kvs, Q, ek, rl, rv, hn, S, q => by
    simp only [RepL] at rl
    obtain ⟨v, vr, rfl, rd, rl⟩ := rl
    cases rv with
    | @cons _ u _ us hvu rv =>
    have ek : (M [d]).bind (fun r => (keysD M ds).map (r.d :: ·)) = some ks := ek
    obtain ⟨r, er, ek⟩ := Option.bind_eq_some_iff.mp ek
    obtain ⟨kr, ekr, rfl⟩ := Option.map_eq_some_iff.mp ek
    rw [List.forIn_cons]
    refine wpAny_bind (hbd u s1 _ ?_)
    have hlk : kvs.length = kd.length := S.rep.length.symm
    refine wpAny_mono (run_fnF F hr hb (E := fun _ _ _ => False) S.inv (vs := [v]) (us := [u]) (.cons hvu .nil) ⟨G1, [d], r, S.gr.s, ?_, er, WantR.of (Q := fun kv H2 => ∃ G2, Grow G1 H1 G2 H2 ∧ Rep X.K G2 r.d kv) fun kv G2 H2 g2 rk => ⟨G2, g2, rk⟩⟩) (fun ku s2 hk => ?_) fun _ _ z => z
    · simp only [RepL]
      exact ⟨v, [], rfl, rd.mono S.gr.g, rfl⟩
    · obtain ⟨kv, H2, I2, rku, G2, g2, rk⟩ := hk
      have hK2 : H2 kS = some (.lst kvs) := g2.h _ _ S.hK
      -- the object
      obtain ⟨z, its, n, r2, e2⟩ := I2.hok kS _ hK2
      have hli : its.length = kd.length := by rw [← r2.length, hlk]
      have e2 : s2.heap.get? kS = some (seqObj "list" its.toArray n) := e2
      refine listUpdate_at e2 rfl ?_ (by rw [List.size_toArray, sizeLine_eq]; simp only [List.length_cons] at hn; omega) (Nat.le_trans (Nat.le_of_eq (Array.size_push ..)) (by rw [List.size_toArray, sizeLine_eq]; simp only [List.length_cons] at hn; omega))
      have ea : its.toArray.push ku = (its ++ [ku]).toArray := by simp
      obtain ⟨c2, hc2⟩ : ∃ c2, (s2.heap.update kS (Obj.mapSeq (·.push ku))).get? kS = some (seqObj "list" (its ++ [ku]).toArray c2) := ⟨_, by rw [← ea]; exact get?_update_seq e2 (·.push ku)⟩
      have sb := Heap.SameBut.update s2.heap kS (Obj.mapSeq (·.push ku))
      have I3 := I2.write (x := kS) (e := kS) (o := .lst (kvs ++ [kv])) (h' := s2.heap.update kS (Obj.mapSeq (·.push ku))) (t' := s2.toks) (by rw [hK2]; trivial) (.inl rfl) (fun b u hb e => (sb.2 b hb).trans e) ⟨_, hc2⟩
        ⟨by rw [List.length_append, hlk, List.length_singleton, sizeLine_eq]; simp only [List.length_cons] at hn; omega, its ++ [ku], c2, r2.append (.cons rku .nil), hc2⟩
      have gK2 : G2 kS = none := g2.n _ _ S.hK S.gK
      have hne : ∀ b u, G2 b = some u → b ≠ kS := fun b u e z => by rw [z, gK2] at e; cases e
      have hne0 : ∀ b u, H b = some u → b ≠ kS := fun b u e z => by rw [z, hkS] at e; cases e
      refine keys_run F hr hb hkS hbd ds vr us kr (kd ++ [r.d]) G2 (upd H2 kS (.lst (kvs ++ [kv]))) _ (kvs ++ [kv]) Q ekr rl rv (by rw [List.length_append, List.length_singleton]; simp only [List.length_cons] at hn; omega) ⟨I3, ?_, gK2, upd_same, ?_⟩ (fun G3 H3 s3 kvs3 S3 => q G3 H3 s3 kvs3 (by rw [List.append_assoc] at S3; exact S3))
      · have g := S.gr.trans g2
        refine ⟨g.g, fun b u e => by rw [upd_ne (hne0 b u e)]; exact g.h b u e, fun b u e => by rw [upd_ne (hne b u e)]; exact g.s b u e, g.n⟩
      · exact (S.rep.mono g2.g).snoc rk
theorem katTups_A (I : Inv X pins σ H s) : ∀ {ks : List L2.D} {kvs : List V} {kus : List Value}, ks.all strKey = true ∨ ks.all intKey = true → RepL X.K H ks kvs → Vals kvs kus →
    ∃ fs : List Value, KatTups s.heap kus fs ∧ fs.length = kus.length ∧ ((ks.all strKey = true → ∀ f ∈ fs, ∃ x t, f = .str x t) ∧ (ks.all intKey = true → ∀ f ∈ fs, ∃ x t, f = .int x t))
  | [], kvs, kus, _, r, v => by
    simp only [RepL] at r
    subst r
    cases v
    exact ⟨[], KatTups.nil, rfl, by simp, by simp⟩
  | k :: ks, kvs, kus, h, r, v => by
    simp only [RepL] at r
    obtain ⟨kv, kr, rfl, r1, r2⟩ := r
    cases v with
    | @cons _ ku _ kus hv v =>
    have h' : ks.all strKey = true ∨ ks.all intKey = true := h.elim (fun z => .inl (by rw [List.all_cons, Bool.and_eq_true] at z; exact z.2)) fun z => .inr (by rw [List.all_cons, Bool.and_eq_true] at z; exact z.2)
    obtain ⟨fs, t, l, a, b⟩ := katTups_A I h' r2 v
    have tup : ∀ {xs : List L2.D} {x : L2.D}, k = .tup (x :: xs) → ∃ (p : Addr) (o : Obj) (arr : Array Value) (n : Nat) (f : Value) (v0 : V), ku = .ref p ∧ s.heap.get? p = some o ∧ o.cls = .type "tuple" ∧ o.data = .seq arr n ∧ arr[0]? = some f ∧ Rep X.K H x v0 ∧ RelV v0 f := fun {xs x} e => by
      subst e
      simp only [Rep, RepL] at r1
      obtain ⟨p, vs, rfl, h1, v0, vr, rfl, h2, h3⟩ := r1
      obtain ⟨its, w1, ⟨o, e1, e2, n, e3⟩, _⟩ := I.tuple h1
      cases hv
      cases w1 with
      | @cons _ f _ its hf w1 => exact ⟨p, o, _, n, f, v0, rfl, e1, e2, e3, by simp, h2, hf⟩
    rcases h with h | h
    · have hk := h
      rw [List.all_cons, Bool.and_eq_true] at hk
      cases k with
      | tup xs =>
        cases xs with
        | nil => cases hk.1
        | cons x xs =>
          obtain ⟨p, o, arr, n, f, v0, rfl, e1, e2, e3, e4, e5, e6⟩ := tup rfl
          refine ⟨f :: fs, KatTups.cons e1 e2 e3 e4 t, by simp [l], fun _ g hg => ?_, fun hi => ?_⟩
          · rcases List.mem_cons.mp hg with rfl | hg
            · cases x with
              | str z => simp only [Rep] at e5; subst e5; obtain ⟨t, rfl⟩ := e6; exact ⟨z, t, rfl⟩
              | _ => exact absurd hk.1 Bool.false_ne_true
            · exact a hk.2 g hg
          · rw [List.all_cons, Bool.and_eq_true] at hi
            cases x with
            | str z => exact absurd hi.1 Bool.false_ne_true
            | _ => exact absurd hk.1 Bool.false_ne_true
      | _ => exact absurd hk.1 Bool.false_ne_true
    · have hk := h
      rw [List.all_cons, Bool.and_eq_true] at hk
      cases k with
      | tup xs =>
        cases xs with
        | nil => cases hk.1
        | cons x xs =>
          obtain ⟨p, o, arr, n, f, v0, rfl, e1, e2, e3, e4, e5, e6⟩ := tup rfl
          refine ⟨f :: fs, KatTups.cons e1 e2 e3 e4 t, by simp [l], fun hi => ?_, fun _ g hg => ?_⟩
          · rw [List.all_cons, Bool.and_eq_true] at hi
            cases x with
            | int z => exact absurd hi.1 Bool.false_ne_true
            | _ => exact absurd hk.1 Bool.false_ne_true
          · rcases List.mem_cons.mp hg with rfl | hg
            · cases x with
              | int z => simp only [Rep] at e5; subst e5; obtain ⟨t, rfl⟩ := e6; exact ⟨z, t, rfl⟩
              | _ => exact absurd hk.1 Bool.false_ne_true
            · exact b hk.2 g hg
      | _ => exact absurd hk.1 Bool.false_ne_true
theorem ltK_at {ks : List L2.D} {i j : Nat} (h : sortable ks = true) (hi : i < ks.length) (hj : j < ks.length) : ltA (ks.getD i .non) (ks.getD j .non) = some (ltK ks i j) ∧ plainN 8 (ks.getD i .non) = true := by
  unfold sortable at h
  rw [Bool.and_eq_true, Bool.and_eq_true] at h
  obtain ⟨⟨_, hp⟩, hl⟩ := h
  have m : ∀ {i : Nat} (x : L2.D), i < ks.length → ks.getD i x = ks.getD i .non ∧ ks.getD i .non ∈ ks := fun {i} x h => by
    rw [List.getD_eq_getElem?_getD, List.getD_eq_getElem?_getD, List.getElem?_eq_getElem h]
    exact ⟨rfl, List.getElem_mem h⟩
  have := List.all_eq_true.mp (List.all_eq_true.mp hl _ (m .non hi).2) _ (m .non hj).2
  obtain ⟨b, e⟩ := Option.isSome_iff_exists.mp this
  refine ⟨?_, List.all_eq_true.mp hp _ (m .non hi).2⟩
  unfold ltK
  rw [(m (ks.headD .non) hi).1, (m (ks.headD .non) hj).1, e]
  rfl
theorem ask_A (I : Inv X pins σ H s) {ks : List L2.D} {kvs : List V} {kus : List Value} (hs : sortable ks = true) (r : RepL X.K H ks kvs) (v : Vals kvs kus) {b : Bool} {A : Around} (hu : A.units + 8 < cLine) {i j : Nat} {C : Bool → Shared → Prop} (hi : i < ks.length) (hj : j < ks.length) (q : C (ltK ks i j) s) :
    kas_ask X.prog X.w A (tuples' b) kus i j C s := by
  have hl1 : ks.length = kus.length := r.length.trans v.length
  have g : ∀ {i : Nat}, i < ks.length → ∃ kv, ks[i]? = some (ks.getD i .non) ∧ Rep X.K H (ks.getD i .non) kv ∧ RelV kv (kus.getD i Value.none) := fun {i} h => by
    have e1 : ks[i]? = some (ks.getD i .non) := by rw [List.getD_eq_getElem?_getD, List.getElem?_eq_getElem h]; rfl
    obtain ⟨kv, e2, r2⟩ := r.get e1
    obtain ⟨u, e3, r3⟩ := v.get e2
    refine ⟨kv, e1, r2, ?_⟩
    rw [List.getD_eq_getElem?_getD, e3]; exact r3
  obtain ⟨v1, _, r1, u1⟩ := g hi
  obtain ⟨v2, _, r2, u2⟩ := g hj
  obtain ⟨e, p1⟩ := ltK_at hs hi hj
  have p2 := (ltK_at hs hj hi).2
  -- both begin alike
  have hs0 := hs
  unfold sortable at hs0
  rw [Bool.and_eq_true, Bool.and_eq_true, Bool.or_eq_true] at hs0
  have m : ∀ {i : Nat}, i < ks.length → ks.getD i .non ∈ ks := fun {i} h => by
    rw [List.getD_eq_getElem?_getD, List.getElem?_eq_getElem h]; exact List.getElem_mem h
  have kk : (strKey (ks.getD i .non) = true ∧ strKey (ks.getD j .non) = true) ∨ (intKey (ks.getD i .non) = true ∧ intKey (ks.getD j .non) = true) := by
    rcases hs0.1.1 with h | h
    · exact .inl ⟨List.all_eq_true.mp h _ (m hi), List.all_eq_true.mp h _ (m hj)⟩
    · exact .inr ⟨List.all_eq_true.mp h _ (m hi), List.all_eq_true.mp h _ (m hj)⟩
  generalize ks.getD i .non = x at *
  generalize ks.getD j .non = y at *
  unfold kas_ask
  generalize kus.getD i Value.none = ux at *
  generalize kus.getD j Value.none = uy at *
  obtain ⟨xs, rfl, ys, rfl, h0⟩ : ∃ xs, x = .tup xs ∧ ∃ ys, y = .tup ys ∧ ((∃ x y xr yr, xs = .str x :: xr ∧ ys = .str y :: yr) ∨ ∃ x y xr yr, xs = .int x :: xr ∧ ys = .int y :: yr) := by
    rcases kk with ⟨h1, h2⟩ | ⟨h1, h2⟩
    · match x, y, h1, h2 with
      | .tup (.str a :: xr), .tup (.str c :: yr), _, _ => exact ⟨_, rfl, _, rfl, .inl ⟨a, c, xr, yr, rfl, rfl⟩⟩
    · match x, y, h1, h2 with
      | .tup (.int a :: xr), .tup (.int c :: yr), _, _ => exact ⟨_, rfl, _, rfl, .inr ⟨a, c, xr, yr, rfl, rfl⟩⟩
  simp only [Rep] at r1 r2
  obtain ⟨a1, w1, rfl, q1, q2⟩ := r1
  obtain ⟨a2, w2, rfl, q3, q4⟩ := r2
  cases u1
  cases u2
  obtain ⟨its, z1, ⟨o1, g1, c1, n1, d1⟩, _⟩ := I.tuple q1
  obtain ⟨its2, z2, ⟨o2, g2, c2, n2, d2⟩, _⟩ := I.tuple q3
  refine kat_lt g1 d1 g2 d2 ?_
  have e' : ltAs xs ys = some (ltK ks i j) := by simpa only [ltA] using e
  have l1 : xs.length = its.length := q2.length.trans z1.length
  have l2 : ys.length = its2.length := q4.length.trans z2.length
  exact lex_A I hu 0 e' (by simp [l1, l2]) p1 p2 q2 q4 z1 z2 (fun _ => h0) q
theorem looks_str {M : Model} {h : Heap} {x : Str} {t : Tok} : Looks M h (typeOf (.str x t)) (.type "str") := .now
theorem looks_int {M : Model} {h : Heap} {x : Int} {t : Tok} : Looks M h (typeOf (.int x t)) (.type "int") := .now
theorem kind_A (I : Inv X pins σ H s) {ks : List L2.D} {kvs : List V} {kus : List Value} (hs : sortable ks = true) (r : RepL X.K H ks kvs) (v : Vals kvs kus) {A : Around} {E : Value → Shared → Prop} {Q : SortKind → Shared → Prop} (h2 : 0 < ks.length) (q : ∀ b, Q (tuples' b) s) :
    wpAny (model X.prog X.w) A (keyKind' kus.toArray) Q E s := by
  have hs0 := hs
  unfold sortable at hs0
  rw [Bool.and_eq_true, Bool.and_eq_true, Bool.or_eq_true] at hs0
  obtain ⟨fs, t, l, a, b⟩ := katTups_A I hs0.1.1 r v
  have hl : 0 < fs.length := by rw [l, ← v.length, ← r.length]; exact h2
  rcases hs0.1.1 with h | h
  · exact kat_kind (T := .type "str") t hl (fun f hf => by obtain ⟨x, t, rfl⟩ := a h f hf; exact looks_str) (by decide) (q _)
  · exact kat_kind (T := .type "int") t hl (fun f hf => by obtain ⟨x, t, rfl⟩ := b h f hf; exact looks_int) (by decide) (q _)
end
end L2
set_option Elab.async false
set_option linter.all false
set_option maxRecDepth 100000
set_option maxHeartbeats 4000000
namespace L2
open PySem PySem.Spec PySem.W PyProof.Rows
section
variable {X : Cx} {pins : List (Addr × Obj)} {σ : St} {H : Hp} {s : Shared}
theorem vals_at {vs : List V} {us : List Value} (v : Vals vs us) {i : Nat} (h : i < vs.length) : RelV (vs.getD i .non) (us.getD i Value.none) := by
  have e1 : vs[i]? = some (vs.getD i .non) := by rw [List.getD_eq_getElem?_getD, List.getElem?_eq_getElem h]; rfl
  obtain ⟨u, e2, r⟩ := v.get e1
  rw [List.getD_eq_getElem?_getD (l := us), e2]; exact r
theorem vals_pick {vs : List V} {us : List Value} (v : Vals vs us) : ∀ {ix : List Nat}, (∀ i ∈ ix, i < vs.length) → Vals (ix.map fun i => vs.getD i .non) (ix.map fun i => us.getD i Value.none)
  | [], _ => .nil
  | i :: ix, h => .cons (vals_at v (h i List.mem_cons_self)) (vals_pick v fun j hj => h j (List.mem_cons_of_mem _ hj))
theorem rep_pick {K : PySem.W.Frag} {G : Hp} {ds : List L2.D} {vs : List V} (r : RepL K G ds vs) : ∀ {ix : List Nat}, (∀ i ∈ ix, i < ds.length) → RepL K G (ix.map fun i => ds.getD i .non) (ix.map fun i => vs.getD i .non)
  | [], _ => by simp [RepL]
  | i :: ix, h => by
    have hi := h i List.mem_cons_self
    have e1 : ds[i]? = some (ds.getD i .non) := by rw [List.getD_eq_getElem?_getD, List.getElem?_eq_getElem hi]; rfl
    obtain ⟨v, e2, r2⟩ := r.get e1
    simp only [List.map_cons, RepL]
    refine ⟨_, _, rfl, ?_, rep_pick r fun j hj => h j (List.mem_cons_of_mem _ hj)⟩
    rw [List.getD_eq_getElem?_getD (l := vs), e2]; exact r2
theorem tail_run {D kS : Addr} {e1 : Nat} {G G1 H1 : Hp} {kvs vs : List V} {its : List Value} {kd : List L2.D} (S : SkSt X pins σ G H D kS (seqObj "list" #[] e1) kd G1 H1 s kvs) (hD : H D = none) (hkS : H kS = none) (fD : FpOk X pins H D) (hne : kS ≠ D) (hk64 : kd.length < 64)
    {st : SortSt} {ix : List Nat} (hf : failedOf st = none) (hout : (arrOf st).map (·.2) = List.toArray (ix.map fun i => its.getD i Value.none)) (hi : ∀ i ∈ ix, i < vs.length) (hil : ix.length < 64) (rv : Vals vs its) {ds : List L2.D} (rl : RepL X.K G ds vs) {Q : VK} {E : Value → Shared → Prop} {P : PySem.Fin → Shared → Prop}
    (q : WantR X.K G H Q (.fr (.lst (ix.map fun i => ds.getD i .non)))) (hP : ∀ s', EP X pins σ Q (.ref D) s' → P (.done (.ret .none)) s') : wpAny (model X.prog X.w) X.A.in1.in1 (ksk_tail D false e1 (.ref kS) st) P E s := by
  have I := S.inv
  obtain ⟨zk, kus, n, vk, ek⟩ := I.hok kS _ S.hK
  have ek : s.heap.get? kS = some (seqObj "list" kus.toArray n) := ek
  have hkl : kus.length < 64 := by rw [← vk.length, ← S.rep.length]; exact hk64
  obtain ⟨eD, hD1, hDL, hDf, hDc⟩ := I.pin (D, seqObj "list" #[] e1) (List.mem_append_right _ List.mem_cons_self)
  unfold ksk_tail
  dsimp only
  have s1 := Heap.SameBut.update s.heap kS (Obj.mapSeq fun _ => (#[] : Array Value))
  obtain ⟨c1, hc1⟩ : ∃ c, (s.heap.update kS (Obj.mapSeq fun _ => (#[] : Array Value))).get? kS = some (seqObj "list" #[] c) := ⟨_, get?_update_seq ek fun _ => #[]⟩
  have eD1 : (s.heap.update kS (Obj.mapSeq fun _ => (#[] : Array Value))).get? D = some (seqObj "list" #[] e1) := (s1.2 D (Ne.symm hne)).trans eD
  refine wpAny_bind (listUpdate_at ek rfl ?_ (by rw [List.size_toArray, sizeLine_eq]; omega) (Nat.zero_le _))
  refine wpAny_bind (wpAny_letGo ?_)
  refine wpAny_bind (seqEpoch_at eD1 rfl ?_)
  rw [hout]
  have hsz : (List.toArray (ix.map fun i => its.getD i Value.none)).size < 64 := by rw [List.size_toArray, List.length_map]; exact hil
  refine wpAny_bind (listUpdate_at eD1 rfl ?_ (Nat.zero_le _) (by rw [sizeLine_eq]; exact Nat.le_trans (Nat.le_of_lt hsz) (by decide)))
  rw [hf]
  simp only [bne_self_eq_false, Bool.false_eq_true, if_false]
  refine wpAny_pure (hP _ ?_)
  -- what stands now
  have I1 := I.write (x := kS) (e := kS) (o := .lst []) (h' := s.heap.update kS (Obj.mapSeq fun _ => (#[] : Array Value))) (t' := s.toks) (by rw [S.hK]; trivial) (.inl rfl) (fun b u hb e => (s1.2 b hb).trans e) ⟨_, hc1⟩ ⟨by simp, [], c1, .nil, hc1⟩
  have I2 : Inv X pins σ (upd H1 kS (.lst [])) { s with heap := s.heap.update kS (Obj.mapSeq fun _ => (#[] : Array Value)), toks := s.toks } := I1.pins_of fun p hp => I1.pin p (List.mem_append_right _ (List.mem_cons_of_mem _ hp))
  have s2 := Heap.SameBut.update (s.heap.update kS (Obj.mapSeq fun _ => (#[] : Array Value))) D (Obj.mapSeq fun _ => List.toArray (ix.map fun i => its.getD i Value.none))
  obtain ⟨c2, hc2⟩ : ∃ c, ((s.heap.update kS (Obj.mapSeq fun _ => (#[] : Array Value))).update D (Obj.mapSeq fun _ => List.toArray (ix.map fun i => its.getD i Value.none))).get? D = some (seqObj "list" (List.toArray (ix.map fun i => its.getD i Value.none)) c) := ⟨_, get?_update_seq eD1 fun _ => List.toArray (ix.map fun i => its.getD i Value.none)⟩
  have hD2 : upd H1 kS (.lst []) D = none := by rw [upd_ne (Ne.symm hne)]; exact hD1
  obtain ⟨f0, f1, f2, f3, f4, f5⟩ := fD
  have hlv : (ix.map fun i => vs.getD i .non).length ≤ sizeLine := by rw [List.length_map, sizeLine_eq]; omega
  have I3 := I2.track (o := .lst (ix.map fun i => vs.getD i .non)) (h' := (s.heap.update kS (Obj.mapSeq fun _ => (#[] : Array Value))).update D (Obj.mapSeq fun _ => List.toArray (ix.map fun i => its.getD i Value.none))) (t' := s.toks) hD2 f1 f3 f4 f5 (fun b u hb e => (s2.2 b hb).trans e)
    ⟨hlv, _, c2, vals_pick rv hi, hc2⟩
  have hne0 : ∀ b u, H b = some u → b ≠ kS := fun b u e z => by rw [z, hkS] at e; cases e
  have hneG : ∀ b u, G1 b = some u → b ≠ kS := fun b u e z => by rw [z, S.gK] at e; cases e
  have gr : Grow G H G1 (upd H1 kS (.lst [])) := ⟨S.gr.g, fun b u e => by rw [upd_ne (hne0 b u e)]; exact S.gr.h b u e, fun b u e => by rw [upd_ne (hneG b u e)]; exact S.gr.s b u e, S.gr.n⟩
  exact ⟨.ref D, _, I3, rfl, q D _ G1 _ gr hD2 trivial (rep_pick (rl.mono S.gr.g) (by rw [rl.length]; exact hi))⟩
end
end L2
set_option Elab.async false
set_option linter.all false
set_option maxRecDepth 100000
set_option maxHeartbeats 4000000
namespace L2
open PySem PySem.Spec PySem.W PyProof.Rows
structure STO {α : Type} (lt : α → α → Bool) : Prop where
  irr : ∀ a, lt a a = false
  tr : ∀ a b c, lt a b = true → lt b c = true → lt a c = true
  tri : ∀ a b, lt a b = false → lt b a = false → a = b
section
variable {α : Type} {lt : α → α → Bool}
theorem STO.asy (h : STO lt) {a b : α} (e : lt a b = true) : lt b a = false := by
  cases z : lt b a with
  | false => rfl
  | true => have := h.tr _ _ _ e z; rw [h.irr] at this; cases this
theorem STO.ngt (h : STO lt) {a b c : α} (e : lt a b = false) (e' : lt b c = false) : lt a c = false := by
  cases z : lt a c with
  | false => rfl
  | true =>
    cases y : lt b a with
    | false => rw [h.tri _ _ e y, e'] at z; cases z
    | true => rw [h.tr _ _ _ y z] at e'; cases e'
theorem STO.ne (h : STO lt) {a b : α} (e : lt a b = false) (n : a ≠ b) : lt b a = true := by
  cases z : lt b a with
  | false => exact absurd (h.tri _ _ e z) n
  | true => rfl
variable [DecidableEq α]
def lexL (lt : α → α → Bool) : List α → List α → Bool
  | [], ys => !ys.isEmpty
  | _ :: _, [] => false
  | x :: xs, y :: ys => if x = y then lexL lt xs ys else lt x y
theorem lexL_cc {x y : α} {xs ys : List α} : lexL lt (x :: xs) (y :: ys) = if x = y then lexL lt xs ys else lt x y := rfl
theorem STO.lex (h : STO lt) : STO (lexL lt) where
  irr := fun a => by
    induction a with
    | nil => rfl
    | cons x xs ih => rw [lexL_cc, if_pos rfl]; exact ih
  tr := fun a => by
    induction a with
    | nil =>
      intro b c h1 h2
      cases c with
      | nil => cases b <;> cases h2
      | cons z zs => rfl
    | cons x xs ih =>
      intro b c h1 h2
      cases b with
      | nil => cases h1
      | cons y ys =>
        cases c with
        | nil => cases h2
        | cons z zs =>
          rw [lexL_cc] at h1 h2 ⊢
          by_cases e1 : x = y
          · subst e1
            rw [if_pos rfl] at h1
            by_cases e2 : x = z
            · rw [if_pos e2] at h2 ⊢; exact ih _ _ h1 h2
            · rw [if_neg e2] at h2 ⊢; exact h2
          · rw [if_neg e1] at h1
            by_cases e2 : y = z
            · subst e2; rw [if_neg e1]; exact h1
            · rw [if_neg e2] at h2
              have h3 := h.tr _ _ _ h1 h2
              rw [if_neg (fun e => by rw [e, h.irr] at h3; cases h3)]; exact h3
  tri := fun a => by
    induction a with
    | nil => intro b h1 h2; cases b with
      | nil => rfl
      | cons y ys => cases h1
    | cons x xs ih =>
      intro b h1 h2
      cases b with
      | nil => cases h2
      | cons y ys =>
        rw [lexL_cc] at h1 h2
        by_cases e : x = y
        · subst e
          rw [if_pos rfl] at h1 h2
          rw [ih _ h1 h2]
        · rw [if_neg e] at h1
          rw [if_neg (fun z => e z.symm)] at h2
          exact absurd (h.tri _ _ h1 h2) e
end
theorem sto_int : STO (fun a b : Int => decide (a < b)) where
  irr := fun a => by simp
  tr := fun a b c h1 h2 => by simp only [decide_eq_true_eq] at *; omega
  tri := fun a b h1 h2 => by simp only [decide_eq_false_iff_not] at *; omega
def sLt (x y : Str) : Bool := decide (x.cps.toList < y.cps.toList)
theorem sto_str : STO sLt where
  irr := fun a => by simp [sLt]
  tr := fun a b c h1 h2 => by
    simp only [sLt, decide_eq_true_eq] at *
    exact List.lt_trans h1 h2
  tri := fun a b h1 h2 => by
    simp only [sLt, decide_eq_false_iff_not] at *
    have e : a.cps.toList = b.cps.toList := List.le_antisymm (List.not_lt.mp h2) (List.not_lt.mp h1)
    obtain ⟨a⟩ := a
    obtain ⟨b⟩ := b
    exact congrArg Str.mk (Array.toList_inj.mp e)
theorem keysD_map {α : Type} {emb key : α → D} {M : List D → Option Rs} : ∀ {fs : List α}, (∀ f ∈ fs, ∃ r, M [emb f] = some r ∧ r.d = key f) → keysD M (fs.map emb) = some (fs.map key)
  | [], _ => rfl
  | f :: fs, h => by
    obtain ⟨r, e, er⟩ := h f List.mem_cons_self
    show (M [emb f]).bind _ = _
    rw [e, Option.bind_some, keysD_map fun g hg => h g (List.mem_cons_of_mem _ hg), Option.map_some, er]
    rfl
theorem map_getD {α β : Type} (f : α → β) (x : β) (y : α) {xs : List α} {i : Nat} (h : i < xs.length) : (xs.map f).getD i x = f (xs.getD i y) := by
  rw [List.getD_eq_getElem?_getD, List.getElem?_map, List.getElem?_eq_getElem h, List.getD_eq_getElem?_getD, List.getElem?_eq_getElem h]
  rfl
theorem getD_mem {α : Type} {x : α} {xs : List α} {i : Nat} (hx : x ∈ xs) : xs.getD i x ∈ xs := by
  by_cases h : i < xs.length
  · rw [List.getD_eq_getElem?_getD, List.getElem?_eq_getElem h]; exact List.getElem_mem h
  · rw [List.getD_eq_getElem?_getD, List.getElem?_eq_none (by omega)]; exact hx
theorem range_getD {α : Type} (xs : List α) (x : α) : (List.range xs.length).map (fun i => xs.getD i x) = xs := by
  apply List.ext_getElem?
  intro i
  rw [List.getElem?_map]
  by_cases h : i < xs.length
  · rw [List.getElem?_range h, Option.map_some, List.getD_eq_getElem?_getD, List.getElem?_eq_getElem h]; rfl
  · rw [List.getElem?_eq_none (by simpa using h), List.getElem?_eq_none (by omega)]; rfl
theorem sortK_spec {α : Type} {emb key : α → D} {lt : α → α → Bool} (W : STO lt) {M : List D → Option Rs} {fs : List α} (hk : ∀ f ∈ fs, ∃ r, M [emb f] = some r ∧ r.d = key f) (hl : ∀ f ∈ fs, ∀ g ∈ fs, ltA (key f) (key g) = some (lt f g))
    (ht : (∀ f ∈ fs, strKey (key f) = true) ∨ ∀ f ∈ fs, intKey (key f) = true) (hp : ∀ f ∈ fs, plainN 8 (key f) = true) (hn : fs.length < 64) :
    ∃ gs : List α, sortKD M (fs.map emb) = some (gs.map emb) ∧ gs.Perm fs ∧ gs.Pairwise fun a b => lt b a = false := by
  have so : sortable (fs.map key) = true := by
    unfold sortable
    rw [Bool.and_eq_true, Bool.and_eq_true, Bool.or_eq_true, List.all_map, List.all_map, List.all_map, List.all_map]
    refine ⟨⟨?_, List.all_eq_true.mpr hp⟩, List.all_eq_true.mpr fun f hf => ?_⟩
    · rcases ht with h | h
      · exact .inl (List.all_eq_true.mpr h)
      · exact .inr (List.all_eq_true.mpr h)
    · show (fs.map key).all _ = true
      rw [List.all_map]
      exact List.all_eq_true.mpr fun g hg => by show (ltA (key f) (key g)).isSome = true; rw [hl f hf g hg]; rfl
  have e1 : sortKD M (fs.map emb) = some (sortBy (fs.map key) (fs.map emb)) := by
    unfold sortKD
    rw [keysD_map hk, Option.bind_some, if_pos ⟨by simpa using hn, so⟩]
  cases fs with
  | nil => exact ⟨[], e1, List.Perm.nil, List.Pairwise.nil⟩
  | cons x0 fr =>
    generalize hfs : x0 :: fr = fs at *
    have hx0 : x0 ∈ fs := by rw [← hfs]; exact List.mem_cons_self
    have hpos : 0 < fs.length := by rw [← hfs]; simp
    have hd : (fs.map key).headD .non = key x0 := by rw [← hfs]; rfl
    have ek : ∀ i, (fs.map key).getD i (key x0) = key (fs.getD i x0) := fun i => by
      by_cases h : i < fs.length
      · exact map_getD _ _ _ h
      · rw [List.getD_eq_getElem?_getD, List.getElem?_eq_none (by simpa using h), List.getD_eq_getElem?_getD, List.getElem?_eq_none (by omega)]; rfl
    have elt : ∀ i j, ltK (fs.map key) i j = lt (fs.getD i x0) (fs.getD j x0) := fun i j => by
      unfold ltK
      rw [hd, ek, ek, hl _ (getD_mem hx0) _ (getD_mem hx0)]
      rfl
    have w : WkO (ltK (fs.map key)) := ⟨fun a => by rw [elt]; exact W.irr _, fun a b h => by rw [elt] at h ⊢; exact W.asy h, fun a b c h1 h2 => by rw [elt] at h1 h2 ⊢; exact W.ngt h1 h2⟩
    -- the places
    have ix : (sortIx (fs.map key)).Perm (List.range fs.length) ∧ ∀ i j, i < j → j < fs.length → ltK (fs.map key) ((sortIx (fs.map key)).getD j 0) ((sortIx (fs.map key)).getD i 0) = false := by
      unfold sortIx
      rw [List.length_map]
      by_cases c : fs.length < 2
      · rw [if_pos c]
        exact ⟨List.Perm.refl _, fun i j h1 h2 => by omega⟩
      · rw [if_neg c]
        obtain ⟨a1, a2⟩ := sort_ok w (n := fs.length) hpos
        refine ⟨by simpa using Array.perm_iff_toList_perm.mp a1, fun i j h1 h2 => ?_⟩
        have := a2 i j h1 h2
        unfold L2.ix at this
        have eg : ∀ (p : Array Nat) (i : Nat), p.toList.getD i 0 = p.getD i 0 := fun p i => by
          rw [List.getD_eq_getElem?_getD, Array.getElem?_toList, Array.getD_eq_getD_getElem?]
        rw [eg, eg]
        exact this
    obtain ⟨ip, io⟩ := ix
    refine ⟨(sortIx (fs.map key)).map fun i => fs.getD i x0, ?_, ?_, ?_⟩
    · rw [e1]
      unfold sortBy
      rw [List.map_map]
      refine congrArg some (List.map_congr_left fun i hi => ?_)
      have : i < fs.length := by simpa using (ip.mem_iff.mp hi)
      exact map_getD _ _ _ this
    · have := ip.map fun i => fs.getD i x0
      rw [range_getD] at this
      exact this
    · rw [List.pairwise_map]
      rw [List.pairwise_iff_getElem]
      intro i j hi hj hij
      have hln : (sortIx (fs.map key)).length = fs.length := by rw [ip.length_eq]; simp
      have := io i j hij (by omega)
      rw [elt] at this
      have eg : ∀ i (h : i < (sortIx (fs.map key)).length), (sortIx (fs.map key)).getD i 0 = (sortIx (fs.map key))[i] := fun i h => by rw [List.getD_eq_getElem?_getD, List.getElem?_eq_getElem h]; rfl
      rw [eg i hi, eg j hj] at this
      exact this
theorem sorted_unique {α : Type} {lt : α → α → Bool} (W : STO lt) : ∀ {xs ys : List α}, xs.Perm ys → xs.Pairwise (fun a b => lt b a = false) → ys.Pairwise (fun a b => lt b a = false) → xs = ys
  | [], ys, p, _, _ => by rw [p.nil_eq]
  | x :: xs, [], p, _, _ => absurd p.symm (by intro z; exact absurd z.nil_eq (by simp))
  | x :: xs, y :: ys, p, h1, h2 => by
    have e : x = y := by
      have m1 : x ∈ y :: ys := p.mem_iff.mp List.mem_cons_self
      have m2 : y ∈ x :: xs := p.mem_iff.mpr List.mem_cons_self
      rcases List.mem_cons.mp m1 with e | m1
      · exact e
      rcases List.mem_cons.mp m2 with e | m2
      · exact e.symm
      exact W.tri _ _ ((List.pairwise_cons.mp h2).1 x m1) ((List.pairwise_cons.mp h1).1 y m2)
    subst e
    rw [sorted_unique W p.cons_inv (List.pairwise_cons.mp h1).2 (List.pairwise_cons.mp h2).2]
end L2
set_option Elab.async false
set_option linter.all false
set_option maxRecDepth 100000
set_option maxHeartbeats 4000000
namespace L2
open PySem PySem.Spec PySem.W PyProof.Rows
theorem kRun_perm {lt : Nat → Nat → Bool} {n : Nat} (h : 1 ≤ n) : ∀ i ∈ (kRun lt (kas_sort n)).toList, i < n := by
  have key : ∀ {α : Type} {P : α → Prop} (t : KasT α), InR n P t → P (kRun lt t) := by
    intro α P t
    induction t with
    | ret a => exact fun h => h
    | ask i j k ih => exact fun h => ih _ (h.2.2 _)
  have : InR n (fun p : Array Nat => Bel n p) (kas_sort n) := (inR_count (n := n) ⟨h, fun x hx => by simpa using hx⟩ n).bind fun r hr => by
    split
    · have bin : ∀ f (p : Array Nat) k, Bel n p → InR n (fun p => Bel n p) (kas_bin f p k) := by
        intro f
        induction f with
        | zero => exact fun p k h => h
        | succ f ih => exact fun p k h => (inR_place h _ _ _ _).bind fun l _ => ih _ _ (h.perm (bubble_perm _ _ _))
      exact bin _ _ _ hr
    · exact hr
  exact (key _ this).2
theorem kRun_len {lt : Nat → Nat → Bool} {n : Nat} (h : 1 ≤ n) : (kRun lt (kas_sort n)).size = n := by
  have key : ∀ {α : Type} {P : α → Prop} (t : KasT α), InR n P t → P (kRun lt t) := by
    intro α P t
    induction t with
    | ret a => exact fun h => h
    | ask i j k ih => exact fun h => ih _ (h.2.2 _)
  -- sizes are kept
  have asc : ∀ (p : Array Nat), Bel n p → ∀ f m, InR n (fun _ => True) (kas_asc p f m) := fun p h => inR_asc h
  have desc : ∀ f (p : Array Nat) m q, Bel n p → p.size = n → InR n (fun r => Bel n r.1 ∧ r.1.size = n) (kas_desc f p m q) := by
    intro f
    induction f with
    | zero => exact fun p m q h z => ⟨h, z⟩
    | succ f ih => exact fun p m q h z => ⟨h.at _, h.at _, fun b => by
        cases b with
        | true =>
          show InR n _ (if q > 0 then _ else _)
          split
          · exact ih _ _ _ (h.rev _ _) (by rw [rev_size']; exact z)
          · exact ih _ _ _ h z
        | false => exact ⟨h.at _, h.at _, fun d => by
            cases d with
            | true => exact ⟨h, z⟩
            | false => exact ih _ _ _ h z⟩⟩
  have tail3 : ∀ (p : Array Nat), Bel n p → p.size = n → ∀ m nrem, InR n (fun r => Bel n r.2 ∧ r.2.size = n) (kas_tail3 m nrem p) := fun p h z m nrem => (inR_asc (h.rev _ _) _ _).bind fun _ _ => ⟨h.rev _ _, by rw [rev_size']; exact z⟩
  have descPart : ∀ (p : Array Nat), Bel n p → p.size = n → ∀ m nrem, InR n (fun r => Bel n r.2 ∧ r.2.size = n) (kas_descPart m nrem p) := fun p h z m nrem => (desc _ _ _ _ h z).bind fun r hr => by
    split
    · exact tail3 _ (hr.1.rev _ _) (by rw [rev_size']; exact hr.2) _ _
    · exact tail3 _ hr.1 hr.2 _ _
  have cnt : ∀ (p : Array Nat), Bel n p → p.size = n → ∀ nrem, InR n (fun r => Bel n r.2 ∧ r.2.size = n) (kas_count nrem p) := fun p h z nrem => (inR_asc h _ _).bind fun m _ => by
    split
    · exact ⟨h, z⟩
    · split
      · exact ⟨h.at _, h.at _, fun b => by
          cases b with
          | true => exact ⟨h, z⟩
          | false => exact descPart _ (h.rev _ _) (by rw [rev_size']; exact z) _ _⟩
      · exact descPart _ h z _ _
  have bin : ∀ f (p : Array Nat) k, Bel n p → p.size = n → InR n (fun p => p.size = n) (kas_bin f p k) := by
    intro f
    induction f with
    | zero => exact fun p k h z => z
    | succ f ih => exact fun p k h z => (inR_place h _ _ _ _).bind fun l _ => ih _ _ (h.perm (bubble_perm _ _ _)) (by rw [bubble_size]; exact z)
  refine key (P := fun p : Array Nat => p.size = n) _ ((cnt _ ⟨h, fun x hx => by simpa using hx⟩ (by simp) n).bind fun r hr => ?_)
  split
  · exact bin _ _ _ hr.1 hr.2
  · exact hr.2
section
variable {X : Cx} {pins : List (Addr × Obj)} {σ : St} {H : Hp} {s : Shared}
theorem keysD_len {M : List L2.D → Option Rs} : ∀ {ds ks : List L2.D}, keysD M ds = some ks → ks.length = ds.length
  | [], ks, h => by cases h; rfl
  | d :: ds, ks, h => by
    have h : (M [d]).bind (fun r => (keysD M ds).map (r.d :: ·)) = some ks := h
    obtain ⟨r, _, h⟩ := Option.bind_eq_some_iff.mp h
    obtain ⟨kr, e, rfl⟩ := Option.map_eq_some_iff.mp h
    simp [keysD_len e]
theorem sortK_run {k : Nat} {f : Addr} {fd : FuncData} {p : Str} {M : List L2.D → Option Rs} (F : FnOk X.prog X.w X.K X.mg X.base CX0 k f fd [p] (spD X.K M)) (hr : Room (k + 1) X.A) (hb : Binds X.K fd [p] []) (I : Inv X pins σ H s) {G : Hp} (sG : Same G H)
    {l : Addr} {ds ks : List L2.D} {vs : List V} (hl : SqL X.K H l vs) (rl : RepL X.K G ds vs) (hn : ds.length < 64) (ek : keysD M ds = some ks) (hk : sortable ks = true) {Q : VK} {E : Value → Shared → Prop} (q : WantR X.K G H Q (.fr (.lst (sortBy ks ds)))) :
    wpAny (model X.prog X.w) X.A (call (.builtin "sorted") [.ref l] [(Str.ofString "key", .ref f)]) (EP X pins σ Q) E s := by
  obtain ⟨its, rv, pl, hz⟩ := I.list hl
  have hlen : its.length = ds.length := by rw [← rv.length, ← rl.length]
  have hvl : vs.length = ds.length := rl.length.symm
  have hkl : ks.length = ds.length := keysD_len ek
  have hr2 : Room k X.A.in1.in1 := ⟨hr.hd, by have := hr.dp; show X.A.depth + 3 * k + 5 < _; omega, by have := hr.un; show X.A.units + 1 + 1 + 16 * k + 200 < _; omega⟩
  refine call_function_entry_kw kind_sorted plain_sorted entry_sorted (ksk_s1 _ _) ?_
  unfold Builtin.«sorted»
  refine wpAny_bind (m := checkCount "sorted" 1 1 _) (wpAny_pure ?_)
  refine wpAny_bind (collect_list pl.isList ?_ (by rw [sizeLine_eq]; omega))
  refine wpAny_bind (wpAny_newList ?_ (by rw [sizeLine_eq]; omega))
  have hsz : ((s.heap.push (seqObj "list" #[] 0)).update s.heap.objs.size (Obj.mapSeq (· ++ its.toArray))).objs.size = s.heap.objs.size + 1 := by
    rw [Heap.size_update, size_push']
  have hoL : (((s.heap.push (seqObj "list" #[] 0)).update s.heap.objs.size (Obj.mapSeq (· ++ its.toArray))).push (seqObj "list" its.toArray 0)).get? (s.heap.objs.size + 1) = some (seqObj "list" its.toArray 0) := by
    rw [← hsz]; exact Heap.get?_push_size _ rfl
  have keep : ∀ b o, s.heap.get? b = some o → (((s.heap.push (seqObj "list" #[] 0)).update s.heap.objs.size (Obj.mapSeq (· ++ its.toArray))).push (seqObj "list" its.toArray 0)).get? b = some o := fun b o q => by
    have hlt : b < s.heap.objs.size := Heap.lt_size q
    rw [Heap.get?_push_ne _ _ _ (by rw [hsz]; exact Nat.ne_of_lt (Nat.lt_succ_of_lt hlt)), Heap.get?_update_ne _ _ _ _ (Nat.ne_of_lt hlt), Heap.get?_push_ne _ _ _ (Nat.ne_of_lt hlt)]
    exact q
  show wpAny _ _ _ _ _ { s with heap := ((s.heap.push (seqObj "list" #[] 0)).update s.heap.objs.size (Obj.mapSeq (· ++ its.toArray))).push (seqObj "list" its.toArray 0) }
  rw [hsz]
  have hsz1 : (((s.heap.push (seqObj "list" #[] 0)).update s.heap.objs.size (Obj.mapSeq (· ++ its.toArray))).push (seqObj "list" its.toArray 0)).objs.size = s.heap.objs.size + 2 := by rw [size_push', hsz]
  refine wpAny_bind (wpAny_holding (wpAny_call_entry_kw slot_list_sort ⟨_, hoL, rfl⟩ entry_list_sort ?body (ksk_l1 _ _)))
  case body =>
    show wpAny (model X.prog X.w) X.A.in1.in1 (Builtin.«list.sort» ⟨[.ref (s.heap.objs.size + 1)], [(Str.ofString "key", .ref f)]⟩) _ _ _
    rw [ksk_t1]
    generalize hh1 : ((s.heap.push (seqObj "list" #[] 0)).update s.heap.objs.size (Obj.mapSeq (· ++ its.toArray))).push (seqObj "list" its.toArray 0) = h1 at *
    generalize hDD : s.heap.objs.size + 1 = D at *
    have hDs : D < h1.objs.size := by rw [hsz1, ← hDD]; exact Nat.lt_succ_self _
    have s1 := Heap.SameBut.update h1 D (Obj.mapSeq fun _ => (#[] : Array Value))
    obtain ⟨e1, ho1⟩ : ∃ e1, (h1.update D (Obj.mapSeq fun _ => (#[] : Array Value))).get? D = some (seqObj "list" #[] e1) := ⟨_, get?_update_seq hoL fun _ => #[]⟩
    unfold ksk_tree
    refine wpAny_bind (listItems_at hoL rfl ?_)
    refine wpAny_bind (listUpdate_at hoL rfl ?_ (by rw [List.size_toArray, sizeLine_eq]; omega) (Nat.zero_le _))
    refine wpAny_bind (seqEpoch_at ho1 rfl ?_)
    refine wpAny_bind (wpAny_newTuple ?_ (by show its.length ≤ _; rw [sizeLine_eq]; omega))
    refine wpAny_bind (wpAny_newList ?_ (Nat.zero_le _))
    refine wpAny_holding ?_
    have hsz2 : ((h1.update D (Obj.mapSeq fun _ => (#[] : Array Value))).push (seqObj "tuple" its.toArray 0)).objs.size = h1.objs.size + 1 := by rw [size_push', Heap.size_update]
    -- all that stood stands
    have keep2 : ∀ b o, s.heap.get? b = some o → ((h1.update D (Obj.mapSeq fun _ => (#[] : Array Value))).push (seqObj "tuple" its.toArray 0)).get? b = some o := fun b o e => by
      have hlt : b < s.heap.objs.size := Heap.lt_size e
      exact Heap.get?_push_of_some _ ((s1.2 b (by rw [← hDD]; exact Nat.ne_of_lt (Nat.lt_succ_of_lt hlt))).trans (keep b o e))
    have hge : s.heap.objs.size ≤ D := by rw [← hDD]; exact Nat.le_succ _
    have I1 : Inv X pins σ H { s with heap := (h1.update D (Obj.mapSeq fun _ => (#[] : Array Value))).push (seqObj "tuple" its.toArray 0), toks := s.toks } := I.kept keep2
    have fD := I.fpOk (H' := H) hge (I.hok.fresh hge)
    have hkge : s.heap.objs.size ≤ ((h1.update D (Obj.mapSeq fun _ => (#[] : Array Value))).push (seqObj "tuple" its.toArray 0)).objs.size := by rw [hsz2, hsz1]; omega
    have hkS : H ((h1.update D (Obj.mapSeq fun _ => (#[] : Array Value))).push (seqObj "tuple" its.toArray 0)).objs.size = none := I.hok.fresh hkge
    have hoD : ((h1.update D (Obj.mapSeq fun _ => (#[] : Array Value))).push (seqObj "tuple" its.toArray 0)).get? D = some (seqObj "list" #[] e1) := Heap.get?_push_of_some _ ho1
    have hneK : ((h1.update D (Obj.mapSeq fun _ => (#[] : Array Value))).push (seqObj "tuple" its.toArray 0)).objs.size ≠ D := by rw [hsz2]; exact Nat.ne_of_gt (Nat.lt_succ_of_lt hDs)
    generalize hh2 : (h1.update D (Obj.mapSeq fun _ => (#[] : Array Value))).push (seqObj "tuple" its.toArray 0) = h2 at *
    have I2 := I1.laid (a := h2.objs.size) (o := .lst []) (h' := h2.push (seqObj "list" #[] 0)) (t' := s.toks) (fun b u e => Heap.get?_push_of_some _ e) (Nat.le_refl _) ⟨by simp, [], 0, .nil, Heap.get?_push_size _ rfl⟩
    have hDn : upd H h2.objs.size (.lst []) D = none := by rw [upd_ne (Ne.symm hneK)]; exact fD.1
    have I3 : Inv X ((D, seqObj "list" #[] e1) :: pins) σ (upd H h2.objs.size (.lst [])) { s with heap := h2.push (seqObj "list" #[] 0), toks := s.toks } := I2.pins_of fun p hp => by
      rcases List.mem_cons.mp hp with rfl | hp
      · exact ⟨Heap.get?_push_of_some _ hoD, hDn, fD.2.1, fD.2.2.1, fun v z => by cases z⟩
      · exact I2.pin p (List.mem_append_right _ hp)
    have gK : G h2.objs.size = none := sG.free hkS
    have S0 : SkSt X pins σ G H D h2.objs.size (seqObj "list" #[] e1) [] G (upd H h2.objs.size (.lst [])) { s with heap := h2.push (seqObj "list" #[] 0), toks := s.toks } [] :=
      ⟨I3, ⟨Same.refl _, fun b u e => by rw [upd_ne (ne_of_none e hkS)]; exact e, fun b u e => by rw [upd_ne (ne_of_none (sG _ _ e) hkS)]; exact sG _ _ e, fun _ _ _ z => z⟩, gK, upd_same, by simp [RepL]⟩
    unfold ksk_rest
    refine wpAny_bind (wpAny_rule ?_)
    first
      | rw [List.forIn_toArray]
      | (rw [← Array.forIn_toList]; simp only [List.toList_toArray])
      | rw [← Array.forIn_toList]
    refine wpAny_bind (keys_run F hr2 hb hkS (fun x s1 R hx => ?_) ds vs its ks [] G _ _ [] _ ek rl rv (by simpa using hn) S0 fun G2 H2 s2 kvs S2 => ?_)
    · refine wpAny_bind (wpAny_attempt (wpAny_mono hx (fun k s2 hk => ?_) fun _ _ z => z.elim))
      exact wpAny_bind (wpAny_mono hk (fun _ s3 h3 => wpAny_pure h3) fun _ _ z => z)
    · rw [List.nil_append] at S2
      obtain ⟨zk, kus, n, vk, ek2⟩ := S2.inv.hok _ _ S2.hK
      have ek2 : s2.heap.get? h2.objs.size = some (seqObj "list" kus.toArray n) := ek2
      have hkul : kus.length = ds.length := by rw [← vk.length, ← S2.rep.length, hkl]
      refine wpAny_bind (listItems_at ek2 rfl ?_)
      unfold ksk_end
      dsimp only
      simp only [Bool.false_eq_true, if_false]
      have rH : RepL X.K H2 ks kvs := S2.rep.mono S2.gr.s
      by_cases h2' : its.toArray.size < 2
      · rw [if_pos h2', if_pos h2']
        have hd2 : ds.length < 2 := by simpa [hlen] using h2'
        refine wpAny_bind (wpAny_pure ?_)
        rw [StateT.run_pure]
        refine wpAny_bind (wpAny_pure ?_)
        dsimp only
        refine tail_run (ix := List.range ds.length) S2 fD.1 hkS fD hneK (by omega) rfl ?_ (fun i hi => by rw [hvl]; simpa using hi) (by simpa using hn) rv rl ?_ (fun s' hq => ⟨_, rfl, wpAny_pure ⟨_, rfl, hq⟩⟩)
        · show ((kus.toArray.zip its.toArray).map (·.2)) = _
          apply Array.toList_inj.mp
          rw [Array.toList_map, Array.toList_zip]
          show (kus.zip its).map Prod.snd = _
          rw [List.map_snd_zip (by omega), ← hlen, range_getD]
        · have e : sortBy ks ds = (List.range ds.length).map fun i => ds.getD i .non := by
            unfold sortBy sortIx
            rw [hkl, if_pos hd2]
          rw [← e]
          exact q
      · rw [if_neg h2', if_neg h2']
        have hd2 : ¬ ds.length < 2 := by simpa [hlen] using h2'
        refine wpAny_bind (kind_A S2.inv hk rH vk (by omega) fun b => ?_)
        have hlk : kus.length = its.length := by omega
        have hwp : (kas_sort its.length).kasWp (kas_ask X.prog X.w X.A.in1.in1 (tuples' b) kus) (fun pp s' => s' = s2 ∧ pp = kRun (ltK ks) (kas_sort its.length)) s2 :=
          kWp_run (n := its.length) (P := fun _ => True) (lt := ltK ks) (fun i j C hi hj c => ask_A (A := X.A.in1.in1) S2.inv hk rH vk (by have := hr.un; show X.A.units + 1 + 1 + 8 < _; omega) (by omega) (by omega) c) _ (inR_sort (by omega)) ⟨rfl, rfl⟩
        refine wpAny_bind (wpAny_mono (kat_run (Q := fun st' s' => s' = s2 ∧ ∃ pp : Array Nat, pp = kRun (ltK ks) (kas_sort its.length) ∧ arrOf st' = pp.map (kas_item (kus.toArray.zip its.toArray)) ∧ failedOf st' = none) (G := fun pp s' => s' = s2 ∧ pp = kRun (ltK ks) (kas_sort its.length))
          hlk (by omega) (by omega) (fun p' st' s' a1 a2 a3 a4 => ⟨a4.1, p', a4.2, a2, a3⟩) hwp) ?_ fun _ _ x => x)
        rintro ⟨⟨⟩, st'⟩ s' ⟨rfl, pp, hpp, har, hff⟩
        dsimp only
        have hin := kRun_perm (lt := ltK ks) (n := its.length) (by omega)
        have hps := kRun_len (lt := ltK ks) (n := its.length) (by omega)
        refine tail_run (ix := pp.toList) S2 fD.1 hkS fD hneK (by omega) hff (kat_snds hlk har) (fun i hi => by rw [hpp] at hi; have := hin i hi; omega) (by rw [hpp, Array.length_toList, hps]; omega) rv rl ?_ (fun s' hq => ⟨_, rfl, wpAny_pure ⟨_, rfl, hq⟩⟩)
        have e : sortBy ks ds = pp.toList.map fun i => ds.getD i .non := by
          unfold sortBy sortIx
          rw [hkl, if_neg hd2, hpp, hlen]
        rw [← e]
        exact q
end
end L2
set_option Elab.async false
set_option linter.all false
set_option maxRecDepth 100000
set_option maxHeartbeats 4000000
namespace L2
open PySem PySem.Spec PySem.W PyProof.Rows
section
variable {X : Cx} {e : Expr} {f : FE} {p1 p2 p3 p4 : Pos}
theorem pr_sortK {k : Nat} {x pm : Str} {M : List L2.D → Option Rs} (F : DefOk X.prog X.w X.K X.mg X.base k x [pm] M) (hr : Room (k + 1) X.A) (hm : X.mg "sorted" = none) (he : PB X e f) (hg : Gl X "sorted" := by rfl) (hgx : Gl X x := by rfl) (hdx : (x == ("__debug__" : Str)) = false := by decide)
    (h1 : starEach [e] X.env = (false, eval e X.env) :: starEach [] X.env := by rfl) :
    PR X (.Call (.Name "sorted" p1) [e] [⟨some "key", .Name x p3, p4⟩] p2) (fSortK M f) := by
  obtain ⟨fa, fd, F, hb, hk, hmx⟩ := F
  obtain ⟨te, pe, ke⟩ := he
  refine ⟨fun σ H Q => tCons te tNil σ H fun us H1 => ∃ G l ds ks vs, Same G H1 ∧ us = [.ref l] ∧ SqL X.K H1 l vs ∧ RepL X.K G ds vs ∧ ds.length < 64 ∧ keysD M ds = some ks ∧ sortable ks = true ∧ WantR X.K G H1 Q (.fr (.lst (sortBy ks ds))), ?_, ?_⟩
  · intro pins s σ H Q I h
    refine wpAny_Call_Name_kw (ld_blt I hg hm boot_sorted ?_ (by decide) (by decide))
    refine callWith_kw (thn (pa_cons pe pa_nil h1 p2 pins s σ H _ I h) fun us s1 ⟨vs, H1, I1, r1, q1⟩ => ?_) (by rw [h1]; rfl) (by rw [h1]; rfl)
    refine thn (pk_cons (nm := some "key") (kpos := p4) (pe_glob hgx hmx (v := .ref fa) rfl hdx) pk_nil p2 pins s1 σ H1 (fun zs H2 => zs = [.ref fa] ∧ H2 = H1) I1 ⟨rfl, rfl⟩) fun ws s2 ⟨zs, H2, I2, rz, ez, eh⟩ => ?_
    subst ez eh
    cases rz with
    | cons hz rz =>
    cases rz
    cases hz
    obtain ⟨G, l, ds, ks, vs', sG, ev, hq, rl, hn, ek, hs, q⟩ := q1
    subst ev
    cases r1 with
    | cons hv r1 =>
    cases r1
    cases hv
    exact sortK_run F hr hb I2 sG hq rl hn ek hs q
  · intro B G H δ σ r Q sG rs ef kq
    unfold fSortK at ef
    obtain ⟨d, e1, ef⟩ := Option.bind_eq_some_iff.mp ef
    cases d with
    | lst ds =>
      dsimp only at ef
      obtain ⟨ys, e2, rfl⟩ := Option.map_eq_some_iff.mp ef
      unfold sortKD at e2
      obtain ⟨ks, e3, e4⟩ := Option.bind_eq_some_iff.mp e2
      split at e4
      · rename_i hc
        cases e4
        refine ke B G H δ σ (.lst ds) _ sG rs e1 fun v G1 H1 g1 rb => ?_
        obtain ⟨a, vs, rfl, hq, rl⟩ := rb.lst g1.s
        exact ⟨G1, a, ds, ks, vs, g1.s, rfl, hq, rl, hc.1, e3, hc.2, kq.mono g1⟩
      · cases e4
    | _ => cases ef
theorem op_isnB : OpR X (compareOp .IsNot) (fun x y H Q => ∃ i j, x = .bl i ∧ y = .bl j ∧ Q (.bl (!(i == j))) H) := by
  intro pins s σ H x y v u Q I rx ry h
  obtain ⟨i, j, rfl, rfl, q⟩ := h
  cases rx
  cases ry
  exact isnot_bool ⟨.bl _, H, I, rfl, q⟩
theorem od_isnB : OpD X (compareOp .IsNot) isnB := by
  refine ⟨_, op_isnB, fun G H x y v u d Q sG rx ry e k => ?_⟩
  unfold isnB at e
  split at e
  · cases e
    have rx := rx.flat rfl
    have ry := ry.flat rfl
    simp only [Rep] at rx ry
    exact ⟨_, _, rx, ry, k _ G H (Grow.refl sG) (by simp [Rep])⟩
  · cases e
theorem od_notA : OpD X (compareOp .IsNot) notA := od_notN.or od_isnB
theorem pe_rev {te : TE} {q1 q2 q3 : Pos} {j : Nat} (he : PE X e te) : PE X (.Subscript e (.Slice none none (some (.UnaryOp .USub (.Constant (.int 1) j q1) q2)) q3) p1)
    (fun σ H Q => te σ H fun x H1 => ∃ l xs, x = .ref l ∧ SqL X.K H1 l xs ∧ ∀ p, H1 p = none → Q (.ref p) (upd H1 p (.lst xs.reverse))) := by
  intro pins s σ H Q I h
  refine Subscript_ (thn (he pins s σ H _ I h) fun v s1 ⟨x, H1, I1, r1, l, xs, ex, hq, q⟩ => ?_)
  subst ex
  cases r1
  refine wpAny_Slice (thn (po_none pins s1 σ H1 (fun o H2 => o = none ∧ H2 = H1) I1 ⟨rfl, rfl⟩) fun vl s2 ⟨o2, H2, I2, pl, e2, e2'⟩ => thn (po_none pins s2 σ H2 (fun o H3 => o = none ∧ H3 = H2) I2 ⟨rfl, rfl⟩) fun vu s3 ⟨o3, H3, I3, pu, e3, e3'⟩ => ?_)
  subst e2 e2' e3 e3'
  refine thn (po_some (pe_un un_neg pe_int) pins s3 σ H3 (fun o H4 => o = some (-1) ∧ H4 = H3) I3 ⟨1, rfl, -1, rfl, rfl, rfl⟩) fun vk s4 ⟨o4, H4, I4, pk, e4, e4'⟩ => ?_
  subst e4 e4'
  obtain ⟨its, rv, plx, hz⟩ := I4.list hq
  have hlen := rv.length
  have hl2 : (s4.heap.push { cls := .type "slice", data := .fields #[vl, vu, vk] }).IsList l its.toArray := plx.isList.push _
  refine tail_any (ops := [.ref l, .ref s4.heap.objs.size]) (Heap.IsList.typeIs (s := { s4 with heap := s4.heap.push { cls := .type "slice", data := .fields #[vl, vu, vk] } }) hl2) list_getitem_lookup
    (wpAny_getItem_list_slice hl2 (Heap.IsSliceOf.new ..) pl pu pk (by decide) ?_ (by rw [List.size_toArray]; omega)) (by with_unfolding_all rfl)
  rw [krv_pick]
  have hf : H4 (s4.heap.objs.size + 1) = none := I4.hok.fresh (Nat.le_succ _)
  have hsz : (s4.heap.push { cls := .type "slice", data := .fields #[vl, vu, vk] }).objs.size = s4.heap.objs.size + 1 := Heap.size_push ..
  have hfree : H4 (s4.heap.push { cls := .type "slice", data := .fields #[vl, vu, vk] }).objs.size = none := by rw [hsz]; exact hf
  refine ⟨.ref _, _, I4.laid (t' := s4.toks) (h' := (s4.heap.push { cls := .type "slice", data := .fields #[vl, vu, vk] }).push _) (fun b o e => Heap.get?_push_of_some _ (Heap.get?_push_of_some _ e)) (by rw [hsz]; exact Nat.le_succ _) ?_, rfl, q _ hfree⟩
  refine ⟨by rw [List.length_reverse]; exact hz, its.reverse, 0, ?_, ?_⟩
  · clear hlen plx hl2 hz hq q
    induction rv with
    | nil => exact .nil
    | cons h rv ih =>
      rw [List.reverse_cons, List.reverse_cons]
      exact Vals.append ih (.cons h .nil)
  · rw [Heap.get?_push_size _ rfl]
theorem repL_rev {K : PySem.W.Frag} {G : Hp} : ∀ {ds : List L2.D} {vs : List V}, RepL K G ds vs → RepL K G ds.reverse vs.reverse
  | [], vs, h => by simp only [RepL] at h; subst h; simp [RepL]
  | d :: ds, vs, h => by
    simp only [RepL] at h
    obtain ⟨v, r, rfl, h2, h3⟩ := h
    rw [List.reverse_cons, List.reverse_cons]
    exact (repL_rev h3).snoc h2
theorem pr_rev {q1 q2 q3 : Pos} {j : Nat} (he : PB X e f) : PR X (.Subscript e (.Slice none none (some (.UnaryOp .USub (.Constant (.int 1) j q1) q2)) q3) p1) (fRev f) := by
  obtain ⟨te, pe, ke⟩ := he
  refine ⟨_, pe_rev pe, fun B G H δ σ r Q sG rs ef k => ?_⟩
  unfold fRev at ef
  obtain ⟨d, e1, ef⟩ := Option.bind_eq_some_iff.mp ef
  cases d with
  | lst ds =>
    cases ef
    refine ke B G H δ σ (.lst ds) _ sG rs e1 fun v G1 H1 g1 rb => ?_
    obtain ⟨a, vs, rfl, hq, rl⟩ := rb.lst g1.s
    exact ⟨a, vs, rfl, hq, fun p hp => k p _ G1 H1 g1 hp trivial (repL_rev rl)⟩
  | _ => cases ef
end
end L2
set_option Elab.async false
set_option linter.all false
set_option maxRecDepth 100000
set_option maxHeartbeats 4000000
namespace K02
open PySem PySem.Spec PyProof.Rows L2
def top (i : Nat) : Stmt := PySem.Challenge.pw_reason_k02_facts_in_order.main.body.getD i (.Pass ⟨0, 0, 0, 0⟩)
structure Txt (K : PySem.W.Frag) (mg : Str → Option Value) : Prop where
  d_constant_key : DefAt K mg "constant_key" (top 1)
  d_fact_key : DefAt K mg "fact_key" (top 2)
  d_constant_before : DefAt K mg "constant_before" (top 3)
  d_fact_before : DefAt K mg "fact_before" (top 4)
  d_in_order : DefAt K mg "in_order" (top 5)
  d__law_cell : DefAt K mg "_law_cell" (top 7)
  d__law_constant : DefAt K mg "_law_constant" (top 8)
  d__law_fact : DefAt K mg "_law_fact" (top 9)
  d__law_constant_less : DefAt K mg "_law_constant_less" (top 10)
  d__law_fact_less : DefAt K mg "_law_fact_less" (top 11)
  d__law_places_told : DefAt K mg "_law_places_told" (top 12)
  d_law : DefAt K mg "law" (top 13)
  m_bool : mg "bool" = none
  m_isinstance : mg "isinstance" = none
  m_len : mg "len" = none
  m_list : mg "list" = none
  m_range : mg "range" = none
  m_sorted : mg "sorted" = none
  m_str : mg "str" = none
  m_zip : mg "zip" = none
  t_bool : IsTyOk K "bool"
  t_list : IsTyOk K "list"
  t_str : IsTyOk K "str"
noncomputable section
def fb_constant_key : FS := (sSeq (sIf (fB (fIs "str" (fVarB 0))) (sSeq (sRet (fSh (fTup (fCons (fC (.int 1)) (fCons (fVar 0) fNil)))))
    sNil) sNil)
    (sSeq (sRet (fSh (fTup (fCons (fC (.int 0)) (fCons (fVar 0) fNil)))))
    sNil))
def M_constant_key : List D → Option Rs := runF ["constant"] 1 fb_constant_key
def fb_fact_key : FS := (sSeq (sRet (fSh (fTup (fCons (f2 ixA (fVarB 0) (fC (.int 0))) (fCons (fCallB lenD (fCons (f2 ixA (fVarB 0) (fC (.int 1))) fNil)) (fCons (fPub (fComp 1 [] 0 (oSeq (f2 ixA (fVarB 0) (fC (.int 1)))) bYes (fPub (fCallR M_constant_key (fCons (fVar 0) fNil))))) fNil))))))
    sNil)
def M_fact_key : List D → Option Rs := runF ["fact"] 1 fb_fact_key
def fb_constant_before : FS := (sSeq (sRet (fSh (f2 (ltE) (fPub (fCallR M_constant_key (fCons (fVar 0) fNil))) (fPub (fCallR M_constant_key (fCons (fVar 1) fNil))))))
    sNil)
def M_constant_before : List D → Option Rs := runF ["one", "other"] 2 fb_constant_before
def fb_fact_before : FS := (sSeq (sRet (fSh (f2 (ltE) (fPub (fCallR M_fact_key (fCons (fVar 0) fNil))) (fPub (fCallR M_fact_key (fCons (fVar 1) fNil))))))
    sNil)
def M_fact_before : List D → Option Rs := runF ["one", "other"] 2 fb_fact_before
def fb_in_order : FS := (sSeq (sRet (fSortK M_fact_key (fVarB 0)))
    sNil)
def M_in_order : List D → Option Rs := runF ["facts"] 1 fb_in_order
def fb__law_cell : FS := (sSeq (sIf (fB (f2 (ltE) (fVarB 1) (fCallB lenD (fCons (fVarB 0) fNil)))) (sSeq (sRet (fSh (f2 ixA (fVarB 0) (fVarB 1))))
    sNil) sNil)
    (sSeq (sSet 2 (f2 addD (f2 mulD (fVarB 1) (fC (.int 7919))) (fC (.int 5))))
    (sSeq (sIf (fB (f2 (gtD) (fCallB lenD (fCons (fVarB 0) fNil)) (fC (.int 0)))) (sSeq (sSet 2 (f2 modD (f2 addD (f2 mulD (f2 ixA (fVarB 0) (f2 modD (f2 mulD (fVarB 1) (fC (.int 7))) (fCallB lenD (fCons (fVarB 0) fNil)))) (fC (.int 48271))) (f2 mulD (fVarB 1) (fC (.int 7919)))) (fC (.int 2147483647))))
    sNil) sNil)
    (sSeq (sRet (fSh (f2 modD (f2 mulD (fVarB 2) (fVarB 2)) (fC (.int 2147483629)))))
    sNil))))
def M__law_cell : List D → Option Rs := runF ["_law_script", "_law_k", "_law_number"] 2 fb__law_cell
def fb__law_constant : FS := (sSeq (sSet 1 (fPub (fLstR (fCons (fC (.str "a")) (fCons (fC (.str "b")) (fCons (fC (.str "aa")) (fCons (fC (.str "ab")) (fCons (fC (.str "z")) fNil))))))))
    (sSeq (sSet 2 (fPub (fLstR (fCons (fC (.int 0)) (fCons (fC (.int 1)) (fCons (fC (.int 2)) (fCons (fC (.int 10)) (fCons (f1 negD (fC (.int 1))) (fCons (f1 negD (fC (.int 10))) (fCons (f2 modD (f2 fdivD (fVarB 0) (fC (.int 12))) (f2 powD (fC (.int 10)) (fC (.int 30)))) (fCons (f2 subD (fC (.int 0)) (f2 modD (f2 fdivD (fVarB 0) (fC (.int 12))) (f2 powD (fC (.int 10)) (fC (.int 30))))) fNil)))))))))))
    (sSeq (sRet (fSh (f2 ixA (f2 addD (fVarB 1) (fVarB 2)) (f2 modD (fVarB 0) (fC (.int 13))))))
    sNil)))
def M__law_constant : List D → Option Rs := runF ["_law_cell_here", "_law_names", "_law_numbers"] 1 fb__law_constant
def fb__law_fact : FS := (sSeq (sSet 1 (f2 ixA (fPub (fLstR (fCons (fC (.str "edge")) (fCons (fC (.str "edges")) (fCons (fC (.str "pay")) fNil))))) (f2 modD (fVarB 0) (fC (.int 3)))))
    (sSeq (sSet 2 (f2 modD (f2 fdivD (fVarB 0) (fC (.int 3))) (fC (.int 5))))
    (sSeq (sSet 0 (f2 fdivD (fVarB 0) (fC (.int 15))))
    (sSeq (sSet 3 (fTup fNil))
    (sSeq (sFor 4 (oRng (fVar 2)) (sSeq (sSet 3 (f2 addD (fVarB 3) (fTup (fCons (fPub (fCallR M__law_constant (fCons (fVar 0) fNil))) fNil))))
    (sSeq (sSet 0 (f2 fdivD (fVarB 0) (f2 ixA (fPub (fLstR (fCons (fC (.int 13)) (fCons (fC (.int 1000)) fNil)))) (f2 modD (fVarB 4) (fC (.int 2))))))
    sNil)))
    (sSeq (sRet (fSh (fTup (fCons (fVar 1) (fCons (fVar 3) fNil)))))
    sNil))))))
def M__law_fact : List D → Option Rs := runF ["_law_cell_here", "_law_head", "_law_many", "_law_places", "_law_k"] 1 fb__law_fact
def fb__law_constant_less : FS := (sSeq (sIf (fB (f2 (neE) (fIs "str" (fVarB 0)) (fIs "str" (fVarB 1)))) (sSeq (sRet (fSh (fIs "str" (fVarB 1))))
    sNil) sNil)
    (sSeq (sRet (fSh (f2 (ltE) (fVarB 0) (fVarB 1))))
    sNil))
def M__law_constant_less : List D → Option Rs := runF ["_law_one", "_law_other"] 2 fb__law_constant_less
def fb__law_fact_less : FS := (sSeq (sIf (fB (f2 (neE) (f2 ixA (fVarB 0) (fC (.int 0))) (f2 ixA (fVarB 1) (fC (.int 0))))) (sSeq (sRet (fSh (f2 (ltE) (f2 ixA (fVarB 0) (fC (.int 0))) (f2 ixA (fVarB 1) (fC (.int 0))))))
    sNil) sNil)
    (sSeq (sIf (fB (f2 (neE) (fCallB lenD (fCons (f2 ixA (fVarB 0) (fC (.int 1))) fNil)) (fCallB lenD (fCons (f2 ixA (fVarB 1) (fC (.int 1))) fNil)))) (sSeq (sRet (fSh (f2 (ltE) (fCallB lenD (fCons (f2 ixA (fVarB 0) (fC (.int 1))) fNil)) (fCallB lenD (fCons (f2 ixA (fVarB 1) (fC (.int 1))) fNil)))))
    sNil) sNil)
    (sSeq (sForZ 2 3 (oZip (f2 ixA (fVarB 0) (fC (.int 1))) (f2 ixA (fVarB 1) (fC (.int 1)))) (sSeq (sIf (fB (f2 (neE) (fVarB 2) (fVarB 3))) (sSeq (sRet (fCallR M__law_constant_less (fCons (fVar 2) (fCons (fVar 3) fNil))))
    sNil) sNil)
    sNil))
    (sSeq (sRet (fSh (fC (.bl false))))
    sNil))))
def M__law_fact_less : List D → Option Rs := runF ["_law_one", "_law_other", "_law_mine", "_law_theirs"] 2 fb__law_fact_less
def fb__law_places_told : FS := (sSeq (sFor 2 (oSeq (f2 ixA (fVarB 0) (fC (.int 1)))) (sSeq (sFor 3 (oSeq (f2 ixA (fVarB 1) (fC (.int 1)))) (sSeq (sSet 4 (fPub (fCallR M_constant_before (fCons (fVar 2) (fCons (fVar 3) fNil)))))
    (sSeq (sIf (bOr (bNot (fB (fIs "bool" (fVarB 4)))) (fB (f2 (neE) (fVarB 4) (fPub (fCallR M__law_constant_less (fCons (fVar 2) (fCons (fVar 3) fNil))))))) (sSeq (sRet (fSh (fC (.bl false))))
    sNil) sNil)
    sNil)))
    sNil))
    (sSeq (sRet (fSh (fC (.bl true))))
    sNil))
def M__law_places_told : List D → Option Rs := runF ["_law_one", "_law_other", "_law_mine", "_law_theirs", "_law_found"] 2 fb__law_places_told
def fb_law : FS := (sSeq (sSetR 1 (fLstR fNil))
    (sSeq (sFor 2 (oSeq (fPub (fSlA (fVarB 0) (fun _ => some none) (oInt (fC (.int 20)))))) (sSeq (sSet 3 (fPub (fCallR M__law_fact (fCons (fVar 2) fNil))))
    (sSeq (sIf (fB (f2 (inE true) (fVarB 3) (fVarB 1))) (sSeq (sApp 1 (fVar 3))
    sNil) sNil)
    sNil)))
    (sSeq (sSet 4 (fPub (fCallN lstN (fCons (fVarB 1) fNil))))
    (sSeq (sSet 5 (fPub (fCallR M_in_order (fCons (fVar 4) fNil))))
    (sSeq (sIf (bOr (fB (f2 (neE) (fVarB 4) (fVarB 1))) (bOr (bNot (fB (fIs "list" (fVarB 5)))) (fB (f2 (neE) (fCallB lenD (fCons (fVarB 5) fNil)) (fCallB lenD (fCons (fVarB 1) fNil)))))) (sSeq (sRet (fSh (fC (.bl false))))
    sNil) sNil)
    (sSeq (sForZ 6 7 (oZip (fVar 5) (fPub (fSlA (fVarB 5) (oInt (fC (.int 1))) (fun _ => some none)))) (sSeq (sIf (bOr (bNot (fB (fPub (fCallR M__law_fact_less (fCons (fVar 6) (fCons (fVar 7) fNil)))))) (bNot (fB (fPub (fCallR M__law_places_told (fCons (fVar 6) (fCons (fVar 7) fNil))))))) (sSeq (sRet (fSh (fC (.bl false))))
    sNil) sNil)
    (sSeq (sIf (bOr (fB (f2 (notA) (fPub (fCallR M_fact_before (fCons (fVar 6) (fCons (fVar 7) fNil)))) (fC (.bl true)))) (fB (f2 (notA) (fPub (fCallR M_fact_before (fCons (fVar 7) (fCons (fVar 6) fNil)))) (fC (.bl false))))) (sSeq (sRet (fSh (fC (.bl false))))
    sNil) sNil)
    sNil)))
    (sSeq (fun δ => (sFor 3 (oSeq (fVar 1)) (sSeq (sIf (bOr (fB (f2 (inE true) (fVarB 3) (fVarB 5))) (fB (f2 (notA) (fPub (fCallR M_fact_before (fCons (fVar 3) (fCons (fVar 3) fNil)))) (fC (.bl false))))) (sSeq (sRet (fSh (fC (.bl false))))
    sNil) sNil)
    sNil)) (pubS 1 δ))
    (sSeq (sRet (fSh (fAnd (f2 (eqO false) (fPub (fCallR M_in_order (fCons (fPub (fRev (fVarB 1))) fNil))) (fVarB 5)) (f2 (eqO false) (fPub (fCallR M_in_order (fCons (fPub (fLstR fNil)) fNil))) (fPub (fLstR fNil))))))
    sNil))))))))
def M_law : List D → Option Rs := runF ["_law_script", "_law_facts", "_law_cell_here", "_law_fact_here", "_law_handed", "_law_told", "_law_one", "_law_other"] 1 fb_law
end
theorem hu_of2 {k : Nat} {A : Around} (r : Room k A) : A.units + 20 < cLine := by have := r.un; omega
end K02
set_option Elab.async false
set_option linter.all false
set_option maxRecDepth 100000
set_option maxHeartbeats 4000000
namespace K02
open PySem PySem.Spec PyProof.Rows L2
theorem sc_constant_key : FnScope ["constant"] ["constant"] (defScope (top 1)) := ⟨rfl, rfl, rfl, by decide +kernel, rfl, by decide +kernel, by decide +kernel⟩
theorem mk_constant_key {P : Program} {w : World} {K : PySem.W.Frag} {mg : Str → Option Value} {base : Heap} (T : Txt K mg)  : DefOk P w K mg base 1 "constant_key" ["constant"] M_constant_key :=
  def_run T.d_constant_key sc_constant_key (fun _ _ _ _ _ _ us hl => match us, hl with | [_], _ => rfl) fun f cdv A outer s H E hr => by
    have nd : (["constant"] : List Str).Nodup := sc_constant_key.nd
    have hu := hu_of2 hr
    exact (psd_cons (psd_if (pdt_val (pd_is "str" T.t_str T.m_isinstance T.m_str boot_str (pb_var 0))) (psd_cons (psd_ret (PD.pr (pd_tup (pad_cons pd_int (pad_cons (pd_var 0) pad_nil)))))
    psd_nil) psd_nil)
    (psd_cons (psd_ret (PD.pr (pd_tup (pad_cons pd_int (pad_cons (pd_var 0) pad_nil)))))
    psd_nil))
theorem sc_fact_key : FnScope ["fact"] ["fact"] (defScope (top 2)) := ⟨rfl, rfl, rfl, by decide +kernel, rfl, by decide +kernel, by decide +kernel⟩
theorem mk_fact_key {P : Program} {w : World} {K : PySem.W.Frag} {mg : Str → Option Value} {base : Heap} (T : Txt K mg) (ok_constant_key : DefOk P w K mg base 1 "constant_key" ["constant"] M_constant_key) : DefOk P w K mg base 2 "fact_key" ["fact"] M_fact_key :=
  def_run T.d_fact_key sc_fact_key (fun _ _ _ _ _ _ us hl => match us, hl with | [_], _ => rfl) fun f cdv A outer s H E hr => by
    have nd : (["fact"] : List Str).Nodup := sc_fact_key.nd
    have hu := hu_of2 hr
    exact (psd_cons (psd_ret (PD.pr (pd_tup (pad_cons (pd_ix (Nat.lt_of_le_of_lt (Nat.add_le_add_left (by decide) _) hu) (pb_var 0) (PD.pb pd_int)) (pad_cons (pd_callB cd_len T.m_len boot_len (pab_cons (PD.pb (pd_ix (Nat.lt_of_le_of_lt (Nat.add_le_add_left (by decide) _) hu) (pb_var 0) (PD.pb pd_int))) pab_nil)) (pad_cons (PR.pd (pr_comp' (N := ["place"]) (js := []) (i := 0) rfl (compOk0 rfl (by decide +kernel) (by decide +kernel) rfl) (pid_seq (pd_ix (Nat.lt_of_le_of_lt (Nat.add_le_add_left (by decide) _) hu) (pb_var 0) (PD.pb pd_int))) (by decide) (by decide) rfl rfl (by decide) (fun _ _ _ _ => pifd_nil) (fun _ _ _ _ => (PR.pd (pr_call ok_constant_key (hr.mono (by decide)) (pad_cons (pd_var 0) pad_nil)))))) pad_nil))))))
    psd_nil)
theorem sc_constant_before : FnScope ["one", "other"] ["one", "other"] (defScope (top 3)) := ⟨rfl, rfl, rfl, by decide +kernel, rfl, by decide +kernel, by decide +kernel⟩
theorem mk_constant_before {P : Program} {w : World} {K : PySem.W.Frag} {mg : Str → Option Value} {base : Heap} (T : Txt K mg) (ok_constant_key : DefOk P w K mg base 1 "constant_key" ["constant"] M_constant_key) : DefOk P w K mg base 2 "constant_before" ["one", "other"] M_constant_before :=
  def_run T.d_constant_before sc_constant_before (fun _ _ _ _ _ _ us hl => match us, hl with | [_, _], _ => rfl) fun f cdv A outer s H E hr => by
    have nd : (["one", "other"] : List Str).Nodup := sc_constant_before.nd
    have hu := hu_of2 hr
    exact (psd_cons (psd_ret (PD.pr (pd_cmp (od_ltE hu) (PD.pb (PR.pd (pr_call ok_constant_key (hr.mono (by decide)) (pad_cons (pd_var 0) pad_nil)))) (PD.pb (PR.pd (pr_call ok_constant_key (hr.mono (by decide)) (pad_cons (pd_var 1) pad_nil)))))))
    psd_nil)
theorem sc_fact_before : FnScope ["one", "other"] ["one", "other"] (defScope (top 4)) := ⟨rfl, rfl, rfl, by decide +kernel, rfl, by decide +kernel, by decide +kernel⟩
theorem mk_fact_before {P : Program} {w : World} {K : PySem.W.Frag} {mg : Str → Option Value} {base : Heap} (T : Txt K mg) (ok_fact_key : DefOk P w K mg base 2 "fact_key" ["fact"] M_fact_key) : DefOk P w K mg base 3 "fact_before" ["one", "other"] M_fact_before :=
  def_run T.d_fact_before sc_fact_before (fun _ _ _ _ _ _ us hl => match us, hl with | [_, _], _ => rfl) fun f cdv A outer s H E hr => by
    have nd : (["one", "other"] : List Str).Nodup := sc_fact_before.nd
    have hu := hu_of2 hr
    exact (psd_cons (psd_ret (PD.pr (pd_cmp (od_ltE hu) (PD.pb (PR.pd (pr_call ok_fact_key (hr.mono (by decide)) (pad_cons (pd_var 0) pad_nil)))) (PD.pb (PR.pd (pr_call ok_fact_key (hr.mono (by decide)) (pad_cons (pd_var 1) pad_nil)))))))
    psd_nil)
theorem sc_in_order : FnScope ["facts"] ["facts"] (defScope (top 5)) := ⟨rfl, rfl, rfl, by decide +kernel, rfl, by decide +kernel, by decide +kernel⟩
theorem mk_in_order {P : Program} {w : World} {K : PySem.W.Frag} {mg : Str → Option Value} {base : Heap} (T : Txt K mg) (ok_fact_key : DefOk P w K mg base 2 "fact_key" ["fact"] M_fact_key) : DefOk P w K mg base 4 "in_order" ["facts"] M_in_order :=
  def_run T.d_in_order sc_in_order (fun _ _ _ _ _ _ us hl => match us, hl with | [_], _ => rfl) fun f cdv A outer s H E hr => by
    have nd : (["facts"] : List Str).Nodup := sc_in_order.nd
    have hu := hu_of2 hr
    exact (psd_cons (psd_ret (pr_sortK ok_fact_key (hr.mono (by decide)) T.m_sorted (pb_var 0)))
    psd_nil)
theorem sc__law_cell : FnScope ["_law_script", "_law_k", "_law_number"] ["_law_script", "_law_k"] (defScope (top 7)) := ⟨rfl, rfl, rfl, by decide +kernel, rfl, by decide +kernel, by decide +kernel⟩
theorem mk__law_cell {P : Program} {w : World} {K : PySem.W.Frag} {mg : Str → Option Value} {base : Heap} (T : Txt K mg)  : DefOk P w K mg base 1 "_law_cell" ["_law_script", "_law_k"] M__law_cell :=
  def_run T.d__law_cell sc__law_cell (fun _ _ _ _ _ _ us hl => match us, hl with | [_, _], _ => rfl) fun f cdv A outer s H E hr => by
    have nd : (["_law_script", "_law_k", "_law_number"] : List Str).Nodup := sc__law_cell.nd
    have hu := hu_of2 hr
    exact (psd_cons (psd_if (pdt_cmp (od_ltE hu) (pb_var 1) (PD.pb (pd_callB cd_len T.m_len boot_len (pab_cons (pb_var 0) pab_nil)))) (psd_cons (psd_ret (PD.pr (pd_ix (Nat.lt_of_le_of_lt (Nat.add_le_add_left (by decide) _) hu) (pb_var 0) (pb_var 1))))
    psd_nil) psd_nil)
    (psd_cons (psd_set 2 nd (pd_op od_add (PD.pb (pd_op od_mul (pb_var 1) (PD.pb pd_int))) (PD.pb pd_int)))
    (psd_cons (psd_if (pdt_cmp od_gt (PD.pb (pd_callB cd_len T.m_len boot_len (pab_cons (pb_var 0) pab_nil))) (PD.pb pd_int)) (psd_cons (psd_set 2 nd (pd_op od_mod (PD.pb (pd_op od_add (PD.pb (pd_op od_mul (PD.pb (pd_ix (Nat.lt_of_le_of_lt (Nat.add_le_add_left (by decide) _) hu) (pb_var 0) (PD.pb (pd_op od_mod (PD.pb (pd_op od_mul (pb_var 1) (PD.pb pd_int))) (PD.pb (pd_callB cd_len T.m_len boot_len (pab_cons (pb_var 0) pab_nil))))))) (PD.pb pd_int))) (PD.pb (pd_op od_mul (pb_var 1) (PD.pb pd_int))))) (PD.pb pd_int)))
    psd_nil) psd_nil)
    (psd_cons (psd_ret (PD.pr (pd_op od_mod (PD.pb (pd_op od_mul (pb_var 2) (pb_var 2))) (PD.pb pd_int))))
    psd_nil))))
theorem sc__law_constant : FnScope ["_law_cell_here", "_law_names", "_law_numbers"] ["_law_cell_here"] (defScope (top 8)) := ⟨rfl, rfl, rfl, by decide +kernel, rfl, by decide +kernel, by decide +kernel⟩
theorem mk__law_constant {P : Program} {w : World} {K : PySem.W.Frag} {mg : Str → Option Value} {base : Heap} (T : Txt K mg)  : DefOk P w K mg base 1 "_law_constant" ["_law_cell_here"] M__law_constant :=
  def_run T.d__law_constant sc__law_constant (fun _ _ _ _ _ _ us hl => match us, hl with | [_], _ => rfl) fun f cdv A outer s H E hr => by
    have nd : (["_law_cell_here", "_law_names", "_law_numbers"] : List Str).Nodup := sc__law_constant.nd
    have hu := hu_of2 hr
    exact (psd_cons (psd_set 1 nd (PR.pd (pr_lst (pad_cons pd_str (pad_cons pd_str (pad_cons pd_str (pad_cons pd_str (pad_cons pd_str pad_nil))))))))
    (psd_cons (psd_set 2 nd (PR.pd (pr_lst (pad_cons pd_int (pad_cons pd_int (pad_cons pd_int (pad_cons pd_int (pad_cons (pd_neg pd_int) (pad_cons (pd_neg pd_int) (pad_cons (pd_op od_mod (PD.pb (pd_op od_fdiv (pb_var 0) (PD.pb pd_int))) (PD.pb (pd_op od_pow (PD.pb pd_int) (PD.pb pd_int)))) (pad_cons (pd_op od_sub (PD.pb pd_int) (PD.pb (pd_op od_mod (PD.pb (pd_op od_fdiv (pb_var 0) (PD.pb pd_int))) (PD.pb (pd_op od_pow (PD.pb pd_int) (PD.pb pd_int)))))) pad_nil)))))))))))
    (psd_cons (psd_ret (PD.pr (pd_ix (Nat.lt_of_le_of_lt (Nat.add_le_add_left (by decide) _) hu) (PD.pb (pd_op od_add (pb_var 1) (pb_var 2))) (PD.pb (pd_op od_mod (pb_var 0) (PD.pb pd_int))))))
    psd_nil)))
theorem sc__law_fact : FnScope ["_law_cell_here", "_law_head", "_law_many", "_law_places", "_law_k"] ["_law_cell_here"] (defScope (top 9)) := ⟨rfl, rfl, rfl, by decide +kernel, rfl, by decide +kernel, by decide +kernel⟩
theorem mk__law_fact {P : Program} {w : World} {K : PySem.W.Frag} {mg : Str → Option Value} {base : Heap} (T : Txt K mg) (ok__law_constant : DefOk P w K mg base 1 "_law_constant" ["_law_cell_here"] M__law_constant) : DefOk P w K mg base 2 "_law_fact" ["_law_cell_here"] M__law_fact :=
  def_run T.d__law_fact sc__law_fact (fun _ _ _ _ _ _ us hl => match us, hl with | [_], _ => rfl) fun f cdv A outer s H E hr => by
    have nd : (["_law_cell_here", "_law_head", "_law_many", "_law_places", "_law_k"] : List Str).Nodup := sc__law_fact.nd
    have hu := hu_of2 hr
    exact (psd_cons (psd_set 1 nd (pd_ix (Nat.lt_of_le_of_lt (Nat.add_le_add_left (by decide) _) hu) (PD.pb (PR.pd (pr_lst (pad_cons pd_str (pad_cons pd_str (pad_cons pd_str pad_nil)))))) (PD.pb (pd_op od_mod (pb_var 0) (PD.pb pd_int)))))
    (psd_cons (psd_set 2 nd (pd_op od_mod (PD.pb (pd_op od_fdiv (pb_var 0) (PD.pb pd_int))) (PD.pb pd_int)))
    (psd_cons (psd_set 0 nd (pd_op od_fdiv (pb_var 0) (PD.pb pd_int)))
    (psd_cons (psd_set 3 nd (pd_tup pad_nil))
    (psd_cons (psd_for 4 nd rfl PassesOwn.never (pid_range T.m_range (pd_var 2)) (psd_cons (psd_set 3 nd (pd_op od_add (pb_var 3) (PD.pb (pd_tup (pad_cons (PR.pd (pr_call ok__law_constant (hr.mono (by decide)) (pad_cons (pd_var 0) pad_nil))) pad_nil)))))
    (psd_cons (psd_set 0 nd (pd_op od_fdiv (pb_var 0) (PD.pb (pd_ix (Nat.lt_of_le_of_lt (Nat.add_le_add_left (by decide) _) hu) (PD.pb (PR.pd (pr_lst (pad_cons pd_int (pad_cons pd_int pad_nil))))) (PD.pb (pd_op od_mod (pb_var 4) (PD.pb pd_int)))))))
    psd_nil)))
    (psd_cons (psd_ret (PD.pr (pd_tup (pad_cons (pd_var 1) (pad_cons (pd_var 3) pad_nil)))))
    psd_nil))))))
theorem sc__law_constant_less : FnScope ["_law_one", "_law_other"] ["_law_one", "_law_other"] (defScope (top 10)) := ⟨rfl, rfl, rfl, by decide +kernel, rfl, by decide +kernel, by decide +kernel⟩
theorem mk__law_constant_less {P : Program} {w : World} {K : PySem.W.Frag} {mg : Str → Option Value} {base : Heap} (T : Txt K mg)  : DefOk P w K mg base 1 "_law_constant_less" ["_law_one", "_law_other"] M__law_constant_less :=
  def_run T.d__law_constant_less sc__law_constant_less (fun _ _ _ _ _ _ us hl => match us, hl with | [_, _], _ => rfl) fun f cdv A outer s H E hr => by
    have nd : (["_law_one", "_law_other"] : List Str).Nodup := sc__law_constant_less.nd
    have hu := hu_of2 hr
    exact (psd_cons (psd_if (pdt_cmp (od_neE hu) (PD.pb (pd_is "str" T.t_str T.m_isinstance T.m_str boot_str (pb_var 0))) (PD.pb (pd_is "str" T.t_str T.m_isinstance T.m_str boot_str (pb_var 1)))) (psd_cons (psd_ret (PD.pr (pd_is "str" T.t_str T.m_isinstance T.m_str boot_str (pb_var 1))))
    psd_nil) psd_nil)
    (psd_cons (psd_ret (PD.pr (pd_cmp (od_ltE hu) (pb_var 0) (pb_var 1))))
    psd_nil))
theorem sc__law_fact_less : FnScope ["_law_one", "_law_other", "_law_mine", "_law_theirs"] ["_law_one", "_law_other"] (defScope (top 11)) := ⟨rfl, rfl, rfl, by decide +kernel, rfl, by decide +kernel, by decide +kernel⟩
theorem mk__law_fact_less {P : Program} {w : World} {K : PySem.W.Frag} {mg : Str → Option Value} {base : Heap} (T : Txt K mg) (ok__law_constant_less : DefOk P w K mg base 1 "_law_constant_less" ["_law_one", "_law_other"] M__law_constant_less) : DefOk P w K mg base 2 "_law_fact_less" ["_law_one", "_law_other"] M__law_fact_less :=
  def_run T.d__law_fact_less sc__law_fact_less (fun _ _ _ _ _ _ us hl => match us, hl with | [_, _], _ => rfl) fun f cdv A outer s H E hr => by
    have nd : (["_law_one", "_law_other", "_law_mine", "_law_theirs"] : List Str).Nodup := sc__law_fact_less.nd
    have hu := hu_of2 hr
    exact (psd_cons (psd_if (pdt_cmp (od_neE hu) (PD.pb (pd_ix (Nat.lt_of_le_of_lt (Nat.add_le_add_left (by decide) _) hu) (pb_var 0) (PD.pb pd_int))) (PD.pb (pd_ix (Nat.lt_of_le_of_lt (Nat.add_le_add_left (by decide) _) hu) (pb_var 1) (PD.pb pd_int)))) (psd_cons (psd_ret (PD.pr (pd_cmp (od_ltE hu) (PD.pb (pd_ix (Nat.lt_of_le_of_lt (Nat.add_le_add_left (by decide) _) hu) (pb_var 0) (PD.pb pd_int))) (PD.pb (pd_ix (Nat.lt_of_le_of_lt (Nat.add_le_add_left (by decide) _) hu) (pb_var 1) (PD.pb pd_int))))))
    psd_nil) psd_nil)
    (psd_cons (psd_if (pdt_cmp (od_neE hu) (PD.pb (pd_callB cd_len T.m_len boot_len (pab_cons (PD.pb (pd_ix (Nat.lt_of_le_of_lt (Nat.add_le_add_left (by decide) _) hu) (pb_var 0) (PD.pb pd_int))) pab_nil))) (PD.pb (pd_callB cd_len T.m_len boot_len (pab_cons (PD.pb (pd_ix (Nat.lt_of_le_of_lt (Nat.add_le_add_left (by decide) _) hu) (pb_var 1) (PD.pb pd_int))) pab_nil)))) (psd_cons (psd_ret (PD.pr (pd_cmp (od_ltE hu) (PD.pb (pd_callB cd_len T.m_len boot_len (pab_cons (PD.pb (pd_ix (Nat.lt_of_le_of_lt (Nat.add_le_add_left (by decide) _) hu) (pb_var 0) (PD.pb pd_int))) pab_nil))) (PD.pb (pd_callB cd_len T.m_len boot_len (pab_cons (PD.pb (pd_ix (Nat.lt_of_le_of_lt (Nat.add_le_add_left (by decide) _) hu) (pb_var 1) (PD.pb pd_int))) pab_nil))))))
    psd_nil) psd_nil)
    (psd_cons (psd_forZ 2 3 nd rfl PassesOwn.never T.m_zip (pd_ix (Nat.lt_of_le_of_lt (Nat.add_le_add_left (by decide) _) hu) (pb_var 0) (PD.pb pd_int)) (pd_ix (Nat.lt_of_le_of_lt (Nat.add_le_add_left (by decide) _) hu) (pb_var 1) (PD.pb pd_int)) (psd_cons (psd_if (pdt_cmp (od_neE hu) (pb_var 2) (pb_var 3)) (psd_cons (psd_ret (pr_call ok__law_constant_less (hr.mono (by decide)) (pad_cons (pd_var 2) (pad_cons (pd_var 3) pad_nil))))
    psd_nil) psd_nil)
    psd_nil))
    (psd_cons (psd_ret (PD.pr pd_bl))
    psd_nil))))
theorem sc__law_places_told : FnScope ["_law_one", "_law_other", "_law_mine", "_law_theirs", "_law_found"] ["_law_one", "_law_other"] (defScope (top 12)) := ⟨rfl, rfl, rfl, by decide +kernel, rfl, by decide +kernel, by decide +kernel⟩
theorem mk__law_places_told {P : Program} {w : World} {K : PySem.W.Frag} {mg : Str → Option Value} {base : Heap} (T : Txt K mg) (ok__law_constant_less : DefOk P w K mg base 1 "_law_constant_less" ["_law_one", "_law_other"] M__law_constant_less) (ok_constant_before : DefOk P w K mg base 2 "constant_before" ["one", "other"] M_constant_before) : DefOk P w K mg base 3 "_law_places_told" ["_law_one", "_law_other"] M__law_places_told :=
  def_run T.d__law_places_told sc__law_places_told (fun _ _ _ _ _ _ us hl => match us, hl with | [_, _], _ => rfl) fun f cdv A outer s H E hr => by
    have nd : (["_law_one", "_law_other", "_law_mine", "_law_theirs", "_law_found"] : List Str).Nodup := sc__law_places_told.nd
    have hu := hu_of2 hr
    exact (psd_cons (psd_for 2 nd rfl PassesOwn.never (pid_seq (pd_ix (Nat.lt_of_le_of_lt (Nat.add_le_add_left (by decide) _) hu) (pb_var 0) (PD.pb pd_int))) (psd_cons (psd_for 3 nd rfl PassesOwn.never (pid_seq (pd_ix (Nat.lt_of_le_of_lt (Nat.add_le_add_left (by decide) _) hu) (pb_var 1) (PD.pb pd_int))) (psd_cons (psd_set 4 nd (PR.pd (pr_call ok_constant_before (hr.mono (by decide)) (pad_cons (pd_var 2) (pad_cons (pd_var 3) pad_nil)))))
    (psd_cons (psd_if (PDW.pdt (pdw_or (pdt_not (pdt_val (pd_is "bool" T.t_bool T.m_isinstance T.m_bool boot_bool (pb_var 4)))) (pdw_or1 (pdt_cmp (od_neE hu) (pb_var 4) (PD.pb (PR.pd (pr_call ok__law_constant_less (hr.mono (by decide)) (pad_cons (pd_var 2) (pad_cons (pd_var 3) pad_nil))))))))) (psd_cons (psd_ret (PD.pr pd_bl))
    psd_nil) psd_nil)
    psd_nil)))
    psd_nil))
    (psd_cons (psd_ret (PD.pr pd_bl))
    psd_nil))
theorem sc_law : FnScope ["_law_script", "_law_facts", "_law_cell_here", "_law_fact_here", "_law_handed", "_law_told", "_law_one", "_law_other"] ["_law_script"] (defScope (top 13)) := ⟨rfl, rfl, rfl, by decide +kernel, rfl, by decide +kernel, by decide +kernel⟩
theorem mk_law {P : Program} {w : World} {K : PySem.W.Frag} {mg : Str → Option Value} {base : Heap} (T : Txt K mg) {f : Addr} {fd : FuncData} (F : Fun K "law" "law" (top 13) f fd) (ok__law_fact : DefOk P w K mg base 2 "_law_fact" ["_law_cell_here"] M__law_fact) (ok__law_fact_less : DefOk P w K mg base 2 "_law_fact_less" ["_law_one", "_law_other"] M__law_fact_less) (ok__law_places_told : DefOk P w K mg base 3 "_law_places_told" ["_law_one", "_law_other"] M__law_places_told) (ok_fact_before : DefOk P w K mg base 3 "fact_before" ["one", "other"] M_fact_before) (ok_in_order : DefOk P w K mg base 4 "in_order" ["facts"] M_in_order) : FnOk P w K mg base CX0 5 f fd ["_law_script"] (spD K M_law) :=
  def_runF F sc_law fun f cdv A outer s H E hr => by
    have nd : (["_law_script", "_law_facts", "_law_cell_here", "_law_fact_here", "_law_handed", "_law_told", "_law_one", "_law_other"] : List Str).Nodup := sc_law.nd
    have hu := hu_of2 hr
    exact (psd_cons (psd_setR 1 nd (pr_lst pad_nil))
    (psd_cons (psd_for 2 nd rfl PassesOwn.never (pid_seq (PR.pd (pr_slA (pb_var 0) pod_none (pod_some pd_int)))) (psd_cons (psd_set 3 nd (PR.pd (pr_call ok__law_fact (hr.mono (by decide)) (pad_cons (pd_var 2) pad_nil))))
    (psd_cons (psd_if (pdt_cmp (od_notinE hu) (pb_var 3) (pb_var 1)) (psd_cons (psd_app 1 (pd_var 3))
    psd_nil) psd_nil)
    psd_nil)))
    (psd_cons (psd_set 4 nd (PR.pd (pr_callTy cn_list T.m_list boot_list (pab_cons (pb_var 1) pab_nil))))
    (psd_cons (psd_set 5 nd (PR.pd (pr_call ok_in_order (hr.mono (by decide)) (pad_cons (pd_var 4) pad_nil))))
    (psd_cons (psd_if (PDW.pdt (pdw_or (pdt_cmp (od_neE hu) (pb_var 4) (pb_var 1)) (pdw_or (pdt_not (pdt_val (pd_is "list" T.t_list T.m_isinstance T.m_list boot_list (pb_var 5)))) (pdw_or1 (pdt_cmp (od_neE hu) (PD.pb (pd_callB cd_len T.m_len boot_len (pab_cons (pb_var 5) pab_nil))) (PD.pb (pd_callB cd_len T.m_len boot_len (pab_cons (pb_var 1) pab_nil)))))))) (psd_cons (psd_ret (PD.pr pd_bl))
    psd_nil) psd_nil)
    (psd_cons (psd_forZ 6 7 nd rfl PassesOwn.never T.m_zip (pd_var 5) (PR.pd (pr_slA (pb_var 5) (pod_some pd_int) pod_none)) (psd_cons (psd_if (PDW.pdt (pdw_or (pdt_not (pdt_val (PR.pd (pr_call ok__law_fact_less (hr.mono (by decide)) (pad_cons (pd_var 6) (pad_cons (pd_var 7) pad_nil)))))) (pdw_or1 (pdt_not (pdt_val (PR.pd (pr_call ok__law_places_told (hr.mono (by decide)) (pad_cons (pd_var 6) (pad_cons (pd_var 7) pad_nil))))))))) (psd_cons (psd_ret (PD.pr pd_bl))
    psd_nil) psd_nil)
    (psd_cons (psd_if (PDW.pdt (pdw_or (pdt_cmp od_notA (PD.pb (PR.pd (pr_call ok_fact_before (hr.mono (by decide)) (pad_cons (pd_var 6) (pad_cons (pd_var 7) pad_nil))))) (PD.pb pd_bl)) (pdw_or1 (pdt_cmp od_notA (PD.pb (PR.pd (pr_call ok_fact_before (hr.mono (by decide)) (pad_cons (pd_var 7) (pad_cons (pd_var 6) pad_nil))))) (PD.pb pd_bl))))) (psd_cons (psd_ret (PD.pr pd_bl))
    psd_nil) psd_nil)
    psd_nil)))
    (psd_cons (psd_pub 1 (psd_for 3 nd rfl PassesOwn.never (pid_seq (pd_var 1)) (psd_cons (psd_if (PDW.pdt (pdw_or (pdt_cmp (od_notinE hu) (pb_var 3) (pb_var 5)) (pdw_or1 (pdt_cmp od_notA (PD.pb (PR.pd (pr_call ok_fact_before (hr.mono (by decide)) (pad_cons (pd_var 3) (pad_cons (pd_var 3) pad_nil))))) (PD.pb pd_bl))))) (psd_cons (psd_ret (PD.pr pd_bl))
    psd_nil) psd_nil)
    psd_nil)))
    (psd_cons (psd_ret (PD.pr (pd_and (pd_cmp (od_eqO hu) (PD.pb (PR.pd (pr_call ok_in_order (hr.mono (by decide)) (pad_cons (PR.pd (pr_rev (pb_var 1))) pad_nil)))) (pb_var 5)) (pd_one (pd_cmp (od_eqO hu) (PD.pb (PR.pd (pr_call ok_in_order (hr.mono (by decide)) (pad_cons (PR.pd (pr_lst pad_nil)) pad_nil)))) (PD.pb (PR.pd (pr_lst pad_nil))))))))
    psd_nil))))))))
end K02
set_option Elab.async false
set_option linter.all false
set_option maxRecDepth 100000
set_option maxHeartbeats 4000000
namespace K02
open PySem PySem.Spec PyProof.Rows L2
theorem sl_big {n : Nat} (h : n ≤ 1000) : n ≤ sizeLine := by rw [sizeLine_eq]; omega
theorem sl_lt {n : Nat} (h : n ≤ 1000) : n < sizeLine := by rw [sizeLine_eq]; omega
inductive Cn where | i (n : Int) | s (z : Str) deriving DecidableEq
def cD : Cn → D | .i n => .int n | .s z => .str z
def ckD : Cn → D | .i n => .tup [.int 0, .int n] | .s z => .tup [.int 1, .str z]
structure Ft where
  p : Str
  cs : List Cn
  deriving DecidableEq
def fD (f : Ft) : D := .tup [.str f.p, .tup (f.cs.map cD)]
def kD (f : Ft) : D := .tup [.str f.p, .int f.cs.length, .lst (f.cs.map ckD)]
def cLt : Cn → Cn → Bool
  | .i n, .i m => decide (n < m)
  | .i _, .s _ => true
  | .s _, .i _ => false
  | .s x, .s y => sLt x y
def fLt (f g : Ft) : Bool := if f.p = g.p then (if f.cs.length = g.cs.length then lexL cLt f.cs g.cs else decide (f.cs.length < g.cs.length)) else sLt f.p g.p
theorem sto_c : STO cLt where
  irr := fun a => by cases a; exact sto_int.irr _; exact sto_str.irr _
  tr := fun a b c h1 h2 => by
    cases a <;> cases b <;> cases c <;> first | rfl | exact absurd h1 Bool.false_ne_true | exact absurd h2 Bool.false_ne_true | exact sto_int.tr _ _ _ h1 h2 | exact sto_str.tr _ _ _ h1 h2
  tri := fun a b h1 h2 => by
    cases a <;> cases b <;> first | exact absurd h1.symm Bool.false_ne_true | exact absurd h2.symm Bool.false_ne_true | exact congrArg Cn.i (sto_int.tri _ _ h1 h2) | exact congrArg Cn.s (sto_str.tri _ _ h1 h2)
theorem sto_f : STO fLt where
  irr := fun a => by unfold fLt; rw [if_pos rfl, if_pos rfl]; exact sto_c.lex.irr _
  tr := fun a b c h1 h2 => by
    unfold fLt at h1 h2 ⊢
    by_cases e1 : a.p = b.p
    · rw [if_pos e1] at h1
      by_cases e2 : b.p = c.p
      · rw [if_pos e2] at h2
        rw [if_pos (e1.trans e2)]
        by_cases l1 : a.cs.length = b.cs.length
        · rw [if_pos l1] at h1
          by_cases l2 : b.cs.length = c.cs.length
          · rw [if_pos l2] at h2
            rw [if_pos (l1.trans l2)]
            exact sto_c.lex.tr _ _ _ h1 h2
          · rw [if_neg l2] at h2
            rw [if_neg (by omega)]
            rw [l1]; exact h2
        · rw [if_neg l1] at h1
          by_cases l2 : b.cs.length = c.cs.length
          · rw [if_neg (by omega), ← l2]; exact h1
          · rw [if_neg l2] at h2
            simp only [decide_eq_true_eq] at h1 h2
            rw [if_neg (by omega)]
            simp only [decide_eq_true_eq]; omega
      · rw [if_neg e2] at h2
        rw [if_neg (by rw [e1]; exact e2), e1]; exact h2
    · rw [if_neg e1] at h1
      by_cases e2 : b.p = c.p
      · rw [if_neg (by rw [← e2]; exact e1), ← e2]; exact h1
      · rw [if_neg e2] at h2
        have h3 := sto_str.tr _ _ _ h1 h2
        rw [if_neg (fun e => by rw [e, sto_str.irr] at h3; cases h3)]
        exact h3
  tri := fun a b h1 h2 => by
    unfold fLt at h1 h2
    by_cases e1 : a.p = b.p
    · rw [if_pos e1] at h1
      rw [if_pos e1.symm] at h2
      by_cases l1 : a.cs.length = b.cs.length
      · rw [if_pos l1] at h1
        rw [if_pos l1.symm] at h2
        have e2 := sto_c.lex.tri _ _ h1 h2
        cases a; cases b
        cases e1; cases e2; rfl
      · rw [if_neg l1] at h1
        rw [if_neg (fun z => l1 z.symm)] at h2
        simp only [decide_eq_false_iff_not] at h1 h2
        omega
    · rw [if_neg e1] at h1
      rw [if_neg (fun z => e1 z.symm)] at h2
      exact absurd (sto_str.tri _ _ h1 h2) e1
theorem eq_int {a b : Int} : eqA (.int a) (.int b) = decide (a = b) := by
  rw [eqA_flat rfl rfl]; simp [toV, eqV, Bool.beq_eq_decide_eq]
theorem eq_str {a b : Str} : eqA (.str a) (.str b) = decide (a = b) := by
  rw [eqA_flat rfl rfl]; simp [toV, eqV, Bool.beq_eq_decide_eq]
theorem eq_is {a : Int} {b : Str} : eqA (.int a) (.str b) = false := by
  rw [eqA_flat rfl rfl]; simp [toV, eqV]
theorem eq_si {a : Int} {b : Str} : eqA (.str b) (.int a) = false := by
  rw [eqA_flat rfl rfl]; simp [toV, eqV]
theorem eq_c (a b : Cn) : eqA (cD a) (cD b) = decide (a = b) := by
  cases a <;> cases b <;> simp [cD, eq_int, eq_str, eq_is, eq_si]
theorem eq_cs : ∀ (a b : List Cn), eqAs (a.map cD) (b.map cD) = decide (a = b)
  | [], [] => by simp [eqAs]
  | [], _ :: _ => by simp [eqAs]
  | _ :: _, [] => by simp [eqAs]
  | a :: as, b :: bs => by
    simp only [List.map_cons, eqAs, eq_c, eq_cs as bs]
    by_cases e : a = b <;> simp [e]
theorem eq_f (a b : Ft) : eqA (fD a) (fD b) = decide (a = b) := by
  unfold fD
  simp only [eqA, eqAs]
  rw [show (if flatD (D.str b.p) = true then eqV (V.str a.p) (toV (D.str b.p)) else false) = eqA (.str a.p) (.str b.p) by simp only [eqA], eq_str, eq_cs]
  cases a; cases b
  simp [Bool.decide_and]
theorem eq_ck (a b : Cn) : eqA (ckD a) (ckD b) = decide (a = b) := by
  cases a with
  | i n =>
    cases b with
    | i m => simp only [ckD, eqA, eqAs]; simp [eqV, toV, flatD, Bool.beq_eq_decide_eq]
    | s m => simp only [ckD, eqA, eqAs]; simp [eqV, toV, flatD, Bool.beq_eq_decide_eq]
  | s n =>
    cases b with
    | i m => simp only [ckD, eqA, eqAs]; simp [eqV, toV, flatD, Bool.beq_eq_decide_eq]
    | s m => simp only [ckD, eqA, eqAs]; simp [eqV, toV, flatD, Bool.beq_eq_decide_eq]
theorem eq_cks : ∀ (a b : List Cn), eqAs (a.map ckD) (b.map ckD) = decide (a = b)
  | [], [] => by simp [eqAs]
  | [], _ :: _ => by simp [eqAs]
  | _ :: _, [] => by simp [eqAs]
  | a :: as, b :: bs => by
    simp only [List.map_cons, eqAs, eq_ck, eq_cks as bs]
    by_cases e : a = b <;> simp [e]
theorem lt_ck (a b : Cn) : ltA (ckD a) (ckD b) = some (cLt a b) := by
  cases a with
  | i n =>
    cases b with
    | i m =>
      simp only [ckD, ltA, ltAs, eq_int, cLt]
      by_cases e : n = m <;> simp [e]
    | s m => simp only [ckD, ltA, ltAs, eq_int, cLt]; simp
  | s n =>
    cases b with
    | i m => simp only [ckD, ltA, ltAs, eq_int, cLt]; simp
    | s m =>
      simp only [ckD, ltA, ltAs, eq_int, eq_str, cLt]
      by_cases e : n = m
      · subst e; simp [sto_str.irr]
      · simp [e, sLt]
theorem lt_cks : ∀ (a b : List Cn), ltAs (a.map ckD) (b.map ckD) = some (lexL cLt a b)
  | [], [] => by simp [ltAs, lexL]
  | [], _ :: _ => by simp [ltAs, lexL]
  | _ :: _, [] => by simp [ltAs, lexL]
  | a :: as, b :: bs => by
    simp only [List.map_cons, ltAs, eq_ck, lt_ck, lt_cks as bs, lexL_cc]
    by_cases e : a = b <;> simp [e]
theorem lt_k (f g : Ft) : ltA (kD f) (kD g) = some (fLt f g) := by
  unfold kD fLt
  simp only [ltA, ltAs, eq_str, eq_int]
  by_cases e : f.p = g.p
  · rw [if_pos (by simp [e]), if_pos e]
    by_cases l : f.cs.length = g.cs.length
    · rw [if_pos (by simp [l]), if_pos l]
      rw [show eqA (D.lst (f.cs.map ckD)) (D.lst (g.cs.map ckD)) = eqAs (f.cs.map ckD) (g.cs.map ckD) by simp only [eqA], eq_cks, lt_cks]
      by_cases c : f.cs = g.cs
      · rw [if_pos (by simp [c]), c, sto_c.lex.irr]; simp
      · rw [if_neg (by simp [c])]
    · rw [if_neg (by simp; omega), if_neg l]
      simp
  · rw [if_neg (by simp [e]), if_neg e]
    rfl
theorem e_ck (c : Cn) : M_constant_key [cD c] = some (.sh (ckD c)) := by
  refine Op.eq ?_
  unfold M_constant_key fb_constant_key
  cases c with
  | i n => simp only [cD, ckD]; walk_at "wrun"; walk_at "wp"; exact ⟨sl_big (by simp), rfl⟩
  | s z => simp only [cD, ckD]; walk_at "wrun"; walk_at "wp"; exact ⟨sl_big (by simp), rfl⟩
theorem e_fk (f : Ft) (h : f.cs.length ≤ 1000) : M_fact_key [fD f] = some (.sh (kD f)) := by
  refine Op.eq ?_
  unfold M_fact_key fb_fact_key fD
  walk_at "wrun"; walk_at "wp"
  refine o_ixT (k := 0) rfl ?_
  walk_at "wp"
  refine o_ixT (k := 1) rfl ?_
  walk_at "wp"
  refine o_ixT (k := 1) rfl ?_
  walk_at "wp"
  refine ⟨by rw [List.length_map]; exact sl_big h, op_compY (hh := ckD) (fun c _ => ?_) ?_⟩
  · walk_at "wp"
    refine op_of (e_ck c) ?_
    walk_at "wp"
    rfl
  · walk_at "wp"
    refine ⟨sl_big (by simp), ?_⟩
    simp only [kD, List.length_map]
theorem e_before (f g : Ft) (hf : f.cs.length ≤ 1000) (hg : g.cs.length ≤ 1000) (pf : plainN 8 (kD f) = true) (pg : plainN 8 (kD g) = true) : M_fact_before [fD f, fD g] = some (.sh (.bl (fLt f g))) := by
  refine Op.eq ?_
  unfold M_fact_before fb_fact_before
  walk_at "wrun"; walk_at "wp"
  refine op_of (e_fk f hf) ?_
  walk_at "wp"
  refine op_of (e_fk g hg) ?_
  walk_at "wp"
  refine op_of (d := .bl (fLt f g)) ?_ rfl
  unfold ltE
  rw [if_pos ⟨pf, pg⟩, lt_k]
  rfl
theorem pl_ck (c : Cn) : plainN 6 (ckD c) = true := by cases c <;> rfl
theorem pl_k (f : Ft) : plainN 8 (kD f) = true := by
  show ([D.str f.p, .int f.cs.length, .lst (f.cs.map ckD)].all (plainN 7)) = true
  simp only [List.all_cons, List.all_nil, Bool.and_true, Bool.and_eq_true]
  refine ⟨rfl, rfl, ?_⟩
  show (f.cs.map ckD).all (plainN 6) = true
  rw [List.all_map]
  exact List.all_eq_true.mpr fun c _ => pl_ck c
theorem pl_c (n : Nat) (c : Cn) : plainN n (cD c) = true := by cases c <;> cases n <;> rfl
theorem pl_f (n : Nat) (f : Ft) : plainN (n + 2) (fD f) = true := by
  show ([D.str f.p, .tup (f.cs.map cD)].all (plainN (n + 1))) = true
  simp only [List.all_cons, List.all_nil, Bool.and_true, Bool.and_eq_true]
  refine ⟨by cases n <;> rfl, ?_⟩
  show (f.cs.map cD).all (plainN n) = true
  rw [List.all_map]
  exact List.all_eq_true.mpr fun c _ => pl_c n c
theorem pl_fs (fs : List Ft) : (fs.map fD).all (plainN 8) = true := by
  rw [List.all_map]
  exact List.all_eq_true.mpr fun f _ => pl_f 6 f
abbrev Sm (f : Ft) : Prop := f.cs.length ≤ 4
theorem e_order (fs : List Ft) (h : ∀ f ∈ fs, Sm f) (hn : fs.length < 64) : ∃ gs : List Ft, M_in_order [.lst (fs.map fD)] = some (.fr (.lst (gs.map fD))) ∧ gs.Perm fs ∧ gs.Pairwise fun a b => fLt b a = false := by
  obtain ⟨gs, e, p, o⟩ := sortK_spec (emb := fD) (key := kD) sto_f (M := M_fact_key) (fs := fs) (fun f hf => ⟨_, e_fk f (Nat.le_trans (h f hf) (by decide)), rfl⟩) (fun f _ g _ => lt_k f g) (.inl fun f _ => rfl) (fun f _ => pl_k f) hn
  refine ⟨gs, Op.eq ?_, p, o⟩
  unfold M_in_order fb_in_order
  walk_at "wrun"; walk_at "wp"
  refine op_of (d := .fr (.lst (gs.map fD))) ?_ rfl
  show (some (D.lst (fs.map fD))).bind _ = _
  rw [Option.bind_some]
  dsimp only
  rw [e]
  rfl
theorem o_neB {x y : Bool} {R : D → Prop} (k : R (.bl (!(x == y)))) : Op (neE (.bl x) (.bl y)) R := by
  refine op_of ?_ k
  cases x <;> cases y <;> rfl
theorem o_ltI {i j : Int} {R : D → Prop} (k : R (.bl (decide (i < j)))) : Op (ltE (.int i) (.int j)) R := op_of (by simp [ltE, plainN, ltA]) k
theorem o_ltS {i j : Str} {R : D → Prop} (k : R (.bl (sLt i j))) : Op (ltE (.str i) (.str j)) R := op_of (by simp [ltE, plainN, ltA, sLt]) k
theorem o_neS {i j : Str} {R : D → Prop} (k : R (.bl (!decide (i = j)))) : Op (neE (.str i) (.str j)) R := by
  refine o_neE (op_of ?_ k)
  show some (D.bl (!decide (V.str i = V.str j))) = _
  congr 3
  exact decide_eq_decide.mpr ⟨V.str.inj, fun e => e ▸ rfl⟩
theorem o_neC {a b : Cn} {R : D → Prop} (k : R (.bl (!decide (a = b)))) : Op (neE (cD a) (cD b)) R := by
  cases a with
  | i n => cases b with
    | i m => refine o_neEI ?_; simpa using k
    | s m => refine o_neE (op_of (d := .bl true) ?_ (by simpa using k)); rfl
  | s n => cases b with
    | i m => refine o_neE (op_of (d := .bl true) ?_ (by simpa using k)); rfl
    | s m => refine o_neS ?_; simpa using k
theorem e_cless (a b : Cn) : M__law_constant_less [cD a, cD b] = some (.sh (.bl (cLt a b))) := by
  refine Op.eq ?_
  unfold M__law_constant_less fb__law_constant_less
  cases a with
  | i n => cases b with
    | i m => simp only [cD]; walk_at "wrun"; walk_at "wp"; refine o_neB ?_; walk_at "wp"; refine o_ltI ?_; rfl
    | s m => simp only [cD]; walk_at "wrun"; walk_at "wp"; refine o_neB ?_; walk_at "wp"; rfl
  | s n => cases b with
    | i m => simp only [cD]; walk_at "wrun"; walk_at "wp"; refine o_neB ?_; walk_at "wp"; rfl
    | s m => simp only [cD]; walk_at "wrun"; walk_at "wp"; refine o_neB ?_; walk_at "wp"; refine o_ltS ?_; rfl
theorem e_cbefore (a b : Cn) : M_constant_before [cD a, cD b] = some (.sh (.bl (cLt a b))) := by
  refine Op.eq ?_
  unfold M_constant_before fb_constant_before
  walk_at "wrun"; walk_at "wp"
  refine op_of (e_ck a) ?_
  walk_at "wp"
  refine op_of (e_ck b) ?_
  walk_at "wp"
  refine op_of (d := .bl (cLt a b)) ?_ rfl
  unfold ltE
  rw [if_pos ⟨by cases a <;> rfl, by cases b <;> rfl⟩, lt_ck]
  rfl
end K02
set_option Elab.async false
set_option linter.all false
set_option maxRecDepth 100000
set_option maxHeartbeats 4000000
namespace K02
open PySem PySem.Spec PyProof.Rows L2
theorem e_fless (f g : Ft) (hf : Sm f) (hg : Sm g) : M__law_fact_less [fD f, fD g] = some (.sh (.bl (fLt f g))) := by
  refine Op.eq ?_
  unfold M__law_fact_less fb__law_fact_less fD
  walk_at "wrun"; walk_at "wp"
  refine o_ixT (k := 0) rfl ?_
  walk_at "wp"
  refine o_ixT (k := 0) rfl ?_
  refine o_neS ?_
  unfold fLt
  by_cases e : f.p = g.p
  · rw [show (!decide (f.p = g.p)) = false by simp [e], if_pos e]
    walk_at "wp"
    refine o_ixT (k := 1) rfl ?_
    walk_at "wp"
    refine o_ixT (k := 1) rfl ?_
    walk_at "wp"
    simp only [List.length_map]
    by_cases l : f.cs.length = g.cs.length
    · rw [show (!decide ((f.cs.length : Int) = g.cs.length)) = false by simp [l], if_pos l]
      walk_at "wp"
      refine o_ixT (k := 1) rfl ?_
      walk_at "wp"
      refine o_ixT (k := 1) rfl ?_
      walk_at "wp"
      refine so_forL2 (fun k δ => ∃ x y, δ = [some (.sh (.tup [.str f.p, .tup (f.cs.map cD)])), some (.sh (.tup [.str g.p, .tup (g.cs.map cD)])), x, y] ∧ lexL cLt (f.cs.drop k) (g.cs.drop k) = lexL cLt f.cs g.cs) ⟨_, _, rfl, rfl⟩ ?_ ?_
      · rintro k ⟨a, b⟩ hk δ ⟨x, y, rfl, hl⟩
        have hk1 : k < f.cs.length := by have := (List.getElem?_eq_some_iff.mp hk).1; simp at this; omega
        have hk2 : k < g.cs.length := by omega
        have e0 : (a, b) = (cD f.cs[k], cD g.cs[k]) := by
          have := (List.getElem?_eq_some_iff.mp hk).2
          rw [← this]; simp
        cases e0
        rw [List.drop_eq_getElem_cons hk1, List.drop_eq_getElem_cons hk2, lexL_cc] at hl
        dsimp only [List.set]
        walk_at "wp"
        refine o_neC ?_
        by_cases c : f.cs[k] = g.cs[k]
        · rw [show (!decide (f.cs[k] = g.cs[k])) = false by simp [c]]
          rw [if_pos c] at hl
          walk_at "wp"
          exact ⟨_, _, rfl, hl⟩
        · rw [show (!decide (f.cs[k] = g.cs[k])) = true by simp [c]]
          rw [if_neg c] at hl
          walk_at "wp"
          refine op_of (e_cless _ _) ?_
          rw [hl]
      · rintro δ ⟨x, y, rfl, hl⟩
        walk_at "wp"
        have : (List.zip (f.cs.map cD) (g.cs.map cD)).length = f.cs.length := by simp; omega
        rw [this, List.drop_of_length_le (Nat.le_refl _), List.drop_of_length_le (by omega)] at hl
        rw [← hl]
        rfl
    · rw [show (!decide ((f.cs.length : Int) = g.cs.length)) = true by simp; omega, if_neg l]
      walk_at "wp"
      refine o_ixT (k := 1) rfl ?_
      walk_at "wp"
      refine o_ixT (k := 1) rfl ?_
      walk_at "wp"
      refine o_ltI ?_
      simp only [List.length_map]
      simp
  · rw [show (!decide (f.p = g.p)) = true by simp [e], if_neg e]
    walk_at "wp"
    refine o_ixT (k := 0) rfl ?_
    walk_at "wp"
    refine o_ixT (k := 0) rfl ?_
    exact o_ltS rfl
theorem o_notT {x : Bool} {R : D → Prop} (k : R (.bl (!x))) : Op (notA (.bl x) (.bl true)) R := by
  refine op_of ?_ k
  cases x <;> rfl
theorem o_notF {x : Bool} {R : D → Prop} (k : R (.bl x)) : Op (notA (.bl x) (.bl false)) R := by
  refine op_of ?_ k
  cases x <;> rfl
theorem e_places (f g : Ft) : M__law_places_told [fD f, fD g] = some (.sh (.bl true)) := by
  refine Op.eq ?_
  unfold M__law_places_told fb__law_places_told fD
  walk_at "wrun"; walk_at "wp"
  refine o_ixT (k := 1) rfl ?_
  walk_at "wp"
  refine so_forL (fun k δ => ∃ x y z, δ = [some (.sh (.tup [.str f.p, .tup (f.cs.map cD)])), some (.sh (.tup [.str g.p, .tup (g.cs.map cD)])), x, y, z]) ⟨_, _, _, rfl⟩ ?_ ?_
  · rintro k a hk δ ⟨x, y, z, rfl⟩
    obtain ⟨a, ha, rfl⟩ := List.mem_map.mp (List.mem_of_getElem? hk)
    dsimp only [List.set]
    walk_at "wp"
    refine o_ixT (k := 1) rfl ?_
    walk_at "wp"
    refine so_forL (fun k δ => ∃ y z, δ = [some (.sh (.tup [.str f.p, .tup (f.cs.map cD)])), some (.sh (.tup [.str g.p, .tup (g.cs.map cD)])), some (.sh (cD a)), y, z]) ⟨_, _, rfl⟩ ?_ ?_
    · rintro k b hk δ ⟨y, z, rfl⟩
      obtain ⟨b, hb, rfl⟩ := List.mem_map.mp (List.mem_of_getElem? hk)
      dsimp only [List.set]
      walk_at "wp"
      refine op_of (e_cbefore a b) ?_
      walk_at "wp"
      refine op_of (e_cless a b) ?_
      walk_at "wp"
      refine o_neB ?_
      simp only [beq_self_eq_true, Bool.not_true]
      walk_at "wp"
      exact ⟨_, _, rfl⟩
    · rintro δ ⟨y, z, rfl⟩
      walk_at "wp"
      exact ⟨_, _, _, rfl⟩
  · rintro δ ⟨x, y, z, rfl⟩
    walk_at "wp"
    rfl
theorem add_lst {a b : List D} (h : a.length + b.length ≤ sizeLine) : addD (.lst a) (.lst b) = some (.lst (a ++ b)) := by simp [addD, iAdd, sAdd, tupAdd, lAdd, h]
theorem add_tup {a b : List D} (h : a.length + b.length ≤ sizeLine) : addD (.tup a) (.tup b) = some (.tup (a ++ b)) := by simp [addD, iAdd, sAdd, tupAdd, lAdd, h]
theorem e_const (n : Int) : Op (M__law_constant [.int n]) fun r => ∃ c, r = .sh (cD c) := by
  unfold M__law_constant fb__law_constant
  walk_at "wrun"; walk_at "wp"
  refine ⟨sl_big (by simp), ?_⟩
  walk_at "wp"
  refine ⟨sl_big (by simp), ?_⟩
  walk_at "wp"
  refine op_of (add_lst (sl_big (by simp))) ?_
  walk_at "wp"
  · refine o_ixLm (Int.emod_nonneg _ (by decide)) (by have := Int.emod_lt_of_pos n (show (0 : Int) < 13 by decide); simpa using this) fun x hx => ?_
    simp only [List.mem_append, List.mem_cons, List.not_mem_nil, or_false] at hx
    rcases hx with (rfl | rfl | rfl | rfl | rfl) | rfl | rfl | rfl | rfl | rfl | rfl | rfl | rfl
    · exact ⟨.s "a", rfl⟩
    · exact ⟨.s "b", rfl⟩
    · exact ⟨.s "aa", rfl⟩
    · exact ⟨.s "ab", rfl⟩
    · exact ⟨.s "z", rfl⟩
    · exact ⟨.i 0, rfl⟩
    · exact ⟨.i 1, rfl⟩
    · exact ⟨.i 2, rfl⟩
    · exact ⟨.i 10, rfl⟩
    · exact ⟨.i (-1), rfl⟩
    · exact ⟨.i (-10), rfl⟩
    · exact ⟨.i _, rfl⟩
    · exact ⟨.i _, rfl⟩
theorem e_fact (n : Int) : Op (M__law_fact [.int n]) fun r => ∃ f, r = .sh (fD f) ∧ Sm f := by
  unfold M__law_fact fb__law_fact
  walk_at "wrun"; walk_at "wp"
  refine ⟨sl_big (by simp), ?_⟩
  walk_at "wp"
  refine o_ixLm (Int.emod_nonneg _ (by decide)) (by have := Int.emod_lt_of_pos n (show (0 : Int) < 3 by decide); simpa using this) fun x hx => ?_
  obtain ⟨p, rfl⟩ : ∃ p : Str, x = .str p := by
    simp only [List.mem_cons, List.not_mem_nil, or_false] at hx
    rcases hx with rfl | rfl | rfl <;> exact ⟨_, rfl⟩
  walk_at "wp"
  obtain ⟨m, em⟩ : ∃ m : Nat, n / 3 % 5 = (m : Int) := ⟨(n / 3 % 5).toNat, by have := Int.emod_nonneg (n / 3) (show (5 : Int) ≠ 0 by decide); omega⟩
  have hm : m ≤ 4 := by have := Int.emod_lt_of_pos (n / 3) (show (0 : Int) < 5 by decide); omega
  refine ⟨sl_big (by simp), ?_⟩
  walk_at "wp"
  refine ⟨by omega, ?_⟩
  have hl : (rngD 0 (n / 3 % 5).toNat).length = m := by simp [rngD, em]
  refine so_forL (fun k δ => ∃ c x, ∃ cs : List Cn, δ = [some (.sh (.int c)), some (.sh (.str p)), some (.sh (.int (n / 3 % 5))), some (.sh (.tup (cs.map cD))), x] ∧ cs.length = k) ⟨_, _, [], rfl, rfl⟩ ?_ ?_
  · rintro k a hk δ ⟨c, x, cs, rfl, hcs⟩
    have hk1 : k < m := by rw [← hl]; exact (List.getElem?_eq_some_iff.mp hk).1
    have ha : a = .int (0 + (k : Int)) := by
      have := (List.getElem?_eq_some_iff.mp hk).2
      rw [← this]; simp [rngD]
    subst ha
    dsimp only [List.set]
    walk_at "wp"
    obtain ⟨r, er, d, rfl⟩ := e_const c
    refine op_of er ?_
    walk_at "wp"
    refine ⟨sl_big (by simp), ?_⟩
    refine op_of (d := .tup ((cs ++ [d]).map cD)) ?_ ?_
    · rw [add_tup (sl_big (by simp; omega))]
      simp
    · walk_at "wp"
      refine ⟨sl_big (by simp), ?_⟩
      walk_at "wp"
      refine o_ixLm (Int.emod_nonneg _ (by decide)) (by have := Int.emod_lt_of_pos (0 + (k : Int)) (show (0 : Int) < 2 by decide); simpa using this) fun y hy => ?_
      simp only [List.mem_cons, List.not_mem_nil, or_false] at hy
      rcases hy with rfl | rfl
      · walk_at "wp"
        exact ⟨_, _, cs ++ [d], rfl, by simp [hcs]⟩
      · walk_at "wp"
        exact ⟨_, _, cs ++ [d], rfl, by simp [hcs]⟩
  · rintro δ ⟨c, x, cs, rfl, hcs⟩
    walk_at "wp"
    refine ⟨sl_big (by simp), ⟨p, cs⟩, rfl, ?_⟩
    show cs.length ≤ 4
    omega
theorem inA_f {f : Ft} {fs : List Ft} : inA (fD f) (fs.map fD) = decide (f ∈ fs) := by
  unfold inA
  rw [List.any_map]
  rw [Bool.eq_iff_iff, List.any_eq_true, decide_eq_true_iff]
  constructor
  · rintro ⟨g, hg, e⟩
    have e : eqA (fD g) (fD f) = true := e
    rw [eq_f, decide_eq_true_iff] at e
    rw [← e]; exact hg
  · intro h
    exact ⟨f, h, by show eqA (fD f) (fD f) = true; rw [eq_f]; simp⟩
theorem o_notin {f : Ft} {fs : List Ft} {R : D → Prop} (k : R (.bl (!decide (f ∈ fs)))) : Op (inE true (fD f) (.lst (fs.map fD))) R := by
  refine op_of ?_ k
  show (inAD true (fD f) (.lst (fs.map fD))).or _ = _
  unfold inAD
  dsimp only
  rw [if_pos ⟨pl_f 6 f, pl_fs fs⟩, inA_f]
  rfl
theorem eq_fs : ∀ (a b : List Ft), eqAs (a.map fD) (b.map fD) = decide (a = b)
  | [], [] => by simp [eqAs]
  | [], _ :: _ => by simp [eqAs]
  | _ :: _, [] => by simp [eqAs]
  | a :: as, b :: bs => by
    simp only [List.map_cons, eqAs, eq_f, eq_fs as bs]
    by_cases e : a = b <;> simp [e]
theorem o_neL {a b : List Ft} {R : D → Prop} (k : R (.bl (!decide (a = b)))) : Op (neE (.lst (a.map fD)) (.lst (b.map fD))) R := by
  refine o_neE (op_of ?_ k)
  show (eqSeq true (.lst (a.map fD)) (.lst (b.map fD))).or _ = _
  unfold eqSeq
  dsimp only
  rw [if_pos ⟨pl_fs a, pl_fs b⟩, eq_fs]
  rfl
theorem o_eqL {a b : List Ft} {R : D → Prop} (k : R (.bl (decide (a = b)))) : Op (eqO false (.lst (a.map fD)) (.lst (b.map fD))) R := by
  refine op_of ?_ k
  show (eqSeq false (.lst (a.map fD)) (.lst (b.map fD))).or _ = _
  unfold eqSeq
  dsimp only
  rw [if_pos ⟨pl_fs a, pl_fs b⟩, eq_fs]
  rfl
end K02
set_option Elab.async false
set_option linter.all false
set_option maxRecDepth 100000
set_option maxHeartbeats 4000000
namespace K02
open PySem PySem.Spec PyProof.Rows L2
theorem cut20 (xs : List D) : cutD xs none (some 20) = xs.take 20 := by
  unfold L2.cutD HT.sIx
  simp
theorem cut1 (xs : List D) : cutD xs (some 1) none = xs.drop 1 := by
  unfold L2.cutD HT.sIx
  simp
  by_cases h : xs.length = 0
  · rw [List.eq_nil_of_length_eq_zero h]; rfl
  · rw [show min 1 xs.length = 1 by omega]
    rw [List.take_of_length_le (by simp)]
    simp
theorem op_rev {ds : List D} {f : FE} {δ : En} {R : Rs → Prop} (e : f δ = some (.lst ds)) (k : R (.fr (.lst ds.reverse))) : Op (fRev f δ) R := op_of (by unfold fRev; rw [e]; rfl) k
theorem law_true (ns : List Int) (h : ns.length ≤ 63) : M_law [.lst (ns.map D.int)] = some (.sh (.bl true)) := by
  refine Op.eq ?_
  unfold M_law fb_law
  walk_at "wrun"
  walk_at "wp"
  refine ⟨sl_big (by simp), ?_⟩
  walk_at "wp"
  rw [cut20]
  refine so_forL (fun k δ => ∃ x y, ∃ fs : List Ft, δ = [some (.sh (.lst (ns.map D.int))), some (.pv (.lst (fs.map fD)) none), x, y, none, none, none, none] ∧ (∀ f ∈ fs, Sm f) ∧ fs.length ≤ k ∧ fs.Nodup) ⟨_, _, [], rfl, by simp, by simp, List.nodup_nil⟩ ?_ ?_
  · rintro k a hk δ ⟨x, y, fs, rfl, hs, hl, hd⟩
    have hk20 : k < 20 := by have := (List.getElem?_eq_some_iff.mp hk).1; simp at this; omega
    obtain ⟨n, _, rfl⟩ := List.mem_map.mp (List.mem_of_mem_take (List.mem_of_getElem? hk))
    dsimp only [List.set]
    walk_at "wp"
    obtain ⟨r, er, f, rfl, hf⟩ := e_fact n
    refine op_of er ?_
    walk_at "wp"
    refine o_notin ?_
    by_cases c : f ∈ fs
    · rw [show (!decide (f ∈ fs)) = false by simp [c]]
      walk_at "wp"
      exact ⟨_, _, fs, rfl, hs, by omega, hd⟩
    · rw [show (!decide (f ∈ fs)) = true by simp [c]]
      walk_at "wp"
      refine ⟨sl_lt (by simp; omega), ?_⟩
      walk_at "wp"
      refine ⟨_, _, fs ++ [f], by rw [List.map_append]; rfl, fun g hg => ?_, by simp; omega, ?_⟩
      · rcases List.mem_append.mp hg with hg | hg
        · exact hs g hg
        · rw [List.mem_singleton.mp hg]; exact hf
      · rw [List.nodup_append]
        exact ⟨hd, by simp, fun a ha b hb => by rw [List.mem_singleton.mp hb]; exact fun e => c (e ▸ ha)⟩
  · rintro δ ⟨x, y, fs, rfl, hs, hl, hd⟩
    have hl20 : fs.length ≤ 20 := by
      have : ((ns.map D.int).take 20).length ≤ 20 := by simp; omega
      omega
    walk_at "wp"
    refine op_of (d := .lst (fs.map fD)) rfl ?_
    walk_at "wp"
    obtain ⟨gs, eg, pg, og⟩ := e_order fs hs (by omega)
    have hgs : ∀ f ∈ gs, Sm f := fun f hf => hs f (pg.mem_iff.mp hf)
    have hgl : gs.length = fs.length := pg.length_eq
    refine op_of eg ?_
    walk_at "wp"
    refine o_neL ?_
    rw [show (!decide (fs = fs)) = false by simp]
    walk_at "wp"
    rw [show (!decide (((gs.map fD).length : Int) = (fs.map fD).length)) = false by simp [hgl]]
    walk_at "wp"
    rw [cut1]
    -- the loop over neighbours
    refine so_forL2 (fun k δ => ∃ x y z w, δ = [some (.sh (.lst (ns.map D.int))), some (.pv (.lst (fs.map fD)) none), x, y, some (.sh (.lst (fs.map fD))), some (.sh (.lst (gs.map fD))), z, w]) ⟨_, _, _, _, rfl⟩ ?_ ?_
    · rintro k ⟨a, b⟩ hk δ ⟨x, y, z, w, rfl⟩
      have hlt := (List.getElem?_eq_some_iff.mp hk).1
      have hk1 : k + 1 < gs.length := by simp at hlt; omega
      have e0 : (a, b) = (fD gs[k], fD gs[k + 1]) := by
        have := (List.getElem?_eq_some_iff.mp hk).2
        rw [← this]
        simp [Nat.add_comm]
      cases e0
      have hnd : gs.Nodup := pg.nodup_iff.mpr hd
      have hlt1 : fLt gs[k] gs[k + 1] = true := by
        have h1 := (List.pairwise_iff_getElem.mp og) k (k + 1) (by omega) hk1 (by omega)
        refine sto_f.ne h1 fun e => ?_
        have := (List.pairwise_iff_getElem.mp hnd) k (k + 1) (by omega) hk1 (by omega)
        exact this e.symm
      have s1 : Sm gs[k] := hgs _ (List.getElem_mem _)
      have s2 : Sm gs[k + 1] := hgs _ (List.getElem_mem _)
      dsimp only [List.set]
      walk_at "wp"
      refine op_of (e_fless _ _ s1 s2) ?_
      rw [hlt1]
      walk_at "wp"
      refine op_of (e_places _ _) ?_
      walk_at "wp"
      refine op_of (e_before _ _ (Nat.le_trans s1 (by decide)) (Nat.le_trans s2 (by decide)) (pl_k _) (pl_k _)) ?_
      rw [hlt1]
      walk_at "wp"
      refine o_notT ?_
      walk_at "wp"
      refine op_of (e_before _ _ (Nat.le_trans s2 (by decide)) (Nat.le_trans s1 (by decide)) (pl_k _) (pl_k _)) ?_
      rw [sto_f.asy hlt1]
      walk_at "wp"
      refine o_notF ?_
      walk_at "wp"
      exact ⟨_, _, _, _, rfl⟩
    · rintro δ ⟨x, y, z, w, rfl⟩
      refine so_seq ?_
      refine so_pub (m := .lst (fs.map fD)) (o := none) rfl ?_
      dsimp only [List.set, Mo.d]
      walk_at "wp"
      refine so_forL (fun k δ => ∃ x y z w, δ = [some (.sh (.lst (ns.map D.int))), some (.sh (.lst (fs.map fD))), x, y, some (.sh (.lst (fs.map fD))), some (.sh (.lst (gs.map fD))), z, w]) ⟨_, _, _, _, rfl⟩ ?_ ?_
      · rintro k a hk δ ⟨x, y, z, w, rfl⟩
        obtain ⟨f, hf, rfl⟩ := List.mem_map.mp (List.mem_of_getElem? hk)
        dsimp only [List.set]
        walk_at "wp"
        refine o_notin ?_
        rw [show (!decide (f ∈ gs)) = false by simp [pg.mem_iff.mpr hf]]
        walk_at "wp"
        have s1 : Sm f := hs f hf
        refine op_of (e_before _ _ (Nat.le_trans s1 (by decide)) (Nat.le_trans s1 (by decide)) (pl_k _) (pl_k _)) ?_
        rw [sto_f.irr]
        walk_at "wp"
        refine o_notF ?_
        walk_at "wp"
        exact ⟨_, _, _, _, rfl⟩
      · rintro δ ⟨x, y, z, w, rfl⟩
        walk_at "wp"
        refine op_rev (ds := fs.map fD) rfl ?_
        rw [← List.map_reverse]
        walk_at "wp"
        obtain ⟨hs', eh, ph, oh⟩ := e_order fs.reverse (fun f hf => hs f (by simpa using hf)) (by simp; omega)
        have : hs' = gs := sorted_unique sto_f (ph.trans ((List.reverse_perm fs).trans pg.symm)) oh og
        subst this
        refine op_of eh ?_
        walk_at "wp"
        refine o_eqL ?_
        rw [show decide (hs' = hs') = true by simp]
        walk_at "wp"
        refine ⟨sl_big (by simp), ?_⟩
        walk_at "wp"
        obtain ⟨ts, et, pt, ot⟩ := e_order [] (by simp) (by decide)
        rw [pt.eq_nil] at et
        refine op_of et ?_
        walk_at "wp"
        refine ⟨sl_big (by simp), ?_⟩
        walk_at "wp"
        refine o_eqL (a := []) (b := []) ?_
        rfl
end K02
set_option Elab.async false
set_option linter.all false
set_option maxRecDepth 100000
set_option maxHeartbeats 4000000
namespace K02
open PySem PySem.Spec PyProof.Rows L2
theorem all_ok {P : Program} {w : World} {K : PySem.W.Frag} {mg : Str → Option Value} {base : Heap} (T : Txt K mg) {f : Addr} {fd : FuncData} (F : Fun K "law" "law" (top 13) f fd) : FnOk P w K mg base CX0 5 f fd ["_law_script"] (spD K M_law) := by
  have ok_constant_key := mk_constant_key (P := P) (w := w) (base := base) T 
  have ok_fact_key := mk_fact_key (P := P) (w := w) (base := base) T ok_constant_key
  have ok_constant_before := mk_constant_before (P := P) (w := w) (base := base) T ok_constant_key
  have ok_fact_before := mk_fact_before (P := P) (w := w) (base := base) T ok_fact_key
  have ok_in_order := mk_in_order (P := P) (w := w) (base := base) T ok_fact_key
  have ok__law_cell := mk__law_cell (P := P) (w := w) (base := base) T 
  have ok__law_constant := mk__law_constant (P := P) (w := w) (base := base) T 
  have ok__law_fact := mk__law_fact (P := P) (w := w) (base := base) T ok__law_constant
  have ok__law_constant_less := mk__law_constant_less (P := P) (w := w) (base := base) T 
  have ok__law_fact_less := mk__law_fact_less (P := P) (w := w) (base := base) T ok__law_constant_less
  have ok__law_places_told := mk__law_places_told (P := P) (w := w) (base := base) T ok__law_constant_less ok_constant_before
  exact mk_law T F ok__law_fact ok__law_fact_less ok__law_places_told ok_fact_before ok_in_order
theorem walk {l : PySem.W.OpenLaw} {q : Program} {loose : List Str} {XP : (Str → Option Value) → Heap → Prop} {YP : World → Heap → Prop} {d : DefRec} {K : Params → PySem.W.Frag} (hn : l.most = some 63) (hdf : d.params.defaults = []) (hnm : d.name = "law")
    (hY : ∀ (w : World) (h : Heap), YP w h → (K w.params).In h)
    (F : ∀ (w : World) (mg : Str → Option Value) (h : Heap), (K w.params).In h → h.Ns mainGlobals mg → Txt (K w.params) mg) :
    PySem.W.WalkO q loose XP YP l.row.toRowW d [] (fun f vs => PySem.call f vs) :=
  L2.walk_ofK (n := 63) (k := 5) (x := "_law_script") (CX := CX0) (sp := fun K => spD K M_law) hn (by decide) hdf ⟨rfl, by decide, by decide⟩ hY
    (fun w mg fa h KX G hm => law_at (by rw [← hnm]; exact hm) (F w mg h KX G).d_law (fun _ _ _ _ _ _ _ => rfl) fun f fd base Fn => all_ok (F w mg h KX G) Fn)
    (fun K H a ns hl _ hS => law_sp hS (law_true ns hl)) fun _ _ _ _ z => z
end K02
open PySem PySem.W PyProof.Rows L2
set_option maxRecDepth 100000 in
set_option maxHeartbeats 0 in
theorem PySem.Challenge.cw_reason_k02_facts_in_order_holds : PySem.Challenge.rw_reason_k02_facts_in_order.Holds := by
  w_on; o_law; k_head; (case hw => w_witness2)
  k_fill
  refine K02.walk (l := PySem.Challenge.rw_reason_k02_facts_in_order) rfl rfl rfl (fun w h Y => PySem.W.kIn_of Y) ?F
  case F =>
    intro w mg h KX G
    refine' K02.Txt.mk (defAt_mk KX G ?a1 ?l1 ?c1 ?k1) (defAt_mk KX G ?a2 ?l2 ?c2 ?k2) (defAt_mk KX G ?a3 ?l3 ?c3 ?k3) (defAt_mk KX G ?a4 ?l4 ?c4 ?k4) (defAt_mk KX G ?a5 ?l5 ?c5 ?k5) (defAt_mk KX G ?a6 ?l6 ?c6 ?k6) (defAt_mk KX G ?a7 ?l7 ?c7 ?k7) (defAt_mk KX G ?a8 ?l8 ?c8 ?k8) (defAt_mk KX G ?a9 ?l9 ?c9 ?k9) (defAt_mk KX G ?a10 ?l10 ?c10 ?k10) (defAt_mk KX G ?a11 ?l11 ?c11 ?k11) (defAt_mk KX G ?a12 ?l12 ?c12 ?k12) (PySem.W.mg_none_of KX G ?z13) (PySem.W.mg_none_of KX G ?z14) (PySem.W.mg_none_of KX G ?z15) (PySem.W.mg_none_of KX G ?z16) (PySem.W.mg_none_of KX G ?z17) (PySem.W.mg_none_of KX G ?z18) (PySem.W.mg_none_of KX G ?z19) (PySem.W.mg_none_of KX G ?z20) tyOk_bool tyOk_list tyOk_str
    (case a1 => k_is); (case l1 => k_is); (case c1 => k_is); (case k1 => k_is)
    (case a2 => k_is); (case l2 => k_is); (case c2 => k_is); (case k2 => k_is)
    (case a3 => k_is); (case l3 => k_is); (case c3 => k_is); (case k3 => k_is)
    (case a4 => k_is); (case l4 => k_is); (case c4 => k_is); (case k4 => k_is)
    (case a5 => k_is); (case l5 => k_is); (case c5 => k_is); (case k5 => k_is)
    (case a6 => k_is); (case l6 => k_is); (case c6 => k_is); (case k6 => k_is)
    (case a7 => k_is); (case l7 => k_is); (case c7 => k_is); (case k7 => k_is)
    (case a8 => k_is); (case l8 => k_is); (case c8 => k_is); (case k8 => k_is)
    (case a9 => k_is); (case l9 => k_is); (case c9 => k_is); (case k9 => k_is)
    (case a10 => k_is); (case l10 => k_is); (case c10 => k_is); (case k10 => k_is)
    (case a11 => k_is); (case l11 => k_is); (case c11 => k_is); (case k11 => k_is)
    (case a12 => k_is); (case l12 => k_is); (case c12 => k_is); (case k12 => k_is)
    (case z13 => k_is)
    (case z14 => k_is)
    (case z15 => k_is)
    (case z16 => k_is)
    (case z17 => k_is)
    (case z18 => k_is)
    (case z19 => k_is)
    (case z20 => k_is)
