import PyProof.Rows.All
import Wide.All
import OpenK.AllK
import Wide.FinOn
import Lean
import PyProof.EqAt
import PyProof.EqKinds
import PyProof.TupleCall
import PySem.Challenge.RW_reason_k01_names_and_terms
set_option Elab.async false
set_option linter.all false
set_option maxRecDepth 100000
/-! THE HAND LAYER, for ints, bools, texts, own classes, LISTS and tuples (index, slices, in, append, pop ..), calls, loops. Paste it whole ahead of your own text; what your proof does not reach may be deleted. -/
namespace L2
open PySem PySem.Spec PyProof.Rows

/-- a key: an int or a str -/
abbrev Key := Sum Int Str
def keyIs : Key → Value → Bool
  | .inl k, v => Value.isInt k v
  | .inr x, v => Value.isStrOf x v
def keyH (w : World) : Key → Int
  | .inl k => hashInt k
  | .inr x => hashStr w x
theorem keyIs_shape : ∀ {k : Key} {v : Value}, keyIs k v = true → (∃ i t, k = Sum.inl i ∧ v = Value.int i t) ∨ (∃ x t, k = Sum.inr x ∧ v = Value.str x t)
  | .inl i, v, h => by
    obtain ⟨t, e⟩ := Value.isInt_shape (k := i) (v := v) h
    exact .inl ⟨i, t, rfl, e⟩
  | .inr x, v, h => by
    obtain ⟨t, e⟩ := Value.isStrOf_shape (x := x) (v := v) h
    exact .inr ⟨x, t, rfl, e⟩
theorem keyIs_int (i : Int) (t : Tok) : keyIs (.inl i) (.int i t) = true := by simp [keyIs, Value.isInt]
theorem keyIs_str (x : Str) (t : Tok) : keyIs (.inr x) (.str x t) = true := by simp [keyIs, Value.isStrOf]
theorem key_ll (a b : Int) : decide ((Sum.inl a : Key) = Sum.inl b) = (a == b) := by
  by_cases e : a = b
  · subst e; simp
  · have h : ¬ (Sum.inl a : Key) = Sum.inl b := fun q => e (Sum.inl.inj q)
    rw [decide_eq_false h]
    exact (beq_eq_false_iff_ne.mpr e).symm
theorem key_rr (a b : Str) : decide ((Sum.inr a : Key) = Sum.inr b) = decide (a = b) := by
  by_cases e : a = b
  · subst e; simp
  · have h : ¬ (Sum.inr a : Key) = Sum.inr b := fun q => e (Sum.inr.inj q)
    rw [decide_eq_false h, decide_eq_false e]
theorem key_lr (a : Int) (b : Str) : decide ((Sum.inl a : Key) = Sum.inr b) = false := decide_eq_false (fun q => nomatch q)
theorem key_rl (a : Str) (b : Int) : decide ((Sum.inr a : Key) = Sum.inl b) = false := decide_eq_false (fun q => nomatch q)

def mixKind (prog : Program) (w : World) : PySem.KeyKind prog w Key where
  is := keyIs
  hash := keyH w
  inj := fun v a b ha hb => by
    rcases keyIs_shape ha with ⟨i, t, rfl, rfl⟩ | ⟨x, t, rfl, rfl⟩
    · rcases keyIs_shape hb with ⟨j, u, rfl, e⟩ | ⟨y, u, rfl, e⟩
      · injection e with e1 _; rw [e1]
      · exact nomatch e
    · rcases keyIs_shape hb with ⟨j, u, rfl, e⟩ | ⟨y, u, rfl, e⟩
      · exact nomatch e
      · injection e with e1 _; rw [e1]
  byValue := fun k v h => by
    rcases keyIs_shape h with ⟨i, t, rfl, rfl⟩ | ⟨x, t, rfl, rfl⟩ <;> rfl
  pyHash := fun hv h => by
    rcases keyIs_shape hv with ⟨i, t, rfl, rfl⟩ | ⟨x, t, rfl, rfl⟩
    · exact wpAny_pyHash_int h
    · exact wpAny_pyHash_str h
  eqBool := fun hu hv h => by
    rcases keyIs_shape hu with ⟨i, t, rfl, rfl⟩ | ⟨x, t, rfl, rfl⟩
    · rcases keyIs_shape hv with ⟨j, u, rfl, rfl⟩ | ⟨y, u, rfl, rfl⟩
      · rw [key_ll] at h; exact wpAny_eqBool_int h
      · rw [key_lr] at h; exact SeqAt.EqAt.int_str i t y u _ _ _ _ h
    · rcases keyIs_shape hv with ⟨j, u, rfl, rfl⟩ | ⟨y, u, rfl, rfl⟩
      · rw [key_rl] at h; exact SeqAt.EqAt.str_int x t j u _ _ _ _ h
      · rw [key_rr] at h; exact wpAny_eqBool_str h
  «strs» := fun k x t v h => by
    rcases keyIs_shape h with ⟨i, u, rfl, e⟩ | ⟨y, u, rfl, e⟩
    · exact nomatch e
    · injection e with e1 _
      subst e1
      cases v <;> rfl

theorem mixKind_is (prog : Program) (w : World) (k : Key) (v : Value) : (mixKind prog w).is k v = keyIs k v := rfl
theorem mixKind_int (prog : Program) (w : World) (i : Int) (t : Tok) : (mixKind prog w).is (.inl i) (.int i t) = true := keyIs_int i t
theorem mixKind_str (prog : Program) (w : World) (x : Str) (t : Tok) : (mixKind prog w).is (.inr x) (.str x t) = true := keyIs_str x t
end L2

namespace L2
open PySem PySem.Spec PyProof.Rows

/-- a value, without the heap -/
inductive V where
  | non | bl (b : Bool) | int (i : Int) | str (x : Str) | byt (b : Array UInt8) | flt (b : UInt64) | ref (a : Addr) | ty (n : String)
  deriving DecidableEq

def RelV : V → Value → Prop
  | .non, u => u = Value.none
  | .bl b, u => u = Value.bool b
  | .int i, u => ∃ t, u = Value.int i t
  | .str x, u => ∃ t, u = Value.str x t
  | .byt b, u => ∃ t, u = Value.bytes b t
  | .flt b, u => ∃ t, u = Value.float b t
  | .ref a, u => u = Value.ref a
  | .ty n, u => u = Value.type n

abbrev Vals : List V → List Value → Prop := Paired RelV
theorem Vals.length {xs : List V} {us : List Value} (r : Vals xs us) : xs.length = us.length := Paired.length r
theorem Vals.get : ∀ {xs : List V} {us : List Value} {i : Nat} {x : V}, Vals xs us → xs[i]? = some x → ∃ u, us[i]? = some u ∧ RelV x u
  | _, _, _, _, .nil, e => by simp at e
  | _, _, 0, _, .cons r _, e => by simp at e; subst e; exact ⟨_, rfl, r⟩
  | _, _, i + 1, x, .cons _ t, e => by
    obtain ⟨u, h1, h2⟩ := Vals.get (i := i) (x := x) t (by simpa using e)
    exact ⟨u, by simpa using h1, h2⟩
theorem Vals.set {x : V} {u : Value} (r : RelV x u) : ∀ {xs : List V} {us : List Value} (i : Nat), Vals xs us → Vals (xs.set i x) (us.set i u)
  | _, _, _, .nil => .nil
  | _, _, 0, .cons _ t => .cons r t
  | _, _, i + 1, .cons q t => .cons q (Vals.set r i t)
theorem Vals.append : ∀ {xs ys : List V} {us ws : List Value}, Vals xs us → Vals ys ws → Vals (xs ++ ys) (us ++ ws)
  | _, _, _, _, .nil, s => s
  | _, _, _, _, .cons r t, s => .cons r (Vals.append t s)
theorem Vals.take : ∀ {xs : List V} {us : List Value} (n : Nat), Vals xs us → Vals (xs.take n) (us.take n)
  | _, _, 0, _ => .nil
  | _, _, _ + 1, .nil => .nil
  | _, _, n + 1, .cons r t => .cons r (Vals.take n t)
theorem Vals.drop : ∀ {xs : List V} {us : List Value} (n : Nat), Vals xs us → Vals (xs.drop n) (us.drop n)
  | _, _, 0, r => r
  | _, _, _ + 1, .nil => .nil
  | _, _, n + 1, .cons _ t => Vals.drop n t
theorem Vals.none_of : ∀ {xs : List V} {us : List Value} {i : Nat}, Vals xs us → xs[i]? = none → us[i]? = none := fun {xs us i} r e => by
  have h1 := r.length
  have h2 : xs.length ≤ i := List.getElem?_eq_none_iff.mp e
  exact List.getElem?_eq_none_iff.mpr (by omega)

def RelO : Option V → Option Value → Prop
  | some v, some u => RelV v u
  | none, none => True
  | _, _ => False
def KV {κ : Type} : List (κ × V) → List (κ × Value) → Prop := Paired fun (p : κ × V) (q : κ × Value) => p.1 = q.1 ∧ RelV p.2 q.2

/-- a key of a dict (00_mix): an int or a text -/
def kV : Key → V
  | .inl i => .int i
  | .inr x => .str x

/-- what stands at a tracked address -/
inductive HO where
  /-- a list -/
  | lst (xs : List V)
  /-- a tuple (never changes) -/
  | tup (xs : List V)
  /-- a dict whose keys are ints and texts; one whose keys are tuples of ints and texts (the empty one is both) -/
  | dK (kvs : List (Key × V)) | dT (kvs : List (List Key × V))
  /-- a set of ints: its members, its size -/
  | set (S : Int → Bool) (n : Nat)
  /-- an instance of the class at C, its dict at dx, its attributes -/
  | ins (C dx : Addr) (fs : List (Str × V))
  /-- the dict of the instance at x -/
  | own (x : Addr)
  /-- the dict of an exception -/
  | xd (fs : List (Str × V))
  /-- a bound method, f of x -/
  | met (f x : Addr)
  /-- a range object lo, lo + 1, .. below hi -/
  | rng (lo hi : Int)
  /-- a thing that is known to the object (the script; a dict while a loop walks it): read, never written while it is so -/
  | frz (o : Obj) (u : HO)
  /-- a code object's table -/
  | tbl (ps : Array Value)
  /-- any other thing, by what is true of its one object (a def of one's own: SetO a S n := HO.ext fun h => ..) -/
  | ext (φ : Heap → Prop)

abbrev Hp := Addr → Option HO
def upd (H : Hp) (a : Addr) (o : HO) : Hp := fun b => if b = a then some o else H b
theorem upd_same {H : Hp} {a : Addr} {o : HO} : upd H a o a = some o := by unfold upd; rw [if_pos rfl]
theorem upd_ne {H : Hp} {a b : Addr} {o : HO} (h : b ≠ a) : upd H a o b = H b := by unfold upd; rw [if_neg h]
theorem upd_upd {H : Hp} {a : Addr} {o u : HO} : upd (upd H a o) a u = upd H a u := by
  funext b; unfold upd; split <;> rfl
/-- two objects of different content stand apart -/
theorem ne_of {H : Hp} {a b : Addr} {o u : HO} (h : H a = some o) (h' : H b = some u) (d : o ≠ u) : a ≠ b := by
  intro e; subst e; rw [h] at h'; exact d (Option.some.inj h')
theorem ne_of_none {H : Hp} {a b : Addr} {o : HO} (h : H a = some o) (h' : H b = none) : a ≠ b := by
  intro e; subst e; rw [h] at h'; cases h'

section
variable (P : Program) (w : World)
def ObjOk (H : Hp) (h : Heap) (a : Addr) : HO → Prop
  | .lst xs => xs.length ≤ sizeLine ∧ ∃ (its : List Value) (n : Nat), Vals xs its ∧ h.get? a = some { cls := .type "list", data := .seq its.toArray n }
  | .tup xs => xs.length ≤ sizeLine ∧ ∃ its : List Value, Vals xs its ∧ IsTup h a its.toArray
  | .dK kvs => kvs.length ≤ sizeLine ∧ (a == sysModules) = false ∧ ∃ vs, KV kvs vs ∧ h.DictOf (mixKind P w) a vs
  | .dT kvs => kvs.length ≤ sizeLine ∧ (a == sysModules) = false ∧ ∃ xs : List (List Key × Addr × Value),
      Paired (fun (p : List Key × V) (q : List Key × Addr × Value) => p.1 = q.1 ∧ H q.2.1 = some (.tup (p.1.map kV)) ∧ RelV p.2 q.2.2) kvs xs ∧
      ∃ o es ep, h.get? a = some o ∧ o.ExactDict ∧ o.data = .dict es ep ∧ es.toList = xs.map (entryOfKey (tupleKind (mixKind P w))) ∧ (xs.map (·.1)).Nodup
  | .set S n => h.SetOf (intKind P w) a S n
  | .ins C dx fs => H dx = some (.own a) ∧ fs.length ≤ 1000 ∧ dx ≠ a ∧ h.get? a = some (PySem.W.instObj C dx) ∧
      ∃ mA, h.Ns1 dx mA ∧ (∀ f, RelO (fs.lookup f) (mA f)) ∧ PySem.Within mA (fs.map (·.1))
  | .own _ => ∃ o, h.get? a = some o
  | .xd fs => ∃ mA, h.Ns1 a mA ∧ ∀ f, RelO (fs.lookup f) (mA f)
  | .rng lo hi => ∃ t u v, h.get? a = some { cls := .type "range", data := .fields #[.int lo t, .int hi u, .int 1 v] }
  | .frz o u => h.get? a = some o ∧ ObjOk H h a u
  | .tbl ps => h.get? a = some { cls := .none, data := .fields ps }
  | .met f x => h.get? a = some (PySem.W.methodObj (.ref f) (.ref x))
  | .ext φ => φ h ∧ (∃ o, h.get? a = some o) ∧ ∀ h1 h2 : Heap, φ h1 → (∀ o, h1.get? a = some o → h2.get? a = some o) → φ h2
/-- the abstract heap is held -/
def HOk (H : Hp) (h : Heap) : Prop := ∀ a o, H a = some o → ObjOk P w H h a o
end

section
variable {P : Program} {w : World} {H H' : Hp} {h h' : Heap} {a : Addr} {o : HO}
theorem ObjOk.lt (x : ObjOk P w H h a o) : a < h.objs.size := by
  cases o with
  | lst xs => obtain ⟨_, _, _, _, e⟩ := x; exact Heap.lt_size e
  | tup xs => obtain ⟨_, _, _, p⟩ := x; exact p.lt
  | dK kvs => obtain ⟨_, _, _, _, o, _, _, e, _⟩ := x; exact Heap.lt_size e
  | dT kvs => obtain ⟨_, _, _, _, o, _, _, e, _⟩ := x; exact Heap.lt_size e
  | set S n => obtain ⟨o, _, _, _, e, _⟩ := x; exact Heap.lt_size e
  | ins C dx fs => obtain ⟨_, _, _, e, _⟩ := x; exact Heap.lt_size e
  | own y => obtain ⟨_, e⟩ := x; exact Heap.lt_size e
  | xd fs => obtain ⟨_, ⟨_, _, _, e, _⟩, _⟩ := x; exact Heap.lt_size e
  | rng lo hi => obtain ⟨_, _, _, e⟩ := x; exact Heap.lt_size e
  | frz ob u => obtain ⟨e, _⟩ := x; exact Heap.lt_size e
  | tbl ps => exact Heap.lt_size (show h.get? a = some _ from x)
  | met f y => exact Heap.lt_size (show h.get? a = some _ from x)
  | ext φ => obtain ⟨_, ⟨_, e⟩, _⟩ := x; exact Heap.lt_size e
theorem Paired.mapP {α β : Type} {F G : α → β → Prop} : ∀ {l₁ : List α} {l₂ : List β}, Paired F l₁ l₂ → (∀ a b, F a b → G a b) → Paired G l₁ l₂
  | _, _, .nil, _ => .nil
  | _, _, .cons r t, f => .cons (f _ _ r) (Paired.mapP t f)
theorem Paired.imp' {α β : Type} {F G : α → β → Prop} (f : ∀ a b, F a b → G a b) {l₁ : List α} {l₂ : List β} (r : Paired F l₁ l₂) : Paired G l₁ l₂ := Paired.mapP r f
/-- what an object's description leans on: its own object, its own dict, the tuples -/
theorem ObjOk.stay (x : ObjOk P w H h a o) (k : ∀ b u, (b = a ∨ H b = some (.own a)) → h.get? b = some u → h'.get? b = some u)
    (ho : ∀ b, H b = some (.own a) → H' b = some (.own a)) (ht : ∀ b xs, H b = some (.tup xs) → H' b = some (.tup xs)) : ObjOk P w H' h' a o := by
  induction o with
  | lst xs => obtain ⟨z, its, n, r, e⟩ := x; exact ⟨z, its, n, r, k _ _ (.inl rfl) e⟩
  | tup xs => obtain ⟨z, its, r, ob, e, c⟩ := x; exact ⟨z, its, r, ob, k _ _ (.inl rfl) e, c⟩
  | dK kvs => obtain ⟨z, y, vs, r, ob, es, ep, e, c⟩ := x; exact ⟨z, y, vs, r, ob, es, ep, k _ _ (.inl rfl) e, c⟩
  | dT kvs =>
    obtain ⟨z, y, xs, r, ob, es, ep, e, c⟩ := x
    exact ⟨z, y, xs, Paired.mapP r fun p q z => ⟨z.1, ht _ _ z.2.1, z.2.2⟩, ob, es, ep, k _ _ (.inl rfl) e, c⟩
  | set S n => obtain ⟨ob, es, ep, t, e, c⟩ := x; exact ⟨ob, es, ep, t, k _ _ (.inl rfl) e, c⟩
  | ins C dx fs =>
    obtain ⟨d, z, ne, e, mA, ⟨od, es, ep, e2, c⟩, r⟩ := x
    exact ⟨ho _ d, z, ne, k _ _ (.inl rfl) e, mA, ⟨od, es, ep, k _ _ (.inr d) e2, c⟩, r⟩
  | own y => obtain ⟨ob, e⟩ := x; exact ⟨ob, k _ _ (.inl rfl) e⟩
  | xd fs => obtain ⟨mA, ⟨od, es, ep, e, c⟩, r⟩ := x; exact ⟨mA, ⟨od, es, ep, k _ _ (.inl rfl) e, c⟩, r⟩
  | rng lo hi => obtain ⟨t, u, v, e⟩ := x; exact ⟨t, u, v, k _ _ (.inl rfl) e⟩
  | frz ob u ih => obtain ⟨e, q⟩ := x; exact ⟨k _ _ (.inl rfl) e, ih q⟩
  | tbl ps =>
    have e : h.get? a = some { cls := .none, data := .fields ps } := x
    show h'.get? a = some { cls := .none, data := .fields ps }
    exact k a _ (.inl rfl) e
  | met f y =>
    have e : h.get? a = some (PySem.W.methodObj (.ref f) (.ref y)) := x
    show h'.get? a = some (PySem.W.methodObj (.ref f) (.ref y))
    exact k a _ (.inl rfl) e
  | ext φ => obtain ⟨p, ⟨o, e⟩, st⟩ := x; exact ⟨st _ _ p fun o q => k _ _ (.inl rfl) q, ⟨o, k _ _ (.inl rfl) e⟩, st⟩
theorem HOk.lt (x : HOk P w H h) (e : H a = some o) : a < h.objs.size := (x a o e).lt
theorem HOk.fresh (x : HOk P w H h) (e : h.objs.size ≤ a) : H a = none := by
  cases q : H a with
  | none => rfl
  | some u => exact absurd (Nat.lt_of_lt_of_le (x.lt q) e) (Nat.lt_irrefl _)
/-- every object of the heap is kept -/
theorem HOk.kept (x : HOk P w H h) (k : ∀ b u, h.get? b = some u → h'.get? b = some u) : HOk P w H h' := fun a o e =>
  (x a o e).stay (fun b u _ q => k b u q) (fun _ q => q) fun _ _ q => q
/-- a new object is laid and tracked -/
theorem HOk.laid (x : HOk P w H h) (k : ∀ b u, h.get? b = some u → h'.get? b = some u) (hp : h.objs.size ≤ a) (new : ObjOk P w (upd H a o) h' a o) : HOk P w (upd H a o) h' := fun b u e => by
  have hn := x.fresh hp
  by_cases hb : b = a
  · subst hb; rw [upd_same] at e; cases e; exact new
  · rw [upd_ne hb] at e
    exact (x b u e).stay (fun c v _ q => k c v q) (fun c q => by rw [upd_ne (ne_of_none q hn)]; exact q) fun c xs q => by rw [upd_ne (ne_of_none q hn)]; exact q
end

/-- what may be read as u: it is u, or a known u -/
def Rd (H : Hp) (a : Addr) (u : HO) : Prop := H a = some u ∨ ∃ o, H a = some (.frz o u)
theorem Rd.of {H : Hp} {a : Addr} {u : HO} (h : H a = some u) : Rd H a u := .inl h
theorem Rd.ok {P : Program} {w : World} {H : Hp} {h : Heap} {a : Addr} {u : HO} (r : Rd H a u) (x : HOk P w H h) : ObjOk P w H h a u := by
  rcases r with r | ⟨o, r⟩
  · exact x a u r
  · obtain ⟨_, q⟩ := x a _ r
    exact q
/-- what may be written -/
def Mut : Option HO → Prop
  | some (.lst _) => True
  | some (.dK _) => True
  | some (.dT _) => True
  | some (.set _ _) => True
  | some (.ins _ _ _) => True
  | some (.ext _) => True
  | _ => False
section
variable {P : Program} {w : World} {H : Hp} {h h' : Heap} {x e : Addr} {o' : HO}
/-- the object at e is changed: x itself, or the dict of the instance x -/
theorem HOk.write (ok : HOk P w H h) (mu : Mut (H x)) (he : e = x ∨ H e = some (.own x)) (k : ∀ b u, b ≠ e → h.get? b = some u → h'.get? b = some u) (heo : ∃ u, h'.get? e = some u)
    (new : ObjOk P w (upd H x o') h' x o') : HOk P w (upd H x o') h' := fun b u q => by
  have nown : ∀ c y, H c = some (.own y) → c ≠ x := fun c y r z => by subst z; rw [r] at mu; exact mu
  have ntup : ∀ c xs, H c = some (.tup xs) → c ≠ x := fun c xs r z => by subst z; rw [r] at mu; exact mu
  by_cases hb : b = x
  · subst hb; rw [upd_same] at q; cases q; exact new
  · rw [upd_ne hb] at q
    by_cases hbe : b = e
    · have q' : H b = some (.own x) := by
        rcases he with z | z
        · exact absurd (hbe.trans z) hb
        · rw [hbe]; exact z
      rw [q] at q'; cases q'
      obtain ⟨v, hv⟩ := heo
      exact ⟨v, by rw [hbe]; exact hv⟩
    · refine (ok b u q).stay (fun c v hc r => k c v ?_ r) (fun c r => by rw [upd_ne (nown c b r)]; exact r) fun c xs r => by rw [upd_ne (ntup c xs r)]; exact r
      rcases hc with rfl | hc
      · exact hbe
      · rintro rfl
        rcases he with z | z
        · exact nown c b hc z
        · rw [hc] at z; cases z; exact hb rfl
end

/-! ### kept unless tracked; of the frames at fs (the callers') the slots may change (an exception that passes writes there); of the records at ex (iterators) nothing is said -/
structure Un (fs ex : List Addr) (H H' : Hp) (h h' : Heap) : Prop where
  keep : ∀ b o, h.get? b = some o → H b = none → b ∉ fs → b ∉ ex → h'.get? b = some o
  slot : ∀ b o, h.get? b = some o → H b = none → b ∈ fs → b ∉ ex → ∃ sl, h'.get? b = some { o with slots := sl }
  free : ∀ b o, h.get? b = some o → H b = none → b ∉ ex → H' b = none
  there : ∀ b o, h.get? b = some o → b ∉ ex → ∃ o', h'.get? b = some o'
  tups : ∀ b xs, H b = some (.tup xs) → H' b = some (.tup xs)
  frzs : ∀ b o u, H b = some (.frz o u) → H' b = some (.frz o u)
  tbls : ∀ b ps, H b = some (.tbl ps) → ∃ more, H' b = some (.tbl (ps ++ more))
section
variable {fs fs' ex ex' : List Addr} {H H1 H2 : Hp} {h h1 h2 h' : Heap} {a x e : Addr} {o : HO}
theorem Un.any (u : Un fs ex H H1 h h1) {b : Addr} {ob : Obj} (q : h.get? b = some ob) (n : H b = none) (hx : b ∉ ex) : ∃ sl, h1.get? b = some { ob with slots := sl } := by
  by_cases hb : b ∈ fs
  · exact u.slot b ob q n hb hx
  · exact ⟨ob.slots, u.keep b ob q n hb hx⟩
theorem Un.trans (a : Un fs ex H H1 h h1) (b : Un fs ex H1 H2 h1 h2) : Un fs ex H H2 h h2 where
  keep := fun c ob q n hc hx => b.keep c ob (a.keep c ob q n hc hx) (a.free c ob q n hx) hc hx
  slot := fun c ob q n hc hx => by
    obtain ⟨sl, e1⟩ := a.slot c ob q n hc hx
    obtain ⟨sl', e2⟩ := b.slot c _ e1 (a.free c ob q n hx) hc hx
    exact ⟨sl', e2⟩
  free := fun c ob q n hx => by
    obtain ⟨o', e1⟩ := a.there c ob q hx
    exact b.free c o' e1 (a.free c ob q n hx) hx
  there := fun c ob q hx => by
    obtain ⟨o', e1⟩ := a.there c ob q hx
    exact b.there c o' e1 hx
  tups := fun c xs q => b.tups c xs (a.tups c xs q)
  frzs := fun c ob xs q => b.frzs c ob xs (a.frzs c ob xs q)
  tbls := fun c ps q => by
    obtain ⟨m1, e1⟩ := a.tbls c ps q
    obtain ⟨m2, e2⟩ := b.tbls c _ e1
    exact ⟨m1 ++ m2, by rw [e2, Array.append_assoc]⟩
theorem Un.kept (k : ∀ b u, h.get? b = some u → h'.get? b = some u) : Un fs ex H H h h' :=
  ⟨fun b ob q _ _ _ => k b ob q, fun b ob q _ _ _ => ⟨ob.slots, k b ob q⟩, fun _ _ _ n _ => n, fun b ob q _ => ⟨ob, k b ob q⟩, fun _ _ q => q, fun _ _ _ q => q, fun _ ps q => ⟨#[], by rw [q]; simp⟩⟩
theorem Un.refl : Un fs ex H H h h := Un.kept fun _ _ q => q
theorem Un.laid (k : ∀ b u, h.get? b = some u → h'.get? b = some u) (hp : h.objs.size ≤ a) (hn : H a = none) : Un fs ex H (upd H a o) h h' where
  keep := fun b u q _ _ _ => k b u q
  slot := fun b u q _ _ _ => ⟨u.slots, k b u q⟩
  free := fun b u q n _ => by rw [upd_ne (Nat.ne_of_lt (Nat.lt_of_lt_of_le (Heap.lt_size q) hp))]; exact n
  there := fun b u q _ => ⟨u, k b u q⟩
  tups := fun b xs q => by rw [upd_ne (ne_of_none q hn)]; exact q
  frzs := fun b u xs q => by rw [upd_ne (ne_of_none q hn)]; exact q
  tbls := fun b ps q => ⟨#[], by rw [upd_ne (ne_of_none q hn), q]; simp⟩
theorem Un.write (mu : Mut (H x)) (he : e = x ∨ H e = some (.own x)) (k : ∀ b u, b ≠ e → h.get? b = some u → h'.get? b = some u) (heo : ∃ u, h'.get? e = some u) : Un fs ex H (upd H x o) h h' := by
  have hx : ∀ b, H b = none → b ≠ x := fun b n z => by subst z; rw [n] at mu; exact mu
  have hb : ∀ b, H b = none → b ≠ e := fun b n z => by
    subst z
    rcases he with r | r
    · exact hx b n r
    · rw [n] at r; cases r
  have hm : ∀ b u, H b = some u → ¬ Mut (some u) → b ≠ x := fun b u q nm z => by subst z; rw [q] at mu; exact nm mu
  refine ⟨fun b u q n _ _ => k b u (hb b n) q, fun b u q n _ _ => ⟨u.slots, k b u (hb b n) q⟩, fun b u q n _ => by rw [upd_ne (hx b n)]; exact n, fun b u q _ => ?_,
    fun b xs q => by rw [upd_ne (hm b _ q fun z => z)]; exact q, fun b u xs q => by rw [upd_ne (hm b _ q fun z => z)]; exact q, fun b ps q => ⟨#[], by rw [upd_ne (hm b _ q fun z => z), q]; simp⟩⟩
  by_cases hbe : b = e
  · subst hbe; exact heo
  · exact ⟨u, k b u hbe q⟩
theorem Un.mono (u : Un fs ex H H1 h h1) (hs : ∀ b ∈ fs, b ∈ fs') (hx : ∀ b ∈ ex, b ∈ ex') : Un fs' ex' H H1 h h1 :=
  ⟨fun b ob q n hb he => u.keep b ob q n (fun z => hb (hs b z)) fun z => he (hx b z), fun _ _ q n _ he => u.any q n fun z => he (hx _ z), fun b ob q n he => u.free b ob q n fun z => he (hx b z), fun b ob q he => u.there b ob q fun z => he (hx b z), u.tups, u.frzs, u.tbls⟩
end

/-! ### the heap without what is tracked -/
def trk (h : Heap) (H : Hp) : List Addr := (List.range h.objs.size).filter fun a => (H a).isSome
def hidT (h : Heap) (H : Hp) : Heap := PySem.W.hideAll h (trk h H)
theorem hidT_size (h : Heap) (H : Hp) : (hidT h H).objs.size = h.objs.size := PySem.W.hideAll_size _ _
theorem hidT_get {h : Heap} {H : Hp} {b : Addr} {o : Obj} (e : h.get? b = some o) (n : H b = none) : (hidT h H).get? b = some o :=
  PySem.W.hideAll_get _ e fun hm => by
    have q : (H b).isSome = true := (List.mem_filter.mp hm).2
    rw [n] at q; simp at q
theorem of_hidT {h : Heap} {H : Hp} {b : Addr} {o : Obj} (e : (hidT h H).get? b = some o) : h.get? b = some o ∧ H b = none := by
  have e' : h.get? b = some o := PySem.W.of_hideAll (trk h H) e
  refine ⟨e', ?_⟩
  cases q : H b with
  | none => rfl
  | some x =>
    have hm : b ∈ trk h H := List.mem_filter.mpr ⟨List.mem_range.mpr (Heap.lt_size e'), by simp [q]⟩
    have z : (hidT h H).get? b = none := PySem.W.hideAll_none (trk h H) hm
    rw [z] at e; cases e

/-! ### OpenK's ledger, filled with every new object but one -/
def allNews (g h : Heap) (L : Addr) : List (Addr × Obj) := (List.range h.objs.size).filterMap fun a => if a = L ∨ (g.get? a).isSome = true then none else (h.get? a).map fun o => (a, o)
theorem mem_allNews {g h : Heap} {L a : Addr} {o : Obj} (h1 : a ≠ L) (h2 : g.get? a = none) (h3 : h.get? a = some o) : (a, o) ∈ allNews g h L :=
  List.mem_filterMap.mpr ⟨a, List.mem_range.mpr (Heap.lt_size h3), by simp [h1, h2, h3]⟩
theorem of_mem_allNews {g h : Heap} {L : Addr} {p : Addr × Obj} (hp : p ∈ allNews g h L) : p.1 ≠ L ∧ g.get? p.1 = none ∧ h.get? p.1 = some p.2 := by
  obtain ⟨b, _, e⟩ := List.mem_filterMap.mp hp
  split at e
  · cases e
  · rename_i hn
    cases q : h.get? b with
    | none => rw [q] at e; simp at e
    | some u =>
      rw [q] at e
      simp only [Option.map_some, Option.some.injEq] at e
      subst e
      refine ⟨fun z => hn (.inl z), ?_, q⟩
      show g.get? b = none
      cases r : g.get? b with
      | none => rfl
      | some v => exact (hn (.inr (by simp [r]))).elim
def rest (g h : Heap) (L d : Addr) : List (Addr × Obj) := (allNews g h L).filter fun p => decide (p.1 ≠ d)
theorem rest_ne {g h : Heap} {L d : Addr} : ∀ p ∈ rest g h L d, p.1 ≠ d := fun p hp => of_decide_eq_true (List.mem_filter.mp hp).2
theorem mem_rest {g h : Heap} {L d a : Addr} {o : Obj} (h1 : a ≠ L) (h2 : g.get? a = none) (h3 : h.get? a = some o) (h4 : a ≠ d) : (a, o) ∈ rest g h L d :=
  List.mem_filter.mpr ⟨mem_allNews h1 h2 h3, decide_eq_true h4⟩
theorem news_all {g h : Heap} {L : Addr} : News g L h (allNews g h L) := fun p hp => let ⟨a, b, c⟩ := of_mem_allNews hp; ⟨c, a, b⟩
theorem news_at {g h : Heap} {L d : Addr} {o : Obj} (h1 : d ≠ L) (h2 : g.get? d = none) (h3 : h.get? d = some o) : News g L h ((d, o) :: rest g h L d) := fun p hp => by
  rcases List.mem_cons.mp hp with rfl | hp
  · exact ⟨h3, h1, h2⟩
  · exact news_all p (List.mem_filter.mp hp).1
/-- behind a rule that changed d alone: all else but the frame is kept -/
theorem kept_of_news {g h h' : Heap} {L d : Addr} {m : Str → Option Value} (k : ∀ b o, g.get? b = some o → h.get? b = some o) (F : Fr g L h' m) (N : News g L h' (rest g h L d)) :
    ∀ b o, b ≠ L → b ≠ d → h.get? b = some o → h'.get? b = some o := fun b o h1 h2 e => by
  cases q : g.get? b with
  | some u =>
    have := k b u q
    rw [e] at this; cases this
    exact F.keep b _ q
  | none => exact (N (b, o) (mem_rest h1 q e h2)).1
end L2

namespace L2
open PySem PySem.Spec PyProof.Rows

/-- the module's facts, over the base: the heap at the law's entry without what is tracked there -/
structure Mod (K : PySem.W.Frag) (mg : Str → Option Value) (base : Heap) : Prop where
  kin : K.In base
  glob : base.Ns mainGlobals mg
  blt : ∃ mb, base.Ns builtinsNs mb ∧ ∀ x : Str, x ≠ "__name__" → mb x = bootBuiltins x
  nolimit : base.NoLimit

/-- the context: a def's body (or a comprehension's block) running. base: fixed through the whole law; s₀, H₀: the entry; outer: the frames whose slots others may change (a def's callers); stack: all frames that run;
   ex: iterators that were made ahead of the entry and are walked here (a comprehension's); fn: the names whose cells were made at the entry (a def: all; a comprehension's block: its own); calm: not within an except suite; pn: pins that every state bears; xe: what is wanted of an exception that leaves the code -/
structure Cx where
  prog : Program
  w : World
  K : PySem.W.Frag
  mg : Str → Option Value
  base : Heap
  A : Around
  N : List Str
  s₀ : Shared
  H₀ : Hp
  env : Env
  outer : List Env
  stack : List Env
  ex : List Addr
  fn : Str → Bool
  calm : Bool
  pn : List (Addr × Obj)
  xe : Value → Shared → Prop
/-- the callers' frames -/
def frs (l : List Env) : List Addr := l.filterMap (·.frame)
abbrev Cx.fs (X : Cx) : List Addr := frs X.outer

def Vis (sc : Scope) (x : Str) : Prop := sc.names.lookup x = some .local ∨ sc.names.lookup x = some .cell ∨ sc.names.lookup x = some .free
def Loc (sc : Scope) (x : Str) : Prop := sc.names.lookup x = some .local ∨ sc.names.lookup x = some .cell
def Look (env : Env) (h : Heap) (m : Str → Option Value) (x : Str) (u : Value) : Prop :=
  (env.kindOf x = some .local ∧ m x = some u) ∨ ((env.kindOf x = some .cell ∨ env.kindOf x = some .free) ∧ ∃ c, env.cells.lookup x = some c ∧ h.IsCell c (some u))

structure Cx.Ok (X : Cx) : Prop where
  mod : Mod X.K X.mg X.base
  kind : X.env.scope.kind = .function
  glob : X.env.globals = mainGlobals
  blt : X.env.builtins = builtinsNs
  above : X.s₀.heap.objs.size ≤ X.env.locals
  inj : ∀ x y c, X.env.cells.lookup x = some c → X.env.cells.lookup y = some c → x = y
  has : ∀ x, (X.env.kindOf x = some .cell ∨ X.env.kindOf x = some .free) → ∃ c, X.env.cells.lookup x = some c
  cab : ∀ x c, X.fn x = true → X.env.cells.lookup x = some c → X.s₀.heap.objs.size ≤ c
  hd : X.calm = true → X.A.handled = none
  frames : X.A.frames = some X.stack
  stk : X.stack = X.outer ∨ (X.stack = X.env :: X.outer ∧ X.env.frame = some X.env.locals)
  exf : ∀ b ∈ X.ex, b ≠ X.env.locals ∧ ∀ x c, X.env.cells.lookup x = some c → c ≠ b
  bs : ∀ b o, X.base.get? b = some o → X.s₀.heap.get? b = some o ∧ X.H₀ b = none
  bsz : X.base.objs.size ≤ X.s₀.heap.objs.size
  noex : ∀ b o, X.base.get? b = some o → b ∉ X.ex
  exfs : ∀ b ∈ X.ex, b ∉ X.fs
  funs : X.s₀.heap.FunFrames X.base X.outer
  frf : ∀ b ∈ X.fs, X.H₀ b = none

structure Inv (X : Cx) (pins : List (Addr × Obj)) (σ : List (Option V)) (H : Hp) (s : Shared) : Prop where
  ok : X.Ok
  os : s.os = X.s₀.os
  bare : AllBare s.gens
  base : Un X.fs X.ex X.H₀ H X.s₀.heap s.heap
  loc : ∃ m, s.heap.Ns X.env.locals m ∧ ∀ (i : Nat) (x : Str) (v : V), X.N[i]? = some x → σ[i]? = some (some v) → Vis X.env.scope x → ∃ u, RelV v u ∧ Look X.env s.heap m x u
  cell : ∀ x c, X.env.cells.lookup x = some c → ∃ v, s.heap.IsCell c v
  free : H X.env.locals = none
  freeC : ∀ x c, X.env.cells.lookup x = some c → H c = none
  pin : ∀ p ∈ X.pn ++ pins, s.heap.get? p.1 = some p.2 ∧ H p.1 = none ∧ p.1 ≠ X.env.locals ∧ p.1 ∉ X.fs ∧ ∀ v, p.2.data ≠ .cell v
  hok : HOk X.prog X.w H s.heap
  len : σ.length = X.N.length

section
variable {X : Cx} {pins : List (Addr × Obj)} {σ : List (Option V)} {H H' : Hp} {s : Shared} {h' : Heap}

theorem Cx.Ok.nofr (ok : X.Ok) {b : Addr} {o : Obj} (e : X.base.get? b = some o) : b ∉ X.fs := fun hb => by
  have := (ok.funs.mem hb).1
  rw [e] at this; cases this
theorem Inv.bs (I : Inv X pins σ H s) : ∀ b o, X.base.get? b = some o → s.heap.get? b = some o ∧ H b = none := fun b o e =>
  ⟨I.base.keep b o (I.ok.bs b o e).1 (I.ok.bs b o e).2 (I.ok.nofr e) (I.ok.noex b o e), I.base.free b o (I.ok.bs b o e).1 (I.ok.bs b o e).2 (I.ok.noex b o e)⟩
theorem Inv.bk (I : Inv X pins σ H s) : ∀ b o, X.base.get? b = some o → s.heap.get? b = some o := fun b o e => (I.bs b o e).1
theorem Inv.mod (I : Inv X pins σ H s) : Mod X.K X.mg X.base := I.ok.mod
theorem Inv.kIn (I : Inv X pins σ H s) : X.K.In s.heap := I.ok.mod.kin.keeps I.bk
theorem Inv.nolimit (I : Inv X pins σ H s) : s.heap.NoLimit := I.ok.mod.nolimit.keeps I.bk
/-- the frame over the base: for OpenK's rules (K.In X.base is I.mod.kin) -/
theorem Inv.fr (I : Inv X pins σ H s) : ∃ m, Fr X.base X.env.locals s.heap m :=
  let ⟨m, hn, _⟩ := I.loc
  ⟨m, hn, I.bk, Nat.le_trans I.ok.bsz I.ok.above⟩
theorem Inv.lt (I : Inv X pins σ H s) : X.env.locals < s.heap.objs.size := let ⟨_, hn, _⟩ := I.loc; hn.lt
theorem Inv.sz (I : Inv X pins σ H s) : X.s₀.heap.objs.size ≤ s.heap.objs.size := Nat.le_trans I.ok.above (Nat.le_of_lt I.lt)
theorem Inv.nofs (I : Inv X pins σ H s) {a : Addr} (h : s.heap.objs.size ≤ a) : a ∉ X.fs := fun hb => by
  obtain ⟨_, o, ho, _⟩ := I.ok.funs.mem hb
  exact absurd (Nat.lt_of_lt_of_le (Heap.lt_size ho) (Nat.le_trans I.sz h)) (Nat.lt_irrefl _)
theorem Inv.cne (I : Inv X pins σ H s) : ∀ x c, X.env.cells.lookup x = some c → c ≠ X.env.locals := fun x c e z => by
  obtain ⟨v, o, ho, hd⟩ := I.cell x c e
  obtain ⟨m, ⟨o', es, ep, ho', hd', _⟩, _⟩ := I.loc
  rw [z, ho'] at ho; cases ho; rw [hd'] at hd; cases hd
theorem Inv.funs (I : Inv X pins σ H s) : s.heap.FunFrames X.base X.outer := by
  have all : ∀ (l : List Env), (∀ b ∈ frs l, b ∈ X.fs) → X.s₀.heap.FunFrames X.base l → s.heap.FunFrames X.base l := by
    intro l
    induction l with
    | nil => intro _ _; trivial
    | cons env r ih =>
      intro hs hl
      obtain ⟨hk, ⟨L, o, hf, hn, ho, hd⟩, hr⟩ := hl
      have hL : L ∈ X.fs := hs L (by unfold frs; rw [List.filterMap_cons, hf]; exact List.mem_cons_self)
      obtain ⟨sl, e⟩ := I.base.slot L o ho (I.ok.frf L hL) hL fun z => I.ok.exfs L z hL
      exact ⟨hk, ⟨L, _, hf, hn, e, hd⟩, ih (fun b hb => hs b (by unfold frs; rw [List.filterMap_cons, hf]; exact List.mem_cons_of_mem _ hb)) hr⟩
  exact all X.outer (fun _ hb => hb) I.ok.funs

/-- the frames that run, for a call -/
theorem Inv.stack (I : Inv X pins σ H s) : s.heap.FunFrames X.base X.stack := by
  rcases I.ok.stk with e | ⟨e, hf⟩
  · rw [e]; exact I.funs
  · rw [e]
    obtain ⟨m, hn, _⟩ := I.loc
    refine .cons (by rw [I.ok.kind]; decide) hf hn ?_ I.funs
    exact Heap.get?_none_of_le (Nat.le_trans I.ok.bsz I.ok.above)
theorem Inv.stkSub (I : Inv X pins σ H s) : ∀ b ∈ frs X.stack, b ∈ X.env.locals :: X.fs := fun b hb => by
  rcases I.ok.stk with e | ⟨e, hf⟩
  · rw [e] at hb; exact List.mem_cons_of_mem _ hb
  · rw [e] at hb
    unfold frs at hb
    rw [List.filterMap_cons, hf] at hb
    exact hb
theorem Inv.stkFree (I : Inv X pins σ H s) : ∀ b ∈ frs X.stack, H b = none := fun b hb => by
  rcases List.mem_cons.mp (I.stkSub b hb) with e | hb
  · rw [e]; exact I.free
  · obtain ⟨_, o, ho, _⟩ := I.ok.funs.mem hb
    exact I.base.free b o ho (I.ok.frf b hb) fun z => I.ok.exfs b z hb

/-- THE STEP: the untracked objects but the frame and the records at ch are kept (the callers' frames up to slots), the frame's map is kept, the new abstract heap is held -/
theorem Inv.step {g' : Array GenState} {t' : Nat} {d' : Drawn} {ch : List Addr} (I : Inv X pins σ H s)
    (hch : ∀ b ∈ ch, (b ∈ X.ex ∨ X.s₀.heap.objs.size ≤ b) ∧ b ≠ X.env.locals ∧ (∀ x c, X.env.cells.lookup x = some c → c ≠ b) ∧ ∀ p ∈ X.pn ++ pins, p.1 ≠ b)
    (keep : ∀ b o, b ≠ X.env.locals → b ∉ X.fs → b ∉ ch → s.heap.get? b = some o → H b = none → h'.get? b = some o)
    (slot : ∀ b o, b ≠ X.env.locals → b ∈ X.fs → b ∉ ch → s.heap.get? b = some o → H b = none → ∃ sl, h'.get? b = some { o with slots := sl }) (free : ∀ b o, b ∉ ch → s.heap.get? b = some o → H b = none → H' b = none)
    (there : ∀ b o, b ∉ ch → s.heap.get? b = some o → ∃ o', h'.get? b = some o')
    (tups : ∀ b xs, H b = some (.tup xs) → H' b = some (.tup xs)) (frzs : ∀ b o u, H b = some (.frz o u) → H' b = some (.frz o u)) (tbls : ∀ b ps, H b = some (.tbl ps) → ∃ more, H' b = some (.tbl (ps ++ more)))
    (ns : ∀ m, s.heap.Ns X.env.locals m → h'.Ns X.env.locals m) (hok : HOk X.prog X.w H' h') (hg : AllBare g') :
    Inv X pins σ H' { s with heap := h', gens := g', drawn := d', toks := t' } := by
  have neL : ∀ b o, X.s₀.heap.get? b = some o → b ≠ X.env.locals := fun b o e => Nat.ne_of_lt (Nat.lt_of_lt_of_le (Heap.lt_size e) I.ok.above)
  have neC : ∀ b o, X.s₀.heap.get? b = some o → b ∉ X.ex → b ∉ ch := fun b o e hx hb => by
    rcases (hch b hb).1 with z | z
    · exact hx z
    · exact absurd (Nat.lt_of_lt_of_le (Heap.lt_size e) z) (Nat.lt_irrefl _)
  have cellK : ∀ x c, X.env.cells.lookup x = some c → ∀ v, s.heap.IsCell c v → h'.IsCell c v := fun x c e v ⟨o, ho, hd⟩ => by
    have nch : c ∉ ch := fun z => (hch c z).2.2.1 x c e rfl
    by_cases hc : c ∈ X.fs
    · obtain ⟨sl, q⟩ := slot c o (I.cne x c e) hc nch ho (I.freeC x c e)
      exact ⟨_, q, hd⟩
    · exact ⟨o, keep c o (I.cne x c e) hc nch ho (I.freeC x c e), hd⟩
  refine ⟨I.ok, I.os, hg, ⟨fun b o e n hb hx => ?_, fun b o e n hb hx => ?_, fun b o e n hx => ?_, fun b o e hx => ?_, fun b xs e => tups b xs (I.base.tups b xs e), fun b o xs e => frzs b o xs (I.base.frzs b o xs e), fun b ps e => ?_⟩, ?_, fun x c e => ?_, ?_, fun x c e => ?_, fun p hp => ?_, hok, I.len⟩
  · exact keep b o (neL b o e) hb (neC b o e hx) (I.base.keep b o e n hb hx) (I.base.free b o e n hx)
  · obtain ⟨sl, e1⟩ := I.base.slot b o e n hb hx
    obtain ⟨sl', e2⟩ := slot b _ (neL b o e) hb (neC b o e hx) e1 (I.base.free b o e n hx)
    exact ⟨sl', e2⟩
  · obtain ⟨o', e1⟩ := I.base.there b o e hx
    exact free b o' (neC b o e hx) e1 (I.base.free b o e n hx)
  · obtain ⟨o', e1⟩ := I.base.there b o e hx
    exact there b o' (neC b o e hx) e1
  · obtain ⟨m1, e1⟩ := I.base.tbls b ps e
    obtain ⟨m2, e2⟩ := tbls b _ e1
    exact ⟨m1 ++ m2, by rw [e2, Array.append_assoc]⟩
  · obtain ⟨m, hn, hl⟩ := I.loc
    refine ⟨m, ns m hn, fun i x v e1 e2 e3 => ?_⟩
    obtain ⟨u, r, l⟩ := hl i x v e1 e2 e3
    refine ⟨u, r, ?_⟩
    rcases l with l | ⟨k, c, e, z⟩
    · exact .inl l
    · exact .inr ⟨k, c, e, cellK x c e _ z⟩
  · obtain ⟨v, z⟩ := I.cell x c e
    exact ⟨v, cellK x c e v z⟩
  · obtain ⟨m, ⟨o, _, _, ho, _⟩, _⟩ := I.loc
    exact free _ o (fun z => (hch _ z).2.1 rfl) ho I.free
  · obtain ⟨v, o, ho, hd⟩ := I.cell x c e
    exact free c o (fun z => (hch c z).2.2.1 x c e rfl) ho (I.freeC x c e)
  · obtain ⟨e, n, ne, nf, d⟩ := I.pin p hp
    have nch : p.1 ∉ ch := fun z => (hch p.1 z).2.2.2 p hp rfl
    exact ⟨keep p.1 p.2 ne nf nch e n, free p.1 p.2 nch e n, ne, nf, d⟩
/-- .. where the frame's own object is kept too -/
theorem Inv.un {t' : Nat} (I : Inv X pins σ H s) (u : Un X.fs [] H H' s.heap h') (hok : HOk X.prog X.w H' h') : Inv X pins σ H' { s with heap := h', toks := t' } := by
  obtain ⟨m, ⟨o, es, ep, ho, r⟩, _⟩ := id I.loc
  obtain ⟨sl, hL⟩ := u.any ho I.free (by simp)
  exact I.step (g' := s.gens) (d' := s.drawn) (ch := []) (fun _ z => nomatch z) (fun b o _ hb _ e n => u.keep b o e n hb (by simp)) (fun b o _ hb _ e n => u.slot b o e n hb (by simp)) (fun b o _ e n => u.free b o e n (by simp)) (fun b o _ e => u.there b o e (by simp)) u.tups u.frzs u.tbls (fun m' hm => by
    obtain ⟨o', es', ep', ho', r'⟩ := hm
    rw [ho] at ho'; cases ho'
    exact ⟨_, es', ep', hL, r'⟩) hok I.bare
/-- behind a call (or a comprehension's block): the slots of this frame may have changed too, the records at ch may have turned -/
theorem Inv.call {g' : Array GenState} {t' : Nat} {d' : Drawn} {ch : List Addr} (I : Inv X pins σ H s) (u : Un (frs X.stack) ch H H' s.heap h') (hok : HOk X.prog X.w H' h') (hg : AllBare g')
    (hch : ∀ b ∈ ch, (b ∈ X.ex ∨ X.s₀.heap.objs.size ≤ b) ∧ b ≠ X.env.locals ∧ (∀ x c, X.env.cells.lookup x = some c → c ≠ b) ∧ ∀ p ∈ X.pn ++ pins, p.1 ≠ b) :
    Inv X pins σ H' { s with heap := h', gens := g', drawn := d', toks := t' } := by
  obtain ⟨m, ⟨o, es, ep, ho, r⟩, _⟩ := id I.loc
  obtain ⟨sl, hL⟩ := u.any ho I.free fun z => (hch _ z).2.1 rfl
  exact I.step (ch := ch) hch (fun b o hL hb hc e n => u.keep b o e n (fun z => (List.mem_cons.mp (I.stkSub b z)).elim hL hb) hc) (fun b o _ _ hc e n => u.any e n hc) (fun b o hc e n => u.free b o e n hc) (fun b o hc e => u.there b o e hc) u.tups u.frzs u.tbls (fun m' hm => by
    obtain ⟨o', es', ep', ho', r'⟩ := hm
    rw [ho] at ho'; cases ho'
    exact ⟨_, es', ep', hL, r'⟩) hok hg
/-- an untracked record of ours (an iterator) has turned -/
theorem Inv.turned {t' : Nat} {it : Addr} (I : Inv X pins σ H s) (k : ∀ b o, b ≠ it → s.heap.get? b = some o → h'.get? b = some o) (hn : H it = none) (hL : it ≠ X.env.locals)
    (h1 : it ∈ X.ex ∨ X.s₀.heap.objs.size ≤ it) (h2 : ∀ x c, X.env.cells.lookup x = some c → c ≠ it) (h3 : ∀ p ∈ X.pn ++ pins, p.1 ≠ it) : Inv X pins σ H { s with heap := h', toks := t' } := by
  have nit : ∀ b u, H b = some u → b ≠ it := fun b u e z => by rw [z, hn] at e; cases e
  refine I.step (g' := s.gens) (d' := s.drawn) (ch := [it]) (fun b hb => ?_) (fun b o _ _ hc e _ => k b o (fun z => hc (by simp [z])) e) (fun b o _ _ hc e _ => ⟨o.slots, k b o (fun z => hc (by simp [z])) e⟩) (fun _ _ _ _ n => n)
    (fun b o hc e => ⟨o, k b o (fun z => hc (by simp [z])) e⟩) (fun _ _ e => e) (fun _ _ _ e => e) (fun b ps e => ⟨#[], by rw [e]; simp⟩) (fun m hm => ?_) (fun b u e => ?_) I.bare
  · have e : b = it := by simpa using hb
    subst e
    exact ⟨h1, hL, h2, h3⟩
  · obtain ⟨o, es, ep, ho, r⟩ := hm
    exact ⟨o, es, ep, k _ o (Ne.symm hL) ho, r⟩
  · refine (I.hok b u e).stay (fun c v hc q => k c v ?_ q) (fun _ q => q) fun _ _ q => q
    rcases hc with z | z
    · rw [z]; exact nit b u e
    · exact nit c _ z
theorem Inv.tok (I : Inv X pins σ H s) (t : Nat) : Inv X pins σ H { s with toks := t } := I.un (h' := s.heap) (t' := t) Un.refl I.hok
/-- all objects kept -/
theorem Inv.kept {t' : Nat} (I : Inv X pins σ H s) (k : ∀ b u, s.heap.get? b = some u → h'.get? b = some u) : Inv X pins σ H { s with heap := h', toks := t' } := I.un (Un.kept k) (I.hok.kept k)
/-- a new object laid and tracked -/
theorem Inv.laid {a : Addr} {o : HO} {t' : Nat} (I : Inv X pins σ H s) (k : ∀ b u, s.heap.get? b = some u → h'.get? b = some u) (hp : s.heap.objs.size ≤ a) (new : ObjOk X.prog X.w (upd H a o) h' a o) :
    Inv X pins σ (upd H a o) { s with heap := h', toks := t' } := I.un (Un.laid k hp (I.hok.fresh hp)) (I.hok.laid k hp new)
/-- an object written -/
theorem Inv.write {x e : Addr} {o : HO} {t' : Nat} (I : Inv X pins σ H s) (mu : Mut (H x)) (he : e = x ∨ H e = some (.own x)) (k : ∀ b u, b ≠ e → s.heap.get? b = some u → h'.get? b = some u) (heo : ∃ u, h'.get? e = some u)
    (new : ObjOk X.prog X.w (upd H x o) h' x o) : Inv X pins σ (upd H x o) { s with heap := h', toks := t' } := I.un (Un.write mu he k heo) (I.hok.write mu he k heo new)
/-- forgetting slots, pins -/
theorem Inv.weak {σ' : List (Option V)} (I : Inv X pins σ H s) (hl : σ'.length = σ.length) (w : ∀ (i : Nat) v, σ'[i]? = some (some v) → σ[i]? = some (some v)) : Inv X pins σ' H s :=
  ⟨I.ok, I.os, I.bare, I.base, let ⟨m, hn, hl'⟩ := I.loc; ⟨m, hn, fun i x v e1 e2 e3 => hl' i x v e1 (w i v e2) e3⟩, I.cell, I.free, I.freeC, I.pin, I.hok, hl.trans I.len⟩
theorem Inv.pins_of {pins' : List (Addr × Obj)} (I : Inv X pins σ H s) (h : ∀ p ∈ pins', s.heap.get? p.1 = some p.2 ∧ H p.1 = none ∧ p.1 ≠ X.env.locals ∧ p.1 ∉ X.fs ∧ ∀ v, p.2.data ≠ .cell v) : Inv X pins' σ H s :=
  ⟨I.ok, I.os, I.bare, I.base, I.loc, I.cell, I.free, I.freeC, fun p hp => (List.mem_append.mp hp).elim (fun z => I.pin p (List.mem_append_left _ z)) (h p), I.hok, I.len⟩

theorem nodup_ix {N : List Str} (hN : N.Nodup) {i j : Nat} {x : Str} (a : N[i]? = some x) (b : N[j]? = some x) : i = j := by
  obtain ⟨h1, e1⟩ := List.getElem?_eq_some_iff.mp a
  obtain ⟨h2, e2⟩ := List.getElem?_eq_some_iff.mp b
  exact (List.getElem_inj hN).mp (e1.trans e2.symm)

/-- a name is stored; what changed -/
theorem store_ok2 {M : Model} {A : Around} {E : Value → Shared → Prop} {i : Nat} {x : Str} {v : V} {u : Value} {Q : Unit → Shared → Prop} (I : Inv X pins σ H s) (hN : X.N.Nodup) (hi : X.N[i]? = some x) (hx : Loc X.env.scope x) (r : RelV v u)
    (h : ∀ s', Inv X pins (σ.set i (some v)) H s' → (∃ a, Heap.SameBut a s.heap s'.heap ∧ (a = X.env.locals ∨ X.env.cells.lookup x = some a)) → Q () s') (hf : X.fn x = true ∨ X.env.scope.names.lookup x = some .local := by first | exact .inl rfl | exact .inr rfl | assumption) : wpAny M A (storeName X.env x u) Q E s := by
  obtain ⟨m, hn, hl⟩ := id I.loc
  have hcls : (X.env.scope.kind == .class || (X.env.scope.kind == .module && X.env.locals != X.env.globals)) = false := by rw [I.ok.kind]; rfl
  have hiσ : i < σ.length := by rw [I.len]; exact (List.getElem?_eq_some_iff.mp hi).1
  have cne := I.cne
  have tracked : ∀ {a : Addr} {h' : Heap}, (∃ o, s.heap.get? a = some o ∧ H a = none) → Heap.SameBut a s.heap h' → HOk X.prog X.w H h' := fun {a h'} ha hs b ob e => by
    obtain ⟨_, _, hfree⟩ := ha
    refine (I.hok b ob e).stay (fun c w' hc q => (hs.2 c ?_).trans q) (fun _ q => q) fun _ _ q => q
    rintro rfl
    rcases hc with rfl | hc
    · rw [hfree] at e; cases e
    · rw [hfree] at hc; cases hc
  rcases hx with hk | hk
  · refine wpAny_storeName_local hk hn (fun h' hn' hs => ?_) hcls
    obtain ⟨oL, _, _, hoL, _⟩ := id hn
    refine h _ ⟨I.ok, I.os, I.bare, ⟨fun b o e n hb hx => ?_, fun b o e n hb hx => ?_, I.base.free, fun b o e hx => ?_, I.base.tups, I.base.frzs, I.base.tbls⟩, ⟨_, hn', fun j y v' e1 e2 e3 => ?_⟩, fun y c e => ?_, I.free, I.freeC, fun p hp => ?_, tracked ⟨oL, hoL, I.free⟩ hs, by simpa using I.len⟩ ⟨_, hs, .inl rfl⟩
    · exact (hs.2 b (Nat.ne_of_lt (Nat.lt_of_lt_of_le (Heap.lt_size e) I.ok.above))).trans (I.base.keep b o e n hb hx)
    · obtain ⟨sl, e1⟩ := I.base.slot b o e n hb hx
      exact ⟨sl, (hs.2 b (Nat.ne_of_lt (Nat.lt_of_lt_of_le (Heap.lt_size e) I.ok.above))).trans e1⟩
    · obtain ⟨o', e1⟩ := I.base.there b o e hx
      exact ⟨o', (hs.2 b (Nat.ne_of_lt (Nat.lt_of_lt_of_le (Heap.lt_size e) I.ok.above))).trans e1⟩
    · by_cases hj : j = i
      · subst hj
        rw [hi] at e1; cases e1
        rw [List.getElem?_set_self hiσ] at e2
        cases e2
        exact ⟨u, r, .inl ⟨hk, by simp⟩⟩
      · rw [List.getElem?_set_ne (Ne.symm hj)] at e2
        obtain ⟨u', r', q⟩ := hl j y v' e1 e2 e3
        refine ⟨u', r', ?_⟩
        rcases q with ⟨k, e⟩ | ⟨k, c, e, z⟩
        · refine .inl ⟨k, ?_⟩
          have : y ≠ x := fun e => hj (nodup_ix hN e1 (e ▸ hi))
          simp [this, e]
        · exact .inr ⟨k, c, e, z.sameBut hs (cne y c e)⟩
    · obtain ⟨w', z⟩ := I.cell y c e
      exact ⟨w', z.sameBut hs (cne y c e)⟩
    · obtain ⟨e, n, ne, nf, d⟩ := I.pin p hp
      exact ⟨(hs.2 p.1 ne).trans e, n, ne, nf, d⟩
  · have hfn : X.fn x = true := by
      rcases hf with z | z
      · exact z
      · rw [z] at hk; cases hk
    obtain ⟨c, hc⟩ := I.ok.has x (.inl hk)
    obtain ⟨w', z⟩ := I.cell x c hc
    refine wpAny_storeName_cell I.ok.kind hk hc z (fun h' hc' hs => ?_)
    obtain ⟨oc, hoc, hocd⟩ := id z
    refine h { s with heap := h' } ⟨I.ok, I.os, I.bare, ⟨fun b o e n hb hx => ?_, fun b o e n hb hx => ?_, I.base.free, fun b o e hx => ?_, I.base.tups, I.base.frzs, I.base.tbls⟩, ⟨m, hn.sameBut hs (Ne.symm (cne x c hc)), fun j y v' e1 e2 e3 => ?_⟩, fun y c' e => ?_, I.free, I.freeC, fun p hp => ?_, tracked ⟨oc, hoc, I.freeC x c hc⟩ hs, by simpa using I.len⟩ ⟨c, hs, .inr hc⟩
    · exact (hs.2 b (Nat.ne_of_lt (Nat.lt_of_lt_of_le (Heap.lt_size e) (I.ok.cab x c hfn hc)))).trans (I.base.keep b o e n hb hx)
    · obtain ⟨sl, e1⟩ := I.base.slot b o e n hb hx
      exact ⟨sl, (hs.2 b (Nat.ne_of_lt (Nat.lt_of_lt_of_le (Heap.lt_size e) (I.ok.cab x c hfn hc)))).trans e1⟩
    · obtain ⟨o', e1⟩ := I.base.there b o e hx
      exact ⟨o', (hs.2 b (Nat.ne_of_lt (Nat.lt_of_lt_of_le (Heap.lt_size e) (I.ok.cab x c hfn hc)))).trans e1⟩
    · by_cases hj : j = i
      · subst hj
        rw [hi] at e1; cases e1
        rw [List.getElem?_set_self hiσ] at e2
        cases e2
        exact ⟨u, r, .inr ⟨.inl hk, c, hc, hc'⟩⟩
      · rw [List.getElem?_set_ne (Ne.symm hj)] at e2
        obtain ⟨u', r', q⟩ := hl j y v' e1 e2 e3
        refine ⟨u', r', ?_⟩
        rcases q with q | ⟨k, c', e, z'⟩
        · exact .inl q
        · refine .inr ⟨k, c', e, z'.sameBut hs ?_⟩
          rintro rfl
          exact hj (nodup_ix hN e1 (I.ok.inj _ _ _ e hc ▸ hi))
    · by_cases hcc : c' = c
      · subst hcc; exact ⟨_, hc'⟩
      · obtain ⟨w2, z2⟩ := I.cell y c' e
        exact ⟨w2, z2.sameBut hs hcc⟩
    · obtain ⟨e, n, ne, nf, d⟩ := I.pin p hp
      refine ⟨(hs.2 p.1 ?_).trans e, n, ne, nf, d⟩
      intro q
      rw [q, hoc] at e
      have q' : oc = p.2 := Option.some.inj e
      exact d w' (by rw [← q']; exact hocd)
theorem store_ok {M : Model} {A : Around} {E : Value → Shared → Prop} {i : Nat} {x : Str} {v : V} {u : Value} {Q : Unit → Shared → Prop} (I : Inv X pins σ H s) (hN : X.N.Nodup) (hi : X.N[i]? = some x) (hx : Loc X.env.scope x) (r : RelV v u)
    (h : ∀ s', Inv X pins (σ.set i (some v)) H s' → Q () s') (hf : X.fn x = true ∨ X.env.scope.names.lookup x = some .local := by first | exact .inl rfl | exact .inr rfl | assumption) : wpAny M A (storeName X.env x u) Q E s :=
  store_ok2 I hN hi hx r (fun s' I' _ => h s' I') hf
/-- behind a call or a block, the state as it is -/
theorem Inv.call' {s' : Shared} {ch : List Addr} (I : Inv X pins σ H s) (ho : s'.os = s.os) (u : Un (frs X.stack) ch H H' s.heap s'.heap) (hok : HOk X.prog X.w H' s'.heap) (hg : AllBare s'.gens)
    (hch : ∀ b ∈ ch, (b ∈ X.ex ∨ X.s₀.heap.objs.size ≤ b) ∧ b ≠ X.env.locals ∧ (∀ x c, X.env.cells.lookup x = some c → c ≠ b) ∧ ∀ p ∈ X.pn ++ pins, p.1 ≠ b) : Inv X pins σ H' s' := by
  obtain ⟨h', g', d', t', o'⟩ := s'
  have e : o' = s.os := ho
  subst e
  exact I.call (g' := g') (t' := t') (d' := d') u hok hg hch
end

/-! ### the judgements -/
/-- an exception: its class, its own dict's address (where it has one), the abstract heap behind it -/
abbrev XK := Value → Option Addr → Hp → Prop
abbrev St := List (Option V)
abbrev VK := V → Hp → Prop
/-- an expression's reading; a test's; an argument list's -/
abbrev TE := St → Hp → VK → Prop
abbrev TT := St → Hp → (Bool → Hp → Prop) → Prop
abbrev TA := St → Hp → (List V → Hp → Prop) → Prop
/-- what is wanted behind a statement -/
structure Ends where
  nx : St → Hp → Prop
  rt : VK
  bk : St → Hp → Prop := fun _ _ => False
  ct : St → Hp → Prop := fun _ _ => False
abbrev TS := Ends → St → Hp → Prop

def EP (X : Cx) (pins : List (Addr × Obj)) (σ : St) (Q : VK) (u : Value) (s' : Shared) : Prop := ∃ v H', Inv X pins σ H' s' ∧ RelV v u ∧ Q v H'
def TP (X : Cx) (pins : List (Addr × Obj)) (σ : St) (Q : Bool → Hp → Prop) (b : Bool) (s' : Shared) : Prop := ∃ H', Inv X pins σ H' s' ∧ Q b H'
def AP (X : Cx) (pins : List (Addr × Obj)) (σ : St) (Q : List V → Hp → Prop) (us : List Value) (s' : Shared) : Prop := ∃ vs H', Inv X pins σ H' s' ∧ Vals vs us ∧ Q vs H'
def SP (X : Cx) (pins : List (Addr × Obj)) (D : Ends) (f : Flow) (s' : Shared) : Prop :=
  match f with
  | .next => ∃ σ' H', Inv X pins σ' H' s' ∧ D.nx σ' H'
  | .brk => ∃ σ' H', Inv X pins σ' H' s' ∧ D.bk σ' H'
  | .cont => ∃ σ' H', Inv X pins σ' H' s' ∧ D.ct σ' H'
  | .ret u => ∃ v σ' H', Inv X pins σ' H' s' ∧ RelV v u ∧ D.rt v H'

def PE (X : Cx) (e : Expr) (t : TE) : Prop :=
  ∀ (pins : List (Addr × Obj)) (s : Shared) (σ : St) (H : Hp) (Q : VK), Inv X pins σ H s → t σ H Q → wpAny (model X.prog X.w) X.A (eval e X.env) (EP X pins σ Q) X.xe s
def PT (X : Cx) (e : Expr) (t : TT) : Prop :=
  ∀ (pins : List (Addr × Obj)) (s : Shared) (σ : St) (H : Hp) (Q : Bool → Hp → Prop), Inv X pins σ H s → t σ H Q → wpAny (model X.prog X.w) X.A (isTrue e X.env (eval e X.env)) (TP X pins σ Q) X.xe s
/-- a test whatever its 'whole' is (and, or) -/
def PW (X : Cx) (e : Expr) (t : TT) : Prop :=
  ∀ (whole : Sem Value) (pins : List (Addr × Obj)) (s : Shared) (σ : St) (H : Hp) (Q : Bool → Hp → Prop), Inv X pins σ H s → t σ H Q → wpAny (model X.prog X.w) X.A (isTrue e X.env whole) (TP X pins σ Q) X.xe s
theorem PW.pt {X : Cx} {e : Expr} {t : TT} (h : PW X e t) : PT X e t := h _
/-- an argument list (no star), from the left -/
def PA (X : Cx) (es : List Expr) (t : TA) : Prop :=
  ∀ (pos : Pos) (pins : List (Addr × Obj)) (s : Shared) (σ : St) (H : Hp) (Q : List V → Hp → Prop), Inv X pins σ H s → t σ H Q → wpAny (model X.prog X.w) X.A (spliced (backTo pos (starEach es X.env))) (AP X pins σ Q) X.xe s
def PS (X : Cx) (st : Stmt) (t : TS) : Prop :=
  ∀ (pins : List (Addr × Obj)) (s : Shared) (σ : St) (H : Hp) (D : Ends), Inv X pins σ H s → t D σ H → wpAny (model X.prog X.w) X.A (exec st X.env) (SP X pins D) X.xe s
def PSs (X : Cx) (st : List Stmt) (t : TS) : Prop :=
  ∀ (pins : List (Addr × Obj)) (s : Shared) (σ : St) (H : Hp) (D : Ends), Inv X pins σ H s → t D σ H → wpAny (model X.prog X.w) X.A (execs st X.env) (SP X pins D) X.xe s
/-- weaken the end -/
theorem thn {α : Type} {t : Sem α} {Q Q' : α → Shared → Prop} {M : Model} {A : Around} {E : Value → Shared → Prop} {s : Shared} (h : wpAny M A t Q E s) (hQ : ∀ a s, Q a s → Q' a s) : wpAny M A t Q' E s := wpAny_mono h hQ fun _ _ x => x
end L2

namespace L2
open PySem PySem.Spec PyProof.Rows
section
variable {X : Cx}

/-- two expressions in a row -/
theorem bin {a b : Expr} {ta tb : TE} (ha : PE X a ta) (hb : PE X b tb) {pins : List (Addr × Obj)} {s : Shared} {σ : St} {H : Hp} {R : V → V → Hp → Prop} (I : Inv X pins σ H s) (h : ta σ H fun x H1 => tb σ H1 fun y H2 => R x y H2)
    {α : Type} {Q : α → Shared → Prop} {f : Value → Value → Sem α}
    (hf : ∀ v u s2 x y H2, Inv X pins σ H2 s2 → RelV x v → RelV y u → R x y H2 → wpAny (model X.prog X.w) X.A (f v u) Q X.xe s2) :
    wpAny (model X.prog X.w) X.A (eval a X.env) (fun v s₁ => wpAny (model X.prog X.w) X.A (eval b X.env) (fun u s₂ => wpAny (model X.prog X.w) X.A (f v u) Q X.xe s₂) X.xe s₁) X.xe s := by
  refine thn (ha pins s σ H _ I h) fun v s1 ⟨x, H1, I1, r1, q1⟩ => ?_
  refine thn (hb pins s1 σ H1 _ I1 q1) fun u s2 ⟨y, H2, I2, r2, q2⟩ => ?_
  exact hf v u s2 x y H2 I2 r1 r2 q2

/-! ### names and constants -/
def tVar (i : Nat) : TE := fun σ H Q => ∃ v, σ[i]? = some (some v) ∧ Q v H
def tC (v : V) : TE := fun _ H Q => Q v H
theorem pe_var {i : Nat} {x : Str} {pos : Pos} (hN : X.N[i]? = some x) (hv : Vis X.env.scope x) (hd : (x == ("__debug__" : Str)) = false := by decide) (hcd : (x == ("__classdict__" : Str)) = false := by decide) : PE X (.Name x pos) (tVar i) := by
  intro pins s σ H Q I h
  obtain ⟨v, e, h⟩ := h
  obtain ⟨m, hn, hl⟩ := I.loc
  obtain ⟨u, r, l⟩ := hl i x v hN e hv
  have fin : EP X pins σ Q u s := ⟨v, H, I, r, h⟩
  rcases l with ⟨hk, hm⟩ | ⟨hk, c, hc, hcell⟩
  · exact wpAny_Name (wpAny_loadName_local I.ok.kind hk hn hm fin) hd
  · rcases hk with hk | hk
    · exact wpAny_Name (wpAny_loadName_cell I.ok.kind hk hc hcell fin) hd
    · exact wpAny_Name (wpAny_loadName_free I.ok.kind hk hc hcell fin hcd) hd
theorem pe_int {i j pos} : PE X (.Constant (.int i) j pos) (tC (.int i)) := fun _ _ _ H _ I h => wpAny_Constant_int ⟨.int i, H, I.tok _, ⟨_, rfl⟩, h⟩
theorem pe_bl {b j pos} : PE X (.Constant (.bool b) j pos) (tC (.bl b)) := fun _ _ _ H _ I h => Constant_bool ⟨.bl b, H, I, rfl, h⟩
theorem pe_non {j pos} : PE X (.Constant .none j pos) (tC .non) := fun _ _ _ H _ I h => Constant_none ⟨.non, H, I, rfl, h⟩
theorem pe_str {x j pos} : PE X (.Constant (.str x) j pos) (tC (.str x)) := fun _ _ _ H _ I h => Calls.Constant_str ⟨.str x, H, I.tok _, ⟨_, rfl⟩, h⟩

/-- a global name of the def -/
def Gl (X : Cx) (x : Str) : Prop := X.env.kindOf x = some .globalImplicit
theorem ld_glob {E : Value → Shared → Prop} {pins : List (Addr × Obj)} {s : Shared} {σ : St} {H : Hp} {x : Str} {u : Value} {pos : Pos} {Q : Value → Shared → Prop} (I : Inv X pins σ H s) (hg : Gl X x) (hm : X.mg x = some u) (h : Q u s)
    (hd : (x == ("__debug__" : Str)) = false := by decide) : wpAny (model X.prog X.w) X.A (eval (.Name x pos) X.env) Q E s :=
  Calls.Name_function_global I.ok.kind hg (Calls.loadGlobal_global (by rw [I.ok.glob]; exact I.mod.glob.keeps I.bk) hm h) hd
theorem ld_blt {E : Value → Shared → Prop} {pins : List (Addr × Obj)} {s : Shared} {σ : St} {H : Hp} {x : Str} {u : Value} {pos : Pos} {Q : Value → Shared → Prop} (I : Inv X pins σ H s) (hg : Gl X x) (hm : X.mg x = none) (hv : bootBuiltins x = some u) (h : Q u s)
    (hn : x ≠ "__name__" := by decide) (hd : (x == ("__debug__" : Str)) = false := by decide) : wpAny (model X.prog X.w) X.A (eval (.Name x pos) X.env) Q E s := by
  obtain ⟨mb, h1, h2⟩ := I.mod.blt
  exact Calls.Name_function_global I.ok.kind hg (Calls.loadGlobal_builtin (by rw [I.ok.glob]; exact I.mod.glob.keeps I.bk) hm (by rw [I.ok.blt]; exact h1.keeps I.bk) ((h2 x hn).trans hv) h) hd
/-- a module's constant, a class, a function, as a value -/
theorem pe_glob {x : Str} {v : V} {u : Value} {pos : Pos} (hg : Gl X x) (hm : X.mg x = some u) (r : RelV v u) (hd : (x == ("__debug__" : Str)) = false := by decide) : PE X (.Name x pos) (tC v) :=
  fun _ _ _ H _ I h => ld_glob I hg hm ⟨v, H, I, r, h⟩ hd
theorem pe_bltn {x : Str} {v : V} {u : Value} {pos : Pos} (hg : Gl X x) (hm : X.mg x = none) (hv : bootBuiltins x = some u) (r : RelV v u) (hn : x ≠ "__name__" := by decide) (hd : (x == ("__debug__" : Str)) = false := by decide) : PE X (.Name x pos) (tC v) :=
  fun _ _ _ H _ I h => ld_blt I hg hm hv ⟨v, H, I, r, h⟩ hn hd

/-! ### arithmetic -/
/-- two ints -/
def t2I (ta tb : TE) (k : Int → Int → Hp → Prop) : St → Hp → Prop := fun σ H => ta σ H fun x H1 => tb σ H1 fun y H2 => ∃ i j, x = .int i ∧ y = .int j ∧ k i j H2
def tAdd (ta tb : TE) : TE := fun σ H Q => t2I ta tb (fun i j H2 => Q (.int (i + j)) H2) σ H
def tSub (ta tb : TE) : TE := fun σ H Q => t2I ta tb (fun i j H2 => Q (.int (i - j)) H2) σ H
/-- the left factor below 2^64 -/
def tMul (ta tb : TE) : TE := fun σ H Q => t2I ta tb (fun i j H2 => (-(2 ^ 64) < i ∧ i < 2 ^ 64) ∧ Q (.int (i * j)) H2) σ H
variable {a b : Expr} {ta tb : TE} {pos : Pos}
theorem pe_add (ha : PE X a ta) (hb : PE X b tb) : PE X (.BinOp a .Add b pos) (tAdd ta tb) := by
  intro pins s σ H Q I h
  refine wpAny_BinOp (bin ha hb I h fun v u s2 x y H2 I2 rx ry q => ?_)
  obtain ⟨i, j, rfl, rfl, q⟩ := q
  obtain ⟨t, rfl⟩ := rx
  obtain ⟨t', rfl⟩ := ry
  exact add_int ⟨.int _, H2, I2.tok _, ⟨_, rfl⟩, q⟩
theorem pe_sub (ha : PE X a ta) (hb : PE X b tb) : PE X (.BinOp a .Sub b pos) (tSub ta tb) := by
  intro pins s σ H Q I h
  refine wpAny_BinOp (bin ha hb I h fun v u s2 x y H2 I2 rx ry q => ?_)
  obtain ⟨i, j, rfl, rfl, q⟩ := q
  obtain ⟨t, rfl⟩ := rx
  obtain ⟨t', rfl⟩ := ry
  exact sub_int ⟨.int _, H2, I2.tok _, ⟨_, rfl⟩, q⟩
theorem pe_mul (ha : PE X a ta) (hb : PE X b tb) : PE X (.BinOp a .Mult b pos) (tMul ta tb) := by
  intro pins s σ H Q I h
  refine wpAny_BinOp (bin ha hb I h fun v u s2 x y H2 I2 rx ry q => ?_)
  obtain ⟨i, j, rfl, rfl, ⟨q1, q2⟩, q⟩ := q
  obtain ⟨t, rfl⟩ := rx
  obtain ⟨t', rfl⟩ := ry
  exact mul_int ⟨.int _, H2, I2.tok _, ⟨_, rfl⟩, q⟩ (.of_left (intBits_le_64 q1 q2))

/-! ### comparisons -/
def PC (X : Cx) (op : CmpOp) (a b : Expr) (t : TE) : Prop :=
  ∀ (pins : List (Addr × Obj)) (s : Shared) (σ : St) (H : Hp) (Q : VK), Inv X pins σ H s → t σ H Q →
    wpAny (model X.prog X.w) X.A (eval a X.env) (fun v s₁ => wpAny (model X.prog X.w) X.A (eval b X.env) (fun u s₂ => wpAny (model X.prog X.w) X.A (compareOp op v u) (EP X pins σ Q) X.xe s₂) X.xe s₁) X.xe s
theorem nobehind (b : Expr) {op : CmpOp} (h : op ≠ .In) (h2 : op ≠ .NotIn) : behindInMarks op b = false := by
  have e1 : (op == CmpOp.In) = false := by cases op <;> first | rfl | exact absurd rfl h
  have e2 : (op == CmpOp.NotIn) = false := by cases op <;> first | rfl | exact absurd rfl h2
  cases b <;> simp [behindInMarks, e1, e2]
def tCmp (p : Int → Int → Bool) (ta tb : TE) : TE := fun σ H Q => t2I ta tb (fun i j H2 => Q (.bl (p i j)) H2) σ H
abbrev tLt : TE → TE → TE := tCmp fun i j => decide (i < j)
abbrev tLe : TE → TE → TE := tCmp fun i j => decide (i ≤ j)
abbrev tGt : TE → TE → TE := tCmp fun i j => decide (j < i)
abbrev tGe : TE → TE → TE := tCmp fun i j => decide (j ≤ i)
abbrev tEqI : TE → TE → TE := tCmp fun i j => decide (i = j)
abbrev tNeI : TE → TE → TE := tCmp fun i j => !decide (i = j)
/-- a comparison of two ints, by its rule -/
theorem pc_int {op : CmpOp} {p : Int → Int → Bool} (ha : PE X a ta) (hb : PE X b tb)
    (rule : ∀ (i j : Int) (t u : Tok) (Q : Value → Shared → Prop) (s : Shared), Q (.bool (p i j)) s → wpAny (model X.prog X.w) X.A (compareOp op (.int i t) (.int j u)) Q X.xe s) : PC X op a b (tCmp p ta tb) := by
  intro pins s σ H Q I h
  refine bin ha hb I h fun v u s2 x y H2 I2 rx ry q => ?_
  obtain ⟨i, j, rfl, rfl, q⟩ := q
  obtain ⟨t, rfl⟩ := rx
  obtain ⟨t', rfl⟩ := ry
  exact rule i j t t' _ s2 ⟨.bl _, H2, I2, rfl, q⟩
theorem pc_lt (ha : PE X a ta) (hb : PE X b tb) : PC X .Lt a b (tLt ta tb) := pc_int ha hb fun _ _ _ _ _ _ h => lt_int h
theorem pc_le (ha : PE X a ta) (hb : PE X b tb) : PC X .LtE a b (tLe ta tb) := pc_int ha hb fun _ _ _ _ _ _ h => le_int h
theorem pc_gt (ha : PE X a ta) (hb : PE X b tb) : PC X .Gt a b (tGt ta tb) := pc_int ha hb fun _ _ _ _ _ _ h => gt_int h
theorem pc_ge (ha : PE X a ta) (hb : PE X b tb) : PC X .GtE a b (tGe ta tb) := pc_int ha hb fun _ _ _ _ _ _ h => ge_int h
theorem pc_eqI (ha : PE X a ta) (hb : PE X b tb) : PC X .Eq a b (tEqI ta tb) := pc_int ha hb fun _ _ _ _ _ _ h => eq_int (by rw [Bool.beq_eq_decide_eq]; exact h)
theorem pc_neI (ha : PE X a ta) (hb : PE X b tb) : PC X .NotEq a b (tNeI ta tb) := pc_int ha hb fun _ _ _ _ _ _ h => ne_int (by rw [bne, Bool.beq_eq_decide_eq]; exact h)
/-- is None -/
def tIsN (ta : TE) : TE := fun σ H Q => ta σ H fun x H1 => Q (.bl (decide (x = .non))) H1
def tNotN (ta : TE) : TE := fun σ H Q => ta σ H fun x H1 => Q (.bl (!decide (x = .non))) H1
theorem RelV.none_iff {x : V} {v : Value} (r : RelV x v) : (v == Value.none) = decide (x = .non) := by
  cases x with
  | non => cases r; rfl
  | bl _ => cases r; rfl
  | int _ => obtain ⟨t, rfl⟩ := r; rfl
  | str _ => obtain ⟨t, rfl⟩ := r; rfl
  | byt _ => obtain ⟨t, rfl⟩ := r; rfl
  | flt _ => obtain ⟨t, rfl⟩ := r; rfl
  | ref _ => cases r; rfl
  | ty _ => cases r; rfl
theorem pc_isN {j pos'} (ha : PE X a ta) : PC X .Is a (.Constant .none j pos') (tIsN ta) := by
  intro pins s σ H Q I h
  refine thn (ha pins s σ H _ I h) fun v s1 ⟨x, H1, I1, r1, q1⟩ => ?_
  exact Constant_none (is_none_gen ⟨.bl _, H1, I1, by rw [r1.none_iff]; rfl, q1⟩)
theorem pc_notN {j pos'} (ha : PE X a ta) : PC X .IsNot a (.Constant .none j pos') (tNotN ta) := by
  intro pins s σ H Q I h
  refine thn (ha pins s σ H _ I h) fun v s1 ⟨x, H1, I1, r1, q1⟩ => ?_
  exact Constant_none (isnot_none_gen ⟨.bl _, H1, I1, by rw [r1.none_iff]; rfl, q1⟩)
/-- a comparison as a value, as a test -/
def tB (t : TE) : TT := fun σ H Q => t σ H fun x H1 => ∃ c, x = .bl c ∧ Q c H1
theorem pe_cmp {op : CmpOp} {t : TE} (h : PC X op a b t) (h1 : behindInMarks op b = false := by first | exact nobehind _ (by decide) (by decide) | rfl) : PE X (.Compare a [op] [b] pos) t := fun pins s σ H Q I hw => wpAny_Compare1 (h pins s σ H Q I hw) h1
theorem pt_cmp {op : CmpOp} {t : TE} (h : PC X op a b t) (h1 : behindInMarks op b = false := by first | exact nobehind _ (by decide) (by decide) | rfl) : PT X (.Compare a [op] [b] pos) (tB t) := by
  intro pins s σ H Q I hw
  refine wpAny_isTrue_Compare1 (thn (h pins s σ H _ I hw) fun v s1 h1 => thn h1 fun u s2 h2 => thn h2 fun c s3 ⟨x, H1, I1, r1, q1⟩ => ?_) h1
  obtain ⟨d, rfl, q⟩ := q1
  cases r1
  exact wpAny_truthy_bool ⟨H1, I1, q⟩
/-- an expression whose value is a bool, as a test -/
theorem pt_val {e : Expr} {t : TE} (h : PE X e t) (he : ∀ whole, isTrue e X.env whole = (do let v ← whole; standAt e.pos; holding [v] (truthy v)) := by intro _; rfl) : PT X e (tB t) := by
  intro pins s σ H Q I hw
  refine isTrue_plain (thn (h pins s σ H _ I hw) fun v s1 ⟨x, H1, I1, r1, q1⟩ => ?_) (he _)
  obtain ⟨d, rfl, q⟩ := q1
  cases r1
  exact wpAny_truthy_bool ⟨H1, I1, q⟩

/-! ### and, or, not -/
variable {tA tB' : TT} {rest : List Expr}
def tAnd (t u : TT) : TT := fun σ H Q => t σ H fun c H1 => if c = true then u σ H1 Q else Q false H1
def tOr (t u : TT) : TT := fun σ H Q => t σ H fun c H1 => if c = true then Q true H1 else u σ H1 Q
def tNot (t : TT) : TT := fun σ H Q => t σ H fun c H1 => Q (!c) H1
theorem pw_and1 (ha : PT X a tA) : PW X (.BoolOp .And [a] pos) tA := by
  intro wh pins s σ H Q I h
  refine isTrue_and (thn (ha pins s σ H Q I h) fun c s1 e => ?_)
  cases c with
  | true => exact isTrue_and_nil e
  | false => exact e
theorem pw_or1 (ha : PT X a tA) : PW X (.BoolOp .Or [a] pos) tA := by
  intro wh pins s σ H Q I h
  refine isTrue_or (thn (ha pins s σ H Q I h) fun c s1 e => ?_)
  cases c with
  | false => exact isTrue_or_nil e
  | true => exact e
theorem pw_and (ha : PT X a tA) (hb : PW X (.BoolOp .And (b :: rest) pos) tB') : PW X (.BoolOp .And (a :: b :: rest) pos) (tAnd tA tB') := by
  intro wh pins s σ H Q I h
  refine isTrue_and (thn (ha pins s σ H _ I h) fun c s1 ⟨H1, I1, q1⟩ => ?_)
  cases c with
  | true => exact hb wh pins s1 σ H1 Q I1 q1
  | false => exact ⟨H1, I1, q1⟩
theorem pw_or (ha : PT X a tA) (hb : PW X (.BoolOp .Or (b :: rest) pos) tB') : PW X (.BoolOp .Or (a :: b :: rest) pos) (tOr tA tB') := by
  intro wh pins s σ H Q I h
  refine isTrue_or (thn (ha pins s σ H _ I h) fun c s1 ⟨H1, I1, q1⟩ => ?_)
  cases c with
  | true => exact ⟨H1, I1, q1⟩
  | false => exact hb wh pins s1 σ H1 Q I1 q1
theorem pt_not (ha : PT X a tA) : PT X (.UnaryOp .Not a pos) (tNot tA) := by
  intro pins s σ H Q I h
  exact isTrue_not (ha pins s σ H (fun c H1 => Q (!c) H1) I h)
/-- .. as values (bools) -/
def tAndV (ta tb : TE) : TE := fun σ H Q => ta σ H fun x H1 => ∃ c, x = .bl c ∧ if c = true then tb σ H1 Q else Q (.bl false) H1
def tOrV (ta tb : TE) : TE := fun σ H Q => ta σ H fun x H1 => ∃ c, x = .bl c ∧ if c = true then Q (.bl true) H1 else tb σ H1 Q
def tNotV (ta : TE) : TE := fun σ H Q => ta σ H fun x H1 => ∃ c, x = .bl c ∧ Q (.bl (!c)) H1
theorem pe_one {op} {t : TE} (h : PE X a t) : PE X (.BoolOp op [a] pos) t := fun pins s σ H Q I hw => BoolOp_one (h pins s σ H Q I hw)
theorem pe_and (ha : PE X a ta) (hb : PE X (.BoolOp .And (b :: rest) pos) tb) : PE X (.BoolOp .And (a :: b :: rest) pos) (tAndV ta tb) := by
  intro pins s σ H Q I h
  refine BoolOp_and (thn (ha pins s σ H _ I h) fun v s1 ⟨x, H1, I1, r1, q1⟩ => ?_)
  obtain ⟨c, rfl, q1⟩ := q1
  cases r1
  refine wpAny_truthy_bool ?_
  cases c with
  | true => exact hb pins s1 σ H1 Q I1 q1
  | false => exact ⟨.bl false, H1, I1, rfl, q1⟩
theorem pe_or (ha : PE X a ta) (hb : PE X (.BoolOp .Or (b :: rest) pos) tb) : PE X (.BoolOp .Or (a :: b :: rest) pos) (tOrV ta tb) := by
  intro pins s σ H Q I h
  refine BoolOp_or (thn (ha pins s σ H _ I h) fun v s1 ⟨x, H1, I1, r1, q1⟩ => ?_)
  obtain ⟨c, rfl, q1⟩ := q1
  cases r1
  refine wpAny_truthy_bool ?_
  cases c with
  | false => exact hb pins s1 σ H1 Q I1 q1
  | true => exact ⟨.bl true, H1, I1, rfl, q1⟩
theorem pe_not (ha : PE X a ta) : PE X (.UnaryOp .Not a pos) (tNotV ta) := by
  intro pins s σ H Q I h
  refine UnaryOp_ (thn (ha pins s σ H _ I h) fun v s1 ⟨x, H1, I1, r1, q1⟩ => ?_)
  obtain ⟨c, rfl, q1⟩ := q1
  cases r1
  exact not_of (wpAny_truthy_bool ⟨.bl (!c), H1, I1, rfl, q1⟩)
/-- a if t else b -/
def tIf (t : TT) (ta tb : TE) : TE := fun σ H Q => t σ H fun c H1 => if c = true then ta σ H1 Q else tb σ H1 Q
theorem pe_ifExp {c : Expr} (hc : PT X c tA) (ha : PE X a ta) (hb : PE X b tb) : PE X (.IfExp c a b pos) (tIf tA ta tb) := by
  intro pins s σ H Q I h
  refine wpAny_IfExp (thn (hc pins s σ H _ I h) fun d s1 ⟨H1, I1, q1⟩ => ?_)
  cases d with
  | true => exact ha pins s1 σ H1 Q I1 q1
  | false => exact hb pins s1 σ H1 Q I1 q1
end
end L2

namespace L2
open PySem PySem.Spec PyProof.Rows

/-! ### a list, a tuple that is read: tracked, frozen, or an object of the module -/
def SqL (K : PySem.W.Frag) (H : Hp) (a : Addr) (xs : List V) : Prop :=
  Rd H a (.lst xs) ∨
    ∃ (o : Obj) (its : Array Value) (n : Nat), K.lookup a = some o ∧ o.cls = .type "list" ∧ o.dict = none ∧ o.data = .seq its n ∧ its.size ≤ sizeLine ∧ Vals xs its.toList
def SqT (K : PySem.W.Frag) (H : Hp) (a : Addr) (xs : List V) : Prop :=
  Rd H a (.tup xs) ∨
    ∃ (o : Obj) (its : Array Value) (n : Nat), K.lookup a = some o ∧ o.cls = .type "tuple" ∧ o.data = .seq its n ∧ its.size ≤ sizeLine ∧ Vals xs its.toList
def absV : Value → Option V
  | .none => some .non
  | .bool b => some (.bl b)
  | .int i _ => some (.int i)
  | .str x _ => some (.str x)
  | .bytes b _ => some (.byt b)
  | .float b _ => some (.flt b)
  | .ref a => some (.ref a)
  | .type n => some (.ty n)
  | _ => none
theorem RelV.abs {x : V} {u : Value} (r : RelV x u) : absV u = some x := by
  cases x with
  | non => cases r; rfl
  | bl _ => cases r; rfl
  | int _ => obtain ⟨t, rfl⟩ := r; rfl
  | str _ => obtain ⟨t, rfl⟩ := r; rfl
  | byt _ => obtain ⟨t, rfl⟩ := r; rfl
  | flt _ => obtain ⟨t, rfl⟩ := r; rfl
  | ref _ => cases r; rfl
  | ty _ => cases r; rfl
theorem RelV.inj {x y : V} {u : Value} (r : RelV x u) (q : RelV y u) : x = y := Option.some.inj (r.abs.symm.trans q.abs)
theorem Vals.inj : ∀ {xs ys : List V} {us : List Value}, Vals xs us → Vals ys us → xs = ys
  | _, _, _, .nil, .nil => rfl
  | _, _, _, .cons r t, .cons r' t' => by rw [r.inj r', Vals.inj t t']
section
variable {X : Cx} {pins : List (Addr × Obj)} {σ : St} {H : Hp} {s : Shared} {a : Addr} {xs ys : List V}
theorem SqL.of {K : PySem.W.Frag} (h : H a = some (.lst xs)) : SqL K H a xs := .inl (.inl h)
theorem SqT.of {K : PySem.W.Frag} (h : H a = some (.tup xs)) : SqT K H a xs := .inl (.inl h)
theorem Inv.list (I : Inv X pins σ H s) (h : SqL X.K H a xs) : ∃ its : List Value, Vals xs its ∧ PlainL s.heap a its.toArray ∧ xs.length ≤ sizeLine := by
  rcases h with h | ⟨o, its, n, hk, hc, hd, hs, hz, r⟩
  · obtain ⟨z, its, n, r, e⟩ := h.ok I.hok
    exact ⟨its, r, ⟨_, n, e, rfl, rfl, rfl⟩, z⟩
  · refine ⟨its.toList, r, ⟨o, n, I.kIn a o hk, hc, hd, by simpa using hs⟩, ?_⟩
    have e := r.length
    simp only [Array.length_toList] at e
    omega
theorem Inv.tuple (I : Inv X pins σ H s) (h : SqT X.K H a xs) : ∃ its : List Value, Vals xs its ∧ IsTup s.heap a its.toArray ∧ xs.length ≤ sizeLine := by
  rcases h with h | ⟨o, its, n, hk, hc, hs, hz, r⟩
  · obtain ⟨z, its, r, p⟩ := h.ok I.hok
    exact ⟨its, r, p, z⟩
  · refine ⟨its.toList, r, ⟨o, I.kIn a o hk, hc, n, by simpa using hs⟩, ?_⟩
    have e := r.length
    simp only [Array.length_toList] at e
    omega
theorem Inv.list_inj (I : Inv X pins σ H s) (h : SqL X.K H a xs) (h' : SqL X.K H a ys) : xs = ys := by
  obtain ⟨its, r, ⟨o, n, e, _, _, d⟩, _⟩ := I.list h
  obtain ⟨its', r', ⟨o', n', e', _, _, d'⟩, _⟩ := I.list h'
  rw [e] at e'; cases e'
  rw [d] at d'
  injection d' with d1 _
  have : its = its' := by simpa using congrArg Array.toList d1
  subst this
  exact r.inj r'
theorem Inv.tuple_inj (I : Inv X pins σ H s) (h : SqT X.K H a xs) (h' : SqT X.K H a ys) : xs = ys := by
  obtain ⟨its, r, ⟨o, e, _, n, d⟩, _⟩ := I.tuple h
  obtain ⟨its', r', ⟨o', e', _, n', d'⟩, _⟩ := I.tuple h'
  rw [e] at e'; cases e'
  rw [d] at d'
  injection d' with d1 _
  have : its = its' := by simpa using congrArg Array.toList d1
  subst this
  exact r.inj r'
end

/-! ### another wish about exceptions -/
abbrev Cx.wish (X : Cx) (E : Value → Shared → Prop) : Cx := { X with xe := E }
/-- no exception leaves -/
abbrev Cx.nox (X : Cx) : Cx := X.wish fun _ _ => False
theorem Cx.Ok.wish {X : Cx} (ok : X.Ok) (E : Value → Shared → Prop) : (X.wish E).Ok :=
  ⟨ok.mod, ok.kind, ok.glob, ok.blt, ok.above, ok.inj, ok.has, ok.cab, ok.hd, ok.frames, ok.stk, ok.exf, ok.bs, ok.bsz, ok.noex, ok.exfs, ok.funs, ok.frf⟩
theorem Cx.Ok.unwish {X : Cx} {E : Value → Shared → Prop} (ok : (X.wish E).Ok) : X.Ok :=
  ⟨ok.mod, ok.kind, ok.glob, ok.blt, ok.above, ok.inj, ok.has, ok.cab, ok.hd, ok.frames, ok.stk, ok.exf, ok.bs, ok.bsz, ok.noex, ok.exfs, ok.funs, ok.frf⟩
section
variable {X : Cx} {pins : List (Addr × Obj)} {σ : St} {H : Hp} {s : Shared} {E : Value → Shared → Prop}
theorem Inv.wish (I : Inv X pins σ H s) (E : Value → Shared → Prop) : Inv (X.wish E) pins σ H s := ⟨I.ok.wish E, I.os, I.bare, I.base, I.loc, I.cell, I.free, I.freeC, I.pin, I.hok, I.len⟩
theorem Inv.unwish (I : Inv (X.wish E) pins σ H s) : Inv X pins σ H s := ⟨I.ok.unwish, I.os, I.bare, I.base, I.loc, I.cell, I.free, I.freeC, I.pin, I.hok, I.len⟩
theorem SP.unwish {D : Ends} {f : Flow} {s' : Shared} (h : SP (X.wish E) pins D f s') : SP X pins D f s' := by
  cases f with
  | next => obtain ⟨σ', H', I, q⟩ := h; exact ⟨σ', H', I.unwish, q⟩
  | brk => obtain ⟨σ', H', I, q⟩ := h; exact ⟨σ', H', I.unwish, q⟩
  | cont => obtain ⟨σ', H', I, q⟩ := h; exact ⟨σ', H', I.unwish, q⟩
  | ret u => obtain ⟨v, σ', H', I, r, q⟩ := h; exact ⟨v, σ', H', I.unwish, r, q⟩
theorem PE.nox {e : Expr} {t : TE} (h : PE X.nox e t) : PE X e t := fun pins s σ H Q I hw =>
  wpAny_mono (h pins s σ H Q (I.wish _) hw) (fun _ _ ⟨v, H', I', r, q⟩ => ⟨v, H', I'.unwish, r, q⟩) fun _ _ z => False.elim z
theorem PT.nox {e : Expr} {t : TT} (h : PT X.nox e t) : PT X e t := fun pins s σ H Q I hw =>
  wpAny_mono (h pins s σ H Q (I.wish _) hw) (fun _ _ ⟨H', I', q⟩ => ⟨H', I'.unwish, q⟩) fun _ _ z => False.elim z
theorem PSs.nox {st : List Stmt} {t : TS} (h : PSs X.nox st t) : PSs X st t := fun pins s σ H D I hw =>
  wpAny_mono (h pins s σ H D (I.wish _) hw) (fun _ _ q => q.unwish) fun _ _ z => False.elim z
end

/-! ### blocks and small statements -/
section
variable {X : Cx} {st : Stmt} {rest : List Stmt} {t u : TS} {e : Expr} {te : TE} {pos : Pos}
def tNext : TS := fun D σ H => D.nx σ H
def tSeq (t u : TS) : TS := fun D σ H => t { D with nx := u D } σ H
theorem pss_nil : PSs X [] tNext := fun _ _ σ H _ I h => wpAny_execs_nil ⟨σ, H, I, h⟩
theorem pss_cons (h1 : PS X st t) (h2 : PSs X rest u) : PSs X (st :: rest) (tSeq t u) := by
  intro pins s σ H D I h
  refine wpAny_execs_cons (thn (h1 pins s σ H { D with nx := u D } I h) fun f s1 q => ?_)
  cases f with
  | next =>
    obtain ⟨σ', H', I', q⟩ := q
    exact h2 pins s1 σ' H' D I' q
  | ret v => exact q
  | brk => exact q
  | cont => exact q
theorem pss_one (h1 : PS X st t) : PSs X [st] t := by
  intro pins s σ H D I h
  refine wpAny_execs_cons (thn (h1 pins s σ H D I h) fun f s1 q => ?_)
  cases f with
  | next => exact wpAny_execs_nil q
  | ret v => exact q
  | brk => exact q
  | cont => exact q
def tBreak : TS := fun D σ H => D.bk σ H
def tCont : TS := fun D σ H => D.ct σ H
theorem ps_pass : PS X (.Pass pos) tNext := fun _ _ σ H _ I h => wpAny_Pass ⟨σ, H, I, h⟩
theorem ps_break : PS X (.Break pos) tBreak := fun _ _ σ H _ I h => wpAny_Break ⟨σ, H, I, h⟩
theorem ps_continue : PS X (.Continue pos) tCont := fun _ _ σ H _ I h => wpAny_Continue ⟨σ, H, I, h⟩
/-- in a def's body nothing is shown -/
theorem Inv.quiet {pins : List (Addr × Obj)} {σ : St} {H : Hp} {s : Shared} (I : Inv X pins σ H s) : interactive X.env = false := by simp [interactive, I.ok.kind]
/-- a docstring -/
theorem ps_doc {x j pos pos'} : PS X (.Expr (.Constant (.str x) j pos) pos') tNext := fun _ s σ H _ I h => wpAny_Expr (Calls.Constant_str (show SP X _ _ .next { s with toks := s.toks + 1 } from ⟨σ, H, I.tok _, h⟩)) I.quiet
/-- an expression whose value is dropped -/
def tDrop (te : TE) : TS := fun D σ H => te σ H fun _ H1 => D.nx σ H1
theorem ps_expr (he : PE X e te) (hs : swapsWith e none pos.line X.env = pure false := by rfl) : PS X (.Expr e pos) (tDrop te) := by
  intro pins s σ H D I h
  exact wpAny_Expr_any (thn (he pins s σ H _ I h) fun v s1 ⟨x, H1, I1, r1, q1⟩ => ⟨σ, H1, I1, q1⟩) I.quiet hs
def tRet (te : TE) : TS := fun D σ H => te σ H D.rt
theorem ps_ret (he : PE X e te) : PS X (.Return (some e) pos) (tRet te) := by
  intro pins s σ H D I h
  exact wpAny_Return_some (thn (he pins s σ H _ I h) fun v s1 ⟨x, H1, I1, r1, q1⟩ => ⟨x, σ, H1, I1, r1, q1⟩)
def tRetN : TS := fun D _ H => D.rt .non H
theorem ps_retN : PS X (.Return none pos) tRetN := fun _ _ σ H _ I h => wpAny_Return_none ⟨.non, σ, H, I, rfl, h⟩
def tIfS (c : TT) (t u : TS) : TS := fun D σ H => c σ H fun b H1 => if b = true then t D σ H1 else u D σ H1
theorem ps_if {c : Expr} {a b : List Stmt} {tc : TT} (hc : PT X c tc) (ha : PSs X a t) (hb : PSs X b u) : PS X (.If c a b pos) (tIfS tc t u) := by
  intro pins s σ H D I h
  refine wpAny_If (thn (hc pins s σ H _ I h) fun d s1 ⟨H1, I1, q1⟩ => ?_)
  cases d with
  | true => exact ha pins s1 σ H1 D I1 q1
  | false => exact hb pins s1 σ H1 D I1 q1
/-- code that the proof never comes to -/
def tNever : TS := fun _ _ _ => False
theorem ps_never : PS X st tNever := fun _ _ _ _ _ _ h => h.elim
theorem pss_never {sts : List Stmt} : PSs X sts tNever := fun _ _ _ _ _ _ h => h.elim
end

/-! ### targets -/
abbrev TG := V → St → Hp → (St → Hp → Prop) → Prop
abbrev TGs := List V → St → Hp → (St → Hp → Prop) → Prop
def PG (X : Cx) (target : Expr) (t : TG) : Prop :=
  ∀ (pins : List (Addr × Obj)) (s : Shared) (σ : St) (H : Hp) (v : V) (u : Value) (Q : St → Hp → Prop), Inv X pins σ H s → RelV v u → t v σ H Q →
    wpAny (model X.prog X.w) X.A (assign target X.env u) (fun _ s' => ∃ σ' H', Inv X pins σ' H' s' ∧ Q σ' H') X.xe s
/-- several targets, one after another -/
def PGs (X : Cx) (ts : List Expr) (t : TGs) : Prop :=
  ∀ (pins : List (Addr × Obj)) (s : Shared) (σ : St) (H : Hp) (vs : List V) (us : List Value) (Q : St → Hp → Prop), Inv X pins σ H s → Vals vs us → t vs σ H Q →
    wpAny (model X.prog X.w) X.A (assignInOrder ((assignEach ts X.env).map (·.2)) us) (fun _ s' => ∃ σ' H', Inv X pins σ' H' s' ∧ Q σ' H') X.xe s
/-- o[i] = v, by values -/
abbrev TSet := V → V → V → Hp → (Hp → Prop) → Prop
def PSet (X : Cx) (t : TSet) : Prop :=
  ∀ (pins : List (Addr × Obj)) (s : Shared) (σ : St) (H : Hp) (o i v : V) (ov iv u : Value) (Q : Hp → Prop), Inv X pins σ H s → RelV o ov → RelV i iv → RelV v u → t o i v H Q →
    wpAny (model X.prog X.w) X.A (setItem ov iv u) (fun _ s' => ∃ H', Inv X pins σ H' s' ∧ Q H') X.xe s
/-- a op= b, by values -/
abbrev TIp := V → V → Hp → VK → Prop
def PIp (X : Cx) (op : Operator) (t : TIp) : Prop :=
  ∀ (pins : List (Addr × Obj)) (s : Shared) (σ : St) (H : Hp) (x y : V) (v u : Value) (Q : VK), Inv X pins σ H s → RelV x v → RelV y u → t x y H Q →
    wpAny (model X.prog X.w) X.A (inplaceOp op v u) (EP X pins σ Q) X.xe s
section
variable {X : Cx} {pos : Pos}
def gName (i : Nat) : TG := fun v σ H Q => Q (σ.set i (some v)) H
theorem pg_name {i : Nat} {x : Str} (hN : X.N.Nodup) (hi : X.N[i]? = some x) (hx : Loc X.env.scope x) (hf : X.fn x = true ∨ X.env.scope.names.lookup x = some .local := by first | exact .inl rfl | exact .inr rfl | assumption) : PG X (.Name x pos) (gName i) := by
  intro pins s σ H v u Q I r h
  exact wpAny_assign_Name (store_ok I hN hi hx r (fun s' I' => ⟨_, H, I', h⟩) hf)
def gNil : TGs := fun vs σ H Q => vs = [] ∧ Q σ H
def gCons (t : TG) (u : TGs) : TGs := fun vs σ H Q => ∃ v r, vs = v :: r ∧ t v σ H fun σ' H' => u r σ' H' Q
theorem pgs_nil : PGs X [] gNil := by
  intro pins s σ H vs us Q I r h
  obtain ⟨e, h⟩ := h
  subst e
  cases r
  exact assignInOrder_nil ⟨σ, H, I, h⟩
theorem pgs_cons {e : Expr} {es : List Expr} {t : TG} {u : TGs} (h1 : PG X e t) (h2 : PGs X es u)
    (hs : (assignEach (e :: es) X.env).map (·.2) = assign e X.env :: (assignEach es X.env).map (·.2) := by rfl) : PGs X (e :: es) (gCons t u) := by
  intro pins s σ H vs us Q I r h
  obtain ⟨v, vr, e1, h⟩ := h
  subst e1
  cases r with
  | cons r rr =>
    rw [hs]
    refine assignInOrder_cons (thn (h1 pins s σ H _ _ _ I r h) fun _ s1 ⟨σ1, H1, I1, q1⟩ => ?_)
    exact h2 pins s1 σ1 H1 _ _ Q I1 rr q1
/-- (a, b, ..) = a tuple of that length -/
def gTup (K : PySem.W.Frag) (n : Nat) (t : TGs) : TG := fun v σ H Q => ∃ a xs, v = .ref a ∧ SqT K H a xs ∧ xs.length = n ∧ t xs σ H Q
theorem pg_tup {es : List Expr} {k : Nat} {t : TGs} {n : Nat} (hc : X.calm = true) (h : PGs X es t)
    (hn : (assignEach es X.env).length = n := by rfl) (hst : (assignEach es X.env).findIdx? (·.1) = none := by rfl) : PG X (.Tuple es k pos) (gTup X.K n t) := by
  intro pins s σ H v u Q I r hw
  obtain ⟨a, xs, e1, hq, hl, hw⟩ := hw
  subst e1
  cases r
  obtain ⟨its, rv, ht, hz⟩ := I.tuple hq
  refine assign_Tuple_tuple (I.ok.hd hc) ht (by simp [hn, ← hl, rv.length]) hst fun h' hx => ?_
  have I1 : Inv X pins σ H { s with heap := h' } := I.kept (t' := s.toks) fun b o e => hx b o (Nat.ne_of_lt (Heap.lt_size e)) e
  exact h pins _ σ H xs _ Q I1 (by simpa using rv) hw
/-- o[i] = .. -/
def gSub (to ti : TE) (t : TSet) : TG := fun v σ H Q => to σ H fun o H1 => ti σ H1 fun i H2 => t o i v H2 fun H3 => Q σ H3
theorem pg_sub {o i : Expr} {to ti : TE} {t : TSet} (ho : PE X o to) (hi : PE X i ti) (hs : PSet X t)
    (ha : ∀ v, assign (.Subscript o i pos) X.env v = (do
      let ov ← holding [v] (eval o X.env)
      let iv ← holding [v, ov] (eval i X.env)
      standAt pos
      holding [v, ov, iv] (setItem ov iv v)
      release [v, ov, iv] []) := by intro _; rfl) : PG X (.Subscript o i pos) (gSub to ti t) := by
  intro pins s σ H v u Q I r h
  rw [ha]
  refine wpAny_bind (wpAny_holding (thn (ho pins s σ H _ I h) fun ov s1 ⟨x, H1, I1, r1, q1⟩ => ?_))
  refine wpAny_bind (wpAny_holding (thn (hi pins s1 σ H1 _ I1 q1) fun iv s2 ⟨y, H2, I2, r2, q2⟩ => ?_))
  refine wpAny_bind (wpAny_standAt (wpAny_bind (wpAny_holding (thn (hs pins s2 σ H2 x y v ov iv u _ I2 r1 r2 r q2) fun _ s3 ⟨H3, I3, q3⟩ => ?_))))
  exact wpAny_release ⟨σ, H3, I3, q3⟩
/-- target = value -/
def tAsg (te : TE) (g : TG) : TS := fun D σ H => te σ H fun x H1 => g x σ H1 D.nx
theorem ps_asg {tg e : Expr} {te : TE} {g : TG} (he : PE X e te) (hg : PG X tg g) (hs : swapsWithSole [tg] e pos.line X.env = pure false := by rfl) (hw : swappedStores [tg] e X.env = pure none := by rfl)
    (h1 : (assignEach [tg] X.env).map (·.2) = [assign tg X.env] := by rfl) : PS X (.Assign [tg] e pos) (tAsg te g) := by
  intro pins s σ H D I h
  refine wpAny_Assign_stores (thn (he pins s σ H _ I h) fun v s1 ⟨x, H1, I1, r1, q1⟩ => ?_) hs hw
  rw [h1]
  exact thn (hg pins s1 σ H1 x v _ I1 r1 q1) fun _ s2 q => q
/-- name = value -/
theorem ps_set {i : Nat} {x : Str} {e : Expr} {te : TE} {pos' : Pos} (hN : X.N.Nodup) (hi : X.N[i]? = some x) (hx : Loc X.env.scope x) (he : PE X e te) (hs : swapsWith e (some (.Name x pos')) pos.line X.env = pure false := by rfl) (hf : X.fn x = true ∨ X.env.scope.names.lookup x = some .local := by first | exact .inl rfl | exact .inr rfl | assumption) :
    PS X (.Assign [.Name x pos'] e pos) (tAsg te (gName i)) := by
  intro pins s σ H D I h
  refine wpAny_Assign_Name (thn (he pins s σ H _ I h) fun v s1 ⟨y, H1, I1, r1, q1⟩ => ?_) hs
  exact store_ok I1 hN hi hx r1 (fun s2 I2 => ⟨_, H1, I2, q1⟩) hf
/-- a, b = x, y with plain local names: stored from the right; the pair itself is not tracked (the opening rows as in PyProof/Rows/TupAssign.lean:23) -/
def tPar (i j : Nat) (ta : TA) : TS := fun D σ H => ta σ H fun vs H1 => ∃ v w, vs = [v, w] ∧ D.nx ((σ.set i (some v)).set j (some w)) H1
theorem ps_par {i j : Nat} {x y : Str} {a b : Expr} {ta : TA} {px py pt : Pos} {kt k2 pt2} (hc : X.calm = true) (hN : X.N.Nodup) (hi : X.N[i]? = some x) (hj : X.N[j]? = some y) (hij : i ≠ j)
    (hx : X.env.scope.names.lookup x = some .local) (hy : X.env.scope.names.lookup y = some .local) (ha : PA X [a, b] ta)
    (hw : swappedStores [.Tuple [.Name x px, .Name y py] kt pt] (.Tuple [a, b] k2 pt2) X.env = pure (some [x, y]))
    (hs : swapsWithSole [.Tuple [.Name x px, .Name y py] kt pt] (.Tuple [a, b] k2 pt2) pos.line X.env = pure false := by rfl) :
    PS X (.Assign [.Tuple [.Name x px, .Name y py] kt pt] (.Tuple [a, b] k2 pt2) pos) (tPar i j ta) := by
  intro pins s σ H D I h
  rw [exec_Assign_arm]
  refine wpAny_bind (wpAny_standAt ?_)
  rw [hs]
  refine wpAny_bind (wpAny_pure ?_)
  rw [if_neg (by decide)]
  refine wpAny_bind (Tuple_ (thn (ha _ pins s σ H _ I h) fun us s1 ⟨vs, H1, I1, r1, q1⟩ => ?_))
  obtain ⟨v, w, e1, q1⟩ := q1
  subst e1
  obtain ⟨u1, u2, rfl, rv, rw'⟩ : ∃ u1 u2, us = [u1, u2] ∧ RelV v u1 ∧ RelV w u2 := by
    cases r1 with
    | cons p q =>
      cases q with
      | cons p' q' =>
        cases q'
        exact ⟨_, _, rfl, p, p'⟩
  refine wpAny_newObj_type ?_ (by show 2 ≤ sizeLine; decide)
  have I2 : Inv X pins σ H1 { s1 with heap := s1.heap.push { cls := .type "tuple", data := .seq [u1, u2].toArray } } := I1.kept (t' := s1.toks) fun b o e => Heap.get?_push_of_some _ e
  rw [hw]
  refine wpAny_bind (wpAny_pure ?_)
  show wpAny (model X.prog X.w) X.A (do rule "assign.swapped-stores"; let items ← unpackItems (.ref s1.heap.objs.size) 2 none; assignInOrder [fun v => bindName X.env y v, fun v => bindName X.env x v] items.reverse; pure Flow.next) _ _ _
  refine wpAny_bind (wpAny_rule (wpAny_bind (unpackItems_tuple (items := #[u1, u2]) (I.ok.hd hc) (IsTup.new s1.heap _) fun h' hx' => ?_)))
  have I3 := I2.kept (h' := h') (t' := s1.toks) fun b o e => hx' b o (Nat.ne_of_lt (Heap.lt_size e)) e
  show wpAny _ _ (assignInOrder [fun v => bindName X.env y v, fun v => bindName X.env x v] [u2, u1] >>= fun _ => pure Flow.next) _ _ _
  refine wpAny_bind (assignInOrder_cons (wpAny_bindName (store_ok I3 hN hj (.inl hy) rw' (fun s2 I4 => ?_) (.inr hy))))
  refine assignInOrder_cons (wpAny_bindName (store_ok I4 hN hi (.inl hx) rv (fun s3 I5 => assignInOrder_nil (wpAny_pure ?_)) (.inr hx)))
  rw [List.set_comm _ _ (Ne.symm hij)] at I5
  exact ⟨_, H1, I5, q1⟩
/-- name op= e -/
def tAug (i : Nat) (te : TE) (ti : TIp) : TS := fun D σ H => ∃ x, σ[i]? = some (some x) ∧ te σ H fun y H1 => ti x y H1 fun z H2 => D.nx (σ.set i (some z)) H2
theorem ps_aug {i : Nat} {x : Str} {e : Expr} {te : TE} {op : Operator} {ti : TIp} {pos' : Pos} (hN : X.N.Nodup) (hi : X.N[i]? = some x) (hx : Loc X.env.scope x) (he : PE X e te) (ho : PIp X op ti) (hf : X.fn x = true ∨ X.env.scope.names.lookup x = some .local := by first | exact .inl rfl | exact .inr rfl | assumption) :
    PS X (.AugAssign (.Name x pos') op e pos) (tAug i te ti) := by
  intro pins s σ H D I h
  obtain ⟨v, e1, h⟩ := h
  obtain ⟨m, hn, hl⟩ := I.loc
  have vis : Vis X.env.scope x := by rcases hx with k | k; exact .inl k; exact .inr (.inl k)
  obtain ⟨u, r, l⟩ := hl i x v hi e1 vis
  refine wpAny_AugAssign_Name ?_
  have go : wpAny (model X.prog X.w) X.A (eval e X.env) (fun w s₂ => wpAny (model X.prog X.w) X.A (inplaceOp op u w) (fun r s₃ => wpAny (model X.prog X.w) X.A (storeName X.env x r) (fun _ => SP X pins D .next) X.xe s₃) X.xe s₂) X.xe s := by
    refine thn (he pins s σ H _ I h) fun w s1 ⟨y, H1, I1, r1, q1⟩ => ?_
    refine thn (ho pins s1 σ H1 v y u w _ I1 r r1 q1) fun z s2 ⟨zv, H2, I2, r2, q2⟩ => ?_
    exact store_ok I2 hN hi hx r2 (fun s3 I3 => ⟨_, H2, I3, q2⟩) hf
  rcases l with ⟨hk, hm⟩ | ⟨hk, c, hc, hcell⟩
  · exact wpAny_loadName_local I.ok.kind hk hn hm go
  · rcases hk with hk | hk
    · exact wpAny_loadName_cell I.ok.kind hk hc hcell go
    · rcases hx with k | k
      · have : X.env.scope.names.lookup x = some .free := hk
        rw [k] at this; cases this
      · have : X.env.scope.names.lookup x = some .free := hk
        rw [k] at this; cases this
/-- o[i] op= e -/
def tAugS (to ti te : TE) (tget : V → V → Hp → VK → Prop) (tip : TIp) (tset : TSet) : TS := fun D σ H => to σ H fun o H1 => ti σ H1 fun i H2 => tget o i H2 fun x H3 => te σ H3 fun y H4 => tip x y H4 fun z H5 => tset o i z H5 fun H6 => D.nx σ H6
/-- o[i], by values -/
def PGet (X : Cx) (t : V → V → Hp → VK → Prop) : Prop :=
  ∀ (pins : List (Addr × Obj)) (s : Shared) (σ : St) (H : Hp) (o i : V) (ov iv : Value) (Q : VK), Inv X pins σ H s → RelV o ov → RelV i iv → t o i H Q →
    wpAny (model X.prog X.w) X.A (getItem ov iv) (EP X pins σ Q) X.xe s
theorem ps_augS {o i e : Expr} {to ti te : TE} {tget : V → V → Hp → VK → Prop} {tip : TIp} {tset : TSet} {op : Operator} {tpos : Pos} (ho : PE X o to) (hi : PE X i ti) (hg : PGet X tget) (he : PE X e te) (hp : PIp X op tip) (hs : PSet X tset)
    (ha : ∀ ov iv new, augStore i ov iv new = (do holding [new, ov, iv] (setItem ov iv new); release [new, ov, iv] []; pure .next) := by intros; rfl) : PS X (.AugAssign (.Subscript o i tpos) op e pos) (tAugS to ti te tget tip tset) := by
  intro pins s σ H D I h
  refine wpAny_AugAssign_SubscriptAny (thn (ho pins s σ H _ I h) fun ov s1 ⟨x1, H1, I1, r1, q1⟩ => ?_) ha
  refine thn (hi pins s1 σ H1 _ I1 q1) fun iv s2 ⟨x2, H2, I2, r2, q2⟩ => ?_
  refine thn (hg pins s2 σ H2 x1 x2 ov iv _ I2 r1 r2 q2) fun old s3 ⟨x3, H3, I3, r3, q3⟩ => ?_
  refine thn (he pins s3 σ H3 _ I3 q3) fun v s4 ⟨x4, H4, I4, r4, q4⟩ => ?_
  refine thn (hp pins s4 σ H4 x3 x4 old v _ I4 r3 r4 q4) fun new s5 ⟨x5, H5, I5, r5, q5⟩ => ?_
  exact thn (hs pins s5 σ H5 x1 x2 x5 ov iv new _ I5 r1 r2 r5 q5) fun _ s6 ⟨H6, I6, q6⟩ => ⟨σ, H6, I6, q6⟩
/-- ints -/
def ipI (f : Int → Int → Int) : TIp := fun x y H Q => ∃ i j, x = .int i ∧ y = .int j ∧ Q (.int (f i j)) H
theorem ip_add : PIp X .Add (ipI fun i j => i + j) := by
  intro pins s σ H x y v u Q I r1 r2 h
  obtain ⟨i, j, e1, e2, q⟩ := h
  subst e1; subst e2
  obtain ⟨t, rfl⟩ := r1
  obtain ⟨t', rfl⟩ := r2
  exact iadd_int ⟨.int _, H, I.tok _, ⟨_, rfl⟩, q⟩
theorem ip_sub : PIp X .Sub (ipI fun i j => i - j) := by
  intro pins s σ H x y v u Q I r1 r2 h
  obtain ⟨i, j, e1, e2, q⟩ := h
  subst e1; subst e2
  obtain ⟨t, rfl⟩ := r1
  obtain ⟨t', rfl⟩ := r2
  exact isub_int ⟨.int _, H, I.tok _, ⟨_, rfl⟩, q⟩
end

/-! ### while -/
section
variable {X : Cx} {pos : Pos}
/-- the invariant W with its measure -/
def tWhile (c : TT) (tb : TS) : TS := fun D σ H => ∃ W : Nat → St → Hp → Prop, (∃ m, W m σ H) ∧ ∀ m σ H, W m σ H →
  c σ H fun b H1 => if b = true then ∃ N : St → Hp → Prop, (∀ σ' H', N σ' H' → ∃ m', m' < m ∧ W m' σ' H') ∧ tb { D with nx := N, ct := N, bk := D.nx } σ H1 else D.nx σ H1
theorem ps_while {c : Expr} {body : List Stmt} {tc : TT} {tb : TS} (hp : PassesOwn (model X.prog X.w) X.A X.env X.xe) (hc : PT X c tc) (hb : PSs X body tb) : PS X (.While c body [] pos) (tWhile tc tb) := by
  intro pins s σ H D I h
  obtain ⟨W, ⟨m0, w0⟩, turn⟩ := h
  refine wpAny_While (codeAny_whileLoop (fun n s' => ∃ σ' H', Inv X pins σ' H' s' ∧ W n σ' H') ?_ m0 ⟨σ, H, I, w0⟩)
  rintro n s1 ⟨σ1, H1, I1, w1⟩
  refine wpAny_passesOwn hp (thn (hc pins s1 σ1 H1 _ I1 (turn n σ1 H1 w1)) fun b s2 ⟨H2, I2, q2⟩ => ?_)
  cases b with
  | true =>
    obtain ⟨N, hN, q2⟩ := q2
    rw [if_pos rfl]
    refine wpAny_passesOwn hp (thn (hb pins s2 σ1 H2 _ I2 q2) fun f s3 q3 => ?_)
    cases f with
    | next =>
      obtain ⟨σ3, H3, I3, n3⟩ := q3
      obtain ⟨m', hm, w3⟩ := hN σ3 H3 n3
      exact ⟨m', hm, σ3, H3, I3, w3⟩
    | cont =>
      obtain ⟨σ3, H3, I3, n3⟩ := q3
      obtain ⟨m', hm, w3⟩ := hN σ3 H3 n3
      exact ⟨m', hm, σ3, H3, I3, w3⟩
    | brk => exact q3
    | ret v => exact q3
  | false =>
    rw [if_neg Bool.false_ne_true]
    exact wpAny_execs_nil ⟨σ1, H2, I2, q2⟩
end

/-! ### what a loop or a comprehension walks -/
/-- at turn i: it yields x (the heap may grow), or it stops -/
structure It where
  go : Nat → Hp → Prop
  yld : Nat → Hp → V → Hp → Prop
  stop : Nat → Hp → Prop
/-- the iterator's own objects may turn: they are not the frame's, not pinned, younger than the entry (or a comprehension's own) -/
def FpOk (X : Cx) (pins : List (Addr × Obj)) (H : Hp) (b : Addr) : Prop :=
  H b = none ∧ b ≠ X.env.locals ∧ b ∉ X.fs ∧ (b ∈ X.ex ∨ X.s₀.heap.objs.size ≤ b) ∧ (∀ x c, X.env.cells.lookup x = some c → c ≠ b) ∧ ∀ p ∈ X.pn ++ pins, p.1 ≠ b
theorem Inv.fpOk {X : Cx} {pins : List (Addr × Obj)} {σ : St} {H H' : Hp} {s : Shared} {b : Addr} (I : Inv X pins σ H s) (hb : s.heap.objs.size ≤ b) (hn : H' b = none) : FpOk X pins H' b := by
  refine ⟨hn, Nat.ne_of_gt (Nat.lt_of_lt_of_le I.lt hb), I.nofs hb, .inr (Nat.le_trans I.sz hb), fun x c e z => ?_, fun p hp z => ?_⟩
  · obtain ⟨v, q⟩ := I.cell x c e
    exact absurd (Nat.lt_of_lt_of_le q.lt (by rw [z]; exact hb)) (Nat.lt_irrefl _)
  · exact absurd (Nat.lt_of_lt_of_le (Heap.lt_size (I.pin p hp).1) (by rw [z]; exact hb)) (Nat.lt_irrefl _)
structure Turn (P : Program) (w : World) (K : PySem.W.Frag) (tg : Expr) (J : It) (fp : List Addr) (it : Addr) (tn : Nat → Heap → Prop) : Prop where
  mem : it ∈ fp
  obj : ∀ i h, tn i h → ∀ b ∈ fp, ∃ o, h.get? b = some o ∧ ∀ v, o.data ≠ .cell v
  keep : ∀ i h h', tn i h → (∀ b ∈ fp, ∀ o, h.get? b = some o → h'.get? b = some o) → tn i h'
  item : ∀ (X : Cx), X.prog = P → X.w = w → X.K = K → X.calm = true → ∀ (i : Nat) (pins : List (Addr × Obj)) (s : Shared) (σ : St) (H : Hp) (E : Value → Shared → Prop), Inv X pins σ H s → (∀ b ∈ fp, FpOk X pins H b) → tn i s.heap → J.go i H →
    wpAny (model P w) X.A (pyNext (.ref it)) (fun r s1 => ∃ u, r = some u ∧
      wpAny (model P w) X.A (letOwnedTupleGo tg (.ref it) u) (fun _ s2 => ∃ x H', Inv X pins σ H' s2 ∧ RelV x u ∧ J.yld i H x H' ∧ tn (i + 1) s2.heap ∧ ∀ b ∈ fp, H' b = none) E s1) E s
  done : ∀ (X : Cx), X.prog = P → X.w = w → X.K = K → X.calm = true → ∀ (i : Nat) (pins : List (Addr × Obj)) (s : Shared) (σ : St) (H : Hp) (E : Value → Shared → Prop), Inv X pins σ H s → (∀ b ∈ fp, FpOk X pins H b) → tn i s.heap → J.stop i H →
    wpAny (model P w) X.A (pyNext (.ref it)) (fun r s1 => r = none ∧ Inv X pins σ H s1) E s
  self : ∀ (A : Around) (i : Nat) (s : Shared) (Q : Value → Shared → Prop) (E : Value → Shared → Prop), tn i s.heap → Q (.ref it) s → wpAny (model P w) A (pyIter (.ref it)) Q E s
abbrev TI := St → Hp → (It → Hp → Prop) → Prop
/-- an iterator has come -/
def PIE (X : Cx) (pins : List (Addr × Obj)) (σ : St) (tg : Expr) (R : It → Hp → Prop) (itv : Value) (s2 : Shared) : Prop :=
  ∃ (it : Addr) (fp : List Addr) (tn : Nat → Heap → Prop) (J : It) (H' : Hp), itv = .ref it ∧ Inv X pins σ H' s2 ∧ Turn X.prog X.w X.K tg J fp it tn ∧ tn 0 s2.heap ∧ (∀ b ∈ fp, FpOk X pins H' b) ∧ R J H'
def PI (X : Cx) (tg iter : Expr) (wi : TI) : Prop :=
  ∀ (pins : List (Addr × Obj)) (s : Shared) (σ : St) (H : Hp) (R : It → Hp → Prop), Inv X pins σ H s → wi σ H R →
    wpAny (model X.prog X.w) X.A (eval iter X.env) (fun v s1 => wpAny (model X.prog X.w) X.A (pyIter v) (PIE X pins σ tg R) X.xe s1) X.xe s

/-- the step ahead of the store is nothing for an iterator that keeps no tuple -/
theorem go_of {M : Model} {A : Around} {E : Value → Shared → Prop} {s : Shared} {tg : Expr} {it : Addr} {u : Value} {o : Obj} {n : String} {vs : Array Value} {Q : Unit → Shared → Prop} (ho : s.heap.get? it = some o) (hc : o.cls = .type n) (hd : o.data = .fields vs)
    (hn : ["enumerate", "zip", "dict_itemiterator", "dict_reverseitemiterator", "odict_iterator", "itertools.zip_longest", "itertools.pairwise"].contains n = false) (hQ : Q () s) : wpAny M A (letOwnedTupleGo tg (.ref it) u) Q E s := by
  unfold letOwnedTupleGo
  cases tg <;> first
    | exact wpAny_pure hQ
    | (cases u <;> first
        | exact wpAny_pure hQ
        | (refine wpAny_bind (wpAny_load ho ?_)
           rw [hc, hd]
           show wpAny M A (if (["enumerate", "zip", "dict_itemiterator", "dict_reverseitemiterator", "odict_iterator", "itertools.zip_longest", "itertools.pairwise"].contains n && vs[0]? == some (rawInt _)) = true then _ else _) Q E s
           rw [if_neg (by intro h; rw [hn, Bool.false_and] at h; cases h)]
           exact wpAny_pure hQ))

/-- the list at a, as it stands at each turn (a loop may append to it) -/
def Itl (K : PySem.W.Frag) (a : Addr) : It :=
  ⟨fun i H => ∃ xs x, SqL K H a xs ∧ xs[i]? = some x, fun i H x H' => H' = H ∧ ∀ xs, SqL K H a xs → xs[i]? = some x, fun i H => ∃ xs, SqL K H a xs ∧ xs.length ≤ i⟩
def Itt (K : PySem.W.Frag) (a : Addr) : It :=
  ⟨fun i H => ∃ xs x, SqT K H a xs ∧ xs[i]? = some x, fun i H x H' => H' = H ∧ ∀ xs, SqT K H a xs → xs[i]? = some x, fun i H => ∃ xs, SqT K H a xs ∧ xs.length ≤ i⟩
/-- lo, lo + 1, .. (n of them) -/
def Itr (lo : Int) (n : Nat) : It := ⟨fun i _ => i < n, fun i H x H' => H' = H ∧ x = .int (lo + i), fun i _ => n ≤ i⟩
theorem turn_list {P : Program} {w : World} {K : PySem.W.Frag} {tg : Expr} (a it : Addr) : Turn P w K tg (Itl K a) [it] it (fun i h => h.IsListIter it a i) where
  mem := by simp
  obj := fun i h st b hb => by
    have e : b = it := by simpa using hb
    subst e
    obtain ⟨o, e, c, d⟩ := st
    exact ⟨o, e, fun v z => by rw [d] at z; cases z⟩
  keep := fun i h h' st k => st.at fun o e => k it (by simp) o e
  item := by
    intro X hP hw hK hc i pins s σ H E I hf st hg
    subst hP hw hK
    obtain ⟨xs, x, hq, hx⟩ := hg
    obtain ⟨its, rv, p, hz⟩ := I.list hq
    obtain ⟨u, hu, ru⟩ := rv.get hx
    obtain ⟨f0, f1, f2, f3, f4, f5⟩ := hf it (by simp)
    refine wpAny_pyNext_list_item st p.isList (x := u) (by simpa using hu) fun h' st' sb => ?_
    have I1 : Inv X pins σ H { s with heap := h' } := I.turned (t' := s.toks) (fun b o hb e => (sb.2 b hb).trans e) f0 f1 f3 f4 f5
    obtain ⟨o, e, c, d⟩ := id st'
    exact ⟨u, rfl, go_of (s := { s with heap := h' }) e c d (by decide) ⟨x, H, I1, ru, ⟨rfl, fun ys hy => by rw [I.list_inj hy hq]; exact hx⟩, st', fun b hb => (hf b hb).1⟩⟩
  done := by
    intro X hP hw hK hc i pins s σ H E I hf st hg
    subst hP hw hK
    obtain ⟨xs, hq, hx⟩ := hg
    obtain ⟨its, rv, p, hz⟩ := I.list hq
    obtain ⟨f0, f1, f2, f3, f4, f5⟩ := hf it (by simp)
    have hl := rv.length
    exact wpAny_pyNext_list_end (I.ok.hd hc) st p.isList (by simp; omega) fun h' eb => ⟨rfl, I.turned (t' := s.toks) (fun b o hb e => eb b o hb e) f0 f1 f3 f4 f5⟩
  self := fun _ _ _ _ _ st h => wpAny_pyIter_listiter st h
theorem turn_tuple {P : Program} {w : World} {K : PySem.W.Frag} {tg : Expr} (a it : Addr) : Turn P w K tg (Itt K a) [it] it (fun i h => h.IsTupleIter it a i) where
  mem := by simp
  obj := fun i h st b hb => by
    have e : b = it := by simpa using hb
    subst e
    obtain ⟨o, e, c, d⟩ := st
    exact ⟨o, e, fun v z => by rw [d] at z; cases z⟩
  keep := fun i h h' st k => st.at fun o e => k it (by simp) o e
  item := by
    intro X hP hw hK hc i pins s σ H E I hf st hg
    subst hP hw hK
    obtain ⟨xs, x, hq, hx⟩ := hg
    obtain ⟨its, rv, p, hz⟩ := I.tuple hq
    obtain ⟨u, hu, ru⟩ := rv.get hx
    obtain ⟨f0, f1, f2, f3, f4, f5⟩ := hf it (by simp)
    refine wpAny_pyNext_tuple_item st (show s.heap.IsTuple a its.toArray from p) (x := u) (by simpa using hu) fun h' st' sb => ?_
    have I1 : Inv X pins σ H { s with heap := h' } := I.turned (t' := s.toks) (fun b o hb e => (sb.2 b hb).trans e) f0 f1 f3 f4 f5
    obtain ⟨o, e, c, d⟩ := id st'
    exact ⟨u, rfl, go_of (s := { s with heap := h' }) e c d (by decide) ⟨x, H, I1, ru, ⟨rfl, fun ys hy => by rw [I.tuple_inj hy hq]; exact hx⟩, st', fun b hb => (hf b hb).1⟩⟩
  done := by
    intro X hP hw hK hc i pins s σ H E I hf st hg
    subst hP hw hK
    obtain ⟨xs, hq, hx⟩ := hg
    obtain ⟨its, rv, p, hz⟩ := I.tuple hq
    obtain ⟨f0, f1, f2, f3, f4, f5⟩ := hf it (by simp)
    have hl := rv.length
    exact wpAny_pyNext_tuple_end (I.ok.hd hc) st (show s.heap.IsTuple a its.toArray from p) (by simp; omega) fun h' eb => ⟨rfl, I.turned (t' := s.toks) (fun b o hb e => eb b o hb e) f0 f1 f3 f4 f5⟩
  self := fun _ _ _ _ _ st h => wpAny_pyIter_tupleiter st h
theorem turn_range {P : Program} {w : World} {K : PySem.W.Frag} {tg : Expr} (it : Addr) (lo : Int) (n : Nat) : Turn P w K tg (Itr lo n) [it] it (fun i h => IsRangeIter h it (lo + (i : Nat) * 1) ((n : Int) - (i : Nat)) 1) where
  mem := by simp
  obj := fun i h st b hb => by
    have e : b = it := by simpa using hb
    subst e
    exact ⟨_, st, fun v z => by
      have z' : Data.fields _ = Data.cell v := z
      cases z'⟩
  keep := fun i h h' st k => k it (by simp) _ st
  item := by
    intro X hP hw hK hc i pins s σ H E I hf st hg
    subst hP hw hK
    obtain ⟨f0, f1, f2, f3, f4, f5⟩ := hf it (by simp)
    have W := Walks.range (prog := X.prog) (w := X.w) (I.ok.hd hc) it lo 1 n
    refine W.item i s _ _ hg st fun v h' tk hv st' kk => ?_
    obtain ⟨t, rfl⟩ := hv
    have I1 : Inv X pins σ H { s with heap := h', toks := tk } := I.turned (fun b o hb e => kk b o (by simpa using hb) e) f0 f1 f3 f4 f5
    refine ⟨_, rfl, go_of (s := { s with heap := h', toks := tk }) (n := "range_iterator") st' rfl rfl (by decide) ⟨.int (lo + i), H, I1, ⟨t, ?_⟩, ⟨rfl, rfl⟩, st', fun b hb => (hf b hb).1⟩⟩
    rw [Int.mul_one]
  done := by
    intro X hP hw hK hc i pins s σ H E I hf st hg
    subst hP hw hK
    obtain ⟨f0, f1, f2, f3, f4, f5⟩ := hf it (by simp)
    exact wpAny_pyNext_range_end (I.ok.hd hc) st (by have : n ≤ i := hg; omega) fun h' eb => ⟨rfl, I.turned (t' := s.toks) (fun b o hb e => eb b o hb e) f0 f1 f3 f4 f5⟩
  self := fun _ _ _ _ _ st h => wpAny_pyIter_rangeiter st h
end L2

namespace L2
open PySem PySem.Spec PyProof.Rows
section
variable {X : Cx} {tg : Expr}
def iList (K : PySem.W.Frag) (tl : TE) : TI := fun σ H R => tl σ H fun x H1 => ∃ a, x = .ref a ∧ (∃ xs, SqL K H1 a xs) ∧ R (Itl K a) H1
def iTup (K : PySem.W.Frag) (tl : TE) : TI := fun σ H R => tl σ H fun x H1 => ∃ a, x = .ref a ∧ (∃ xs, SqT K H1 a xs) ∧ R (Itt K a) H1
theorem pi_list {l : Expr} {tl : TE} (hl : PE X l tl) : PI X tg l (iList X.K tl) := by
  intro pins s σ H R I h
  refine thn (hl pins s σ H _ I h) fun v s1 ⟨x, H1, I1, r1, q1⟩ => ?_
  obtain ⟨a, e, ⟨xs, hq⟩, q⟩ := q1
  subst e
  cases r1
  obtain ⟨its, rv, p, hz⟩ := I1.list hq
  refine wpAny_pyIter_list p.isList ?_
  refine ⟨s1.heap.objs.size, [s1.heap.objs.size], _, _, H1, rfl, I1.kept (t' := s1.toks) fun b o e => Heap.get?_push_of_some _ e, turn_list a _, ⟨_, Heap.get?_push_size _ rfl, rfl, rfl⟩, fun b hb => ?_, q⟩
  have e : b = s1.heap.objs.size := by simpa using hb
  subst e
  exact I1.fpOk (Nat.le_refl _) (I1.hok.fresh (Nat.le_refl _))
theorem pi_tup {l : Expr} {tl : TE} (hl : PE X l tl) : PI X tg l (iTup X.K tl) := by
  intro pins s σ H R I h
  refine thn (hl pins s σ H _ I h) fun v s1 ⟨x, H1, I1, r1, q1⟩ => ?_
  obtain ⟨a, e, ⟨xs, hq⟩, q⟩ := q1
  subst e
  cases r1
  obtain ⟨its, rv, p, hz⟩ := I1.tuple hq
  refine wpAny_pyIter_tuple (show s1.heap.IsTuple a its.toArray from p) ?_
  refine ⟨s1.heap.objs.size, [s1.heap.objs.size], _, _, H1, rfl, I1.kept (t' := s1.toks) fun b o e => Heap.get?_push_of_some _ e, turn_tuple a _, ⟨_, Heap.get?_push_size _ rfl, rfl, rfl⟩, fun b hb => ?_, q⟩
  have e : b = s1.heap.objs.size := by simpa using hb
  subst e
  exact I1.fpOk (Nat.le_refl _) (I1.hok.fresh (Nat.le_refl _))
/-- a range object just made, walked -/
theorem range_it {pins : List (Addr × Obj)} {σ : St} {H : Hp} {s : Shared} {R : It → Hp → Prop} {E : Value → Shared → Prop} {lo hi : Int} {t u v : Tok} {tk : Nat} (I : Inv X pins σ H s) (h1 : -(2 ^ 62) ≤ lo) (h2 : lo < 2 ^ 62) (h3 : -(2 ^ 62) ≤ hi) (h4 : hi < 2 ^ 62)
    (q : R (Itr lo (hi - lo).toNat) H) : wpAny (model X.prog X.w) X.A (pyIter (.ref s.heap.objs.size)) (PIE X pins σ tg R) E { s with heap := s.heap.push { cls := .type "range", data := .fields #[.int lo t, .int hi u, .int 1 v] }, toks := tk } := by
  refine wpAny_pyIter_range (IsRange.new ..) (small_one h1 h2 h3 h4) ?_
  have I1 : Inv X pins σ H { s with heap := s.heap.push { cls := .type "range", data := .fields #[.int lo t, .int hi u, .int 1 v] }, toks := tk } := I.kept fun b o e => Heap.get?_push_of_some _ e
  refine ⟨(s.heap.push { cls := .type "range", data := .fields #[.int lo t, .int hi u, .int 1 v] }).objs.size, [(s.heap.push { cls := .type "range", data := .fields #[.int lo t, .int hi u, .int 1 v] }).objs.size], _, _, H, rfl,
    I1.kept (t' := tk) fun b o e => Heap.get?_push_of_some _ e, turn_range _ lo (hi - lo).toNat, ?_, fun b hb => ?_, q⟩
  · have e1 : lo + ((0 : Nat) : Int) * 1 = lo := by simp
    have e2 : (((hi - lo).toNat : Nat) : Int) - ((0 : Nat) : Int) = Builtin.Range.rangeSize lo hi 1 := by rw [rangeSize_one]; split <;> omega
    show IsRangeIter _ _ (lo + ((0 : Nat) : Int) * 1) ((((hi - lo).toNat : Nat) : Int) - ((0 : Nat) : Int)) 1
    rw [e1, e2]
    exact Heap.get?_push_size _ rfl
  · have e : b = (s.heap.push { cls := .type "range", data := .fields #[.int lo t, .int hi u, .int 1 v] }).objs.size := by simpa using hb
    subst e
    exact I1.fpOk (Nat.le_refl _) (I1.hok.fresh (Nat.le_refl _))
def iRng1 (ta : TA) : TI := fun σ H R => ta σ H fun vs H1 => ∃ j : Int, vs = [.int j] ∧ -(2 ^ 62) ≤ j ∧ j < 2 ^ 62 ∧ R (Itr 0 j.toNat) H1
def iRng2 (ta : TA) : TI := fun σ H R => ta σ H fun vs H1 => ∃ i j : Int, vs = [.int i, .int j] ∧ (-(2 ^ 62) ≤ i ∧ i < 2 ^ 62 ∧ -(2 ^ 62) ≤ j ∧ j < 2 ^ 62) ∧ R (Itr i (j - i).toNat) H1
theorem pi_range1 {a : Expr} {ta : TA} {p pos : Pos} (hg : Gl X "range") (hm : X.mg "range" = none) (ha : PA X [a] ta) (hs : starEach [a] X.env = [(false, eval a X.env)] := by rfl) : PI X tg (.Call (.Name "range" p) [a] [] pos) (iRng1 ta) := by
  intro pins s σ H R I h
  refine Call_ (ld_blt I hg hm boot_range (PyProof.Rows.callWith_type1 (thn (ha pos pins s σ H _ I h) fun us s1 ⟨vs, H1, I1, r1, q1⟩ => ?_) hs rfl))
  obtain ⟨j, e, q1, q2, q⟩ := q1
  subst e
  cases r1 with
  | cons r rr =>
    cases rr
    obtain ⟨t, rfl⟩ := r
    exact call_range_1 (range_it I1 (by omega) (by omega) q1 q2 (by simpa using q))
theorem pi_range2 {a b : Expr} {ta : TA} {p pos : Pos} (hg : Gl X "range") (hm : X.mg "range" = none) (ha : PA X [a, b] ta) (hs : starEach [a, b] X.env = [(false, eval a X.env), (false, eval b X.env)] := by rfl) (hs2 : starEach [b] X.env = [(false, eval b X.env)] := by rfl) :
    PI X tg (.Call (.Name "range" p) [a, b] [] pos) (iRng2 ta) := by
  intro pins s σ H R I h
  refine Call_ (ld_blt I hg hm boot_range (PyProof.Rows.callWith_type1 (thn (ha pos pins s σ H _ I h) fun us s1 ⟨vs, H1, I1, r1, q1⟩ => ?_) (by rw [hs, hs2]) (by rw [hs2]; rfl)))
  obtain ⟨i, j, e, ⟨q1, q2, q3, q4⟩, q⟩ := q1
  subst e
  cases r1 with
  | cons r rr =>
    cases rr with
    | cons r' rr =>
      cases rr
      obtain ⟨t, rfl⟩ := r
      obtain ⟨t', rfl⟩ := r'
      exact call_range_2 (range_it I1 q1 q2 q3 q4 q)

/-! ### for -/
/-- W: the invariant by the turn and a measure; N: what the body is to reach -/
def tFor (wi : TI) (g : TG) (tb : TS) : TS := fun D σ H => wi σ H fun J H1 => ∃ W : Nat → Nat → St → Hp → Prop, (∃ m, W 0 m σ H1) ∧ ∀ i m σ H, W i m σ H →
  (J.stop i H ∧ D.nx σ H) ∨ (J.go i H ∧ ∃ N : St → Hp → Prop, (∀ σ' H', N σ' H' → ∃ m', m' < m ∧ W (i + 1) m' σ' H') ∧ ∀ x H', J.yld i H x H' → g x σ H' fun σ2 H2 => tb { D with nx := N, ct := N, bk := D.nx } σ2 H2)
/-- the records at fp as they stand -/
def pinsAt (fp : List Addr) (h : Heap) : List (Addr × Obj) := fp.filterMap fun b => (h.get? b).map fun o => (b, o)
theorem mem_pinsAt {fp : List Addr} {h : Heap} {b : Addr} {o : Obj} (hb : b ∈ fp) (e : h.get? b = some o) : (b, o) ∈ pinsAt fp h := List.mem_filterMap.mpr ⟨b, hb, by rw [e]; rfl⟩
theorem of_pinsAt {fp : List Addr} {h : Heap} {p : Addr × Obj} (hp : p ∈ pinsAt fp h) : p.1 ∈ fp ∧ h.get? p.1 = some p.2 := by
  obtain ⟨b, hb, e⟩ := List.mem_filterMap.mp hp
  cases q : h.get? b with
  | none => rw [q] at e; cases e
  | some o =>
    rw [q] at e
    have e' : (b, o) = p := Option.some.inj e
    subst e'
    exact ⟨hb, q⟩
theorem Inv.pinned {pins : List (Addr × Obj)} {σ : St} {H : Hp} {s : Shared} {fp : List Addr} (I : Inv X pins σ H s) (hf : ∀ b ∈ fp, FpOk X pins H b) (ho : ∀ b ∈ fp, ∃ o, s.heap.get? b = some o ∧ ∀ v, o.data ≠ .cell v) : Inv X (pins ++ pinsAt fp s.heap) σ H s :=
  I.pins_of fun p hp => (List.mem_append.mp hp).elim (fun z => I.pin p (List.mem_append_right _ z)) fun z => by
    obtain ⟨hb, e⟩ := of_pinsAt z
    obtain ⟨f0, f1, f2, _⟩ := hf p.1 hb
    obtain ⟨o, e', d⟩ := ho p.1 hb
    rw [e] at e'; cases e'
    exact ⟨e, f0, f1, f2, d⟩
theorem Inv.unpinned {pins pl : List (Addr × Obj)} {σ : St} {H : Hp} {s : Shared} (I : Inv X (pins ++ pl) σ H s) : Inv X pins σ H s := I.pins_of fun p hp => I.pin p (List.mem_append_right _ (List.mem_append_left _ hp))
theorem ps_for {iter : Expr} {body : List Stmt} {wi : TI} {g : TG} {tb : TS} {pos : Pos} (hp : PassesOwn (model X.prog X.w) X.A X.env X.xe) (hc : X.calm = true) (hi : PI X tg iter wi) (hg : PG X tg g) (hb : PSs X body tb)
    (hs : ∀ x, foldedSetIterable iter X.env x = pure x := by intro _; rfl) : PS X (.For tg iter body [] pos) (tFor wi g tb) := by
  intro pins s σ H D I h
  refine wpAny_For (thn (hi pins s σ H _ I h) fun v s1 h1 => thn h1 fun itv s2 h2 => ?_) hs
  obtain ⟨it, fp, tn, J, H2, e, I2, T, st2, f2, W, ⟨m0, w0⟩, turn⟩ := h2
  subst e
  -- what stays true of the iterator's objects through the loop
  have stat : ∀ {H' : Hp}, (∀ b ∈ fp, H' b = none) → ∀ b ∈ fp, FpOk X pins H' b := fun hn b hb => ⟨hn b hb, (f2 b hb).2⟩
  refine codeAny_forLoop_any (fun n s' => ∃ i σ' H', Inv X pins σ' H' s' ∧ tn i s'.heap ∧ (∀ b ∈ fp, H' b = none) ∧ W i n σ' H') ?_ m0 ⟨0, σ, H2, I2, st2, fun b hb => (f2 b hb).1, w0⟩
  rintro n s3 ⟨i, σ3, H3, I3, st3, fr3, w3⟩
  rcases turn i n σ3 H3 w3 with ⟨stop, qn⟩ | ⟨go, N, hN, step⟩
  · refine wpAny_passesOwn hp (thn (T.done X rfl rfl rfl hc i pins s3 σ3 H3 X.xe I3 (stat fr3) st3 stop) fun r s4 ⟨hr, I4⟩ => ?_)
    subst hr
    exact wpAny_execs_nil ⟨σ3, H3, I4, qn⟩
  · refine wpAny_passesOwn hp (thn (T.item X rfl rfl rfl hc i pins s3 σ3 H3 X.xe I3 (stat fr3) st3 go) fun r s4 ⟨u, hr, h4⟩ => ?_)
    subst hr
    refine wpAny_passesOwn hp (thn h4 fun _ s5 ⟨x, H5, I5, r5, y5, st5, fr5⟩ => ?_)
    have I5' := I5.pinned (stat fr5) (T.obj _ _ st5)
    refine wpAny_passesOwn hp (thn (hg _ s5 σ3 H5 x u _ I5' r5 (step x H5 y5)) fun _ s6 ⟨σ6, H6, I6, q6⟩ => ?_)
    refine wpAny_passesOwn hp (thn (hb _ s6 σ6 H6 _ I6 q6) fun f s7 q7 => ?_)
    have again : ∀ {σ7 : St} {H7 : Hp}, Inv X (pins ++ pinsAt fp s5.heap) σ7 H7 s7 → N σ7 H7 → ∃ m, m < n ∧ ∃ i σ' H', Inv X pins σ' H' s7 ∧ tn i s7.heap ∧ (∀ b ∈ fp, H' b = none) ∧ W i m σ' H' := fun {σ7 H7} I7 n7 => by
      obtain ⟨m', hm, w7⟩ := hN σ7 H7 n7
      refine ⟨m', hm, i + 1, σ7, H7, I7.unpinned, T.keep _ _ _ st5 fun b hb o e => (I7.pin (b, o) (List.mem_append_right _ (List.mem_append_right _ (mem_pinsAt hb e)))).1, fun b hb => ?_, w7⟩
      obtain ⟨o, e, d⟩ := T.obj _ _ st5 b hb
      exact (I7.pin (b, o) (List.mem_append_right _ (List.mem_append_right _ (mem_pinsAt hb e)))).2.1
    cases f with
    | next => obtain ⟨σ7, H7, I7, n7⟩ := q7; exact again I7 n7
    | cont => obtain ⟨σ7, H7, I7, n7⟩ := q7; exact again I7 n7
    | brk => obtain ⟨σ7, H7, I7, q7⟩ := q7; exact ⟨σ7, H7, I7.unpinned, q7⟩
    | ret v => obtain ⟨x7, σ7, H7, I7, r7, q7⟩ := q7; exact ⟨x7, σ7, H7, I7.unpinned, r7, q7⟩
end

/-! ### the forms one uses -/
/-- over a list that the body leaves as it is -/
theorem for_list {K : PySem.W.Frag} {a : Addr} {xs : List V} {g : TG} {tb : TS} {D : Ends} {σ : St} {H : Hp} (Pv : Nat → St → Hp → Prop) (h0 : Pv 0 σ H) (hl : ∀ i σ H, i ≤ xs.length → Pv i σ H → SqL K H a xs)
    (hs : ∀ i x σ H, xs[i]? = some x → Pv i σ H → g x σ H fun σ2 H2 => tb { D with nx := Pv (i + 1), ct := Pv (i + 1), bk := D.nx } σ2 H2) (hd : ∀ σ H, Pv xs.length σ H → D.nx σ H) :
    ∃ W : Nat → Nat → St → Hp → Prop, (∃ m, W 0 m σ H) ∧ ∀ i m σ H, W i m σ H →
      ((Itl K a).stop i H ∧ D.nx σ H) ∨ ((Itl K a).go i H ∧ ∃ N : St → Hp → Prop, (∀ σ' H', N σ' H' → ∃ m', m' < m ∧ W (i + 1) m' σ' H') ∧ ∀ x H', (Itl K a).yld i H x H' → g x σ H' fun σ2 H2 => tb { D with nx := N, ct := N, bk := D.nx } σ2 H2) := by
  refine ⟨fun i m σ H => m = xs.length - i ∧ i ≤ xs.length ∧ Pv i σ H, ⟨xs.length, by simp, Nat.zero_le _, h0⟩, ?_⟩
  rintro i m σ H ⟨rfl, hi, p⟩
  have q := hl i σ H hi p
  by_cases hlt : i < xs.length
  · refine .inr ⟨⟨xs, xs[i], q, by simp [hlt]⟩, Pv (i + 1), fun σ' H' p' => ⟨xs.length - (i + 1), by omega, rfl, hlt, p'⟩, fun x H' y => ?_⟩
    obtain ⟨e, y⟩ := y
    subst e
    exact hs i x σ _ (y xs q) p
  · have e : i = xs.length := by omega
    subst e
    exact .inl ⟨⟨xs, q, Nat.le_refl _⟩, hd σ H p⟩
theorem for_tup {K : PySem.W.Frag} {a : Addr} {xs : List V} {g : TG} {tb : TS} {D : Ends} {σ : St} {H : Hp} (Pv : Nat → St → Hp → Prop) (h0 : Pv 0 σ H) (hl : ∀ i σ H, i ≤ xs.length → Pv i σ H → SqT K H a xs)
    (hs : ∀ i x σ H, xs[i]? = some x → Pv i σ H → g x σ H fun σ2 H2 => tb { D with nx := Pv (i + 1), ct := Pv (i + 1), bk := D.nx } σ2 H2) (hd : ∀ σ H, Pv xs.length σ H → D.nx σ H) :
    ∃ W : Nat → Nat → St → Hp → Prop, (∃ m, W 0 m σ H) ∧ ∀ i m σ H, W i m σ H →
      ((Itt K a).stop i H ∧ D.nx σ H) ∨ ((Itt K a).go i H ∧ ∃ N : St → Hp → Prop, (∀ σ' H', N σ' H' → ∃ m', m' < m ∧ W (i + 1) m' σ' H') ∧ ∀ x H', (Itt K a).yld i H x H' → g x σ H' fun σ2 H2 => tb { D with nx := N, ct := N, bk := D.nx } σ2 H2) := by
  refine ⟨fun i m σ H => m = xs.length - i ∧ i ≤ xs.length ∧ Pv i σ H, ⟨xs.length, by simp, Nat.zero_le _, h0⟩, ?_⟩
  rintro i m σ H ⟨rfl, hi, p⟩
  have q := hl i σ H hi p
  by_cases hlt : i < xs.length
  · refine .inr ⟨⟨xs, xs[i], q, by simp [hlt]⟩, Pv (i + 1), fun σ' H' p' => ⟨xs.length - (i + 1), by omega, rfl, hlt, p'⟩, fun x H' y => ?_⟩
    obtain ⟨e, y⟩ := y
    subst e
    exact hs i x σ _ (y xs q) p
  · have e : i = xs.length := by omega
    subst e
    exact .inl ⟨⟨xs, q, Nat.le_refl _⟩, hd σ H p⟩
theorem for_range {lo : Int} {n : Nat} {g : TG} {tb : TS} {D : Ends} {σ : St} {H : Hp} (Pv : Nat → St → Hp → Prop) (h0 : Pv 0 σ H)
    (hs : ∀ i σ H, i < n → Pv i σ H → g (.int (lo + i)) σ H fun σ2 H2 => tb { D with nx := Pv (i + 1), ct := Pv (i + 1), bk := D.nx } σ2 H2) (hd : ∀ σ H, Pv n σ H → D.nx σ H) :
    ∃ W : Nat → Nat → St → Hp → Prop, (∃ m, W 0 m σ H) ∧ ∀ i m σ H, W i m σ H →
      ((Itr lo n).stop i H ∧ D.nx σ H) ∨ ((Itr lo n).go i H ∧ ∃ N : St → Hp → Prop, (∀ σ' H', N σ' H' → ∃ m', m' < m ∧ W (i + 1) m' σ' H') ∧ ∀ x H', (Itr lo n).yld i H x H' → g x σ H' fun σ2 H2 => tb { D with nx := N, ct := N, bk := D.nx } σ2 H2) := by
  refine ⟨fun i m σ H => m = n - i ∧ i ≤ n ∧ Pv i σ H, ⟨n, by simp, Nat.zero_le _, h0⟩, ?_⟩
  rintro i m σ H ⟨rfl, hi, p⟩
  by_cases hlt : i < n
  · refine .inr ⟨hlt, Pv (i + 1), fun σ' H' p' => ⟨n - (i + 1), by omega, rfl, hlt, p'⟩, fun x H' y => ?_⟩
    obtain ⟨e, y⟩ := y
    subst e y
    exact hs i σ _ hlt p
  · have e : i = n := by omega
    subst e
    exact .inl ⟨Nat.le_refl _, hd σ H p⟩
/-- while, by a word and a measure of the state -/
theorem while_by {c : TT} {tb : TS} {D : Ends} {σ : St} {H : Hp} (Pv : St → Hp → Prop) (μ : St → Hp → Nat) (h0 : Pv σ H)
    (hs : ∀ σ H, Pv σ H → c σ H fun b H1 => if b = true then tb { D with nx := fun σ' H' => Pv σ' H' ∧ μ σ' H' < μ σ H, ct := fun σ' H' => Pv σ' H' ∧ μ σ' H' < μ σ H, bk := D.nx } σ H1 else D.nx σ H1)
    (mono : ∀ σ H Q Q', (∀ b H1, Q b H1 → Q' b H1) → c σ H Q → c σ H Q') : tWhile c tb D σ H := by
  refine ⟨fun m σ H => m = μ σ H ∧ Pv σ H, ⟨_, rfl, h0⟩, ?_⟩
  rintro m σ H ⟨rfl, p⟩
  refine mono σ H _ _ (fun b H1 q => ?_) (hs σ H p)
  cases b with
  | true => exact ⟨_, fun σ' H' ⟨p', l⟩ => ⟨_, l, rfl, p'⟩, q⟩
  | false => exact q
end L2

namespace L2
open PySem PySem.Spec PyProof.Rows

abbrev R2 := V → V → Hp → VK → Prop
/-- a two-place operation on values: f is binaryOp op, inplaceOp op or compareOp op -/
def OpR (X : Cx) (f : Value → Value → Sem Value) (r : R2) : Prop :=
  ∀ (pins : List (Addr × Obj)) (s : Shared) (σ : St) (H : Hp) (x y : V) (v u : Value) (Q : VK), Inv X pins σ H s → RelV x v → RelV y u → r x y H Q →
    wpAny (model X.prog X.w) X.A (f v u) (EP X pins σ Q) X.xe s
/-- a one-place operation -/
def UnR (X : Cx) (f : Value → Sem Value) (r : V → Hp → VK → Prop) : Prop :=
  ∀ (pins : List (Addr × Obj)) (s : Shared) (σ : St) (H : Hp) (x : V) (v : Value) (Q : VK), Inv X pins σ H s → RelV x v → r x H Q →
    wpAny (model X.prog X.w) X.A (f v) (EP X pins σ Q) X.xe s
/-- a call of a value that is known (a builtin, a type) with values -/
def CallR (X : Cx) (f : Value) (r : List V → Hp → VK → Prop) : Prop :=
  ∀ (pins : List (Addr × Obj)) (s : Shared) (σ : St) (H : Hp) (xs : List V) (us : List Value) (Q : VK), Inv X pins σ H s → Vals xs us → r xs H Q →
    wpAny (model X.prog X.w) X.A (call f us) (EP X pins σ Q) X.xe s
/-- a value's truth -/
def TruR (X : Cx) (r : V → Hp → (Bool → Hp → Prop) → Prop) : Prop :=
  ∀ (pins : List (Addr × Obj)) (s : Shared) (σ : St) (H : Hp) (x : V) (v : Value) (Q : Bool → Hp → Prop), Inv X pins σ H s → RelV x v → r x H Q →
    wpAny (model X.prog X.w) X.A (truthy v) (TP X pins σ Q) X.xe s

def tOp (r : R2) (ta tb : TE) : TE := fun σ H Q => ta σ H fun x H1 => tb σ H1 fun y H2 => r x y H2 Q
def tUn (r : V → Hp → VK → Prop) (ta : TE) : TE := fun σ H Q => ta σ H fun x H1 => r x H1 Q
/-- ints in, under C, and a value out -/
def rI (C : Int → Int → Prop) (g : Int → Int → V) : R2 := fun x y H Q => ∃ i j, x = .int i ∧ y = .int j ∧ C i j ∧ Q (g i j) H
def rI0 (g : Int → Int → V) : R2 := fun x y H Q => ∃ i j, x = .int i ∧ y = .int j ∧ Q (g i j) H
def rU (g : Int → V) : V → Hp → VK → Prop := fun x H Q => ∃ i, x = .int i ∧ Q (g i) H

section
variable {X : Cx} {a b c : Expr} {ta tb tc : TE} {pos : Pos}

theorem binT (ha : PE X a ta) (hb : PE X b tb) {pins : List (Addr × Obj)} {s : Shared} {σ : St} {H : Hp} {R : V → V → Hp → Prop} (I : Inv X pins σ H s)
    (h : ta σ H fun x H1 => tb σ H1 fun y H2 => R x y H2) {Q : Value → Shared → Prop} {f : Value → Value → Sem Value}
    (hf : ∀ v u s2 x y H2, Inv X pins σ H2 s2 → RelV x v → RelV y u → R x y H2 → wpAny (model X.prog X.w) X.A (f v u) Q X.xe s2) :
    wpAny (model X.prog X.w) X.A (eval a X.env) (fun v s₁ => wpAny (model X.prog X.w) X.A (eval b X.env) (fun u s₂ => wpAny (model X.prog X.w) X.A (f v u) Q X.xe s₂) X.xe s₁) X.xe s := by
  refine thn (ha pins s σ H _ I h) fun v s1 ⟨x, H1, I1, r1, q1⟩ => ?_
  refine thn (hb pins s1 σ H1 _ I1 q1) fun u s2 ⟨y, H2, I2, r2, q2⟩ => ?_
  exact hf v u s2 x y H2 I2 r1 r2 q2

theorem pe_op {op : Operator} {r : R2} (ho : OpR X (binaryOp op) r) (ha : PE X a ta) (hb : PE X b tb) : PE X (.BinOp a op b pos) (tOp r ta tb) := by
  intro pins s σ H Q I h
  exact wpAny_BinOp (binT ha hb I h fun v u s2 x y H2 I2 rx ry q => ho pins s2 σ H2 x y v u Q I2 rx ry q)
theorem pe_un {op : UnaryOp} {r : V → Hp → VK → Prop} (ho : UnR X (unaryOp op) r) (ha : PE X a ta) : PE X (.UnaryOp op a pos) (tUn r ta) := by
  intro pins s σ H Q I h
  exact UnaryOp_ (thn (ha pins s σ H _ I h) fun v s1 ⟨x, H1, I1, r1, q1⟩ => ho pins s1 σ H1 x v Q I1 r1 q1)
/-- a op= e at a name: the name's slot i -/
theorem augR {op : Operator} {r : R2} (ho : OpR X (inplaceOp op) r) {pins : List (Addr × Obj)} {s : Shared} {σ : St} {H : Hp} {x y : V} {v u : Value} {Q : VK} (I : Inv X pins σ H s)
    (rx : RelV x v) (ry : RelV y u) (q : r x y H Q) : wpAny (model X.prog X.w) X.A (inplaceOp op v u) (EP X pins σ Q) X.xe s := ho pins s σ H x y v u Q I rx ry q

/-! ### ints -/
theorem opI {f : Value → Value → Sem Value} {C : Int → Int → Prop} {g : Int → Int → Int}
    (rule : ∀ (i j : Int) (t u : Tok) (s : Shared) (Q : Value → Shared → Prop) (E : Value → Shared → Prop), C i j → Q (.int (g i j) s.toks) { s with toks := s.toks + 1 } → wpAny (model X.prog X.w) X.A (f (.int i t) (.int j u)) Q E s) :
    OpR X f (rI C fun i j => .int (g i j)) := by
  intro pins s σ H x y v u Q I rx ry h
  obtain ⟨i, j, rfl, rfl, hc, q⟩ := h
  obtain ⟨t, rfl⟩ := rx
  obtain ⟨t', rfl⟩ := ry
  exact rule i j t t' s _ _ hc ⟨.int (g i j), H, I.tok _, ⟨_, rfl⟩, q⟩
theorem opI0 {f : Value → Value → Sem Value} {g : Int → Int → Int}
    (rule : ∀ (i j : Int) (t u : Tok) (s : Shared) (Q : Value → Shared → Prop) (E : Value → Shared → Prop), Q (.int (g i j) s.toks) { s with toks := s.toks + 1 } → wpAny (model X.prog X.w) X.A (f (.int i t) (.int j u)) Q E s) :
    OpR X f (rI0 fun i j => .int (g i j)) := by
  intro pins s σ H x y v u Q I rx ry h
  obtain ⟨i, j, rfl, rfl, q⟩ := h
  obtain ⟨t, rfl⟩ := rx
  obtain ⟨t', rfl⟩ := ry
  exact rule i j t t' s _ _ ⟨.int (g i j), H, I.tok _, ⟨_, rfl⟩, q⟩
theorem opB0 {f : Value → Value → Sem Value} {g : Int → Int → Bool}
    (rule : ∀ (i j : Int) (t u : Tok) (s : Shared) (Q : Value → Shared → Prop) (E : Value → Shared → Prop), Q (.bool (g i j)) s → wpAny (model X.prog X.w) X.A (f (.int i t) (.int j u)) Q E s) :
    OpR X f (rI0 fun i j => .bl (g i j)) := by
  intro pins s σ H x y v u Q I rx ry h
  obtain ⟨i, j, rfl, rfl, q⟩ := h
  obtain ⟨t, rfl⟩ := rx
  obtain ⟨t', rfl⟩ := ry
  exact rule i j t t' s _ _ ⟨.bl (g i j), H, I, rfl, q⟩

def CDiv (i j : Int) : Prop := 0 < j ∧ j < 1073741824
def CDivN (i j : Int) : Prop := j ≠ 0 ∧ j.natAbs < 1073741824
def CPow (i j : Int) : Prop := 0 ≤ j ∧ j ≤ 1000000 ∧ i.natAbs < 2 ^ 64
def CMul (i j : Int) : Prop := (-(2 ^ 64) < i ∧ i < 2 ^ 64) ∨ (-(2 ^ 64) < j ∧ j < 2 ^ 64)
theorem CMul.ok {i j : Int} (h : CMul i j) : IntMulOk i j := by
  rcases h with ⟨h1, h2⟩ | ⟨h1, h2⟩
  · exact .of_left (intBits_le_64 h1 h2)
  · exact .of_right (intBits_le_64 h1 h2)
theorem two_pow_nn (k : Nat) : (0 : Int) ≤ 2 ^ k := by
  rw [two_pow_cast]
  exact Int.natCast_nonneg _

theorem op_add : OpR X (binaryOp .Add) (rI0 fun i j => .int (i + j)) := opI0 fun _ _ _ _ _ _ _ q => add_int q
theorem op_sub : OpR X (binaryOp .Sub) (rI0 fun i j => .int (i - j)) := opI0 fun _ _ _ _ _ _ _ q => sub_int q
theorem op_mul : OpR X (binaryOp .Mult) (rI CMul fun i j => .int (i * j)) := opI fun _ _ _ _ _ _ _ hc q => mul_int q hc.ok
/-- // by a positive divisor -/
theorem op_fdiv : OpR X (binaryOp .FloorDiv) (rI CDiv fun i j => .int (i / j)) := opI fun i j _ _ _ _ _ hc q => by
  have h1 : (0 : Int) < j := hc.1
  have h2 : j < 1073741824 := hc.2
  exact floordiv_int (by omega) (by rw [Int.fdiv_eq_ediv_of_nonneg i (by omega)]; exact q) (.inl (PyProof.noPylong_small (by omega)))
theorem op_fdivN : OpR X (binaryOp .FloorDiv) (rI CDivN fun i j => .int (i.fdiv j)) := opI fun _ _ _ _ _ _ _ hc q => floordiv_int hc.1 q (.inl (PyProof.noPylong_small hc.2))
/-- % by a positive divisor of any size -/
theorem op_mod : OpR X (binaryOp .Mod) (rI (fun _ j => 0 < j) fun i j => .int (i % j)) := opI fun i j _ _ _ _ _ hc q => by
  have h1 : (0 : Int) < j := hc
  exact mod_int' (by omega) (by rw [Int.fmod_eq_emod_of_nonneg i (by omega)]; exact q)
theorem op_modN : OpR X (binaryOp .Mod) (rI (fun _ j => j ≠ 0) fun i j => .int (i.fmod j)) := opI fun _ _ _ _ _ _ _ hc q => mod_int' hc q
theorem op_pow : OpR X (binaryOp .Pow) (rI CPow fun i j => .int (i ^ j.toNat)) := opI fun _ _ _ _ _ _ _ hc q => pow_int_small hc.1 hc.2.1 hc.2.2 q
theorem op_shl : OpR X (binaryOp .LShift) (rI CPow fun i j => .int (i * 2 ^ j.toNat)) := opI fun _ _ _ _ _ _ _ hc q => lshift_int_small hc.1 hc.2.1 hc.2.2 q
theorem op_shr : OpR X (binaryOp .RShift) (rI (fun _ j => 0 ≤ j) fun i j => .int (i / 2 ^ j.toNat)) := opI fun i j _ _ _ _ _ hc q =>
  rshift_int hc (by rw [Int.fdiv_eq_ediv_of_nonneg i (two_pow_nn _)]; exact q)
theorem op_and : OpR X (binaryOp .BitAnd) (rI0 fun i j => .int (Builtin.bitAnd i j)) := opI0 fun _ _ _ _ _ _ _ q => and_int q
theorem op_or : OpR X (binaryOp .BitOr) (rI0 fun i j => .int (Builtin.bitOr i j)) := opI0 fun _ _ _ _ _ _ _ q => or_int q
theorem op_xor : OpR X (binaryOp .BitXor) (rI0 fun i j => .int (Builtin.bitXor i j)) := opI0 fun _ _ _ _ _ _ _ q => xor_int q

theorem iop_add : OpR X (inplaceOp .Add) (rI0 fun i j => .int (i + j)) := opI0 fun _ _ _ _ _ _ _ q => iadd_int q
theorem iop_sub : OpR X (inplaceOp .Sub) (rI0 fun i j => .int (i - j)) := opI0 fun _ _ _ _ _ _ _ q => isub_int q
theorem iop_mul : OpR X (inplaceOp .Mult) (rI CMul fun i j => .int (i * j)) := opI fun _ _ _ _ _ _ _ hc q => imul_int q hc.ok
theorem iop_fdiv : OpR X (inplaceOp .FloorDiv) (rI CDiv fun i j => .int (i / j)) := opI fun i j _ _ _ _ _ hc q => by
  have h1 : (0 : Int) < j := hc.1
  have h2 : j < 1073741824 := hc.2
  exact ifloordiv_int (by omega) (by rw [Int.fdiv_eq_ediv_of_nonneg i (by omega)]; exact q) (.inl (PyProof.noPylong_small (by omega)))
theorem iop_mod : OpR X (inplaceOp .Mod) (rI (fun _ j => 0 < j) fun i j => .int (i % j)) := opI fun i j _ _ _ _ _ hc q => by
  have h1 : (0 : Int) < j := hc
  exact imod_int (by omega) (by rw [Int.fmod_eq_emod_of_nonneg i (by omega)]; exact q)
theorem iop_shl : OpR X (inplaceOp .LShift) (rI CPow fun i j => .int (i * 2 ^ j.toNat)) := opI fun _ _ _ _ _ _ _ hc q => ilshift_int_small hc.1 hc.2.1 hc.2.2 q
theorem iop_shr : OpR X (inplaceOp .RShift) (rI (fun _ j => 0 ≤ j) fun i j => .int (i / 2 ^ j.toNat)) := opI fun i j _ _ _ _ _ hc q =>
  irshift_int hc (by rw [Int.fdiv_eq_ediv_of_nonneg i (two_pow_nn _)]; exact q)
theorem iop_and : OpR X (inplaceOp .BitAnd) (rI0 fun i j => .int (Builtin.bitAnd i j)) := opI0 fun _ _ _ _ _ _ _ q => iand_int q
theorem iop_or : OpR X (inplaceOp .BitOr) (rI0 fun i j => .int (Builtin.bitOr i j)) := opI0 fun _ _ _ _ _ _ _ q => ior_int q
theorem iop_xor : OpR X (inplaceOp .BitXor) (rI0 fun i j => .int (Builtin.bitXor i j)) := opI0 fun _ _ _ _ _ _ _ q => ixor_int q

theorem unI {f : Value → Sem Value} {g : Int → Int}
    (rule : ∀ (i : Int) (t : Tok) (s : Shared) (Q : Value → Shared → Prop) (E : Value → Shared → Prop), Q (.int (g i) s.toks) { s with toks := s.toks + 1 } → wpAny (model X.prog X.w) X.A (f (.int i t)) Q E s) :
    UnR X f (rU fun i => .int (g i)) := by
  intro pins s σ H x v Q I rx h
  obtain ⟨i, rfl, q⟩ := h
  obtain ⟨t, rfl⟩ := rx
  exact rule i t s _ _ ⟨.int (g i), H, I.tok _, ⟨_, rfl⟩, q⟩
theorem un_neg : UnR X (unaryOp .USub) (rU fun i => .int (-i)) := unI fun _ _ _ _ _ q => neg_int q
theorem un_inv : UnR X (unaryOp .Invert) (rU fun i => .int (Builtin.bitNot i)) := unI fun _ _ _ _ _ q => invert_int q

/-! ### bools among ints: n += (a < b) -/
theorem op_add_ib : OpR X (binaryOp .Add) (fun x y H Q => ∃ i k, x = .int i ∧ y = .bl k ∧ Q (.int (i + b2i k)) H) := by
  intro pins s σ H x y v u Q I rx ry h
  obtain ⟨i, k, rfl, rfl, q⟩ := h
  obtain ⟨t, rfl⟩ := rx
  cases ry
  exact add_int_bool ⟨.int (i + b2i k), H, I.tok _, ⟨_, rfl⟩, q⟩
end

/-! ### comparisons -/
/-- the scalars that == tells apart as data does -/
def scal : V → V → Bool
  | .non, .non => true | .non, .int _ => true | .int _, .non => true | .non, .bl _ => true | .bl _, .non => true | .non, .str _ => true | .str _, .non => true
  | .int _, .int _ => true | .bl _, .bl _ => true | .str _, .str _ => true | .byt _, .byt _ => true
  | .int _, .str _ => true | .str _, .int _ => true | .bl _, .str _ => true | .str _, .bl _ => true
  | _, _ => false
def rEq : R2 := fun x y H Q => scal x y = true ∧ Q (.bl (decide (x = y))) H
def rNe : R2 := fun x y H Q => scal x y = true ∧ Q (.bl (!decide (x = y))) H

theorem dec_int {i j : Int} : decide (V.int i = V.int j) = (i == j) := by
  rw [Bool.eq_iff_iff]
  simp
theorem dec_bl {i j : Bool} : decide (V.bl i = V.bl j) = (i == j) := by
  rw [Bool.eq_iff_iff]
  simp
theorem dec_str {i j : Str} : decide (V.str i = V.str j) = (i == j) := by
  rw [Bool.eq_iff_iff]
  simp
theorem dec_byt {i j : Array UInt8} : decide (V.byt i = V.byt j) = (i.toList == j.toList) := by
  rw [Bool.eq_iff_iff]
  cases i
  cases j
  simp

section
variable {X : Cx} {a b c : Expr} {ta tb tc : TE} {pos : Pos}
theorem fin_bl {pins : List (Addr × Obj)} {σ : St} {H : Hp} {s : Shared} {Q : VK} {k k' : Bool} (I : Inv X pins σ H s) (q : Q (.bl k) H) (e : k = k') : EP X pins σ Q (.bool k') s := by
  subst e
  exact ⟨.bl k, H, I, rfl, q⟩
theorem op_eq : OpR X (compareOp .Eq) rEq := by
  intro pins s σ H x y v u Q I rx ry h
  obtain ⟨hs, q⟩ := h
  cases x with
  | non =>
    cases rx
    cases y with
    | non => cases ry; exact PySem.EqNone.eq_none_none (fin_bl I q (by simp))
    | bl j => cases ry; exact PySem.EqNone.eq_none_bool (fin_bl I q (by simp))
    | int j => obtain ⟨t', rfl⟩ := ry; exact PySem.EqNone.eq_none_int (fin_bl I q (by simp))
    | str j => obtain ⟨t', rfl⟩ := ry; exact PySem.EqNone.eq_none_str (fin_bl I q (by simp))
    | _ => exact absurd (show false = true from hs) Bool.false_ne_true
  | bl i =>
    cases rx
    cases y with
    | non => cases ry; exact PySem.EqNone.eq_bool_none (fin_bl I q (by simp))
    | bl j => cases ry; exact eq_bool (fin_bl I q dec_bl)
    | str j => obtain ⟨t', rfl⟩ := ry; exact PySem.EqMixed.eq_bool_str (fin_bl I q (by simp))
    | _ => exact absurd (show false = true from hs) Bool.false_ne_true
  | int i =>
    obtain ⟨t, rfl⟩ := rx
    cases y with
    | non => cases ry; exact PySem.EqNone.eq_int_none (fin_bl I q (by simp))
    | int j => obtain ⟨t', rfl⟩ := ry; exact eq_int (fin_bl I q dec_int)
    | str j => obtain ⟨t', rfl⟩ := ry; exact PySem.EqMixed.eq_int_str (fin_bl I q (by simp))
    | _ => exact absurd (show false = true from hs) Bool.false_ne_true
  | str i =>
    obtain ⟨t, rfl⟩ := rx
    cases y with
    | non => cases ry; exact PySem.EqNone.eq_str_none (fin_bl I q (by simp))
    | bl j => cases ry; exact PySem.EqMixed.eq_str_bool (fin_bl I q (by simp))
    | int j => obtain ⟨t', rfl⟩ := ry; exact PySem.EqMixed.eq_str_int (fin_bl I q (by simp))
    | str j => obtain ⟨t', rfl⟩ := ry; exact eq_str (fin_bl I q dec_str)
    | _ => exact absurd (show false = true from hs) Bool.false_ne_true
  | byt i =>
    obtain ⟨t, rfl⟩ := rx
    cases y with
    | byt j => obtain ⟨t', rfl⟩ := ry; exact PySem.W.eq_bytes (fin_bl I q dec_byt)
    | _ => exact absurd (show false = true from hs) Bool.false_ne_true
  | _ => cases y <;> exact absurd (show false = true from hs) Bool.false_ne_true
theorem op_ne : OpR X (compareOp .NotEq) rNe := by
  intro pins s σ H x y v u Q I rx ry h
  obtain ⟨hs, q⟩ := h
  cases x with
  | non =>
    cases rx
    cases y with
    | non => cases ry; exact PySem.EqNone.ne_none_none (fin_bl I q (by simp))
    | bl j => cases ry; exact PySem.EqNone.ne_none_bool (fin_bl I q (by simp))
    | int j => obtain ⟨t', rfl⟩ := ry; exact PySem.EqNone.ne_none_int (fin_bl I q (by simp))
    | str j => obtain ⟨t', rfl⟩ := ry; exact PySem.EqNone.ne_none_str (fin_bl I q (by simp))
    | _ => exact absurd (show false = true from hs) Bool.false_ne_true
  | bl i =>
    cases rx
    cases y with
    | non => cases ry; exact PySem.EqNone.ne_bool_none (fin_bl I q (by simp))
    | bl j => cases ry; exact ne_bool (fin_bl I q (congrArg not dec_bl))
    | str j => obtain ⟨t', rfl⟩ := ry; exact PySem.EqMixed.ne_bool_str (fin_bl I q (by simp))
    | _ => exact absurd (show false = true from hs) Bool.false_ne_true
  | int i =>
    obtain ⟨t, rfl⟩ := rx
    cases y with
    | non => cases ry; exact PySem.EqNone.ne_int_none (fin_bl I q (by simp))
    | int j => obtain ⟨t', rfl⟩ := ry; exact ne_int (fin_bl I q (congrArg not dec_int))
    | str j => obtain ⟨t', rfl⟩ := ry; exact PySem.EqMixed.ne_int_str (fin_bl I q (by simp))
    | _ => exact absurd (show false = true from hs) Bool.false_ne_true
  | str i =>
    obtain ⟨t, rfl⟩ := rx
    cases y with
    | non => cases ry; exact PySem.EqNone.ne_str_none (fin_bl I q (by simp))
    | bl j => cases ry; exact PySem.EqMixed.ne_str_bool (fin_bl I q (by simp))
    | int j => obtain ⟨t', rfl⟩ := ry; exact PySem.EqMixed.ne_str_int (fin_bl I q (by simp))
    | str j => obtain ⟨t', rfl⟩ := ry; exact ne_str (fin_bl I q (congrArg not dec_str))
    | _ => exact absurd (show false = true from hs) Bool.false_ne_true
  | byt i =>
    obtain ⟨t, rfl⟩ := rx
    cases y with
    | byt j => obtain ⟨t', rfl⟩ := ry; exact PySem.W.ne_bytes (fin_bl I q (congrArg not dec_byt))
    | _ => exact absurd (show false = true from hs) Bool.false_ne_true
  | _ => cases y <;> exact absurd (show false = true from hs) Bool.false_ne_true

theorem op_lt : OpR X (compareOp .Lt) (rI0 fun i j => .bl (decide (i < j))) := opB0 fun _ _ _ _ _ _ _ q => lt_int q
theorem op_le : OpR X (compareOp .LtE) (rI0 fun i j => .bl (decide (i ≤ j))) := opB0 fun _ _ _ _ _ _ _ q => le_int q
theorem op_gt : OpR X (compareOp .Gt) (rI0 fun i j => .bl (decide (j < i))) := opB0 fun _ _ _ _ _ _ _ q => gt_int q
theorem op_ge : OpR X (compareOp .GtE) (rI0 fun i j => .bl (decide (j ≤ i))) := opB0 fun _ _ _ _ _ _ _ q => ge_int q
theorem op_lt_str : OpR X (compareOp .Lt) (fun x y H Q => ∃ i j, x = .str i ∧ y = .str j ∧ Q (.bl (decide (i.cps.toList < j.cps.toList))) H) := by
  intro pins s σ H x y v u Q I rx ry h
  obtain ⟨i, j, rfl, rfl, q⟩ := h
  obtain ⟨t, rfl⟩ := rx
  obtain ⟨t', rfl⟩ := ry
  exact lt_str (fin_bl I q rfl)
/-- the one string within the other -/
theorem op_in_str : OpR X (compareOp .In) (fun x y H Q => ∃ i j, x = .str i ∧ y = .str j ∧ Q (.bl (!(Builtin.Str.occurrences j i 0 j.length 1).isEmpty)) H) := by
  intro pins s σ H x y v u Q I rx ry h
  obtain ⟨i, j, rfl, rfl, q⟩ := h
  obtain ⟨t, rfl⟩ := rx
  obtain ⟨t', rfl⟩ := ry
  exact in_str (fin_bl I q rfl)

/-- is None, is not None: the right side a value none -/
theorem op_isN : OpR X (compareOp .Is) (fun x y H Q => y = .non ∧ Q (.bl (decide (x = .non))) H) := by
  intro pins s σ H x y v u Q I rx ry h
  obtain ⟨rfl, q⟩ := h
  cases ry
  refine is_none_gen (fin_bl I q ?_)
  cases x <;> first
    | (cases rx; rfl)
    | (obtain ⟨t, rfl⟩ := rx; rfl)
theorem op_notN : OpR X (compareOp .IsNot) (fun x y H Q => y = .non ∧ Q (.bl (!decide (x = .non))) H) := by
  intro pins s σ H x y v u Q I rx ry h
  obtain ⟨rfl, q⟩ := h
  cases ry
  refine isnot_none_gen (fin_bl I q ?_)
  cases x <;> first
    | (cases rx; rfl)
    | (obtain ⟨t, rfl⟩ := rx; rfl)

theorem op_notin_str : OpR X (compareOp .NotIn) (fun x y H Q => ∃ i j, x = .str i ∧ y = .str j ∧ Q (.bl (!(!(Builtin.Str.occurrences j i 0 j.length 1).isEmpty))) H) := by
  intro pins s σ H x y v u Q I rx ry h
  obtain ⟨i, j, rfl, rfl, q⟩ := h
  obtain ⟨t, rfl⟩ := rx
  obtain ⟨t', rfl⟩ := ry
  exact notIn_str (fin_bl I q rfl)
/-- is, is not of two objects that are tracked lists or instances -/
def isObj : HO → Bool
  | .lst _ => true
  | .ins _ _ _ => true
  | _ => false
theorem obj_there {pins : List (Addr × Obj)} {s : Shared} {σ : St} {H : Hp} {a : Addr} {o : HO} (I : Inv X pins σ H s) (h : H a = some o) (p : isObj o = true) : ∃ ob, s.heap.get? a = some ob ∧ ob.cls ≠ .type "tuple" := by
  cases o with
  | lst xs =>
    obtain ⟨_, its, n, _, e⟩ : xs.length ≤ sizeLine ∧ ∃ (its : List Value) (n : Nat), Vals xs its ∧ s.heap.get? a = some { cls := .type "list", data := .seq its.toArray n } := I.hok a _ h
    exact ⟨_, e, (by show Value.type "list" ≠ .type "tuple"; decide +kernel)⟩
  | ins C dx fs =>
    have x := I.hok a _ h
    obtain ⟨_, _, _, e, _⟩ := x
    exact ⟨_, e, (by show Value.ref C ≠ .type "tuple"; exact fun z => by cases z)⟩
  | _ => exact absurd (show false = true from p) Bool.false_ne_true
theorem op_is_ref : OpR X (compareOp .Is) (fun x y H Q => ∃ a b oa ob, x = .ref a ∧ y = .ref b ∧ H a = some oa ∧ isObj oa = true ∧ H b = some ob ∧ isObj ob = true ∧ Q (.bl (decide (a = b))) H) := by
  intro pins s σ H x y v u Q I rx ry h
  obtain ⟨a, b, oa, ob, rfl, rfl, ha, pa, hb, pb, q⟩ := h
  cases rx
  cases ry
  obtain ⟨o1, e1, n1⟩ := obj_there I ha pa
  obtain ⟨o2, e2, _⟩ := obj_there I hb pb
  by_cases z : a = b
  · subst z
    exact wpAny_is_ref_self (fin_bl I q (by simp))
  · exact wpAny_is_ref_other z e1 e2 n1 (fin_bl I q (by simp [z]))
theorem op_isnot_ref : OpR X (compareOp .IsNot) (fun x y H Q => ∃ a b oa ob, x = .ref a ∧ y = .ref b ∧ H a = some oa ∧ isObj oa = true ∧ H b = some ob ∧ isObj ob = true ∧ Q (.bl (!decide (a = b))) H) := by
  intro pins s σ H x y v u Q I rx ry h
  obtain ⟨a, b, oa, ob, rfl, rfl, ha, pa, hb, pb, q⟩ := h
  cases rx
  cases ry
  obtain ⟨o1, e1, n1⟩ := obj_there I ha pa
  obtain ⟨o2, e2, _⟩ := obj_there I hb pb
  by_cases z : a = b
  · subst z
    exact wpAny_isNot_ref_self (fin_bl I q (by simp))
  · exact wpAny_isNot_ref_other z e1 e2 n1 (fin_bl I q (by simp [z]))

/-- two rules for one operation: by cases -/
theorem OpR.or {f : Value → Value → Sem Value} {r r' : R2} (h : OpR X f r) (h' : OpR X f r') : OpR X f (fun x y H Q => r x y H Q ∨ r' x y H Q) := by
  intro pins s σ H x y v u Q I rx ry q
  rcases q with q | q
  · exact h pins s σ H x y v u Q I rx ry q
  · exact h' pins s σ H x y v u Q I rx ry q

theorem nomark (b : Expr) {op : CmpOp} (h : op ≠ .In := by decide) (h2 : op ≠ .NotIn := by decide) : behindInMarks op b = false := by
  have e1 : (op == CmpOp.In) = false := by cases op <;> first | rfl | exact absurd rfl h
  have e2 : (op == CmpOp.NotIn) = false := by cases op <;> first | rfl | exact absurd rfl h2
  cases b <;> simp [behindInMarks, e1, e2]
/-- a comparison as a value; hm: nomark b, or (for in, not in) by with_unfolding_all rfl -/
theorem pe_cmpR {op : CmpOp} {r : R2} (ho : OpR X (compareOp op) r) (ha : PE X a ta) (hb : PE X b tb) (hm : behindInMarks op b = false) : PE X (.Compare a [op] [b] pos) (tOp r ta tb) := by
  intro pins s σ H Q I h
  exact wpAny_Compare1 (binT ha hb I h fun v u s2 x y H2 I2 rx ry q => ho pins s2 σ H2 x y v u Q I2 rx ry q) hm
/-- a reading of a value as a test -/
def tTest (t : TE) : TT := fun σ H Q => t σ H fun x H' => ∃ k, x = .bl k ∧ Q k H'
theorem pt_cmpR {op : CmpOp} {r : R2} (ho : OpR X (compareOp op) r) (ha : PE X a ta) (hb : PE X b tb) (hm : behindInMarks op b = false) : PT X (.Compare a [op] [b] pos) (tTest (tOp r ta tb)) := by
  intro pins s σ H Q I h
  refine wpAny_isTrue_Compare1 (thn (ha pins s σ H _ I h) fun v s1 ⟨x, H1, I1, r1, q1⟩ => thn (hb pins s1 σ H1 _ I1 q1) fun u s2 ⟨y, H2, I2, r2, q2⟩ =>
    thn (ho pins s2 σ H2 x y v u _ I2 r1 r2 q2) fun c s3 ⟨z, H3, I3, r3, k, e, q3⟩ => ?_) hm
  subst e
  cases r3
  exact wpAny_truthy_bool ⟨H3, I3, q3⟩
/-- a op1 b op2 c -/
def tChain (r r' : R2) (ta tb tc : TE) : TE := fun σ H Q => ta σ H fun x H1 => tb σ H1 fun y H2 => r x y H2 fun z H3 => ∃ k, z = .bl k ∧
  (if k = true then tc σ H3 fun w' H4 => r' y w' H4 Q else Q (.bl false) H3)
theorem pe_chain {op op' : CmpOp} {r r' : R2} (ho : OpR X (compareOp op) r) (ho' : OpR X (compareOp op') r') (ha : PE X a ta) (hb : PE X b tb) (hc : PE X c tc)
    (hm : lastMarks [op, op'] [b, c] = false := by with_unfolding_all rfl) : PE X (.Compare a [op, op'] [b, c] pos) (tChain r r' ta tb tc) := by
  intro pins s σ H Q I h
  refine Compare_chain (thn (ha pins s σ H _ I h) fun v s1 ⟨x, H1, I1, r1, q1⟩ => chain_link (thn (hb pins s1 σ H1 _ I1 q1) fun u s2 ⟨y, H2, I2, r2, q2⟩ =>
    thn (ho pins s2 σ H2 x y v u _ I2 r1 r2 q2) fun d s3 ⟨z, H3, I3, r3, k, e, q3⟩ => ?_)) hm
  subst e
  cases r3
  refine wpAny_truthy_bool ?_
  cases k with
  | false => exact ite_ff ⟨.bl false, H3, I3, rfl, q3⟩
  | true => exact ite_tt (chain_last (thn (hc pins s3 σ H3 _ I3 q3) fun w' s4 ⟨z', H4, I4, r4, q4⟩ => ho' pins s4 σ H4 y z' u w' Q I4 r2 r4 q4))
theorem pt_chain {op op' : CmpOp} {r r' : R2} (ho : OpR X (compareOp op) r) (ho' : OpR X (compareOp op') r') (ha : PE X a ta) (hb : PE X b tb) (hc : PE X c tc)
    (hm : lastMarks [op, op'] [b, c] = false := by with_unfolding_all rfl) : PT X (.Compare a [op, op'] [b, c] pos) (tTest (tChain r r' ta tb tc)) := by
  intro pins s σ H Q I h
  refine isTrue_chain (thn (ha pins s σ H _ I h) fun v s1 ⟨x, H1, I1, r1, q1⟩ => test_link (thn (hb pins s1 σ H1 _ I1 q1) fun u s2 ⟨y, H2, I2, r2, q2⟩ =>
    thn (ho pins s2 σ H2 x y v u _ I2 r1 r2 q2) fun d s3 ⟨z, H3, I3, r3, k, e, q3⟩ => ?_)) hm
  subst e
  cases r3
  refine wpAny_truthy_bool ?_
  cases k with
  | false =>
    obtain ⟨k', e', q'⟩ := q3
    cases e'
    exact ite_ff ⟨H3, I3, q'⟩
  | true =>
    refine ite_tt (test_last (thn (hc pins s3 σ H3 _ I3 q3) fun w' s4 ⟨z', H4, I4, r4, q4⟩ => thn (ho' pins s4 σ H4 y z' u w' _ I4 r2 r4 q4) fun d' s5 ⟨z2, H5, I5, r5, k2, e2, q5⟩ => ?_))
    subst e2
    cases r5
    exact wpAny_truthy_bool ⟨H5, I5, q5⟩

/-! ### truth -/
/-- a value's truth by the abstract heap -/
def TruV (K : PySem.W.Frag) (x : V) (H : Hp) (k : Bool) : Prop :=
  match x with
  | .non => k = false
  | .bl b => k = b
  | .int i => k = (i != 0)
  | .str y => y.length ≤ sizeLine ∧ k = ((y.length : Int) != 0)
  | .byt y => y.size ≤ sizeLine ∧ k = ((y.size : Int) != 0)
  | .ref p => (∃ xs, SqL K H p xs ∧ k = !xs.isEmpty) ∨ (∃ xs, SqT K H p xs ∧ k = !xs.isEmpty) ∨ ∃ kvs, H p = some (.dK kvs) ∧ k = !kvs.isEmpty
  | _ => False
theorem isEmpty_kv {κ : Type} {kvs : List (κ × V)} {vs : List (κ × Value)} (r : KV kvs vs) : (!vs.isEmpty) = !kvs.isEmpty := by
  cases r <;> rfl
theorem isEmpty_of {xs : List V} {its : List Value} (r : Vals xs its) : (!its.toArray.isEmpty) = !xs.isEmpty := by
  cases r <;> simp
theorem line63 : (sizeLine : Nat) < 2 ^ 63 := by rw [sizeLine_eq]; decide
theorem tru_ok : TruR X (fun x H Q => ∃ k, TruV X.K x H k ∧ Q k H) := by
  intro pins s σ H x v Q I rx h
  obtain ⟨k, e, q⟩ := h
  have hl := line63
  have hs : sizeLine = 16777216 := sizeLine_eq
  cases x with
  | non =>
    cases rx
    have e' : k = false := e
    subst e'
    exact truthy_none ⟨H, I, q⟩
  | bl b =>
    cases rx
    have e' : k = b := e
    subst e'
    exact wpAny_truthy_bool ⟨H, I, q⟩
  | int i =>
    obtain ⟨t, rfl⟩ := rx
    have e' : k = (i != 0) := e
    subst e'
    exact PySem.P.truthy_int ⟨H, I, q⟩
  | str y =>
    obtain ⟨t, rfl⟩ := rx
    obtain ⟨hy, e'⟩ : y.length ≤ sizeLine ∧ k = ((y.length : Int) != 0) := e
    subst e'
    exact PySem.P.truthy_str (by omega) ⟨H, I.tok _, q⟩
  | byt y =>
    obtain ⟨t, rfl⟩ := rx
    obtain ⟨hy, e'⟩ : y.size ≤ sizeLine ∧ k = ((y.size : Int) != 0) := e
    subst e'
    exact PySem.W.truthy_bytes (by omega) ⟨H, I.tok _, q⟩
  | ref p =>
    cases rx
    have e' : (∃ xs, SqL X.K H p xs ∧ k = !xs.isEmpty) ∨ (∃ xs, SqT X.K H p xs ∧ k = !xs.isEmpty) ∨ ∃ kvs, H p = some (.dK kvs) ∧ k = !kvs.isEmpty := e
    rcases e' with ⟨xs, hx, e'⟩ | ⟨xs, hx, e'⟩ | ⟨kvs, hx, e'⟩
    · subst e'
      obtain ⟨its, r, pl, hz⟩ := I.list hx
      have hlen := r.length
      exact wpAny_truthy_list pl.isList (by simp only [List.size_toArray]; omega) ⟨H, I.tok _, by rw [isEmpty_of r]; exact q⟩
    · subst e'
      obtain ⟨its, r, pl, hz⟩ := I.tuple hx
      have hlen := r.length
      exact truthy_tuple pl (by simp only [List.size_toArray]; omega) ⟨H, I.tok _, by rw [isEmpty_of r]; exact q⟩
    · subst e'
      obtain ⟨hz, hS, vs, r, m⟩ : kvs.length ≤ sizeLine ∧ (p == sysModules) = false ∧ ∃ vs, KV kvs vs ∧ s.heap.DictOf (mixKind X.prog X.w) p vs := I.hok p _ hx
      have hlen : kvs.length = vs.length := Paired.length r
      exact wpAny_truthy_dict hS m (by omega) ⟨H, I.tok _, by rw [isEmpty_kv r]; exact q⟩
  | _ => exact (show False from e).elim
/-- any expression whose test is its value's truth (a name, a call, a subscript, a field ..: he by fun _ => rfl) -/
theorem pt_truth (ha : PE X a ta) (he : ∀ whole, isTrue a X.env whole = (do let v ← whole; standAt a.pos; holding [v] (truthy v))) :
    PT X a (fun σ H Q => ta σ H fun x H' => ∃ k, TruV X.K x H' k ∧ Q k H') := by
  intro pins s σ H Q I h
  exact isTrue_plain (thn (ha pins s σ H _ I h) fun v s1 ⟨x, H1, I1, r1, q1⟩ => tru_ok pins s1 σ H1 x v Q I1 r1 q1) (he _)

/-! ### strs and bytes -/
theorem pe_byt {x : List UInt8} {k : Nat} : PE X (.Constant (.bytes x) k pos) (fun _ H Q => Q (.byt x.toArray) H) := fun _ _ _ H _ I h => PySem.W.Constant_bytes ⟨.byt x.toArray, H, I.tok _, ⟨_, rfl⟩, h⟩
theorem op_add_str : OpR X (binaryOp .Add) (fun x y H Q => ∃ i j, x = .str i ∧ y = .str j ∧ i.length + j.length ≤ sizeLine ∧ Q (.str (i ++ j)) H) := by
  intro pins s σ H x y v u Q I rx ry h
  obtain ⟨i, j, rfl, rfl, hz, q⟩ := h
  obtain ⟨t, rfl⟩ := rx
  obtain ⟨t', rfl⟩ := ry
  exact add_str (fun t' tk => ⟨.str (i ++ j), H, I.tok _, ⟨_, rfl⟩, q⟩) hz
theorem iop_add_str : OpR X (inplaceOp .Add) (fun x y H Q => ∃ i j, x = .str i ∧ y = .str j ∧ i.length + j.length ≤ sizeLine ∧ Q (.str (i ++ j)) H) := by
  intro pins s σ H x y v u Q I rx ry h
  obtain ⟨i, j, rfl, rfl, hz, q⟩ := h
  obtain ⟨t, rfl⟩ := rx
  obtain ⟨t', rfl⟩ := ry
  exact iadd_str (fun t' tk => ⟨.str (i ++ j), H, I.tok _, ⟨_, rfl⟩, q⟩) hz
theorem op_add_byt : OpR X (binaryOp .Add) (fun x y H Q => ∃ i j, x = .byt i ∧ y = .byt j ∧ i.size + j.size ≤ 16777216 ∧ Q (.byt (i ++ j)) H) := by
  intro pins s σ H x y v u Q I rx ry h
  obtain ⟨i, j, rfl, rfl, hz, q⟩ := h
  obtain ⟨t, rfl⟩ := rx
  obtain ⟨t', rfl⟩ := ry
  exact PySem.W.KBy.add_bytes hz (fun t' tk => ⟨.byt (i ++ j), H, I.tok _, ⟨_, rfl⟩, q⟩)

def PlainIxT (b : Expr) : Prop := ∀ o i, subscripted b false o i = operate [o, i] (getItem o i)
/-- s[i], 0 ≤ i < len -/
theorem pe_item_str (ha : PE X a ta) (hb : PE X b tb) (hs : PlainIxT b) :
    PE X (.Subscript a b pos) (tOp (fun x y H Q => ∃ z i c, x = .str z ∧ y = .int i ∧ 0 ≤ i ∧ i < 2 ^ 63 ∧ i < z.length ∧ z.cps[i.toNat]? = some c ∧ Q (.str ⟨#[c]⟩) H) ta tb) := by
  intro pins s σ H Q I h
  refine Subscript_ (binT ha hb I h fun v u s2 x y H2 I2 rx ry q => ?_)
  obtain ⟨z, i, c, rfl, rfl, h0, h63, h1, hc, q⟩ := q
  obtain ⟨t, rfl⟩ := rx
  obtain ⟨t', rfl⟩ := ry
  have e : seqIndex? i z.length = some i.toNat := PySem.StrLaws.seqIndex_nonneg h0 h1
  exact tail_any (typeIs_str s2 z t) slot_str_getitem.lookup (getItem_str (c := c) (by
    have e1 : decide (i < -(2 ^ 63 : Int)) = false := decide_eq_false (by omega)
    have e2 : decide (i ≥ 2 ^ 63) = false := decide_eq_false (by omega)
    rw [e1, e2] <;> rfl) (by rw [e]; exact hc) ⟨.str ⟨#[c]⟩, H2, I2.tok _, ⟨_, rfl⟩, q⟩) (hs _ _)
/-- b[i], 0 ≤ i < len -/
theorem pe_item_byt (ha : PE X a ta) (hb : PE X b tb) (hs : PlainIxT b) :
    PE X (.Subscript a b pos) (tOp (fun x y H Q => ∃ (z : List UInt8) (i : Int), x = .byt z.toArray ∧ y = .int i ∧ z.length ≤ sizeLine ∧ 0 ≤ i ∧ i < z.length ∧ Q (.int ((z.getD i.toNat 0).toNat : Nat)) H) ta tb) := by
  intro pins s σ H Q I h
  refine Subscript_ (binT ha hb I h fun v u s2 x y H2 I2 rx ry q => ?_)
  obtain ⟨z, i, rfl, rfl, hz, h0, h1, q⟩ := q
  obtain ⟨t, rfl⟩ := rx
  obtain ⟨t', rfl⟩ := ry
  have hl : sizeLine = 16777216 := sizeLine_eq
  exact tail_any (PySem.W.typeIs_bytes s2 z.toArray t) PySem.W.FB.slot_bytes_getitem.lookup (PySem.W.getItem_bytes (by omega) h0 h1 ⟨.int ((z.getD i.toNat 0).toNat : Nat), H2, I2.tok _, ⟨_, rfl⟩, q⟩) (hs _ _)

/-! ### scalar builtins, by CallR -/
theorem vals1 {x : V} {us : List Value} (r : Vals [x] us) : ∃ u, us = [u] ∧ RelV x u := by
  cases r with
  | cons r1 r2 => cases r2; exact ⟨_, rfl, r1⟩
theorem vals2 {x y : V} {us : List Value} (r : Vals [x, y] us) : ∃ u w', us = [u, w'] ∧ RelV x u ∧ RelV y w' := by
  cases r with
  | cons r1 r2 =>
    cases r2 with
    | cons r3 r4 => cases r4; exact ⟨_, _, rfl, r1, r3⟩
theorem call_abs : CallR X (.builtin "abs") (fun xs H Q => ∃ i, xs = [.int i] ∧ Q (.int (if i < 0 then -i else i)) H) := by
  intro pins s σ H xs us Q I r h
  obtain ⟨i, rfl, q⟩ := h
  obtain ⟨u, rfl, t, rfl⟩ := vals1 r
  exact call_abs_int fun u tk => ⟨.int (if i < 0 then -i else i), H, I.tok _, ⟨_, rfl⟩, q⟩
theorem call_max2 (hc : X.calm = true) : CallR X (.builtin "max") (fun xs H Q => ∃ i j, xs = [.int i, .int j] ∧ Q (.int (if j > i then j else i)) H) := by
  intro pins s σ H xs us Q I r h
  obtain ⟨i, j, rfl, q⟩ := h
  obtain ⟨u, w', rfl, ⟨t, rfl⟩, ⟨t', rfl⟩⟩ := vals2 r
  refine max_two_ints (I.ok.hd hc) fun h' tk k => ⟨_, H, I.kept k, ?_, q⟩
  by_cases hj : j > i
  · rw [if_pos hj, if_pos hj]; exact ⟨_, rfl⟩
  · rw [if_neg hj, if_neg hj]; exact ⟨_, rfl⟩
theorem call_min2 (hc : X.calm = true) : CallR X (.builtin "min") (fun xs H Q => ∃ i j, xs = [.int i, .int j] ∧ Q (.int (if j < i then j else i)) H) := by
  intro pins s σ H xs us Q I r h
  obtain ⟨i, j, rfl, q⟩ := h
  obtain ⟨u, w', rfl, ⟨t, rfl⟩, ⟨t', rfl⟩⟩ := vals2 r
  refine min_two_ints (I.ok.hd hc) fun h' tk k => ⟨_, H, I.kept k, ?_, q⟩
  by_cases hj : j < i
  · rw [if_pos hj, if_pos hj]; exact ⟨_, rfl⟩
  · rw [if_neg hj, if_neg hj]; exact ⟨_, rfl⟩
theorem call_int1 : CallR X (.type "int") (fun xs H Q => (∃ i, xs = [.int i] ∧ Q (.int i) H) ∨ ∃ k, xs = [.bl k] ∧ Q (.int (if k then 1 else 0)) H) := by
  intro pins s σ H xs us Q I r h
  rcases h with ⟨i, rfl, q⟩ | ⟨k, rfl, q⟩
  · obtain ⟨u, rfl, t, rfl⟩ := vals1 r
    exact call_int_int ⟨.int i, H, I, ⟨_, rfl⟩, q⟩
  · obtain ⟨u, rfl, r1⟩ := vals1 r
    cases r1
    exact call_int_bool ⟨.int (if k then 1 else 0), H, I.tok _, ⟨_, rfl⟩, q⟩
theorem call_bool1 : CallR X (.type "bool") (fun xs H Q => (∃ i, xs = [.int i] ∧ Q (.bl (i != 0)) H) ∨ ∃ k, xs = [.bl k] ∧ Q (.bl k) H) := by
  intro pins s σ H xs us Q I r h
  rcases h with ⟨i, rfl, q⟩ | ⟨k, rfl, q⟩
  · obtain ⟨u, rfl, t, rfl⟩ := vals1 r
    exact call_bool_int ⟨.bl (i != 0), H, I, rfl, q⟩
  · obtain ⟨u, rfl, r1⟩ := vals1 r
    cases r1
    exact call_bool_bool ⟨.bl k, H, I, rfl, q⟩
theorem call_str_int : CallR X (.type "str") (fun xs H Q => ∃ i, xs = [.int i] ∧ i.natAbs.log2 < 1920 ∧ Q (.str (toString i)) H) := by
  intro pins s σ H xs us Q I r h
  obtain ⟨i, rfl, hz, q⟩ := h
  obtain ⟨u, rfl, t, rfl⟩ := vals1 r
  exact PySem.P.str_of_int hz ⟨.str _, H, I.tok _, ⟨_, rfl⟩, q⟩
theorem call_ord : CallR X (.builtin "ord") (fun xs H Q => ∃ x, xs = [.str x] ∧ x.length = 1 ∧ Q (.int (x.cps.getD 0 0 : Nat)) H) := by
  intro pins s σ H xs us Q I r h
  obtain ⟨x, rfl, hz, q⟩ := h
  obtain ⟨u, rfl, t, rfl⟩ := vals1 r
  exact ord_of_one hz ⟨.int _, H, I.tok _, ⟨_, rfl⟩, q⟩
theorem call_chr : CallR X (.builtin "chr") (fun xs H Q => ∃ i, xs = [.int i] ∧ 0 ≤ i ∧ i ≤ 1114111 ∧ Q (.str ⟨#[i.toNat]⟩) H) := by
  intro pins s σ H xs us Q I r h
  obtain ⟨i, rfl, h0, h1, q⟩ := h
  obtain ⟨u, rfl, t, rfl⟩ := vals1 r
  exact chr_of_range h0 h1 ⟨.str _, H, I.tok _, ⟨_, rfl⟩, q⟩
/-- len of a str, a bytes, a list, a tuple -/
def LenV (K : PySem.W.Frag) (x : V) (H : Hp) (n : Nat) : Prop :=
  match x with
  | .str y => y.length ≤ sizeLine ∧ n = y.length
  | .byt y => y.size ≤ sizeLine ∧ n = y.size
  | .ref p => (∃ xs, SqL K H p xs ∧ n = xs.length) ∨ ∃ xs, SqT K H p xs ∧ n = xs.length
  | _ => False
theorem call_len : CallR X (.builtin "len") (fun xs H Q => ∃ x n, xs = [x] ∧ LenV X.K x H n ∧ Q (.int n) H) := by
  intro pins s σ H xs us Q I r h
  obtain ⟨x, n, rfl, e, q⟩ := h
  obtain ⟨u, rfl, rx⟩ := vals1 r
  have hl := line63
  have hs : sizeLine = 16777216 := sizeLine_eq
  cases x with
  | str y =>
    obtain ⟨t, rfl⟩ := rx
    obtain ⟨hy, e'⟩ : y.length ≤ sizeLine ∧ n = y.length := e
    subst e'
    exact len_str (by omega) ⟨.int _, H, I.tok _, ⟨_, rfl⟩, q⟩
  | byt y =>
    obtain ⟨t, rfl⟩ := rx
    obtain ⟨hy, e'⟩ : y.size ≤ sizeLine ∧ n = y.size := e
    subst e'
    exact PySem.W.len_bytes (by omega) ⟨.int _, H, I.tok _, ⟨_, rfl⟩, q⟩
  | ref p =>
    cases rx
    have e' : (∃ xs, SqL X.K H p xs ∧ n = xs.length) ∨ ∃ xs, SqT X.K H p xs ∧ n = xs.length := e
    rcases e' with ⟨xs, hx, e'⟩ | ⟨xs, hx, e'⟩
    · subst e'
      obtain ⟨its, r', pl, hz⟩ := I.list hx
      have hlen := r'.length
      exact Calls.call_len_list pl.isList (by simp only [List.size_toArray]; omega) ⟨.int xs.length, H, I.tok _, ⟨_, by simp only [List.size_toArray]; rw [hlen]⟩, q⟩
    · subst e'
      obtain ⟨its, r', pl, hz⟩ := I.tuple hx
      have hlen := r'.length
      exact len_tuple pl (by simp only [List.size_toArray]; omega) ⟨.int xs.length, H, I.tok _, ⟨_, by simp only [List.size_toArray]; rw [hlen]⟩, q⟩
  | _ => exact (show False from e).elim
/-- divmod: a new tuple -/
theorem call_divmod : CallR X (.builtin "divmod") (fun xs H Q => ∃ i j, xs = [.int i, .int j] ∧ CDiv i j ∧ ∀ p, H p = none → Q (.ref p) (upd H p (.tup [.int (i / j), .int (i % j)]))) := by
  intro pins s σ H xs us Q I r h
  obtain ⟨i, j, rfl, ⟨h1, h2⟩, q⟩ := h
  obtain ⟨u, w', rfl, ⟨t, rfl⟩, ⟨t', rfl⟩⟩ := vals2 r
  refine divmod_int (by omega) ?_ (.inl (PyProof.noPylong_small (by omega)))
  rw [Int.fdiv_eq_ediv_of_nonneg i (by omega), Int.fmod_eq_emod_of_nonneg i (by omega)]
  have hn : H s.heap.objs.size = none := I.hok.fresh (Nat.le_refl _)
  refine ⟨.ref s.heap.objs.size, _, ?_, rfl, q _ hn⟩
  refine I.laid (fun b o e => Heap.get?_push_of_some _ e) (Nat.le_refl _) ⟨by simp only [List.length_cons, List.length_nil]; rw [sizeLine_eq]; decide, [.int (i / j) s.toks, .int (i % j) (s.toks + 1)], .cons ⟨_, rfl⟩ (.cons ⟨_, rfl⟩ .nil), ?_⟩
  exact ⟨_, Heap.get?_push_size s.heap rfl, rfl, 0, rfl⟩
end
end L2

namespace L2
open PySem PySem.Spec PyProof.Rows

/-! ### an instance, its attributes a map -/
structure ObjM (h : Heap) (x dx C : Addr) (mA : Str → Option Value) : Prop where
  obj : h.get? x = some (PySem.W.instObj C dx)
  ns : h.Ns1 dx mA
  ne : dx ≠ x

theorem lookIn_ns {h : Heap} {dx : Addr} {mA : Str → Option Value} (n : h.Ns1 dx mA) : ∃ od, h.get? dx = some od ∧ ∀ name, PySem.W.lookIn name od = some (mA name) := by
  obtain ⟨o, es, ep, ho, hd, hk, _, hm⟩ := n
  refine ⟨o, ho, fun name => ?_⟩
  have e := hm name
  unfold nsFind findBy at e
  rw [← Array.find?_toList] at e
  unfold PySem.W.lookIn
  rw [hd]
  dsimp only
  split
  · rename_i y q
    rw [q] at e
    exact congrArg some e
  · rename_i q
    rw [q] at e
    have a : es.toList.any (·.refKey) = false := by
      rw [List.any_eq_false]
      intro y hy
      obtain ⟨z, t, hkey⟩ := hk y (Array.mem_toList_iff.mp hy)
      simp [DictEntry.refKey, hkey]
    have a' : ¬ es.toList.any (·.refKey) = true := by rw [a]; exact Bool.false_ne_true
    rw [if_neg a']
    exact congrArg some e

theorem ObjM.look {h : Heap} {x dx C : Addr} {mA : Str → Option Value} (I : ObjM h x dx C mA) : ∃ od, PySem.W.InstAt h x (PySem.W.instObj C dx) C (some od) ∧ ∀ name, PySem.W.lookIn name od = some (mA name) :=
  let ⟨od, ho, hl⟩ := lookIn_ns I.ns
  ⟨od, ⟨I.obj, rfl, rfl, ho⟩, hl⟩

section
variable {prog : Program} {w : World} {A : Around} {E : Value → Shared → Prop} {s : Shared} {K : PySem.W.Frag} {x dx C f : Addr} {mA : Str → Option Value} {name : Str} {v : Value}

theorem get_map {expr : Bool} {Q : Value → Shared → Prop} (X : K.In s.heap) (I : ObjM s.heap x dx C mA) (hg : PySem.W.plainGet K C name = true) (hh : PySem.W.hasDictIn K C = true)
    (ha : PySem.W.findIn K (.ref C) name = some none) (hv : mA name = some v) (hv' : PySem.W.handedIn v = true) (h : Q v { s with toks := s.toks + 1 }) :
    wpAny (model prog w) A (getAttr (.ref x) name expr) Q E s := by
  obtain ⟨od, J, hl⟩ := I.look
  exact PySem.W.get_value X J (PySem.W.plainGet_of hg).1 (PySem.W.findObj_own hh ha rfl (by rw [hl, hv])) hv' h

theorem get_const {expr : Bool} {a : Value} {Q : Value → Shared → Prop} (X : K.In s.heap) (I : ObjM s.heap x dx C mA) (hg : PySem.W.plainGet K C name = true) (hh : PySem.W.hasDictIn K C = true)
    (ha : PySem.W.findIn K (.ref C) name = some (some a)) (hn : PySem.W.specialIn K a "__get__" = some none) (hc : PySem.W.copiedNames.contains name = false) (hv : mA name = none) (hv' : PySem.W.handedIn a = true)
    (h : Q a { s with toks := s.toks + 1 }) : wpAny (model prog w) A (getAttr (.ref x) name expr) Q E s := by
  obtain ⟨od, J, hl⟩ := I.look
  exact PySem.W.get_value X J (PySem.W.plainGet_of hg).1 (PySem.W.findObj_cls hh ha hn hv' hc (by rw [hl, hv])) hv' h

theorem get_meth {pl : Sem Bool} {Q : Value × List Value → Shared → Prop} (X : K.In s.heap) (I : ObjM s.heap x dx C mA) (hg : PySem.W.plainGet K C name = true)
    (hf : PySem.W.findIn K (.ref C) name = some (some (.ref f))) (ht : PySem.W.isFn K (.ref f) = true) (hv : mA name = none) (h : Q (.ref f, [.ref x]) s) :
    wpAny (model prog w) A (getMethod (.ref x) name pl) Q E s := by
  obtain ⟨od, J, hl⟩ := I.look
  exact PySem.W.method_fn X J (PySem.W.plainGet_of hg).1 (PySem.W.plainGet_of hg).2 hf (beq_iff_eq.mp ht) (by show (PySem.W.lookIn name od).map (·.isSome) = some false; rw [hl, hv]; rfl) h

theorem set_map {ns : List Str} {Q : Unit → Shared → Prop} (X : K.In s.heap) (I : ObjM s.heap x dx C mA)
    (hs : PySem.W.findIn K (.ref C) "__setattr__" = some (some (.builtin "object.__setattr__"))) (hp : PySem.W.plainOver K C = true) (ht : PySem.W.takerIn K C name = some none) (hh : PySem.W.hasDictIn K C = true)
    (hw : PySem.Within mA ns) (hsz : ns.length ≤ sizeLine)
    (h : ∀ h', ObjM h' x dx C (fun y => if y = name then some v else mA y) → Heap.SameBut dx s.heap h' → Q () { s with heap := h', toks := s.toks + 2 }) :
    wpAny (model prog w) A (setAttr (.ref x) name v) Q E s := by
  obtain ⟨od, J, hl⟩ := I.look
  refine PySem.W.set_plain X J hs (PySem.W.osa_open (s := { s with toks := s.toks + 1 }) (r := none) X J hp ht fun b => ?_)
  obtain ⟨cd, hc, hd'⟩ := PySem.W.any_some hh
  have hx : s.heap.get? x = some ⟨.ref C, some dx, .plain, #[]⟩ := I.obj
  refine wpAny_bind (wpAny_pure (wpAny_bind (wpAny_bind (wpAny_loadPart hx (wpAny_bind (PySem.W.Looks.here (s := { s with toks := s.toks + 1 }) (PySem.W.looks_clsIn X hc) ?_))))))
  rw [hd']
  refine wpAny_pure (a := some dx) (wpAny_bind (wpAny_pure (wpAny_bind ?_)))
  refine wpAny_nsSet1 (s := { s with toks := s.toks + 1 }) I.ns fun h' hn2 hs2 => ?_
  obtain ⟨oD, esD, epD, hoD, hdD, hcD⟩ := hn2.count (PySem.Within.cons name v hw)
  refine wpAny_bind (wpAny_lookBehind hoD (by rw [hdD]; exact pastItsLine_dict (Nat.le_trans hcD (by rw [List.length_cons]; omega))) ?_)
  exact wpAny_pure (h _ ⟨(hs2.2 _ (Ne.symm I.ne)).trans I.obj, hn2, I.ne⟩ hs2)

/-- C(..): the dict at the heap's end, the instance behind it; then its __init__ -/
theorem make_map {R : Result → Shared → Prop} {vs : List Value} {kw : List (Str × Value)} (X : K.In s.heap) (hm : PySem.W.makesIn K C = true)
    (hi : PySem.W.findIn K (.ref C) "__init__" = some (some (.ref f))) (hf : PySem.W.typeIn K (.ref f) = some (.type "function"))
    (h : codeAny (model prog w) (A.under (.builtin "type.__call__" ⟨.ref C :: vs, kw⟩)) (.call (.ref f) ⟨.ref (s.heap.objs.size + 1) :: vs, kw⟩) (PySem.W.InitBack (s.heap.objs.size + 1) R)
      { s with heap := (s.heap.push PySem.W.emptyDict).push (PySem.W.instObj C s.heap.objs.size) }) :
    codeAny (model prog w) A (.call (.ref C) ⟨vs, kw⟩) R s := by
  obtain ⟨hh, g, d, t, os⟩ := s
  exact PySem.W.make_core (PySem.W.makes_of X hm) (PySem.W.looks_findIn X hi) (fun self => PySem.W.bind_fn X self hf) (.inl rfl) h
/-- C() where there is no __init__ but object's -/
theorem make_map0 {R : Result → Shared → Prop} (X : K.In s.heap) (hm : PySem.W.makesIn K C = true)
    (hi : PySem.W.findIn K (.ref C) "__init__" = some (some (.builtin "object.__init__")))
    (hb : ∀ self, PySem.W.Looks (model prog w) s.heap (bindSpecial (.builtin "object.__init__") self) (.builtin "object.__init__", [self]))
    (h : codeAny (model prog w) (A.under (.builtin "type.__call__" ⟨[.ref C], []⟩)) (.call (.builtin "object.__init__") ⟨[.ref (s.heap.objs.size + 1)], []⟩) (PySem.W.InitBack (s.heap.objs.size + 1) R)
      { s with heap := (s.heap.push PySem.W.emptyDict).push (PySem.W.instObj C s.heap.objs.size) }) :
    codeAny (model prog w) A (.call (.ref C) ⟨[], []⟩) R s := by
  obtain ⟨hh, g, d, t, os⟩ := s
  exact PySem.W.make_core (PySem.W.makes_of X hm) (PySem.W.looks_findIn X hi) hb (.inr ⟨rfl, rfl⟩) h
end

/-! ### the attributes as a list of pairs -/
def putF (f : Str) (v : V) : List (Str × V) → List (Str × V)
  | [] => [(f, v)]
  | (g, x) :: r => if g = f then (g, v) :: r else (g, x) :: putF f v r
theorem lookup_putF (f g : Str) (v : V) : ∀ fs : List (Str × V), (putF f v fs).lookup g = if g = f then some v else fs.lookup g
  | [] => by
    show List.lookup g [(f, v)] = _
    by_cases h : g = f
    · have hb : (g == f) = true := beq_iff_eq.mpr h
      simp only [List.lookup, hb, if_pos h]
    · have hb : (g == f) = false := beq_eq_false_iff_ne.mpr h
      simp only [List.lookup, hb, if_neg h]
  | (k, x) :: r => by
    have ih := lookup_putF f g v r
    rw [show putF f v ((k, x) :: r) = (if k = f then (k, v) :: r else (k, x) :: putF f v r) from rfl]
    by_cases hk : k = f
    · rw [if_pos hk]
      by_cases h : g = k
      · have hb : (g == k) = true := beq_iff_eq.mpr h
        simp only [List.lookup, hb, if_pos (h.trans hk)]
      · have hb : (g == k) = false := beq_eq_false_iff_ne.mpr h
        simp only [List.lookup, hb, if_neg (fun e : g = f => h (e.trans hk.symm))]
    · rw [if_neg hk]
      by_cases h : g = k
      · have hb : (g == k) = true := beq_iff_eq.mpr h
        simp only [List.lookup, hb, if_neg (fun e : g = f => hk (h.symm.trans e))]
      · have hb : (g == k) = false := beq_eq_false_iff_ne.mpr h
        simp only [List.lookup, hb]
        exact ih
theorem keys_putF (f : Str) (v : V) : ∀ fs : List (Str × V), f ∈ (putF f v fs).map (·.1) ∧ ∀ g, g ∈ fs.map (·.1) → g ∈ (putF f v fs).map (·.1)
  | [] => ⟨by simp [putF], fun g h => by simp at h⟩
  | (k, x) :: r => by
    obtain ⟨i1, i2⟩ := keys_putF f v r
    rw [show putF f v ((k, x) :: r) = (if k = f then (k, v) :: r else (k, x) :: putF f v r) from rfl]
    by_cases hk : k = f
    · rw [if_pos hk]
      subst hk
      exact ⟨by simp, fun g h => by simpa using h⟩
    · rw [if_neg hk]
      refine ⟨?_, fun g h => ?_⟩
      · rw [List.map_cons]
        exact List.mem_cons_of_mem _ i1
      · rw [List.map_cons] at h ⊢
        rcases List.mem_cons.mp h with e | e
        · exact List.mem_cons.mpr (.inl e)
        · exact List.mem_cons_of_mem _ (i2 g e)
theorem length_putF (f : Str) (v : V) : ∀ fs : List (Str × V), (putF f v fs).length ≤ fs.length + 1
  | [] => by simp [putF]
  | (k, x) :: r => by
    have ih := length_putF f v r
    rw [show putF f v ((k, x) :: r) = (if k = f then (k, v) :: r else (k, x) :: putF f v r) from rfl]
    by_cases hk : k = f
    · rw [if_pos hk, List.length_cons, List.length_cons]; omega
    · rw [if_neg hk, List.length_cons, List.length_cons]; omega

theorem RelO.some_of {v : V} {o : Option Value} (r : RelO (some v) o) : ∃ u, o = some u ∧ RelV v u := by
  cases o with
  | none => exact (show False from r).elim
  | some u => exact ⟨u, rfl, r⟩
theorem RelO.none_of {o : Option Value} (r : RelO none o) : o = none := by
  cases o with
  | none => rfl
  | some u => exact (show False from r).elim
theorem handed_of {v : V} {u : Value} (r : RelV v u) : PySem.W.handedIn u = true := by
  cases v with
  | non => cases (show u = Value.none from r); rfl
  | bl b => cases (show u = Value.bool b from r); rfl
  | int i => obtain ⟨t, e⟩ := (show ∃ t, u = Value.int i t from r); cases e; rfl
  | str x => obtain ⟨t, e⟩ := (show ∃ t, u = Value.str x t from r); cases e; rfl
  | byt b => obtain ⟨t, e⟩ := (show ∃ t, u = Value.bytes b t from r); cases e; rfl
  | flt b => obtain ⟨t, e⟩ := (show ∃ t, u = Value.float b t from r); cases e; rfl
  | ref a => cases (show u = Value.ref a from r); rfl
  | ty n => cases (show u = Value.type n from r); rfl

section
variable {P : Program} {w : World} {H H' : Hp} {h h' : Heap} {a C dx : Addr} {fs fs' : List (Str × V)}
theorem ins_get (hok : HOk P w H h) (e : H a = some (.ins C dx fs)) : ∃ mA, ObjM h a dx C mA ∧ (∀ f, RelO (fs.lookup f) (mA f)) ∧ PySem.Within mA (fs.map (·.1)) ∧ fs.length ≤ 1000 ∧ H dx = some (.own a) := by
  obtain ⟨d, z, ne, ob, mA, n, r, q⟩ := (show ObjOk P w H h a (.ins C dx fs) from hok a _ e)
  exact ⟨mA, ⟨ob, n, ne⟩, r, q, z, d⟩
end

/-! ### what of the text a class must have -/
structure Cls (K : PySem.W.Frag) (C : Addr) : Prop where
  pg : PySem.W.plainGet K C Str.empty = true
  hd : PySem.W.hasDictIn K C = true
  po : PySem.W.plainOver K C = true
  sa : PySem.W.findIn K (.ref C) "__setattr__" = some (some (.builtin "object.__setattr__"))
theorem Cls.get {K : PySem.W.Frag} {C : Addr} (c : Cls K C) (f : Str) : PySem.W.plainGet K C f = true := c.pg
/-- no class of it has the name -/
def NoAttr (K : PySem.W.Frag) (C : Addr) (f : Str) : Prop := PySem.W.findIn K (.ref C) f = some none
theorem NoAttr.taker {K : PySem.W.Frag} {C : Addr} {f : Str} (n : NoAttr K C f) : PySem.W.takerIn K C f = some none := by
  unfold PySem.W.takerIn
  rw [show PySem.W.findIn K (.ref C) f = some none from n]
  rfl
/-- a constant of the class -/
structure Con (K : PySem.W.Frag) (C : Addr) (f : Str) (v : V) (u : Value) : Prop where
  at_ : PySem.W.findIn K (.ref C) f = some (some u)
  rel : RelV v u
  get : PySem.W.specialIn K u "__get__" = some none
  cp : PySem.W.copiedNames.contains f = false
/-- a method: a plain def of the class or of one above it -/
structure Meth (K : PySem.W.Frag) (C : Addr) (m : Str) (f : Addr) : Prop where
  at_ : PySem.W.findIn K (.ref C) m = some (some (.ref f))
  fn : PySem.W.isFn K (.ref f) = true
  kp : PySem.W.keepIn K (.ref f) = true

section
variable {X : Cx} {pins : List (Addr × Obj)} {σ : St} {H : Hp} {s : Shared} {a C dx : Addr} {fs : List (Str × V)} {f : Str} {v : V} {A : Around} {E : Value → Shared → Prop}

theorem getattr_ok {b : Bool} {Q : Value → Shared → Prop} (I : Inv X pins σ H s) (e : H a = some (.ins C dx fs)) (c : Cls X.K C) (n : NoAttr X.K C f) (l : fs.lookup f = some v)
    (h : ∀ u s', Inv X pins σ H s' → RelV v u → Q u s') : wpAny (model X.prog X.w) A (getAttr (.ref a) f b) Q E s := by
  obtain ⟨mA, O, r, _, _, _⟩ := ins_get I.hok e
  obtain ⟨u, hu, ru⟩ := RelO.some_of (v := v) (o := mA f) (by rw [← l]; exact r f)
  exact get_map I.kIn O (c.get f) c.hd n hu (handed_of ru) (h u _ (I.tok _) ru)

theorem getcon_ok {b : Bool} {u : Value} {Q : Value → Shared → Prop} (I : Inv X pins σ H s) (e : H a = some (.ins C dx fs)) (c : Cls X.K C) (k : Con X.K C f v u) (l : fs.lookup f = none)
    (h : ∀ s', Inv X pins σ H s' → Q u s') : wpAny (model X.prog X.w) A (getAttr (.ref a) f b) Q E s := by
  obtain ⟨mA, O, r, _, _, _⟩ := ins_get I.hok e
  have hn : mA f = none := RelO.none_of (by rw [← l]; exact r f)
  exact get_const I.kIn O (c.get f) c.hd k.at_ k.get k.cp hn (handed_of k.rel) (h _ (I.tok _))

theorem getmeth_ok {m : Str} {g : Addr} {pl : Sem Bool} {Q : Value × List Value → Shared → Prop} (I : Inv X pins σ H s) (e : H a = some (.ins C dx fs)) (c : Cls X.K C) (k : Meth X.K C m g) (l : fs.lookup m = none)
    (h : Q (.ref g, [.ref a]) s) : wpAny (model X.prog X.w) A (getMethod (.ref a) m pl) Q E s := by
  obtain ⟨mA, O, r, _, _, _⟩ := ins_get I.hok e
  have hn : mA m = none := RelO.none_of (by rw [← l]; exact r m)
  exact get_meth I.kIn O (c.get m) k.at_ k.fn hn h

theorem setattr_ok {y : V} {u : Value} {Q : Unit → Shared → Prop} (I : Inv X pins σ H s) (e : H a = some (.ins C dx fs)) (c : Cls X.K C) (n : NoAttr X.K C f) (hl : fs.length < 1000) (ry : RelV y u)
    (h : ∀ s', Inv X pins σ (upd H a (.ins C dx (putF f y fs))) s' → Q () s') : wpAny (model X.prog X.w) A (setAttr (.ref a) f u) Q E s := by
  obtain ⟨mA, O, r, wi, _, ho⟩ := ins_get I.hok e
  have hz : (fs.map (·.1)).length ≤ sizeLine := by rw [List.length_map, sizeLine_eq]; omega
  refine set_map I.kIn O c.sa c.po n.taker c.hd wi hz fun h' O' sb => h _ ?_
  have hd : ∃ o, h'.get? dx = some o := let ⟨o, _, _, e', _⟩ := O'.ns; ⟨o, e'⟩
  refine I.write (x := a) (e := dx) (by rw [e]; exact True.intro) (.inr ho) (fun b q hb z => (sb.2 b hb).trans z) hd ?_
  refine ⟨by rw [upd_ne O.ne]; exact ho, ?_, O.ne, O'.obj, _, O'.ns, fun g => ?_, fun g hg => ?_⟩
  · have := length_putF f y fs; omega
  · show RelO ((putF f y fs).lookup g) (if g = f then some u else mA g)
    rw [lookup_putF]
    by_cases q : g = f
    · rw [if_pos q, if_pos q]; exact ry
    · rw [if_neg q, if_neg q]; exact r g
  · by_cases q : g = f
    · rw [q]; exact (keys_putF f y fs).1
    · refine (keys_putF f y fs).2 g (wi g fun z => hg ?_)
      show (if g = f then some u else mA g) = none
      rw [if_neg q]; exact z

/-- a new instance, tracked, without attributes -/
theorem Inv.made (I : Inv X pins σ H s) : Inv X pins σ (upd (upd H s.heap.objs.size (.own (s.heap.objs.size + 1))) (s.heap.objs.size + 1) (.ins C s.heap.objs.size []))
    { s with heap := (s.heap.push PySem.W.emptyDict).push (PySem.W.instObj C s.heap.objs.size) } := by
  have e1 : (s.heap.push PySem.W.emptyDict).get? s.heap.objs.size = some PySem.W.emptyDict := Heap.get?_push_size s.heap rfl
  have e2 : ((s.heap.push PySem.W.emptyDict).push (PySem.W.instObj C s.heap.objs.size)).get? (s.heap.objs.size + 1) = some (PySem.W.instObj C s.heap.objs.size) := by
    have := Heap.get?_push_size (s.heap.push PySem.W.emptyDict) (o := PySem.W.instObj C s.heap.objs.size) rfl
    rwa [Heap.size_push] at this
  have e3 : (s.heap.push PySem.W.emptyDict).Ns s.heap.objs.size (fun _ => none) := ⟨PySem.W.emptyDict, #[], _, e1, rfl, (fun e he => absurd he (by simp)), fun _ => rfl⟩
  have I1 := I.laid (a := s.heap.objs.size) (o := .own (s.heap.objs.size + 1)) (h' := s.heap.push PySem.W.emptyDict) (t' := s.toks) (fun b u q => Heap.get?_push_of_some _ q) (Nat.le_refl _) ⟨_, e1⟩
  refine I1.laid (a := s.heap.objs.size + 1) (o := .ins C s.heap.objs.size []) (t' := s.toks) (fun b u q => Heap.get?_push_of_some _ q) (Nat.le_of_eq (Heap.size_push _ _)) ?_
  have ne : s.heap.objs.size ≠ s.heap.objs.size + 1 := Nat.ne_of_lt (Nat.lt_succ_self _)
  refine ⟨by rw [upd_ne ne, upd_same], Nat.zero_le _, ne, e2, fun _ => none, (Heap.Ns1.of_empty e3).at fun o q => Heap.get?_push_of_some _ q, fun _ => True.intro, fun y hy => absurd rfl hy⟩

/-- e.f where nothing but the object is asked: through attributeBase (super) and the last hold -/
theorem attr_of {prog : Program} {w : World} {env : Env} {e : Expr} {f : Str} {pos : Pos} {s : Shared} {Q : Value → Shared → Prop} (hb : attributeBase e f env (eval e env) = eval e env)
    (h : wpAny (model prog w) A (eval e env) (fun o s₁ => wpAny (model prog w) A (getAttr o f true) Q E s₁) E s) : wpAny (model prog w) A (eval (.Attribute e f pos) env) Q E s :=
  Attribute_any_ h (by rw [arm_eval_Attribute, hb])
end

/-! ### readings and rules -/
/-- e.f, an attribute of the instance -/
def tFld (K : PySem.W.Frag) (ta : TE) (f : Str) : TE := fun σ H Q => ta σ H fun x H1 => ∃ a C dx fs v, x = .ref a ∧ H1 a = some (.ins C dx fs) ∧ Cls K C ∧ NoAttr K C f ∧ fs.lookup f = some v ∧ Q v H1
/-- e.f, a constant of the class -/
def tCon (K : PySem.W.Frag) (ta : TE) (f : Str) : TE := fun σ H Q => ta σ H fun x H1 => ∃ a C dx fs v u, x = .ref a ∧ H1 a = some (.ins C dx fs) ∧ Cls K C ∧ Con K C f v u ∧ fs.lookup f = none ∧ Q v H1
/-- e.f = value -/
def sFld (K : PySem.W.Frag) (ta tv : TE) (f : Str) : TS := fun D σ H => tv σ H fun y H1 => ta σ H1 fun x H2 => ∃ a C dx fs, x = .ref a ∧ H2 a = some (.ins C dx fs) ∧ Cls K C ∧ NoAttr K C f ∧ fs.length < 1000 ∧
  D.nx σ (upd H2 a (.ins C dx (putF f y fs)))
/-- an augmented operator on two values -/
def InOp (X : Cx) (op : Operator) (rd : V → V → Hp → VK → Prop) : Prop :=
  ∀ (pins : List (Addr × Obj)) (s : Shared) (σ : St) (H : Hp) (x y : V) (u v : Value) (Q : VK), Inv X pins σ H s → RelV x u → RelV y v → rd x y H Q → wpAny (model X.prog X.w) X.A (inplaceOp op u v) (EP X pins σ Q) X.xe s
/-- e.f op= value -/
def sFldAug (K : PySem.W.Frag) (ta tv : TE) (rd : V → V → Hp → VK → Prop) (f : Str) : TS := fun D σ H => ta σ H fun x H1 => ∃ a C dx fs v, x = .ref a ∧ H1 a = some (.ins C dx fs) ∧ Cls K C ∧ NoAttr K C f ∧ fs.lookup f = some v ∧
  tv σ H1 fun y H2 => rd v y H2 fun z H3 => ∃ dx' fs', H3 a = some (.ins C dx' fs') ∧ fs'.length < 1000 ∧ D.nx σ (upd H3 a (.ins C dx' (putF f z fs')))

section
variable {X : Cx} {o e value : Expr} {f : Str} {pos pos' tpos : Pos} {ta tv : TE}
theorem pe_fld (he : PE X e ta) (hb : attributeBase e f X.env (eval e X.env) = eval e X.env) : PE X (.Attribute e f pos) (tFld X.K ta f) := by
  intro pins s σ H Q I h
  refine attr_of hb (thn (he pins s σ H _ I h) fun u s1 ⟨x, H1, I1, rx, a, C, dx, fs, v, ex, ea, c, n, l, q⟩ => ?_)
  subst ex
  obtain rfl : u = Value.ref a := rx
  exact getattr_ok I1 ea c n l fun u' s2 I2 ru => ⟨v, H1, I2, ru, q⟩
theorem pe_con (he : PE X e ta) (hb : attributeBase e f X.env (eval e X.env) = eval e X.env) : PE X (.Attribute e f pos) (tCon X.K ta f) := by
  intro pins s σ H Q I h
  refine attr_of hb (thn (he pins s σ H _ I h) fun u s1 ⟨x, H1, I1, rx, a, C, dx, fs, v, u0, ex, ea, c, k, l, q⟩ => ?_)
  subst ex
  obtain rfl : u = Value.ref a := rx
  exact getcon_ok I1 ea c k l fun s2 I2 => ⟨v, H1, I2, k.rel, q⟩
theorem ps_fld (ha : PE X o ta) (hv : PE X value tv) (hs : swapsWith value (some (.Attribute o f pos')) pos.line X.env = pure false) : PS X (.Assign [.Attribute o f pos'] value pos) (sFld X.K ta tv f) := by
  intro pins s σ H D I h
  refine plainObj_wpAny_Assign_Attribute (thn (hv pins s σ H _ I h) fun u s1 ⟨y, H1, I1, ry, q⟩ => thn (ha pins s1 σ H1 _ I1 q) fun ov s2 ⟨x, H2, I2, rx, a, C, dx, fs, ex, ea, c, n, l, q2⟩ => ?_) hs
  subst ex
  obtain rfl : ov = Value.ref a := rx
  exact setattr_ok I2 ea c n l ry fun s3 I3 => ⟨σ, _, I3, q2⟩
theorem ps_fldaug {op : Operator} {rd : V → V → Hp → VK → Prop} (ha : PE X o ta) (hv : PE X value tv) (hop : InOp X op rd) : PS X (.AugAssign (.Attribute o f tpos) op value pos) (sFldAug X.K ta tv rd f) := by
  intro pins s σ H D I h
  refine wpAny_AugAssign_AttributeAny (thn (ha pins s σ H _ I h) fun ov s1 ⟨x, H1, I1, rx, a, C, dx, fs, v, ex, ea, c, n, l, q⟩ => ?_)
  subst ex
  obtain rfl : ov = Value.ref a := rx
  refine getattr_ok I1 ea c n l fun u s2 I2 ru => thn (hv pins s2 σ H1 _ I2 q) fun w3 s3 ⟨y, H2, I3, ry, q3⟩ => thn (hop pins s3 σ H2 v y u w3 _ I3 ru ry q3) fun w4 s4 ⟨z, H3, I4, rz, dx', fs', ea', l', q4⟩ => ?_
  exact setattr_ok I4 ea' c n l' rz fun s5 I5 => ⟨σ, _, I5, q4⟩
def rAdd : V → V → Hp → VK → Prop := fun x y H Q => ∃ i j, x = .int i ∧ y = .int j ∧ Q (.int (i + j)) H
def rSub : V → V → Hp → VK → Prop := fun x y H Q => ∃ i j, x = .int i ∧ y = .int j ∧ Q (.int (i - j)) H
theorem in_add : InOp X .Add rAdd := by
  rintro pins s σ H x y u v Q I rx ry ⟨i, j, rfl, rfl, q⟩
  obtain ⟨t, rfl⟩ := (show ∃ t, u = Value.int i t from rx)
  obtain ⟨t', rfl⟩ := (show ∃ t', v = Value.int j t' from ry)
  exact PyProof.Rows.iadd_int ⟨.int (i + j), H, I.tok _, ⟨_, rfl⟩, q⟩
theorem in_sub : InOp X .Sub rSub := by
  rintro pins s σ H x y u v Q I rx ry ⟨i, j, rfl, rfl, q⟩
  obtain ⟨t, rfl⟩ := (show ∃ t, u = Value.int i t from rx)
  obtain ⟨t', rfl⟩ := (show ∃ t', v = Value.int j t' from ry)
  exact PyProof.Rows.isub_int ⟨.int (i - j), H, I.tok _, ⟨_, rfl⟩, q⟩

/-- what is between an instance and its method: the tree of a method call -/
theorem methcall_of {pl : Sem Bool} {m : Str} {apos : Pos} {args : List Expr} {pins : List (Addr × Obj)} {s : Shared} {σ : St} {H : Hp} {Q : Value → Shared → Prop} {te : TE} (he : PE X e te) (I : Inv X pins σ H s)
    (h : te σ H fun x H1 => ∃ a C dx fs g, x = .ref a ∧ H1 a = some (.ins C dx fs) ∧ Cls X.K C ∧ Meth X.K C m g ∧ fs.lookup m = none ∧
      ∀ s1, Inv X pins σ H1 s1 → wpAny (model X.prog X.w) X.A (callWith pos (.ref g) [.ref a] (backTo pos (starEach args X.env)) (backToKw pos (keywordEach [] X.env))) Q X.xe s1)
    (ht : eval (.Call (.Attribute e m apos) args [] pos) X.env = (do
      let ov ← eval e X.env
      standAt apos.atName
      let (f, first) ← holding [ov] (getMethod ov m pl)
      callWith pos f first (backTo pos (starEach args X.env)) (backToKw pos (keywordEach [] X.env)))) :
    wpAny (model X.prog X.w) X.A (eval (.Call (.Attribute e m apos) args [] pos) X.env) Q X.xe s := by
  refine PySem.W.methodCall_KW (pl := pl) (thn (he pins s σ H _ I h) fun u s1 ⟨x, H1, I1, rx, a, C, dx, fs, g, ex, ea, c, k, l, q⟩ => ?_) ht
  subst ex
  obtain rfl : u = Value.ref a := rx
  exact getmeth_ok I1 ea c k l (q s1 I1)
end

/-! ### isinstance -/
section
variable {X : Cx} {pins : List (Addr × Obj)} {σ : St} {H : Hp} {s : Shared} {A : Around} {E : Value → Shared → Prop} {Q : Value → Shared → Prop} {c : Value} {b : Bool}
/-- the type of a value, as the fragment's deciders take it; for an instance its class -/
inductive TyOf (K : PySem.W.Frag) (H : Hp) : V → Value → Prop where
  | non : TyOf K H .non (.type "NoneType")
  | bl (x : Bool) : TyOf K H (.bl x) (.type "bool")
  | int (i : Int) : TyOf K H (.int i) (.type "int")
  | str (x : Str) : TyOf K H (.str x) (.type "str")
  | flt (x : UInt64) : TyOf K H (.flt x) (.type "float")
  | lst {a : Addr} {xs : List V} (e : H a = some (.lst xs)) : TyOf K H (.ref a) (.type "list")
  | frz {a : Addr} {o : Obj} {xs : List V} (e : H a = some (.frz o (.lst xs))) : TyOf K H (.ref a) (.type "list")
  | tup {a : Addr} {xs : List V} (e : H a = some (.tup xs)) : TyOf K H (.ref a) (.type "tuple")
  | dK {a : Addr} {kvs : List (Key × V)} (e : H a = some (.dK kvs)) : TyOf K H (.ref a) (.type "dict")
  | dT {a : Addr} {kvs : List (List Key × V)} (e : H a = some (.dT kvs)) : TyOf K H (.ref a) (.type "dict")
  | ins {a C dx : Addr} {fs : List (Str × V)} (e : H a = some (.ins C dx fs)) (cl : Cls K C) (ha : PySem.W.findIn K (.ref C) "__class__" = some (some (.builtin "object.__class__")))
      (hn : PySem.W.specialIn K (.builtin "object.__class__") "__get__" = some (some (.builtin "getset_descriptor.__get__"))) (htk : PySem.W.takesIn K (.builtin "object.__class__") = some true)
      (hm : PySem.W.mroIn K C (.type "object") = some true) : TyOf K H (.ref a) (.ref C)
/-- isinstance(x, c) for one class c, a built-in or an own one: kitOne's answer -/
theorem isinst_ok {x : V} {u t : Value} (I : Inv X pins σ H s) (rx : RelV x u) (ty : TyOf X.K H x t) (e : PySem.W.kitOne X.K t c = some b) (h : ∀ tk, Q (.bool b) { s with toks := tk }) :
    wpAny (model X.prog X.w) A (call (.builtin "isinstance") [u, c]) Q E s := by
  cases ty with
  | non => cases (show u = Value.none from rx); exact PySem.W.kia_one PySem.W.kitx_none I.kIn True.intro e (fun z => nomatch z) h
  | bl y => cases (show u = Value.bool y from rx); exact PySem.W.kia_one PySem.W.kitx_bool I.kIn True.intro e (fun z => nomatch z) h
  | int i => obtain ⟨t, q⟩ := (show ∃ t, u = Value.int i t from rx); cases q; exact PySem.W.kia_one PySem.W.kitx_int I.kIn True.intro e (fun z => nomatch z) h
  | str y => obtain ⟨t, q⟩ := (show ∃ t, u = Value.str y t from rx); cases q; exact PySem.W.kia_one PySem.W.kitx_str I.kIn True.intro e (fun z => nomatch z) h
  | flt y => obtain ⟨t, q⟩ := (show ∃ t, u = Value.float y t from rx); cases q; exact PySem.W.kia_one PySem.W.kitx_float I.kIn True.intro e (fun z => nomatch z) h
  | @lst a xs ea =>
    cases (show u = Value.ref a from rx)
    obtain ⟨_, _, n, _, h1⟩ := (show ObjOk X.prog X.w H s.heap a (.lst xs) from I.hok a _ ea)
    exact PySem.W.kia_one PySem.W.kitx_list I.kIn ⟨_, h1, rfl⟩ e (fun z => nomatch z) h
  | @frz a ob xs ea =>
    cases (show u = Value.ref a from rx)
    obtain ⟨_, _, _, n, _, h1⟩ := (show ObjOk X.prog X.w H s.heap a (.frz ob (.lst xs)) from I.hok a _ ea)
    exact PySem.W.kia_one PySem.W.kitx_list I.kIn ⟨_, h1, rfl⟩ e (fun z => nomatch z) h
  | @tup a xs ea =>
    cases (show u = Value.ref a from rx)
    obtain ⟨_, _, _, p⟩ := (show ObjOk X.prog X.w H s.heap a (.tup xs) from I.hok a _ ea)
    obtain ⟨o, h1, h2, _⟩ := p
    exact PySem.W.kia_one PySem.W.kitx_tuple I.kIn ⟨o, h1, h2⟩ e (fun z => nomatch z) h
  | @dK a kvs ea =>
    cases (show u = Value.ref a from rx)
    obtain ⟨_, _, vs, _, p⟩ := (show ObjOk X.prog X.w H s.heap a (.dK kvs) from I.hok a _ ea)
    obtain ⟨o, es, ep, h1, h2, _⟩ := p
    exact PySem.W.kia_one PySem.W.kitx_dict I.kIn ⟨o, h1, h2.1⟩ e (fun z => nomatch z) h
  | @dT a kvs ea =>
    cases (show u = Value.ref a from rx)
    obtain ⟨_, _, xs, _, o, es, ep, h1, h2, _⟩ := (show ObjOk X.prog X.w H s.heap a (.dT kvs) from I.hok a _ ea)
    exact PySem.W.kia_one PySem.W.kitx_dict I.kIn ⟨o, h1, h2.1⟩ e (fun z => nomatch z) h
  | @ins a C dx fs ea cl ha hn htk hm =>
    cases (show u = Value.ref a from rx)
    obtain ⟨mA, O, _⟩ := ins_get I.hok ea
    obtain ⟨od, J, _⟩ := O.look
    exact PySem.W.kia_one (PySem.W.kitx_own (cl.get _) cl.hd ha hn htk hm) I.kIn J e (fun z => nomatch z) h
end
end L2

namespace L2
open PySem PySem.Spec PyProof.Rows

/-! ### room -/
structure Room (k : Nat) (A : Around) : Prop where
  hd : A.handled = none
  dp : A.depth + 3 * k + 5 < recursionLimit
  un : A.units + 16 * k + 200 < cLine
theorem Room.mono {j k : Nat} {A : Around} (r : Room k A) (h : j ≤ k) : Room j A := ⟨r.hd, by have := r.dp; omega, by have := r.un; omega⟩
theorem Room.deeper {k : Nat} {A : Around} (r : Room (k + 1) A) (env : Env) : Room k (A.deeper env) :=
  ⟨r.hd, by have := r.dp; show A.depth + 1 + 3 * k + 5 < _; omega, by have := r.un; show A.units + 3 + 16 * k + 200 < _; omega⟩
theorem Room.in1 {k : Nat} {A : Around} (r : Room (k + 1) A) : Room k A.in1 :=
  ⟨r.hd, by have := r.dp; show A.depth + 3 * k + 5 < _; omega, by have := r.un; show A.units + 1 + 16 * k + 200 < _; omega⟩
theorem make_depth {A : Around} {C : Addr} {us : List Value} {kw : List (Str × Value)} : (A.under (.builtin "type.__call__" ⟨.ref C :: us, kw⟩)).depth = A.depth + 1 := by
  first | rfl | simp [Around.under, Code.weight, Code.isCreation, Code.isGuard, Code.isCaller, Code.frames, Code.isFrame, guardIds]
theorem make_units {A : Around} {C : Addr} {us : List Value} {kw : List (Str × Value)} : (A.under (.builtin "type.__call__" ⟨.ref C :: us, kw⟩)).units = A.units + 1 := by
  first | rfl | simp [Around.under, Code.cUnits, Code.frames, Code.isFrame]
theorem Room.make {k : Nat} {A : Around} (r : Room (k + 1) A) (C : Addr) (us : List Value) (kw : List (Str × Value)) : Room k (A.under (.builtin "type.__call__" ⟨.ref C :: us, kw⟩)) :=
  ⟨r.hd, by have := r.dp; rw [make_depth]; omega, by have := r.un; rw [make_units]; omega⟩
theorem Room.depth {k : Nat} {A : Around} (r : Room k A) : A.depth < recursionLimit := by have := r.dp; omega
theorem Room.units {k : Nat} {A : Around} (r : Room k A) : A.units + 64 < cLine := by have := r.un; omega
theorem Room.units0 {k : Nat} {A : Around} (r : Room k A) : A.units < cLine := by have := r.un; omega

/-! ### argument lists and displays -/
def tNil : TA := fun _ H Q => Q [] H
def tCons (ta : TE) (tr : TA) : TA := fun σ H Q => ta σ H fun x H1 => tr σ H1 fun xs H2 => Q (x :: xs) H2
section
variable {X : Cx} {e : Expr} {es : List Expr} {te : TE} {t : TA} {pos : Pos}
theorem pa_nil : PA X [] tNil := fun _ _ _ _ H Q I h => Calls.spliced_nil ⟨[], H, I, .nil, h⟩
theorem pa_cons (ha : PE X e te) (hr : PA X es t) (hs : starEach (e :: es) X.env = (false, eval e X.env) :: starEach es X.env := by rfl) : PA X (e :: es) (tCons te t) := by
  intro pos pins s σ H Q I h
  rw [hs]
  show wpAny _ _ (spliced ((false, eval e X.env) :: backTo pos (starEach es X.env))) _ _ s
  refine Calls.spliced_cons (thn (ha pins s σ H _ I h) fun u s1 ⟨x, H1, I1, r1, q1⟩ => ?_)
  exact thn (hr pos pins s1 σ H1 _ I1 q1) fun us s2 ⟨xs, H2, I2, r2, q2⟩ => ⟨x :: xs, H2, I2, .cons r1 r2, q2⟩

/-- a tuple, a list of written items -/
def tTup (t : TA) : TE := fun σ H Q => t σ H fun xs H1 => xs.length ≤ sizeLine ∧ ∀ p, H1 p = none → Q (.ref p) (upd H1 p (.tup xs))
def tLst (t : TA) : TE := fun σ H Q => t σ H fun xs H1 => xs.length ≤ sizeLine ∧ ∀ p, H1 p = none → Q (.ref p) (upd H1 p (.lst xs))
theorem pe_tup {x1} (h : PA X es t) : PE X (.Tuple es x1 pos) (tTup t) := by
  intro pins s σ H Q I hq
  refine wpAny_Tuple_spliced (thn (h pos pins s σ H _ I hq) fun us s1 ⟨xs, H1, I1, r, z, q⟩ => ⟨by rw [← r.length]; exact z, ?_⟩)
  have hf : H1 s1.heap.objs.size = none := I1.hok.fresh (Nat.le_refl _)
  refine ⟨.ref s1.heap.objs.size, upd H1 s1.heap.objs.size (.tup xs), I1.laid (t' := s1.toks) (fun b u e => Heap.get?_push_of_some _ e) (Nat.le_refl _) ?_, rfl, q _ hf⟩
  exact ⟨z, us, r, ⟨_, Heap.get?_push_size _ rfl, rfl, _, rfl⟩⟩
theorem pe_lst (h : PA X es t) : PE X (.List es pos) (tLst t) := by
  intro pins s σ H Q I hq
  refine wpAny_List_spliced (thn (h pos pins s σ H _ I hq) fun us s1 ⟨xs, H1, I1, r, z, q⟩ => ⟨by rw [← r.length]; exact z, ?_⟩)
  have hf : H1 s1.heap.objs.size = none := I1.hok.fresh (Nat.le_refl _)
  refine ⟨.ref s1.heap.objs.size, upd H1 s1.heap.objs.size (.lst xs), I1.laid (t' := s1.toks) (fun b u e => Heap.get?_push_of_some _ e) (Nat.le_refl _) ?_, rfl, q _ hf⟩
  exact ⟨z, us, 0, r, Heap.get?_push_size _ rfl⟩
end

/-! ### what a def promises -/
/-- a def's promise: the bound arguments in the parameters' order, the heap, the wanted end, the wanted exception -/
abbrev Sp := List V → Hp → VK → XK → Prop
/-- how an exception lies behind a call (file 08 gives it): the callers' frames, abstract heap and state ahead of the call, the wish, the exception, the state -/
abbrev CXT := List Env → Hp → Shared → XK → Value → Shared → Prop

/-- the state at a call -/
structure Env0 (P : Program) (w : World) (K : PySem.W.Frag) (mg : Str → Option Value) (base : Heap) (A : Around) (outer : List Env) (s : Shared) (H : Hp) : Prop where
  frames : A.frames = some outer
  mod : Mod K mg base
  bs : ∀ b o, base.get? b = some o → s.heap.get? b = some o ∧ H b = none
  bsz : base.objs.size ≤ s.heap.objs.size
  funs : s.heap.FunFrames base outer
  frf : ∀ b ∈ frs outer, H b = none
  hok : HOk P w H s.heap
  bare : AllBare s.gens
/-- a call's end -/
def CE (outer : List Env) (P : Program) (w : World) (H : Hp) (s : Shared) (Q : VK) (u : Value) (s' : Shared) : Prop :=
  ∃ v H', s'.os = s.os ∧ AllBare s'.gens ∧ Un (frs outer) [] H H' s.heap s'.heap ∧ HOk P w H' s'.heap ∧ RelV v u ∧ Q v H'
def CR (CX : CXT) (outer : List Env) (P : Program) (w : World) (H : Hp) (s : Shared) (Q : VK) (E : XK) (r : Result) (s' : Shared) : Prop :=
  match r with
  | .ok (.ret u) => CE outer P w H s Q u s'
  | .ok _ => False
  | .error e => CX outer H s E e s'
structure FnOk (P : Program) (w : World) (K : PySem.W.Frag) (mg : Str → Option Value) (base : Heap) (CX : CXT) (k : Nat) (f : Addr) (fd : FuncData) (ps : List Str) (sp : Sp) : Prop where
  len : ∀ vs H Q E, sp vs H Q E → vs.length = ps.length
  run : ∀ (A : Around) (outer : List Env) (s : Shared) (H : Hp) (args : Args) (us : List Value) (vs : List V) (Q : VK) (E : XK), Room k A → Env0 P w K mg base A outer s H → BindsTo s fd args (ps.zip us) → Vals vs us → sp vs H Q E →
    codeAny (model P w) A (.call (.ref f) args) (CR CX outer P w H s Q E) s
theorem FnOk.mono {P : Program} {w : World} {K : PySem.W.Frag} {mg : Str → Option Value} {base : Heap} {CX : CXT} {j k : Nat} {f : Addr} {fd : FuncData} {ps : List Str} {sp : Sp} (F : FnOk P w K mg base CX j f fd ps sp) (h : j ≤ k) :
    FnOk P w K mg base CX k f fd ps sp := ⟨F.len, fun A outer s H args us vs Q E hr => F.run A outer s H args us vs Q E (hr.mono h)⟩
/-- a weaker promise -/
theorem FnOk.imp {P : Program} {w : World} {K : PySem.W.Frag} {mg : Str → Option Value} {base : Heap} {CX : CXT} {k : Nat} {f : Addr} {fd : FuncData} {ps : List Str} {sp sp' : Sp} (F : FnOk P w K mg base CX k f fd ps sp)
    (h : ∀ vs H Q E, sp' vs H Q E → sp vs H Q E) : FnOk P w K mg base CX k f fd ps sp' :=
  ⟨fun vs H Q E q => F.len vs H Q E (h _ _ _ _ q), fun A outer s H args us vs Q E hr he hb hv hs => F.run A outer s H args us vs Q E hr he hb hv (h _ _ _ _ hs)⟩

theorem Env0.make {P : Program} {w : World} {K : PySem.W.Frag} {mg : Str → Option Value} {base : Heap} {A : Around} {outer : List Env} {s : Shared} {H : Hp} (e : Env0 P w K mg base A outer s H) (C : Addr) (us : List Value) (kw : List (Str × Value)) :
    Env0 P w K mg base (A.under (.builtin "type.__call__" ⟨.ref C :: us, kw⟩)) outer s H := ⟨by first | exact e.frames | (simpa [Around.under, Code.envs, Code.isFrame, pushEnvs] using e.frames), e.mod, e.bs, e.bsz, e.funs, e.frf, e.hok, e.bare⟩
theorem Env0.in1 {P : Program} {w : World} {K : PySem.W.Frag} {mg : Str → Option Value} {base : Heap} {A : Around} {outer : List Env} {s : Shared} {H : Hp} (e : Env0 P w K mg base A outer s H) :
    Env0 P w K mg base A.in1 outer s H := ⟨e.frames, e.mod, e.bs, e.bsz, e.funs, e.frf, e.hok, e.bare⟩

section
variable {X : Cx} {pins : List (Addr × Obj)} {σ : St} {H : Hp} {s s' : Shared}
/-- from a body: what a callee wants -/
theorem Inv.env0 (I : Inv X pins σ H s) : Env0 X.prog X.w X.K X.mg X.base X.A X.stack s H :=
  ⟨I.ok.frames, I.ok.mod, I.bs, Nat.le_trans I.ok.bsz I.sz, I.stack, I.stkFree, I.hok, I.bare⟩
/-- behind a call -/
theorem Inv.after {Q : VK} {u : Value} (I : Inv X pins σ H s) (h : CE X.stack X.prog X.w H s Q u s') : EP X pins σ Q u s' := by
  obtain ⟨v, H', os, bare, un, hok, r, q⟩ := h
  obtain ⟨hh, g, d, t, os'⟩ := s'
  obtain rfl : os' = s.os := os
  exact ⟨v, H', I.call (h' := hh) (g' := g) (d' := d) (t' := t) (ch := []) un hok bare (fun b z => absurd z (by simp)), r, q⟩
end

/-! ### calls -/
/-- f(..): the written arguments, then the defaults dvs; E: what is wanted of an exception -/
def tCall (sp : Sp) (dvs : List V) (E : XK) (t : TA) : TE := fun σ H Q => t σ H fun vs H1 => sp (vs ++ dvs) H1 Q E
/-- o.m(..) of an instance of the class at C -/
def tMeth (C : Addr) (m : Str) (sp : Sp) (dvs : List V) (E : XK) (ta : TE) (t : TA) : TE := fun σ H Q => ta σ H fun x H1 => ∃ a dx fs, x = .ref a ∧ H1 a = some (.ins C dx fs) ∧ fs.lookup m = none ∧
  t σ H1 fun vs H2 => sp (x :: (vs ++ dvs)) H2 Q E
/-- C(..): a new instance and its dict, then __init__ -/
def tMake (C : Addr) (sp : Sp) (dvs : List V) (E : XK) (t : TA) : TE := fun σ H Q => t σ H fun vs H1 => ∀ x dx, H1 x = none → H1 dx = none → dx ≠ x →
  sp (.ref x :: (vs ++ dvs)) (upd (upd H1 dx (.own x)) x (.ins C dx [])) (fun v H2 => v = .non ∧ Q (.ref x) H2) E

/-- how the parameters are bound: us the positional arguments, kw the keywords' values by name, ds the defaults that fill up -/
def Binds (K : PySem.W.Frag) (fd : FuncData) (ps : List Str) (ds : List Value) : Prop :=
  ∀ (s : Shared) (us : List Value), K.In s.heap → (us ++ ds).length = ps.length → BindsTo s fd ⟨us, []⟩ (ps.zip (us ++ ds))
/-- every parameter is given -/
theorem Binds.all {K : PySem.W.Frag} {fd : FuncData} {ps : List Str} (h : ∀ us : List Value, us.length = ps.length → bindArgs fd ⟨us, []⟩ = pure (ps.zip us)) : Binds K fd ps [] := fun s us _ hl => by
  rw [List.append_nil] at hl ⊢
  exact .of_eq (h us hl)

/-- an exception of a callee reaches what this body wants of exceptions -/
def Passes (CX : CXT) (X : Cx) (E : XK) : Prop := ∀ (pins : List (Addr × Obj)) (σ : St) (H : Hp) (s : Shared) (e : Value) (s' : Shared), Inv X pins σ H s → CX X.stack H s E e s' → X.xe e s'

section
variable {X : Cx} {CX : CXT} {k : Nat} {f C : Addr} {fd : FuncData} {ps : List Str} {sp : Sp} {dvs : List V} {ds : List Value} {E : XK} {x m : Str} {p pos apos : Pos} {e o : Expr} {es : List Expr} {ta : TE} {t : TA}

/-- the callee runs -/
theorem run_fn {pins : List (Addr × Obj)} {σ : St} {H : Hp} {s : Shared} {Q : VK} {us : List Value} {vs : List V} (F : FnOk X.prog X.w X.K X.mg X.base CX k f fd ps sp) (hr : Room k X.A) (hb : Binds X.K fd ps ds) (hd : Vals dvs ds) (hx : Passes CX X E)
    (I : Inv X pins σ H s) (r : Vals vs us) (h : sp (vs ++ dvs) H Q E) : wpAny (model X.prog X.w) X.A (call (.ref f) us) (EP X pins σ Q) X.xe s := by
  have r2 : Vals (vs ++ dvs) (us ++ ds) := r.append hd
  have hl : (us ++ ds).length = ps.length := by rw [← r2.length]; exact F.len _ _ _ _ h
  refine wpAny_call (codeAny_mono (F.run X.A X.stack s H ⟨us, []⟩ (us ++ ds) (vs ++ dvs) Q E hr I.env0 (hb s us I.kIn hl) r2 h) fun r s' hq => ?_)
  cases r with
  | error e => exact hx pins σ H s e s' I hq
  | ok fl =>
    cases fl with
    | ret u => exact I.after hq
    | next => exact False.elim hq
    | brk => exact False.elim hq
    | cont => exact False.elim hq

theorem pe_call (F : FnOk X.prog X.w X.K X.mg X.base CX k f fd ps sp) (hr : Room k X.A) (hg : Gl X x) (hm : X.mg x = some (.ref f)) (hk : PySem.W.keepIn X.K (.ref f) = true) (hb : Binds X.K fd ps ds) (hd : Vals dvs ds) (hx : Passes CX X E)
    (ha : PA X (e :: es) t) (hdb : (x == ("__debug__" : Str)) = false := by decide) (he : starEach (e :: es) X.env = (false, eval e X.env) :: starEach es X.env := by rfl) (hpl : (backTo pos (starEach es X.env)).any (·.1) = false := by rfl) :
    PE X (.Call (.Name x p) (e :: es) [] pos) (tCall sp dvs E t) := by
  intro pins s σ H Q I h
  refine wpAny_Call_Name_kw (ld_glob I hg hm ?_ hdb)
  refine PySem.W.callWith_K (h₀ := X.base) I.ok.mod.kin hk (thn (ha pos pins s σ H _ I h) fun us s1 ⟨vs, H1, I1, r, q⟩ => ⟨I1.kIn, ?_⟩) he hpl
  exact run_fn F hr hb hd hx I1 r q
theorem pe_call0 (F : FnOk X.prog X.w X.K X.mg X.base CX k f fd ps sp) (hr : Room k X.A) (hg : Gl X x) (hm : X.mg x = some (.ref f)) (hk : PySem.W.keepIn X.K (.ref f) = true) (hb : Binds X.K fd ps ds) (hd : Vals dvs ds) (hx : Passes CX X E)
    (hdb : (x == ("__debug__" : Str)) = false := by decide) : PE X (.Call (.Name x p) [] [] pos) (tCall sp dvs E tNil) := by
  intro pins s σ H Q I h
  refine wpAny_Call_Name_kw (ld_glob I hg hm ?_ hdb)
  exact PySem.W.callWith_K0 I.kIn hk (run_fn (us := []) F hr hb hd hx I .nil h)

/-- o.m(e, ..) -/
theorem pe_meth {pl : Sem Bool} (he : PE X o ta) (c : Cls X.K C) (hm : Meth X.K C m f) (F : FnOk X.prog X.w X.K X.mg X.base CX k f fd ps sp) (hr : Room k X.A) (hb : Binds X.K fd ps ds) (hd : Vals dvs ds) (hx : Passes CX X E) (ha : PA X (e :: es) t)
    (hst : starEach (e :: es) X.env = (false, eval e X.env) :: starEach es X.env := by rfl) (hpl : (backTo pos (starEach es X.env)).any (·.1) = false := by rfl)
    (ht : eval (.Call (.Attribute o m apos) (e :: es) [] pos) X.env = (do
      let ov ← eval o X.env
      standAt apos.atName
      let (f, first) ← holding [ov] (getMethod ov m pl)
      callWith pos f first (backTo pos (starEach (e :: es) X.env)) (backToKw pos (keywordEach [] X.env))) := by rfl) :
    PE X (.Call (.Attribute o m apos) (e :: es) [] pos) (tMeth C m sp dvs E ta t) := by
  intro pins s σ H Q I h
  refine PySem.W.methodCall_KW (pl := pl) (thn (he pins s σ H _ I h) fun u s1 ⟨x, H1, I1, rx, a, dx, fs, ex, ea, l, q⟩ => ?_) ht
  subst ex
  obtain rfl : u = Value.ref a := rx
  refine getmeth_ok I1 ea c hm l ?_
  refine PySem.W.callWith_K (first := [.ref a]) (h₀ := X.base) I.ok.mod.kin hm.kp (thn (ha pos pins s1 σ H1 _ I1 q) fun us s2 ⟨vs, H2, I2, r, q2⟩ => ⟨I2.kIn, ?_⟩) hst hpl
  exact run_fn (us := .ref a :: us) (vs := .ref a :: vs) F hr hb hd hx I2 (.cons rfl r) q2
/-- o.m() -/
theorem pe_meth0 {pl : Sem Bool} (he : PE X o ta) (c : Cls X.K C) (hm : Meth X.K C m f) (F : FnOk X.prog X.w X.K X.mg X.base CX k f fd ps sp) (hr : Room k X.A) (hb : Binds X.K fd ps ds) (hd : Vals dvs ds) (hx : Passes CX X E)
    (ht : eval (.Call (.Attribute o m apos) [] [] pos) X.env = (do
      let ov ← eval o X.env
      standAt apos.atName
      let (f, first) ← holding [ov] (getMethod ov m pl)
      callWith pos f first (backTo pos (starEach [] X.env)) (backToKw pos (keywordEach [] X.env))) := by rfl) :
    PE X (.Call (.Attribute o m apos) [] [] pos) (tMeth C m sp dvs E ta tNil) := by
  intro pins s σ H Q I h
  refine PySem.W.methodCall_KW (pl := pl) (thn (he pins s σ H _ I h) fun u s1 ⟨x, H1, I1, rx, a, dx, fs, ex, ea, l, q⟩ => ?_) ht
  subst ex
  obtain rfl : u = Value.ref a := rx
  refine getmeth_ok I1 ea c hm l ?_
  exact PySem.W.callWith_K0 (first := [.ref a]) I1.kIn hm.kp (run_fn (us := [.ref a]) (vs := [.ref a]) F hr hb hd hx I1 (.cons rfl .nil) q)

/-- what a class must have to be made -/
structure Mk (K : PySem.W.Frag) (C f : Addr) : Prop where
  makes : PySem.W.makesIn K C = true
  init : PySem.W.findIn K (.ref C) "__init__" = some (some (.ref f))
  fn : PySem.W.isFn K (.ref f) = true
  kp : PySem.W.keepIn K (.ref C) = true

theorem run_make {pins : List (Addr × Obj)} {σ : St} {H : Hp} {s : Shared} {Q : VK} {us : List Value} {vs : List V} (M : Mk X.K C f) (F : FnOk X.prog X.w X.K X.mg X.base CX k f fd ps sp) (hr : Room (k + 1) X.A) (hb : Binds X.K fd ps ds) (hd : Vals dvs ds)
    (hx : Passes CX X E) (I : Inv X pins σ H s) (r : Vals vs us)
    (h : ∀ x dx, H x = none → H dx = none → dx ≠ x → sp (.ref x :: (vs ++ dvs)) (upd (upd H dx (.own x)) x (.ins C dx [])) (fun v H2 => v = .non ∧ Q (.ref x) H2) E) :
    wpAny (model X.prog X.w) X.A (call (.ref C) us) (EP X pins σ Q) X.xe s := by
  have hq := h (s.heap.objs.size + 1) s.heap.objs.size (I.hok.fresh (Nat.le_succ _)) (I.hok.fresh (Nat.le_refl _)) (Nat.ne_of_lt (Nat.lt_succ_self _))
  have I2 := Inv.made (C := C) I
  have r2 : Vals (V.ref (s.heap.objs.size + 1) :: (vs ++ dvs)) (Value.ref (s.heap.objs.size + 1) :: (us ++ ds)) := .cons rfl (r.append hd)
  have hl : (Value.ref (s.heap.objs.size + 1) :: us ++ ds).length = ps.length := by
    have e := r2.length
    rw [F.len _ _ _ _ hq] at e
    exact e.symm
  refine wpAny_call (make_map (f := f) I.kIn M.makes M.init (beq_iff_eq.mp M.fn) (codeAny_mono (F.run _ X.stack _ _ ⟨Value.ref (s.heap.objs.size + 1) :: us, []⟩ (Value.ref (s.heap.objs.size + 1) :: (us ++ ds)) _ _ E (hr.make C us [])
    (I2.env0.make C us []) (hb _ (Value.ref (s.heap.objs.size + 1) :: us) I2.kIn hl) r2 hq) fun r s' hq' => ?_))
  cases r with
  | error e => exact hx pins σ _ _ e s' I2 hq'
  | ok fl =>
    cases fl with
    | ret u =>
      obtain ⟨v, H', I3, rv, ev, q3⟩ := I2.after hq'
      subst ev
      exact ⟨rv, ⟨V.ref (s.heap.objs.size + 1), H', I3, rfl, q3⟩⟩
    | next => exact False.elim hq'
    | brk => exact False.elim hq'
    | cont => exact False.elim hq'
theorem pe_make (M : Mk X.K C f) (F : FnOk X.prog X.w X.K X.mg X.base CX k f fd ps sp) (hr : Room (k + 1) X.A) (hg : Gl X x) (hm : X.mg x = some (.ref C)) (hb : Binds X.K fd ps ds) (hd : Vals dvs ds) (hx : Passes CX X E)
    (ha : PA X (e :: es) t) (hdb : (x == ("__debug__" : Str)) = false := by decide) (he : starEach (e :: es) X.env = (false, eval e X.env) :: starEach es X.env := by rfl) (hpl : (backTo pos (starEach es X.env)).any (·.1) = false := by rfl) :
    PE X (.Call (.Name x p) (e :: es) [] pos) (tMake C sp dvs E t) := by
  intro pins s σ H Q I h
  refine wpAny_Call_Name_kw (ld_glob I hg hm ?_ hdb)
  refine PySem.W.callWith_K (h₀ := X.base) I.ok.mod.kin M.kp (thn (ha pos pins s σ H _ I h) fun us s1 ⟨vs, H1, I1, r, q⟩ => ⟨I1.kIn, ?_⟩) he hpl
  exact run_make M F hr hb hd hx I1 r q
theorem pe_make0 (M : Mk X.K C f) (F : FnOk X.prog X.w X.K X.mg X.base CX k f fd ps sp) (hr : Room (k + 1) X.A) (hg : Gl X x) (hm : X.mg x = some (.ref C)) (hb : Binds X.K fd ps ds) (hd : Vals dvs ds) (hx : Passes CX X E)
    (hdb : (x == ("__debug__" : Str)) = false := by decide) : PE X (.Call (.Name x p) [] [] pos) (tMake C sp dvs E tNil) := by
  intro pins s σ H Q I h
  refine wpAny_Call_Name_kw (ld_glob I hg hm ?_ hdb)
  exact PySem.W.callWith_K0 I.kIn M.kp (run_make (us := []) M F hr hb hd hx I .nil h)
end

/-! ### keywords -/
/-- the values of the keywords, from the left -/
def PK (X : Cx) (kws : List Keyword) (t : TA) : Prop :=
  ∀ (pos : Pos) (pins : List (Addr × Obj)) (s : Shared) (σ : St) (H : Hp) (Q : List V → Hp → Prop), Inv X pins σ H s → t σ H Q → wpAny (model X.prog X.w) X.A (evalAll ((backToKw pos (keywordEach kws X.env)).map (·.2))) (AP X pins σ Q) X.xe s
section
variable {X : Cx} {CX : CXT} {k : Nat} {f C : Addr} {fd : FuncData} {ps ks : List Str} {sp : Sp} {E : XK} {x m : Str} {p pos apos kpos : Pos} {e o : Expr} {es : List Expr} {kws : List Keyword} {te ta : TE} {t tk : TA} {nm : Option Str}
theorem pk_nil : PK X [] tNil := fun _ _ _ _ H Q I h => wpAny_evalAll_nil ⟨[], H, I, .nil, h⟩
theorem pk_cons (ha : PE X e te) (hr : PK X kws t) : PK X (⟨nm, e, kpos⟩ :: kws) (tCons te t) := by
  intro pos pins s σ H Q I h
  show wpAny _ _ (evalAll ((do let v ← eval e X.env; standAt pos; pure v) :: (backToKw pos (keywordEach kws X.env)).map (·.2))) _ _ s
  refine wpAny_evalAll_cons (wpAny_bind (thn (ha pins s σ H _ I h) fun u s1 ⟨x, H1, I1, r1, q1⟩ => wpAny_bind (wpAny_standAt (wpAny_pure ?_))))
  exact thn (hr pos pins s1 σ H1 _ I1 q1) fun us s2 ⟨xs, H2, I2, r2, q2⟩ => ⟨x :: xs, H2, I2, .cons r1 r2, q2⟩

/-- how a call with keywords binds: g puts the positional values us and the keywords' values ws (names ks) in the parameters' order, defaults among them -/
structure KBinds (K : PySem.W.Frag) (fd : FuncData) (ps ks : List Str) (g : List Value → List Value → List Value) (gV : List V → List V → List V) : Prop where
  to : ∀ (s : Shared) (us ws : List Value), K.In s.heap → (g us ws).length = ps.length → BindsTo s fd ⟨us, ks.zip ws⟩ (ps.zip (g us ws))
  rel : ∀ {vs : List V} {us : List Value} {zs : List V} {ws : List Value}, Vals vs us → Vals zs ws → Vals (gV vs zs) (g us ws)
def tCallK (sp : Sp) (gV : List V → List V → List V) (E : XK) (t tk : TA) : TE := fun σ H Q => t σ H fun vs H1 => tk σ H1 fun zs H2 => sp (gV vs zs) H2 Q E
variable {g : List Value → List Value → List Value} {gV : List V → List V → List V}
theorem run_fnk {pins : List (Addr × Obj)} {σ : St} {H : Hp} {s : Shared} {Q : VK} {us ws : List Value} {vs zs : List V} (F : FnOk X.prog X.w X.K X.mg X.base CX k f fd ps sp) (hr : Room k X.A) (hb : KBinds X.K fd ps ks g gV) (hx : Passes CX X E)
    (I : Inv X pins σ H s) (r : Vals vs us) (rz : Vals zs ws) (h : sp (gV vs zs) H Q E) : wpAny (model X.prog X.w) X.A (call (.ref f) us (ks.zip ws)) (EP X pins σ Q) X.xe s := by
  have r2 := hb.rel r rz
  have hl : (g us ws).length = ps.length := by rw [← r2.length]; exact F.len _ _ _ _ h
  refine wpAny_call (codeAny_mono (F.run X.A X.stack s H ⟨us, ks.zip ws⟩ (g us ws) (gV vs zs) Q E hr I.env0 (hb.to s us ws I.kIn hl) r2 h) fun r s' hq => ?_)
  cases r with
  | error e => exact hx pins σ H s e s' I hq
  | ok fl =>
    cases fl with
    | ret u => exact I.after hq
    | next => exact False.elim hq
    | brk => exact False.elim hq
    | cont => exact False.elim hq
/-- f(e, .., k = v, ..) -/
theorem pe_callK (F : FnOk X.prog X.w X.K X.mg X.base CX k f fd ps sp) (hr : Room k X.A) (hg : Gl X x) (hm : X.mg x = some (.ref f)) (hk : PySem.W.keepIn X.K (.ref f) = true) (hb : KBinds X.K fd ps ks g gV) (hx : Passes CX X E)
    (ha : PA X (e :: es) t) (hkw : PK X kws tk) (hall : (backToKw pos (keywordEach kws X.env)).all (·.1.isSome) = true := by rfl) (hks : (backToKw pos (keywordEach kws X.env)).filterMap (·.1) = ks := by rfl)
    (hdb : (x == ("__debug__" : Str)) = false := by decide) (he : starEach (e :: es) X.env = (false, eval e X.env) :: starEach es X.env := by rfl)
    (hpl : ((backTo pos (starEach (e :: es) X.env)).any (·.1) || (backToKw pos (keywordEach kws X.env)).any (·.1.isNone)) = false := by rfl) :
    PE X (.Call (.Name x p) (e :: es) kws pos) (tCallK sp gV E t tk) := by
  intro pins s σ H Q I h
  refine wpAny_Call_Name_kw (ld_glob I hg hm ?_ hdb)
  refine PySem.W.callWith_KW (h₀ := X.base) I.ok.mod.kin hk hall (thn (ha pos pins s σ H _ I h) fun us s1 ⟨vs, H1, I1, r, q⟩ => ?_) hpl he
  refine thn (hkw pos pins s1 σ H1 _ I1 q) fun ws s2 ⟨zs, H2, I2, rz, q2⟩ => ⟨I2.kIn, ?_⟩
  rw [hks]
  exact run_fnk F hr hb hx I2 r rz q2
end

/-! ### a def's body keeps its promise -/
/-- names: the parameters first -/
structure FnScope (N P : List Str) (sc : Scope) : Prop where
  kind : sc.kind = .function
  co : sc.isCoroutine = false
  gen : sc.isGenerator = false
  nd : N.Nodup
  pre : N.take P.length = P
  par : ∀ x ∈ P, sc.names.lookup x = some .local ∨ sc.names.lookup x = some .cell
  nofree : ∀ y ∈ sc.names, y.2 ≠ .free

theorem bindL_out {kindOf : Str → Option NameKind} {x : Str} : ∀ {binds : List (Str × Value)} {m : Str → Option Value}, (∀ v, (x, v) ∉ binds) → bindL kindOf binds m x = m x
  | [], _, _ => rfl
  | (n, v) :: r, m, h => by
    unfold bindL
    rw [bindL_out fun w hw => h w (List.mem_cons_of_mem _ hw)]
    split
    · have : x ≠ n := by rintro rfl; exact h v List.mem_cons_self
      simp [this]
    · rfl
theorem bindC_out {kindOf : Str → Option NameKind} {x : Str} : ∀ {binds : List (Str × Value)} {m : Str → Option Value}, (∀ v, (x, v) ∉ binds) → bindC kindOf binds m x = m x
  | [], _, _ => rfl
  | (n, v) :: r, m, h => by
    unfold bindC
    rw [bindC_out fun w hw => h w (List.mem_cons_of_mem _ hw)]
    split
    · rfl
    · have : x ≠ n := by rintro rfl; exact h v List.mem_cons_self
      simp [this]
theorem bindL_get {kindOf : Str → Option NameKind} {x : Str} {v : Value} : ∀ {P : List Str} {vs : List Value} {i : Nat} {m : Str → Option Value}, P.Nodup → P[i]? = some x → vs[i]? = some v → kindOf x = some .local →
    bindL kindOf (P.zip vs) m x = some v
  | [], _, _, _, _, h, _, _ => by simp at h
  | _ :: _, [], _, _, _, _, h, _ => by simp at h
  | p :: P, w :: vs, 0, m, nd, h1, h2, hk => by
    simp at h1 h2; subst h1; subst h2
    show bindL kindOf ((p, w) :: P.zip vs) m p = _
    unfold bindL
    rw [bindL_out fun v hv => (List.nodup_cons.mp nd).1 (List.of_mem_zip hv).1, if_pos hk]
    simp
  | p :: P, w :: vs, i + 1, m, nd, h1, h2, hk => by
    show bindL kindOf ((p, w) :: P.zip vs) m x = _
    unfold bindL
    exact bindL_get (i := i) (List.nodup_cons.mp nd).2 (by simpa using h1) (by simpa using h2) hk
theorem bindC_get {kindOf : Str → Option NameKind} {x : Str} {v : Value} : ∀ {P : List Str} {vs : List Value} {i : Nat} {m : Str → Option Value}, P.Nodup → P[i]? = some x → vs[i]? = some v → kindOf x ≠ some .local →
    bindC kindOf (P.zip vs) m x = some v
  | [], _, _, _, _, h, _, _ => by simp at h
  | _ :: _, [], _, _, _, _, h, _ => by simp at h
  | p :: P, w :: vs, 0, m, nd, h1, h2, hk => by
    simp at h1 h2; subst h1; subst h2
    show bindC kindOf ((p, w) :: P.zip vs) m p = _
    unfold bindC
    rw [bindC_out fun v hv => (List.nodup_cons.mp nd).1 (List.of_mem_zip hv).1, if_neg hk]
    simp
  | p :: P, w :: vs, i + 1, m, nd, h1, h2, hk => by
    show bindC kindOf ((p, w) :: P.zip vs) m x = _
    unfold bindC
    exact bindC_get (i := i) (List.nodup_cons.mp nd).2 (by simpa using h1) (by simpa using h2) hk

/-- the names' values at the entry -/
def start (N : List Str) (vs : List V) : St := vs.map some ++ List.replicate (N.length - vs.length) none

/-- the context of a def's body, at its entry; an exception leaves the frame, then lies as CX says -/
def cxOf (CX : CXT) (P : Program) (w : World) (K : PySem.W.Frag) (mg : Str → Option Value) (base : Heap) (N : List Str) (qual : Str) (scope : Scope) (f : Addr) (cd : Value) (A : Around) (outer : List Env) (s : Shared) (H : Hp) (E : XK) : Cx where
  prog := P
  w := w
  K := K
  mg := mg
  base := base
  A := A.deeper (envOfC qual scope s.heap.objs.size f cd)
  N := N
  s₀ := s
  H₀ := H
  env := envOfC qual scope s.heap.objs.size f cd
  outer := outer
  stack := envOfC qual scope s.heap.objs.size f cd :: outer
  ex := []
  calm := true
  fn := fun _ => true
  pn := []
  xe := fun e s' => wpAny (model P w) (A.deeper (envOfC qual scope s.heap.objs.size f cd)) (leaving (envOfC qual scope s.heap.objs.size f cd) e) (fun _ s'' => CX outer H s E e s'') (fun e' s'' => CX outer H s E e' s'') s'

theorem cell_has {sc : Scope} {n : Nat} {x : Str} (h : sc.names.lookup x = some .cell) : ∃ c, (cellsFrom n sc.names []).lookup x = some c := by
  have q := PySem.W.cellsFrom_some sc.names n [] (.inl h)
  exact Option.isSome_iff_exists.mp q

theorem inv_start {CX : CXT} {P : Program} {w : World} {K : PySem.W.Frag} {mg : Str → Option Value} {base : Heap} {N ps : List Str} {qual : Str} {scope : Scope} {f : Addr} {cd : Value} {A : Around} {outer : List Env} {s s1 : Shared} {H : Hp} {E : XK} {us : List Value} {vs : List V}
    (S : FnScope N ps scope) (hd : A.handled = none) (e0 : Env0 P w K mg base A outer s H) (hl : vs.length = ps.length) (r : Vals vs us)
    (x : InCallC s s.heap.objs.size (bindL (envOfC qual scope s.heap.objs.size f cd).kindOf (ps.zip us) fun _ => none) (cellsFrom (s.heap.objs.size + 1) scope.names []) (bindC (envOfC qual scope s.heap.objs.size f cd).kindOf (ps.zip us) fun _ => none) s1) :
    Inv (cxOf CX P w K mg base N qual scope f cd A outer s H E) [] (start N vs) H s1 := by
  have hpl : ps.length ≤ N.length := by have := congrArg List.length S.pre; rw [List.length_take] at this; omega
  obtain ⟨h1, tk, rfl, hk⟩ := x.done
  have noA : ∀ b : Addr, b ∉ (cxOf CX P w K mg base N qual scope f cd A outer s H E).ex := fun b z => absurd (show b ∈ ([] : List Addr) from z) (by simp)
  refine ⟨⟨e0.mod, S.kind, rfl, rfl, Nat.le_refl _, fun y z c h1 h2 => ?_, fun y hy => ?_, fun y c _ h => ?_, fun _ => hd, Around.frames_deeper e0.frames, .inr ⟨rfl, rfl⟩, fun b z => absurd z (noA b), e0.bs, e0.bsz, fun b _ _ => noA b, fun b z => absurd z (noA b), e0.funs, e0.frf⟩,
    rfl, e0.bare, Un.kept hk, ⟨_, x.toInCall.ns, fun i y v h1 h2 h3 => ?_⟩, fun y c h => ⟨_, x.cell y c h⟩, e0.hok.fresh (Nat.le_refl _), fun y c h => ?_, fun p hp => absurd (show p ∈ ([] : List (Addr × Obj)) from hp) (by simp), e0.hok.kept hk, ?_⟩
  · exact name_of_addr x.apart (PySem.mem_of_lookup h1) (PySem.mem_of_lookup h2)
  · have hy : scope.names.lookup y = some .cell ∨ scope.names.lookup y = some .free := hy
    rcases hy with hy | hy
    · exact cell_has hy
    · exact absurd rfl (S.nofree _ (PySem.mem_of_lookup hy))
  · exact Nat.le_of_lt (x.above y c (PySem.mem_of_lookup h))
  · have hi : i < vs.length := by
      unfold start at h2
      by_cases hi : i < vs.length
      · exact hi
      · rw [List.getElem?_append_right (by simpa using hi)] at h2
        rw [List.getElem?_replicate] at h2
        split at h2 <;> cases h2
    have ha : vs[i]? = some v := by
      unfold start at h2
      rw [List.getElem?_append_left (by simpa using hi), List.getElem?_map] at h2
      cases e : vs[i]? with
      | none => rw [e] at h2; cases h2
      | some a => rw [e] at h2; cases h2; rfl
    obtain ⟨u, hu, rv⟩ := r.get ha
    have hp : ps[i]? = some y := by
      rw [← S.pre, List.getElem?_take_of_lt (by omega)]; exact h1
    have ndP : ps.Nodup := by rw [← S.pre]; exact S.nd.sublist (List.take_sublist _ _)
    refine ⟨u, rv, ?_⟩
    rcases S.par y (List.mem_of_getElem? hp) with k | k
    · exact .inl ⟨k, bindL_get ndP hp hu k⟩
    · obtain ⟨c, e⟩ := cell_has (n := s.heap.objs.size + 1) k
      refine .inr ⟨.inl k, c, e, ?_⟩
      have q := x.cell y c e
      rw [bindC_get ndP hp hu (by show scope.names.lookup y ≠ _; rw [k]; decide)] at q
      exact q
  · exact e0.hok.fresh (Nat.le_of_lt (x.above y c (PySem.mem_of_lookup h)))
  · unfold start
    show _ = N.length
    rw [List.length_append, List.length_map, List.length_replicate]
    omega

/-- THE RULE: a def (or a method) of the text, by its body. The body's reading t is chosen for each entry; it is run at the parameters' values -/
theorem fn_of {CX : CXT} {P : Program} {w : World} {K : PySem.W.Frag} {mg : Str → Option Value} {base : Heap} {k : Nat} {f : Addr} {name qual : Str} {params : Arguments} {body : List Stmt} {scope : Scope} {dV kV doc pm cdv ct oc : Value} {an od : Option Addr}
    {osl : Array (Option Value)} {N ps : List Str} {sp : Sp} (lk : K.lookup f = some ⟨oc, od, .func (PySem.W.fnOf name qual params body scope dV kV doc pm an cdv ct), osl⟩) (hcd : PySem.W.codeIn K cdv qual = true) (S : FnScope N ps scope)
    (len : ∀ vs H Q E, sp vs H Q E → vs.length = ps.length)
    (hbody : ∀ (A : Around) (outer : List Env) (s : Shared) (H : Hp) (vs : List V) (Q : VK) (E : XK), Room k (A.deeper (envOfC qual scope s.heap.objs.size f cdv)) → sp vs H Q E →
      ∃ t, PSs (cxOf CX P w K mg base N qual scope f cdv A outer s H E) body t ∧ t { nx := fun _ H' => Q .non H', rt := Q } (start N vs) H) :
    FnOk P w K mg base CX (k + 1) f (PySem.W.fnOf name qual params body scope dV kV doc pm an cdv ct) ps sp := by
  refine ⟨len, fun A outer s H args us vs Q E hr e0 hb r hsp => ?_⟩
  have hl := len _ _ _ _ hsp
  have KX : K.In s.heap := e0.mod.kin.keeps fun b o e => (e0.bs b o e).1
  have lim : s.heap.NoLimit := e0.mod.nolimit.keeps fun b o e => (e0.bs b o e).1
  have hkind : ∀ y ∈ ps.zip us, scope.names.lookup y.1 = some .local ∨ (scope.names.lookup y.1 = some .cell ∧ ((cellsFrom (s.heap.objs.size + 1) scope.names []).lookup y.1).isSome = true) := fun ⟨n, v⟩ hy => by
    rcases S.par n (List.of_mem_zip hy).1 with q | q
    · exact .inl q
    · exact .inr ⟨q, PySem.W.cellsFrom_some _ _ _ (.inl q)⟩
  refine codeAny_call_function hr.depth (KX _ _ lk) rfl S.co S.gen rfl (PySem.W.codeRec_of KX hcd) (hb _ _ _ _ ?_)
  refine wpAny_newFunctionEnv_cells S.kind hkind fun env he s1 x => ?_
  subst he
  refine ⟨lim.keeps x.toInCall.keep, codeAny_func ?_⟩
  obtain ⟨t, ht, hq⟩ := hbody A outer s H vs Q E (hr.deeper _) hsp
  have I : Inv (cxOf CX P w K mg base N qual scope f cdv A outer s H E) [] (start N vs) H s1 := inv_start S hr.hd e0 hl r x
  refine wpAny_mono (ht [] s1 (start N vs) H _ I hq) (fun fl s' hs => ?_) fun e s' hs => hs
  have fin : ∀ {σ' : St} {H' : Hp} {v : V} {u : Value}, Inv (cxOf CX P w K mg base N qual scope f cdv A outer s H E) [] σ' H' s' → RelV v u → Q v H' → CE outer P w H s Q u s' :=
    fun {σ' H' v u} J rv q => ⟨v, H', J.os, J.bare, J.base, J.hok, rv, q⟩
  cases fl with
  | ret u =>
    obtain ⟨v, σ', H', J, rv, q⟩ := hs
    exact fin J rv q
  | next =>
    obtain ⟨σ', H', J, q⟩ := hs
    exact fin (v := V.non) (u := Value.none) J rfl q
  | brk =>
    obtain ⟨_, _, _, q⟩ := hs
    exact False.elim q
  | cont =>
    obtain ⟨_, _, _, q⟩ := hs
    exact False.elim q
end L2

namespace L2
open PySem PySem.Spec PyProof.Rows
section
variable {X : Cx} {x : Str} {p pos : Pos} {e : Expr} {es : List Expr} {t : TA} {id T : String} {r : List V → Hp → VK → Prop}

def tCB (r : List V → Hp → VK → Prop) (t : TA) : TE := fun σ H Q => t σ H fun vs H1 => r vs H1 Q
/-- f(e, ..), f a built-in function -/
theorem pe_callB (hc : CallR X (.builtin id) r) (hg : Gl X x) (hm : X.mg x = none) (hv : bootBuiltins x = some (.builtin id)) (ha : PA X (e :: es) t) (hn : x ≠ "__name__" := by decide) (hdb : (x == ("__debug__" : Str)) = false := by decide)
    (he : starEach (e :: es) X.env = (false, eval e X.env) :: starEach es X.env := by rfl) (hpl : (backTo pos (starEach es X.env)).any (·.1) = false := by rfl) : PE X (.Call (.Name x p) (e :: es) [] pos) (tCB r t) := by
  intro pins s σ H Q I h
  refine wpAny_Call_Name_kw (ld_blt I hg hm hv ?_ hn hdb)
  exact PyProof.Rows.callWith_builtin1 (thn (ha pos pins s σ H _ I h) fun us s1 ⟨vs, H1, I1, r1, q1⟩ => hc pins s1 σ H1 vs us Q I1 r1 q1) he hpl
/-- T(e, ..), T a built-in type -/
theorem pe_callTy (hc : CallR X (.type T) r) (hg : Gl X x) (hm : X.mg x = none) (hv : bootBuiltins x = some (.type T)) (ha : PA X (e :: es) t) (hn : x ≠ "__name__" := by decide) (hdb : (x == ("__debug__" : Str)) = false := by decide)
    (he : starEach (e :: es) X.env = (false, eval e X.env) :: starEach es X.env := by rfl) (hpl : (backTo pos (starEach es X.env)).any (·.1) = false := by rfl) : PE X (.Call (.Name x p) (e :: es) [] pos) (tCB r t) := by
  intro pins s σ H Q I h
  refine wpAny_Call_Name_kw (ld_blt I hg hm hv ?_ hn hdb)
  exact PyProof.Rows.callWith_type1 (thn (ha pos pins s σ H _ I h) fun us s1 ⟨vs, H1, I1, r1, q1⟩ => hc pins s1 σ H1 vs us Q I1 r1 q1) he hpl
/-- T() -/
theorem pe_callTy0 (hc : CallR X (.type T) r) (hg : Gl X x) (hm : X.mg x = none) (hv : bootBuiltins x = some (.type T)) (hn : x ≠ "__name__" := by decide) (hdb : (x == ("__debug__" : Str)) = false := by decide) :
    PE X (.Call (.Name x p) [] [] pos) (tCB r tNil) := by
  intro pins s σ H Q I h
  refine wpAny_Call_Name_kw (ld_blt I hg hm hv ?_ hn hdb)
  exact PyProof.Rows.callWith_type0 (hc pins s σ H [] [] Q I .nil h)
end
end L2

namespace HT
open PySem PyProof.Rows

/-- t < u of tuples of ints -/
def lexLt : List Int → List Int → Bool
  | [], [] => false
  | [], _ :: _ => true
  | _ :: _, [] => false
  | x :: xs, y :: ys => if x = y then lexLt xs ys else decide (x < y)
theorem lexLt_cons (x y : Int) (xs ys : List Int) : lexLt (x :: xs) (y :: ys) = if x = y then lexLt xs ys else decide (x < y) := rfl
theorem lexLt_nil_nil : lexLt [] [] = false := rfl
theorem lexLt_nil_cons (y : Int) (ys : List Int) : lexLt [] (y :: ys) = true := rfl
theorem lexLt_cons_nil (x : Int) (xs : List Int) : lexLt (x :: xs) [] = false := rfl

theorem eqAt_int (A : Around) (s : Shared) (a : Int) (t : Tok) (c : Int) (u : Tok) : ∃ e, SeqAt.EqAt A s (.int a t) (.int c u) e ∧ (e = true ↔ a = c) :=
  ⟨(a == c), SeqAt.EqAt.int_int a t c u, by simp⟩
theorem rcLt_int (A : Around) (s : Shared) (a : Int) (t : Tok) (c : Int) (u : Tok) (prog : Program) (w : World) (E : Value → Shared → Prop) (Q : Value → Shared → Prop) (h : Q (.bool (decide (a < c))) s) :
    wpAny (model prog w) A (richCompare .Lt (.int a t) (.int c u)) Q E s :=
  (PyProof.Rows.lt_int h : wpAny (model prog w) A (compareOp .Lt (.int a t) (.int c u)) Q E s)

section
open PySem.SeqAt
open PySem.AutoSeq1 (wpAny_loadPart')
open PySem.MeetsSeq PySem.MeetsSeq2 PySem.MeetsSeq3

theorem tuple_lt_ints (l b : Addr) (items items2 : Array Value) (n n2 : Nat) (dd dd2 : Option Addr) (sl sl2 : Array (Option Value)) (ns ms : List Int) (hi : IntsAre items.toList ns) (hj : IntsAre items2.toList ms) :
    Meets (Builtin.«tuple.__lt__» ⟨[.ref l, .ref b], []⟩)
      (fun _ R s => s.heap.get? l = some { cls := .type "tuple", dict := dd, data := .seq items n, slots := sl } ∧ s.heap.get? b = some { cls := .type "tuple", dict := dd2, data := .seq items2 n2, slots := sl2 } ∧
        R (.ok (.ret (.bool (lexLt ns ms)))) s) :=
  .of_wp fun prog w A R s h => by
    obtain ⟨hp, g, d, tk, os⟩ := s; obtain ⟨hl, hb, h⟩ := h
    have f2 := AutoSeq1.sub_tuple_tuple
    have z1 : items.size = ns.length := by rw [← hi.length]; simp
    have z2 : items2.size = ms.length := by rw [← hj.length]; simp
    wp_walk using wpAny_loadPart' hl, wpAny_loadPart' hb, wpAny_forIn_list _ (fun rest b s' => b.1 = none ∧ s' = ⟨hp, g, d, tk, os⟩ ∧ ∃ (vs ws : List Value) (ns' ms' : List Int), rest = vs.zip ws ∧
      IntsAre vs ns' ∧ IntsAre ws ms' ∧ ns'.length + items2.size = ms'.length + items.size ∧ R (.ok (.ret (.bool (lexLt ns' ms')))) ⟨hp, g, d, tk, os⟩) _
    case turn =>
      rintro ⟨y, x⟩ rest b s' ⟨hb', rfl, vs, ws, ns', ms', hz, hvi, hwi, hlen, hR⟩
      cases hvi with
      | nil => rw [List.zip_nil_left] at hz; cases hz
      | cons a t hvi' =>
        cases hwi with
        | nil => rw [List.zip_nil_right] at hz; cases hz
        | cons c u hwi' =>
          rw [List.zip_cons_cons] at hz
          injection hz with hyx hrest
          injection hyx with hy hx
          subst hy hx
          rw [lexLt_cons] at hR
          simp only [List.length_cons] at hlen
          obtain ⟨e, he, hiff⟩ := eqAt_int A.in1 ⟨hp, g, d, tk, os⟩ a t c u
          refine wpAny_bind (he prog w _ _ ?_)
          cases e with
          | true =>
            rw [if_pos (hiff.mp rfl)] at hR
            wp_walk
            exact ⟨rfl, rfl, _, _, _, _, hrest, hvi', hwi', by omega, hR⟩
          | false =>
            rw [if_neg (fun q => absurd (hiff.mpr q) Bool.false_ne_true)] at hR
            have hri := rcLt_int A.in1 ⟨hp, g, d, tk, os⟩ a t c u prog w
            wp_walk using hri
            exact ⟨_, rfl, by simpa using hR⟩
    case fin =>
      rintro ⟨b1, b2⟩ s' ⟨hb', rfl, vs, ws, ns', ms', hz, hvi, hwi, hlen, hR⟩
      simp only at hb'
      subst hb'
      have hv : lexLt ns' ms' = decide (items.size < items2.size) := by
        cases hvi with
        | nil =>
          cases hwi with
          | nil =>
            simp only [List.length_nil] at hlen
            rw [lexLt_nil_nil]
            exact (decide_eq_false (by omega)).symm
          | cons c u hw =>
            simp only [List.length_nil, List.length_cons] at hlen
            rw [lexLt_nil_cons]
            exact (decide_eq_true (by omega)).symm
        | cons a t hv =>
          cases hwi with
          | nil =>
            simp only [List.length_nil, List.length_cons] at hlen
            rw [lexLt_cons_nil]
            exact (decide_eq_false (by omega)).symm
          | cons c u hw =>
            rw [List.zip_cons_cons] at hz
            cases hz
      rw [hv] at hR
      wp_walk
      exact ⟨_, rfl, by simpa [Builtin.Tuple.tupleCompareSizes] using hR⟩
    case h =>
      exact ⟨rfl, rfl, items.toList, items2.toList, ns, ms, rfl, hi, hj, by omega, h⟩
end

section
variable {prog : Program} {w : World} {A : Around} {E : Value → Shared → Prop} {s : Shared}

theorem lt_tupInts {l b : Addr} {items items2 : Array Value} {ns ms : List Int} {Q : Value → Shared → Prop} (hl : IsTup s.heap l items) (hb : IsTup s.heap b items2) (hi : IntsAre items.toList ns) (hj : IntsAre items2.toList ms)
    (hu : A.units < cLine) (h : Q (.bool (lexLt ns ms)) s) : wpAny (model prog w) A (compareOp .Lt (.ref l) (.ref b)) Q E s := by
  obtain ⟨⟨cls, dd, data, sl⟩, ho, hc, n, hd⟩ := id hl
  obtain ⟨⟨cls2, dd2, data2, sl2⟩, ho2, hc2, n2, hd2⟩ := id hb
  simp only at hc hd hc2 hd2
  subst hc hd hc2 hd2
  exact richCompare_meets_room (op := .Lt) ⟨_, ho, rfl⟩ ⟨_, ho2, rfl⟩ PySem.F.slot_tuple_lt PySem.F.entry_tuple_lt (PySem.F.args_tuple_lt_2 _ _) (tuple_lt_ints l b items items2 n n2 dd dd2 sl sl2 ns ms hi hj)
    ⟨ho, ho2, show Value.bool (lexLt ns ms) ≠ Value.notImplemented ∧ Q (.bool (lexLt ns ms)) s from ⟨(fun x => nomatch x), h⟩⟩ hu

/-- t + u, t not empty -/
theorem cat_tup {t b : Addr} {vs ws : List Value} {Q : Value → Shared → Prop} (ht : IsTup s.heap t vs.toArray) (hb : IsTup s.heap b ws.toArray) (hv : vs ≠ [])
    (h1 : ws = [] → Q (.ref t) s) (h2 : ws ≠ [] → Q (.ref s.heap.objs.size) { s with heap := s.heap.push { cls := .type "tuple", data := .seq (vs ++ ws).toArray } })
    (hsz : vs.length + ws.length ≤ sizeLine) : wpAny (model prog w) A (binaryOp .Add (.ref t) (.ref b)) Q E s := by
  obtain ⟨⟨cls, dd, data, sl⟩, ho, hc, n, hd⟩ := id ht
  obtain ⟨⟨cls2, dd2, data2, sl2⟩, ho2, hc2, n2, hd2⟩ := id hb
  simp only at hc hd hc2 hd2
  subst hc hd hc2 hd2
  have e : vs.toArray ++ ws.toArray = (vs ++ ws).toArray := by simp
  by_cases hw : ws = []
  · exact concat_meets ⟨_, ho, rfl⟩ ⟨_, ho2, rfl⟩ noFill_tuple_add seq_tuple_add PySem.F.slot_tuple_add PySem.F.entry_tuple_add (PySem.F.args_tuple_add_2 _ _)
      (tuple_addW1 t b vs.toArray ws.toArray n n2 dd dd2 sl sl2 (by simpa using hv) (by simp [hw])) ⟨ho, ho2, h1 hw⟩
  · refine concat_meets ⟨_, ho, rfl⟩ ⟨_, ho2, rfl⟩ noFill_tuple_add seq_tuple_add PySem.F.slot_tuple_add PySem.F.entry_tuple_add (PySem.F.args_tuple_add_2 _ _)
      (tuple_addW2 t b vs.toArray ws.toArray n n2 dd dd2 sl sl2 (by simpa using hv) (by simpa using hw) (by rw [List.size_toArray, List.size_toArray]; exact hsz)) ⟨ho, ho2, ?_⟩
    rw [e]
    exact h2 hw

/-! ### t[a:b], not the whole -/
/-- a slice's bound as a place among n (d where it is left out) -/
def sIx (n d : Nat) : Option Int → Nat
  | none => d
  | some v => if v < 0 then (v + (n : Int)).toNat else min v.toNat n
theorem sIx_none (n d : Nat) : sIx n d none = d := rfl
theorem sIx_nat (n d k : Nat) : sIx n d (some (k : Int)) = min k n := by
  show (if (k : Int) < 0 then ((k : Int) + (n : Int)).toNat else min (k : Int).toNat n) = min k n
  rw [if_neg (by omega), Int.toNat_natCast]
theorem sIx_le (n d : Nat) (hd : d ≤ n) (o : Option Int) : sIx n d o ≤ n := by
  cases o with
  | none => exact hd
  | some v =>
    show (if v < 0 then (v + (n : Int)).toNat else min v.toNat n) ≤ n
    by_cases hv : v < 0
    · rw [if_pos hv]; omega
    · rw [if_neg hv]; exact Nat.min_le_right _ _
theorem clip_eq (v : Int) (n d : Nat) : (if v < 0 then max (v + (n : Int)) 0 else min v (n : Int)) = ((sIx n d (some v) : Nat) : Int) := by
  show (if v < 0 then max (v + (n : Int)) 0 else min v (n : Int)) = (((if v < 0 then (v + (n : Int)).toNat else min v.toNat n) : Nat) : Int)
  by_cases hv : v < 0
  · simp only [if_pos hv]; omega
  · simp only [if_neg hv]; omega
theorem adjust_gen (lo hi : Option Int) (n : Nat) : Builtin.Slice.sliceAdjust lo hi 1 (n : Int) = (((sIx n 0 lo : Nat) : Int), ((sIx n n hi : Nat) : Int)) := by
  have h1 : ¬ ((1 : Int) < 0) := by omega
  unfold Builtin.Slice.sliceAdjust
  simp only [h1, if_false]
  refine Prod.ext ?_ ?_
  · cases lo with
    | none => rfl
    | some v => exact clip_eq v n 0
  · cases hi with
    | none => rfl
    | some v => exact clip_eq v n n
theorem places_gen (i j : Nat) : Builtin.Slice.slicePlaces (i : Int) (j : Int) 1 = j - i := by
  unfold Builtin.Slice.slicePlaces
  have h1 : (1 : Int) > 0 := by omega
  simp only [h1, if_true, Int.ediv_one]
  split <;> omega
theorem slicePart_ {v : Value} {o : Option Int} {Q : Option Int → Shared → Prop} (p : IsPart v o) (h : Q o s) : wpAny (model prog w) A (Builtin.Slice.slicePartIndex v) Q E s := by
  cases p with
  | none => exact slicePart_none h
  | int i t => exact slicePart_int h
theorem sliceApplied_gen {sl : Addr} {vl vu : Value} {lo hi : Option Int} {n : Nat} {Q : Int × Int × Nat → Shared → Prop} (hs : s.heap.IsSliceOf sl vl vu .none) (pl : IsPart vl lo) (pu : IsPart vu hi)
    (h : Q (((sIx n 0 lo : Nat) : Int), 1, sIx n n hi - sIx n 0 lo) s) : wpAny (model prog w) A (Builtin.Slice.sliceApplied (.ref sl) (pure (n : Int))) Q E s := by
  obtain ⟨os, hos, hcs, hds⟩ := id hs
  unfold Builtin.Slice.sliceApplied Builtin.Slice.sliceFields
  refine wpAny_bind (wpAny_bind (wpAny_field hos hds (x := vl) rfl (wpAny_bind (wpAny_field hos hds (x := vu) rfl (wpAny_bind (wpAny_field hos hds (x := .none) rfl (wpAny_pure ?_)))))))
  refine wpAny_bind (slicePart_none ?_)
  show wpAny _ _ (if ((1 : Int) == 0) = true then _ else _) _ _ s
  rw [if_neg (by decide)]
  refine wpAny_bind (slicePart_ pl (wpAny_bind (slicePart_ pu (wpAny_bind (wpAny_pure ?_)))))
  show wpAny _ _ (match Builtin.Slice.sliceAdjust lo hi 1 (n : Int) with | (lo, hi) => pure (lo, (1 : Int), Builtin.Slice.slicePlaces lo hi 1)) _ _ s
  rw [adjust_gen lo hi n]
  show wpAny _ _ (pure (((sIx n 0 lo : Nat) : Int), (1 : Int), Builtin.Slice.slicePlaces ((sIx n 0 lo : Nat) : Int) ((sIx n n hi : Nat) : Int) 1)) _ _ s
  rw [places_gen]
  exact wpAny_pure h
theorem pick_gen (xs : Array Value) (i k : Nat) : ((List.range k).filterMap fun (m : Nat) => xs[((i : Int) + (m : Int) * 1).toNat]?).toArray = ((xs.toList.drop i).take k).toArray := by
  have e : (fun (m : Nat) => xs[((i : Int) + (m : Int) * 1).toNat]?) = fun m => xs[i + m]? := by
    funext m
    have : ((i : Int) + (m : Int) * 1).toNat = i + m := by omega
    rw [this]
  rw [e]
  have := pick_run xs i k
  rw [List.filterMap_map] at this
  have e2 : ((fun x => xs[x]?) ∘ fun x => i + x) = fun m => xs[i + m]? := rfl
  rw [e2] at this
  rw [this]

theorem getItem_tuple_cut {t sl : Addr} {items : Array Value} {vl vu : Value} {lo hi : Option Int} {Q : Value → Shared → Prop} (ht : IsTup s.heap t items) (hs : s.heap.IsSliceOf sl vl vu .none) (pl : IsPart vl lo) (pu : IsPart vu hi)
    (hw : ¬ (sIx items.size 0 lo = 0 ∧ sIx items.size items.size hi = items.size))
    (h : Q (.ref s.heap.objs.size) { s with heap := s.heap.push { cls := .type "tuple", data := .seq ((items.toList.drop (sIx items.size 0 lo)).take (sIx items.size items.size hi - sIx items.size 0 lo)).toArray } })
    (hsz : items.size ≤ sizeLine) : wpAny (model prog w) A (getItem (.ref t) (.ref sl)) Q E s := by
  have htake : sizeOk (.seq ((items.toList.drop (sIx items.size 0 lo)).take (sIx items.size items.size hi - sIx items.size 0 lo)).toArray) := by
    show ((items.toList.drop (sIx items.size 0 lo)).take (sIx items.size items.size hi - sIx items.size 0 lo)).toArray.size ≤ sizeLine
    rw [List.size_toArray, List.length_take, List.length_drop, Array.length_toList]
    omega
  have hj : sIx items.size items.size hi ≤ items.size := sIx_le _ _ (Nat.le_refl _) hi
  obtain ⟨os, hos, hcs, hds⟩ := id hs
  have hTs : s.TypeIs (.ref sl) "slice" := ⟨os, hos, hcs⟩
  unfold getItem
  try with_reducible refine wpAny_holding ?_
  first | refine wpAny_bind (wpAny_pure ?_) | skip
  refine wpAny_bind (wpAny_sequenceKey ht.typeIs (by decide) ?_)
  refine wpAny_bind (wpAny_callSpecial?_slot (name := Str.ofString "__getitem__") ht.typeIs PyProof.Rows.slot_tuple_getitem
    (wpAny_call_entry PyProof.Rows.slot_tuple_getitem ht.typeIs entry_tuple_getitem ?_ (args_tuple_getitem _ _)))
  show wpAny _ _ (Builtin.Tuple.tupleItemsOf (.ref t) >>= _) _ _ s
  refine wpAny_bind (tupleItemsOf_ ht ?_)
  refine wpAny_bind (wpAny_typeOf hTs ?_)
  rw [if_pos (by decide)]
  refine wpAny_bind (sliceApplied_gen hs pl pu ?_)
  have hno : ¬ ((((sIx items.size 0 lo : Nat) : Int) == 0 && (1 : Int) == 1 && (sIx items.size items.size hi - sIx items.size 0 lo) == items.size) = true) := by
    intro q
    rw [Bool.and_eq_true, Bool.and_eq_true] at q
    have q1 : ((sIx items.size 0 lo : Nat) : Int) = 0 := eq_of_beq q.1.1
    have q2 : sIx items.size items.size hi - sIx items.size 0 lo = items.size := eq_of_beq q.2
    exact hw ⟨by omega, by omega⟩
  show wpAny _ _ (if (((sIx items.size 0 lo : Nat) : Int) == 0 && (1 : Int) == 1 && (sIx items.size items.size hi - sIx items.size 0 lo) == items.size) = true then _ else _) _ _ s
  rw [if_neg hno, pick_gen]
  first
    | exact wpAny_bind (m := Builtin.Tuple.tupleExact _) (wpAny_newObj_type (wpAny_pure ⟨_, rfl, wpAny_pure h⟩) htake)
    | exact wpAny_bind (m := Builtin.Tuple.tupleExact _) (wpAny_newObj_type (wpAny_bind (wpAny_pure (wpAny_pure ⟨_, rfl, wpAny_pure h⟩))) htake)
    | exact wpAny_bind (wpAny_bind (m := Builtin.Tuple.tupleExact _) (wpAny_newObj_type (wpAny_pure (wpAny_pure ⟨_, rfl, wpAny_pure h⟩)) htake))
    | exact wpAny_bind (wpAny_bind (m := Builtin.Tuple.tupleExact _) (wpAny_newObj_type (wpAny_pure ⟨_, rfl, wpAny_pure h⟩) htake))
end
end HT

namespace L2
open PySem PySem.Spec PyProof.Rows

/-! ### the parts of a slice -/
abbrev TO := St → Hp → (Option Int → Hp → Prop) → Prop
/-- a slice's part (left out, or an int) -/
def PO (X : Cx) (e : Option Expr) (t : TO) : Prop :=
  ∀ (pins : List (Addr × Obj)) (s : Shared) (σ : St) (H : Hp) (Q : Option Int → Hp → Prop), Inv X pins σ H s → t σ H Q →
    wpAny (model X.prog X.w) X.A (evalPart e X.env) (fun u s' => ∃ o H', Inv X pins σ H' s' ∧ IsPart u o ∧ Q o H') X.xe s
def tNoPart : TO := fun _ H Q => Q none H
def tPart (t : TE) : TO := fun σ H Q => t σ H fun x H1 => ∃ i, x = .int i ∧ Q (some i) H1

theorem intsAre_of {ns : List Int} : ∀ {us : List Value}, Vals (ns.map V.int) us → IntsAre us ns := by
  induction ns with
  | nil => intro us r; rw [List.map_nil] at r; cases r; exact .nil
  | cons n ns ih =>
    intro us r
    rw [List.map_cons] at r
    cases r with
    | cons r1 r2 =>
      obtain ⟨t, e⟩ := r1
      subst e
      exact .cons n t (ih r2)

section
variable {X : Cx} {e : Expr} {te : TE} {lo hi : Option Expr} {tl th : TO} {pos p2 : Pos}

theorem po_none : PO X none tNoPart := by
  intro pins s σ H Q I h
  rw [evalPart_none]
  exact wpAny_pure ⟨none, H, I, .none, h⟩
theorem po_some (h : PE X e te) : PO X (some e) (tPart te) := by
  intro pins s σ H Q I hw
  rw [evalPart_some]
  refine thn (h pins s σ H _ I hw) fun u s1 ⟨x, H1, I1, r1, q1⟩ => ?_
  obtain ⟨i, rfl, q⟩ := q1
  obtain ⟨t, rfl⟩ := r1
  exact ⟨some i, H1, I1, .int i t, q⟩

/-- what a slice of a value is, by values: the slice object stands at sl -/
def SlR (X : Cx) (r : V → Option Int → Option Int → Hp → VK → Prop) : Prop :=
  ∀ (pins : List (Addr × Obj)) (s : Shared) (σ : St) (H : Hp) (x : V) (v vl vu : Value) (lo hi : Option Int) (sl : Addr) (Q : VK), Inv X pins σ H s → RelV x v → s.heap.IsSliceOf sl vl vu .none → IsPart vl lo → IsPart vu hi → r x lo hi H Q →
    ∃ T id, typeLookup (.type T) "__getitem__" = pure (some (.builtin id)) ∧ s.TypeIs v T ∧ wpAny (model X.prog X.w) X.A (getItem v (.ref sl)) (EP X pins σ Q) X.xe s
theorem SlR.or {r r' : V → Option Int → Option Int → Hp → VK → Prop} (h : SlR X r) (h' : SlR X r') : SlR X (fun x lo hi H Q => r x lo hi H Q ∨ r' x lo hi H Q) := by
  intro pins s σ H x v vl vu lo hi sl Q I rx hs pl pu q
  rcases q with q | q
  · exact h pins s σ H x v vl vu lo hi sl Q I rx hs pl pu q
  · exact h' pins s σ H x v vl vu lo hi sl Q I rx hs pl pu q
def tSl (r : V → Option Int → Option Int → Hp → VK → Prop) (te : TE) (tl th : TO) : TE := fun σ H Q => te σ H fun x H1 => tl σ H1 fun l H2 => th σ H2 fun u H3 => r x l u H3 Q
/-- a[lo:hi], any a -/
theorem pe_slice {r : V → Option Int → Option Int → Hp → VK → Prop} (hr : SlR X r) (he : PE X e te) (hl : PO X lo tl) (hu : PO X hi th) : PE X (.Subscript e (.Slice lo hi none p2) pos) (tSl r te tl th) := by
  intro pins s σ H Q I h
  refine Subscript_ (thn (he pins s σ H _ I h) fun v s1 ⟨x, H1, I1, r1, q1⟩ => ?_)
  refine wpAny_Slice (thn (hl pins s1 σ H1 _ I1 q1) fun vl s2 ⟨l, H2, I2, pl, q2⟩ => thn (hu pins s2 σ H2 _ I2 q2) fun vu s3 ⟨u, H3, I3, pu, q3⟩ => ?_)
  rw [evalPart_none]
  refine wpAny_pure ?_
  have I4 : Inv X pins σ H3 { s3 with heap := s3.heap.push { cls := .type "slice", data := .fields #[vl, vu, .none] } } := I3.kept (t' := s3.toks) fun b ob q => Heap.get?_push_of_some _ q
  obtain ⟨T, id, hT, ht, hg⟩ := hr pins { s3 with heap := s3.heap.push { cls := .type "slice", data := .fields #[vl, vu, .none] } } σ H3 x v vl vu l u s3.heap.objs.size Q I4 r1 (Heap.IsSliceOf.new ..) pl pu q3
  show wpAny (model X.prog X.w) X.A (subscriptTail e (.Slice lo hi none p2) v (.ref s3.heap.objs.size)) (EP X pins σ Q) X.xe { s3 with heap := s3.heap.push { cls := .type "slice", data := .fields #[vl, vu, .none] } }
  exact tail_any (ops := [.ref s3.heap.objs.size, v]) ht hT hg (by with_unfolding_all rfl)

/-- the items of xs[lo:hi] -/
def cutV (xs : List V) (lo hi : Option Int) : List V := (xs.drop (HT.sIx xs.length 0 lo)).take (HT.sIx xs.length xs.length hi - HT.sIx xs.length 0 lo)
theorem cutV_length (xs : List V) (lo hi : Option Int) : (cutV xs lo hi).length ≤ xs.length := by
  unfold cutV
  rw [List.length_take, List.length_drop]
  omega
/-- t[lo:hi], not the whole of it (the whole would be t itself) -/
def rSlT (K : PySem.W.Frag) : V → Option Int → Option Int → Hp → VK → Prop := fun x lo hi H Q => ∃ a xs, x = .ref a ∧ SqT K H a xs ∧
  ¬ (HT.sIx xs.length 0 lo = 0 ∧ HT.sIx xs.length xs.length hi = xs.length) ∧ ∀ p, H p = none → Q (.ref p) (upd H p (.tup (cutV xs lo hi)))
theorem sl_tup : SlR X (rSlT X.K) := by
  intro pins s σ H x v vl vu lo hi sl Q I rx hs pl pu h
  obtain ⟨a, xs, rfl, hx, hw, q⟩ := h
  cases rx
  obtain ⟨its, r, ht, hz⟩ := I.tuple hx
  have hlen : its.toArray.size = xs.length := by rw [List.size_toArray]; exact r.length.symm
  refine ⟨"tuple", _, PyProof.Rows.slot_tuple_getitem.lookup, ht.typeIs, ?_⟩
  refine HT.getItem_tuple_cut ht hs pl pu (by rw [hlen]; exact hw) ?_ (by rw [hlen]; exact hz)
  rw [hlen]
  refine ⟨.ref s.heap.objs.size, _, I.laid (t' := s.toks) (o := .tup (cutV xs lo hi)) (fun b ob q => Heap.get?_push_of_some _ q) (Nat.le_refl _) ?_, rfl, q _ (I.hok.fresh (Nat.le_refl _))⟩
  exact ⟨Nat.le_trans (cutV_length xs lo hi) hz, _, (r.drop (HT.sIx xs.length 0 lo)).take (HT.sIx xs.length xs.length hi - HT.sIx xs.length 0 lo), IsTup.new _ _⟩

/-! ### t < u, t + u -/
def rLtT (K : PySem.W.Frag) : R2 := fun x y H Q => ∃ a b ns ms, x = .ref a ∧ y = .ref b ∧ SqT K H a (ns.map V.int) ∧ SqT K H b (ms.map V.int) ∧ Q (.bl (HT.lexLt ns ms)) H
theorem op_ltT (hu : X.A.units < cLine) : OpR X (compareOp .Lt) (rLtT X.K) := by
  intro pins s σ H x y v u Q I rx ry h
  obtain ⟨a, b, ns, ms, rfl, rfl, ha, hb, q⟩ := h
  cases rx
  cases ry
  obtain ⟨its, r1, p1, _⟩ := I.tuple ha
  obtain ⟨its2, r2, p2, _⟩ := I.tuple hb
  have i1 : IntsAre its.toArray.toList ns := intsAre_of r1
  have i2 : IntsAre its2.toArray.toList ms := intsAre_of r2
  exact HT.lt_tupInts p1 p2 i1 i2 hu ⟨.bl (HT.lexLt ns ms), H, I, rfl, q⟩
/-- t + u, t not empty: u empty gives t itself -/
def rCatT (K : PySem.W.Frag) : R2 := fun x y H Q => ∃ a b xs ys, x = .ref a ∧ y = .ref b ∧ SqT K H a xs ∧ SqT K H b ys ∧ xs ≠ [] ∧ xs.length + ys.length ≤ sizeLine ∧
  (ys = [] → Q (.ref a) H) ∧ (ys ≠ [] → ∀ p, H p = none → Q (.ref p) (upd H p (.tup (xs ++ ys))))
theorem Vals.nil_iff {xs : List V} {us : List Value} (r : Vals xs us) : us = [] ↔ xs = [] := by
  cases r with
  | nil => simp
  | cons _ _ => simp
theorem op_catT : OpR X (binaryOp .Add) (rCatT X.K) := by
  intro pins s σ H x y v u Q I rx ry h
  obtain ⟨a, b, xs, ys, rfl, rfl, ha, hb, hx, hz, q1, q2⟩ := h
  cases rx
  cases ry
  obtain ⟨its, r1, p1, _⟩ := I.tuple ha
  obtain ⟨its2, r2, p2, _⟩ := I.tuple hb
  refine HT.cat_tup p1 p2 (fun z => hx (r1.nil_iff.mp z)) (fun z => ⟨.ref a, H, I, rfl, q1 (r2.nil_iff.mp z)⟩) (fun z => ?_) (by rw [← r1.length, ← r2.length]; exact hz)
  refine ⟨.ref s.heap.objs.size, _, I.laid (t' := s.toks) (o := .tup (xs ++ ys)) (fun b ob q => Heap.get?_push_of_some _ q) (Nat.le_refl _) ?_, rfl, q2 (fun w => z (r2.nil_iff.mpr w)) _ (I.hok.fresh (Nat.le_refl _))⟩
  exact ⟨by rw [List.length_append]; exact hz, _, r1.append r2, IsTup.new _ _⟩
/-- tuple(t) -/
theorem call_tupleT : CallR X (.type "tuple") (fun xs H Q => ∃ a ys, xs = [.ref a] ∧ SqT X.K H a ys ∧ Q (.ref a) H) := by
  intro pins s σ H xs us Q I r h
  obtain ⟨a, ys, rfl, ha, q⟩ := h
  obtain ⟨u, rfl, ru⟩ := vals1 r
  cases ru
  obtain ⟨its, _, p1, _⟩ := I.tuple ha
  exact call_tuple_same (items := its.toArray) p1 ⟨.ref a, H, I, rfl, q⟩
end
end L2

namespace L2
open PySem PySem.Spec PyProof.Rows

/-! ### places -/
/-- the place that an index of any sign means -/
def ixN (n : Nat) (i : Int) : Option Nat := if 0 ≤ i then (if i < n then some i.toNat else none) else if -(n : Int) ≤ i then some (i + n).toNat else none
def atI {α : Type} (xs : List α) (i : Int) : Option α := (ixN xs.length i).bind fun j => xs[j]?
theorem ixN_seq {n : Nat} {i : Int} {j : Nat} (h : ixN n i = some j) : seqIndex? i n = some j ∧ j < n ∧ -(n : Int) ≤ i ∧ i < n := by
  unfold ixN at h
  by_cases h0 : 0 ≤ i
  · rw [if_pos h0] at h
    by_cases h1 : i < n
    · rw [if_pos h1] at h
      have e : i.toNat = j := Option.some.inj h
      exact ⟨by rw [seqIndex_of h0 h1, e], by omega, by omega, h1⟩
    · rw [if_neg h1] at h; cases h
  · rw [if_neg h0] at h
    by_cases h1 : -(n : Int) ≤ i
    · rw [if_pos h1] at h
      have e : (i + n).toNat = j := Option.some.inj h
      exact ⟨by rw [seqIndex_neg (by omega) h1, e], by omega, h1, by omega⟩
    · rw [if_neg h1] at h; cases h
theorem atI_get {α : Type} {xs : List α} {i : Int} {v : α} (h : atI xs i = some v) : ∃ j, seqIndex? i xs.length = some j ∧ xs[j]? = some v ∧ j < xs.length ∧ -(xs.length : Int) ≤ i ∧ i < xs.length := by
  unfold atI at h
  cases e : ixN xs.length i with
  | none => rw [e] at h; cases h
  | some j =>
    rw [e] at h
    obtain ⟨h1, h2, h3, h4⟩ := ixN_seq e
    exact ⟨j, h1, h, h2, h3, h4⟩
theorem atI_nat {α : Type} {xs : List α} {j : Nat} {v : α} (h : xs[j]? = some v) : atI xs (j : Int) = some v := by
  have hj : j < xs.length := (List.getElem?_eq_some_iff.mp h).1
  have e : ixN xs.length (j : Int) = some j := by
    unfold ixN
    rw [if_pos (by omega), if_pos (by omega)]; simp
  unfold atI; rw [e]; exact h
theorem atI_last {α : Type} (xs : List α) (v : α) : atI (xs ++ [v]) (-1) = some v := by
  have hl : (xs ++ [v]).length = xs.length + 1 := by simp
  have e : ixN (xs ++ [v]).length (-1) = some xs.length := by
    unfold ixN
    rw [hl, if_neg (by decide), if_pos (by omega)]
    congr 1
    omega
  unfold atI
  rw [e]
  show (xs ++ [v])[xs.length]? = some v
  simp

/-! ### what may be subscripted -/
/-- what stands as an index of a plain subscript -/
def PlainIx (b : Expr) : Prop := ∀ o i, subscripted b false o i = operate [o, i] (getItem o i)
/-- a subscript by values -/
def IxR (X : Cx) (r : R2) : Prop :=
  ∀ (value slice : Expr) (pins : List (Addr × Obj)) (s : Shared) (σ : St) (H : Hp) (x y : V) (v u : Value) (Q : VK), Inv X pins σ H s → RelV x v → RelV y u → r x y H Q →
    subscripted slice false v u = operate [v, u] (getItem v u) → wpAny (model X.prog X.w) X.A (subscriptTail value slice v u) (EP X pins σ Q) X.xe s
/-- a call of a builtin's method by values: the receiver, the arguments -/
def MtR (X : Cx) (id : String) (r : V → List V → Hp → VK → Prop) : Prop :=
  ∀ (pins : List (Addr × Obj)) (s : Shared) (σ : St) (H : Hp) (x : V) (xs : List V) (v : Value) (us : List Value) (Q : VK), Inv X pins σ H s → RelV x v → Vals xs us → r x xs H Q →
    wpAny (model X.prog X.w) X.A (call (.builtin id) (v :: us)) (EP X pins σ Q) X.xe s
section
variable {X : Cx} {a b : Expr} {ta tb : TE} {pos : Pos}
theorem IxR.or {r r' : R2} (h : IxR X r) (h' : IxR X r') : IxR X (fun x y H Q => r x y H Q ∨ r' x y H Q) := by
  intro value slice pins s σ H x y v u Q I rx ry q hs
  rcases q with q | q
  · exact h value slice pins s σ H x y v u Q I rx ry q hs
  · exact h' value slice pins s σ H x y v u Q I rx ry q hs
theorem MtR.or {id : String} {r r' : V → List V → Hp → VK → Prop} (h : MtR X id r) (h' : MtR X id r') : MtR X id (fun x xs H Q => r x xs H Q ∨ r' x xs H Q) := by
  intro pins s σ H x xs v us Q I rx rs q
  rcases q with q | q
  · exact h pins s σ H x xs v us Q I rx rs q
  · exact h' pins s σ H x xs v us Q I rx rs q
/-- a[b] -/
theorem pe_ix {r : R2} (hr : IxR X r) (ha : PE X a ta) (hb : PE X b tb) (hs : PlainIx b) : PE X (.Subscript a b pos) (tOp r ta tb) := by
  intro pins s σ H Q I h
  exact Subscript_ (binT ha hb I h fun v u s2 x y H2 I2 rx ry q => hr a b pins s2 σ H2 x y v u Q I2 rx ry q (hs _ _))

def rIxL (K : PySem.W.Frag) : R2 := fun x y H Q => ∃ p xs i v, x = .ref p ∧ y = .int i ∧ SqL K H p xs ∧ atI xs i = some v ∧ Q v H
def rIxT (K : PySem.W.Frag) : R2 := fun x y H Q => ∃ p xs i v, x = .ref p ∧ y = .int i ∧ SqT K H p xs ∧ atI xs i = some v ∧ Q v H
def rIxS : R2 := fun x y H Q => ∃ z i c, x = .str z ∧ y = .int i ∧ z.length ≤ sizeLine ∧ atI z.cps.toList i = some c ∧ Q (.str ⟨#[c]⟩) H
theorem ix_list : IxR X (rIxL X.K) := by
  intro value slice pins s σ H x y v u Q I rx ry h hs
  obtain ⟨p, xs, i, z, rfl, rfl, hq, he, q⟩ := h
  cases rx
  obtain ⟨t, rfl⟩ := ry
  obtain ⟨its, r, pl, hz⟩ := I.list hq
  obtain ⟨j, h1, h2, h3, h4, h5⟩ := atI_get he
  obtain ⟨w, ew, rw'⟩ := r.get h2
  have hl := r.length
  have hn := line63
  have fin : EP X pins σ Q w s := ⟨z, H, I, rw', q⟩
  by_cases h0 : 0 ≤ i
  · have hj : i.toNat = j := by
      rw [seqIndex_of h0 h5] at h1
      exact Option.some.inj h1
    exact item_listR pl.isList h0 (by omega) (by rw [hj]; simpa using ew) fin hs
  · have hj : (i + (its.toArray.size : Int)).toNat = j := by
      rw [seqIndex_neg (by omega) h4] at h1
      rw [List.size_toArray, ← hl]
      exact Option.some.inj h1
    exact subscriptTail_builtinR (x := w) pl.isList.typeIs slot_list_getitem.lookup
      (wpAny_getItem_list_neg (Q := fun r s' => r = w ∧ EP X pins σ Q r s') pl.isList (by omega) (by rw [List.size_toArray] <;> omega) (by omega) (by rw [hj]; simpa using ew) ⟨rfl, fin⟩) hs
theorem ix_tup : IxR X (rIxT X.K) := by
  intro value slice pins s σ H x y v u Q I rx ry h hs
  obtain ⟨p, xs, i, z, rfl, rfl, hq, he, q⟩ := h
  cases rx
  obtain ⟨t, rfl⟩ := ry
  obtain ⟨its, r, pl, hz⟩ := I.tuple hq
  obtain ⟨j, h1, h2, h3, h4, h5⟩ := atI_get he
  obtain ⟨w, ew, rw'⟩ := r.get h2
  have hl := r.length
  have hn := line63
  have fin : EP X pins σ Q w s := ⟨z, H, I, rw', q⟩
  exact subscriptTail_builtinR (x := w) pl.typeIs slot_tuple_getitem.lookup
    (getItem_tuple (j := j) (Q := fun r s' => r = w ∧ EP X pins σ Q r s') pl (by omega) (by omega) (by rw [List.size_toArray, ← hl]; exact h1) (by simpa using ew) ⟨rfl, fin⟩) hs
theorem ix_str : IxR X rIxS := by
  intro value slice pins s σ H x y v u Q I rx ry h hs
  obtain ⟨z, i, c, rfl, rfl, hz, he, q⟩ := h
  obtain ⟨t, rfl⟩ := rx
  obtain ⟨t', rfl⟩ := ry
  obtain ⟨j, h1, h2, h3, h4, h5⟩ := atI_get he
  have hl : z.cps.toList.length = z.length := by simp [Str.length]
  rw [hl] at h1 h4 h5
  have hn := line63
  exact tail_any (typeIs_str s z t) slot_str_getitem.lookup (getItem_str (c := c) (by
    have e1 : decide (i < -(2 ^ 63 : Int)) = false := decide_eq_false (by omega)
    have e2 : decide (i ≥ 2 ^ 63) = false := decide_eq_false (by omega)
    rw [e1, e2, Bool.or_false]) (by rw [h1]; simpa using h2) ⟨.str ⟨#[c]⟩, H, I.tok _, ⟨_, rfl⟩, q⟩) hs
/-- list, tuple or str -/
def rIx (K : PySem.W.Frag) : R2 := fun x y H Q => rIxL K x y H Q ∨ rIxT K x y H Q ∨ rIxS x y H Q
theorem ix_seq : IxR X (rIx X.K) := ix_list.or (ix_tup.or ix_str)

/-! ### xs[i] = v, any sign -/
/-- the list's object behind a store -/
theorem mapSeq_set (its : List Value) (n j : Nat) (u : Value) : Obj.mapSeq (·.setIfInBounds j u) { cls := .type "list", data := .seq its.toArray n } = { cls := .type "list", data := .seq (its.set j u).toArray n } := by
  simp [Obj.mapSeq]
theorem Inv.lst {pins : List (Addr × Obj)} {σ : St} {H : Hp} {s : Shared} {p : Addr} {xs : List V} (I : Inv X pins σ H s) (h : H p = some (.lst xs)) :
    ∃ (its : List Value) (n : Nat), Vals xs its ∧ s.heap.get? p = some { cls := .type "list", data := .seq its.toArray n } ∧ xs.length ≤ sizeLine := by
  obtain ⟨z, its, n, r, e⟩ := I.hok p _ h
  exact ⟨its, n, r, e, z⟩
/-- the list at p is written by an update of its object -/
theorem Inv.lstUpd {pins : List (Addr × Obj)} {σ : St} {H : Hp} {s : Shared} {p : Addr} {xs ys : List V} {its its' : List Value} {n n' : Nat} {f : Obj → Obj} (I : Inv X pins σ H s) (h : H p = some (.lst xs))
    (ho : s.heap.get? p = some { cls := .type "list", data := .seq its.toArray n }) (hf : f { cls := .type "list", data := .seq its.toArray n } = { cls := .type "list", data := .seq its'.toArray n' }) (r : Vals ys its') (hz : ys.length ≤ sizeLine) (t : Nat) :
    Inv X pins σ (upd H p (.lst ys)) { s with heap := s.heap.update p f, toks := t } := by
  have e : (s.heap.update p f).get? p = some { cls := .type "list", data := .seq its'.toArray n' } := by
    rw [Heap.get?_update_self f ho (by rw [hf] <;> rfl), hf]
  refine I.write (x := p) (e := p) (by rw [h]; trivial) (.inl rfl) (fun b u hb q => (Heap.get?_update_other _ _ (Ne.symm hb)).trans q) ⟨_, e⟩ ?_
  exact ⟨hz, its', n', r, e⟩
def rSetL : V → V → V → Hp → (Hp → Prop) → Prop := fun o i v H Q => ∃ p xs k j, o = .ref p ∧ i = .int k ∧ H p = some (.lst xs) ∧ ixN xs.length k = some j ∧ Q (upd H p (.lst (xs.set j v)))
theorem set_list : PSet X rSetL := by
  intro pins s σ H o i v ov iv u Q I ro ri rv h
  obtain ⟨p, xs, k, j, rfl, rfl, hp, hj, q⟩ := h
  cases ro
  obtain ⟨t, rfl⟩ := ri
  obtain ⟨its, n, r, ho, hz⟩ := I.lst hp
  obtain ⟨h1, h2, h3, h4⟩ := ixN_seq hj
  have hl := r.length
  have hn := line63
  have I' : Inv X pins σ (upd H p (.lst (xs.set j v))) { s with heap := s.heap.update p (Obj.mapSeq (·.setIfInBounds j u)) } :=
    I.lstUpd hp ho (mapSeq_set its n j u) (r.set rv j) (by rw [List.length_set]; exact hz) s.toks
  by_cases h0 : 0 ≤ k
  · have hk : k.toNat = j := by
      rw [seqIndex_of h0 h4] at h1
      exact Option.some.inj h1
    exact PySem.W.ki_setAt ho h0 (by omega) (by rw [List.size_toArray, ← hl]; exact h4) (by rw [hk]; exact ⟨_, I', q⟩)
  · have hk : (k + (its.toArray.size : Int)).toNat = j := by
      rw [seqIndex_neg (by omega) h3] at h1
      rw [List.size_toArray, ← hl]
      exact Option.some.inj h1
    exact PySem.W.ki_setBack ho (by omega) (by rw [List.size_toArray, ← hl]; exact h3) (by omega) (by rw [hk]; exact ⟨_, I', q⟩)

/-! ### slices -/
theorem slice_bounds (lo hi : Option Int) (n : Nat) : (sliceBounds lo hi none n).1 = ((HT.sIx n 0 lo : Nat) : Int) ∧ (sliceBounds lo hi none n).2.1 = ((HT.sIx n n hi : Nat) : Int) ∧ (sliceBounds lo hi none n).2.2 = 1 := by
  refine ⟨?_, ?_, rfl⟩
  · cases lo with
    | none => simp [sliceBounds, HT.sIx]
    | some i =>
      simp only [sliceBounds, HT.sIx, Option.getD_none, show (1 : Int) > 0 by decide, if_true]
      by_cases h : i < 0
      · simp only [h, if_true] <;> omega
      · simp only [h, if_false] <;> omega
  · cases hi with
    | none => simp [sliceBounds, HT.sIx]
    | some i =>
      simp only [sliceBounds, HT.sIx, Option.getD_none, show (1 : Int) > 0 by decide, if_true]
      by_cases h : i < 0
      · simp only [h, if_true] <;> omega
      · simp only [h, if_false] <;> omega
theorem slicePick_cut (its : List Value) (lo hi : Option Int) : slicePick its.toArray lo hi none = ((its.drop (HT.sIx its.length 0 lo)).take (HT.sIx its.length its.length hi - HT.sIx its.length 0 lo)).toArray := by
  obtain ⟨h1, h2, h3⟩ := slice_bounds lo hi its.toArray.size
  unfold slicePick
  rw [h1, h2, h3]
  simp only [sliceRange_one, pick_run, List.size_toArray] <;> rfl
/-- xs[lo:hi] of a list: a new list -/
def rSlL (K : PySem.W.Frag) : V → Option Int → Option Int → Hp → VK → Prop := fun x lo hi H Q => ∃ a xs, x = .ref a ∧ SqL K H a xs ∧ ∀ p, H p = none → Q (.ref p) (upd H p (.lst (cutV xs lo hi)))
theorem sl_list : SlR X (rSlL X.K) := by
  intro pins s σ H x v vl vu lo hi sl Q I rx hs pl pu h
  obtain ⟨a, xs, rfl, hx, q⟩ := h
  cases rx
  obtain ⟨its, r, ht, hz⟩ := I.list hx
  have hlen := r.length
  refine ⟨"list", _, slot_list_getitem.lookup, ht.isList.typeIs, ?_⟩
  refine wpAny_getItem_list_slice ht.isList hs pl pu .none (by simp) ?_ (by rw [List.size_toArray] <;> omega)
  rw [slicePick_cut, ← hlen]
  refine ⟨.ref s.heap.objs.size, _, I.laid (t' := s.toks) (o := .lst (cutV xs lo hi)) (fun b ob q => Heap.get?_push_of_some _ q) (Nat.le_refl _) ?_, rfl, q _ (I.hok.fresh (Nat.le_refl _))⟩
  exact ⟨Nat.le_trans (cutV_length xs lo hi) hz, _, 0, (r.drop (HT.sIx xs.length 0 lo)).take (HT.sIx xs.length xs.length hi - HT.sIx xs.length 0 lo), Heap.get?_push_size _ rfl⟩

/-! ### in, not in: flat items -/
def flatV : V → Bool
  | .non => true
  | .bl _ => true
  | .int _ => true
  | .str _ => true
  | _ => false
/-- == of flat values -/
def eqV : V → V → Bool
  | .non, .non => true
  | .bl a, .bl b => a == b
  | .bl a, .int b => (if a then 1 else 0) == b
  | .int a, .bl b => a == (if b then 1 else 0)
  | .int a, .int b => a == b
  | .str a, .str b => a == b
  | _, _ => false
theorem eqAt_V {A : Around} {s : Shared} {y x : V} {u v : Value} (ry : RelV y u) (rx : RelV x v) (fy : flatV y = true) (fx : flatV x = true) : SeqAt.EqAt A s u v (eqV y x) := by
  cases y with
  | non =>
    cases ry
    cases x with
    | non => cases rx; exact SeqAt.EqAt.same _
    | bl b => cases rx; exact SeqAt.EqAt.none_bool b
    | int b => obtain ⟨t, rfl⟩ := rx; exact SeqAt.EqAt.none_int b t
    | str b => obtain ⟨t, rfl⟩ := rx; exact SeqAt.EqAt.none_str b t
    | _ => exact absurd (show false = true from fx) Bool.false_ne_true
  | bl a =>
    cases ry
    cases x with
    | non => cases rx; exact SeqAt.EqAt.bool_none a
    | bl b => cases rx; exact SeqAt.EqAt.bool_bool a b
    | int b => obtain ⟨t, rfl⟩ := rx; exact SeqAt.EqAt.bool_int a b t
    | str b => obtain ⟨t, rfl⟩ := rx; exact SeqAt.EqAt.bool_str a b t
    | _ => exact absurd (show false = true from fx) Bool.false_ne_true
  | int a =>
    obtain ⟨t', rfl⟩ := ry
    cases x with
    | non => cases rx; exact SeqAt.EqAt.int_none a t'
    | bl b => cases rx; exact SeqAt.EqAt.int_bool a t' b
    | int b => obtain ⟨t, rfl⟩ := rx; exact SeqAt.EqAt.int_int a t' b t
    | str b => obtain ⟨t, rfl⟩ := rx; exact SeqAt.EqAt.int_str a t' b t
    | _ => exact absurd (show false = true from fx) Bool.false_ne_true
  | str a =>
    obtain ⟨t', rfl⟩ := ry
    cases x with
    | non => cases rx; exact SeqAt.EqAt.str_none a t'
    | bl b => cases rx; exact SeqAt.EqAt.str_bool a t' b
    | int b => obtain ⟨t, rfl⟩ := rx; exact SeqAt.EqAt.str_int a t' b t
    | str b => obtain ⟨t, rfl⟩ := rx; exact SeqAt.EqAt.str_str a t' b t
    | _ => exact absurd (show false = true from fx) Bool.false_ne_true
  | _ => exact absurd (show false = true from fy) Bool.false_ne_true
/-- the items' answers, read off the values (a value's own answer does not lean on its token) -/
def eqU (x : V) (u : Value) : Bool := match u with
  | .none => eqV .non x
  | .bool b => eqV (.bl b) x
  | .int i _ => eqV (.int i) x
  | .str z _ => eqV (.str z) x
  | _ => false
theorem eqU_of {x y : V} {u : Value} (r : RelV y u) (f : flatV y = true) : eqU x u = eqV y x := by
  cases y with
  | non => cases r; rfl
  | bl b => cases r; rfl
  | int i => obtain ⟨t, rfl⟩ := r; rfl
  | str z => obtain ⟨t, rfl⟩ := r; rfl
  | _ => exact absurd (show false = true from f) Bool.false_ne_true
theorem any_eqU {x : V} : ∀ {xs : List V} {us : List Value}, Vals xs us → xs.all flatV = true → us.any (eqU x) = xs.any fun y => eqV y x
  | _, _, .nil, _ => rfl
  | y :: xs, u :: us, .cons r t, f => by
    rw [List.all_cons, Bool.and_eq_true] at f
    rw [List.any_cons, List.any_cons, eqU_of r f.1, any_eqU t f.2]
theorem mem_eqAt {A : Around} {s : Shared} {x : V} {v : Value} (rx : RelV x v) (fx : flatV x = true) : ∀ {xs : List V} {us : List Value}, Vals xs us → xs.all flatV = true → ∀ u ∈ us, SeqAt.EqAt A s u v (eqU x u)
  | _, _, .nil, _ => fun u hu => by cases hu
  | y :: xs, u :: us, .cons r t, f => fun u' hu => by
    rw [List.all_cons, Bool.and_eq_true] at f
    rcases List.mem_cons.mp hu with rfl | hu
    · rw [eqU_of r f.1]; exact eqAt_V r rx f.1 fx
    · exact mem_eqAt rx fx t f.2 u' hu
def inV (x : V) (xs : List V) : Bool := xs.any fun y => eqV y x
/-- x in a list or tuple of flat items -/
def rIn (K : PySem.W.Frag) (neg : Bool) : R2 := fun x y H Q => ∃ p xs, y = .ref p ∧ (SqL K H p xs ∨ SqT K H p xs) ∧ flatV x = true ∧ xs.all flatV = true ∧ Q (.bl (if neg then !inV x xs else inV x xs)) H
theorem op_in_seq : OpR X (compareOp .In) (rIn X.K false) := by
  intro pins s σ H x y v u Q I rx ry h
  obtain ⟨p, xs, rfl, hq, fx, fs, q⟩ := h
  cases ry
  rcases hq with hq | hq
  · obtain ⟨its, r, pl, hz⟩ := I.list hq
    refine SeqAt.in_listAt (eqU x) pl.isList (fun w hw => mem_eqAt rx fx r fs w (by simpa using hw)) ⟨.bl _, H, I, rfl, ?_⟩
    rw [show its.toArray.any (eqU x) = its.any (eqU x) by simp, any_eqU r fs]
    exact q
  · obtain ⟨its, r, pl, hz⟩ := I.tuple hq
    refine SeqAt.in_tupleAt (eqU x) pl (fun w hw => mem_eqAt rx fx r fs w (by simpa using hw)) ⟨.bl _, H, I, rfl, ?_⟩
    rw [show its.toArray.any (eqU x) = its.any (eqU x) by simp, any_eqU r fs]
    exact q
theorem op_notIn_seq : OpR X (compareOp .NotIn) (rIn X.K true) := by
  intro pins s σ H x y v u Q I rx ry h
  obtain ⟨p, xs, rfl, hq, fx, fs, q⟩ := h
  cases ry
  rcases hq with hq | hq
  · obtain ⟨its, r, pl, hz⟩ := I.list hq
    refine SeqAt.notIn_listAt (eqU x) pl.isList (fun w hw => mem_eqAt rx fx r fs w (by simpa using hw)) ⟨.bl _, H, I, rfl, ?_⟩
    rw [show its.toArray.any (eqU x) = its.any (eqU x) by simp, any_eqU r fs]
    exact q
  · obtain ⟨its, r, pl, hz⟩ := I.tuple hq
    refine SeqAt.notIn_tupleAt (eqU x) pl (fun w hw => mem_eqAt rx fx r fs w (by simpa using hw)) ⟨.bl _, H, I, rfl, ?_⟩
    rw [show its.toArray.any (eqU x) = its.any (eqU x) by simp, any_eqU r fs]
    exact q
theorem op_notIn_str : OpR X (compareOp .NotIn) (fun x y H Q => ∃ i j, x = .str i ∧ y = .str j ∧ Q (.bl (!(!(Builtin.Str.occurrences j i 0 j.length 1).isEmpty))) H) := by
  intro pins s σ H x y v u Q I rx ry h
  obtain ⟨i, j, rfl, rfl, q⟩ := h
  obtain ⟨t, rfl⟩ := rx
  obtain ⟨t', rfl⟩ := ry
  exact notIn_str ⟨.bl _, H, I, rfl, q⟩

/-! ### len, list(x), tuple(x) of any list or tuple that is read -/
theorem call_len_seq : CallR X (.builtin "len") (fun xs H Q => ∃ p ys, xs = [.ref p] ∧ (SqL X.K H p ys ∨ SqT X.K H p ys) ∧ Q (.int ys.length) H) := by
  intro pins s σ H xs us Q I r h
  obtain ⟨p, ys, rfl, hq, q⟩ := h
  obtain ⟨u, rfl, rx⟩ := vals1 r
  cases rx
  have hn := line63
  rcases hq with hq | hq
  · obtain ⟨its, r', pl, hz⟩ := I.list hq
    have hlen := r'.length
    exact Calls.call_len_list pl.isList (by simp only [List.size_toArray] <;> omega) ⟨.int ys.length, H, I.tok _, ⟨s.toks + 1, by rw [List.size_toArray, hlen]⟩, q⟩
  · obtain ⟨its, r', pl, hz⟩ := I.tuple hq
    have hlen := r'.length
    exact len_tuple pl (by simp only [List.size_toArray] <;> omega) ⟨.int ys.length, H, I.tok _, ⟨s.toks + 1, by rw [List.size_toArray, hlen]⟩, q⟩
theorem call_len_str : CallR X (.builtin "len") (fun xs H Q => ∃ z, xs = [.str z] ∧ z.length ≤ sizeLine ∧ Q (.int z.length) H) := by
  intro pins s σ H xs us Q I r h
  obtain ⟨z, rfl, hz, q⟩ := h
  obtain ⟨u, rfl, t, rfl⟩ := vals1 r
  have hn := line63
  exact len_str (by omega) ⟨.int z.length, H, I.tok _, ⟨_, rfl⟩, q⟩
theorem CallR.or {f : Value} {r r' : List V → Hp → VK → Prop} (h : CallR X f r) (h' : CallR X f r') : CallR X f (fun xs H Q => r xs H Q ∨ r' xs H Q) := by
  intro pins s σ H xs us Q I rs q
  rcases q with q | q
  · exact h pins s σ H xs us Q I rs q
  · exact h' pins s σ H xs us Q I rs q
theorem call_list_of : CallR X (.type "list") (fun xs H Q => ∃ p ys, xs = [.ref p] ∧ (SqL X.K H p ys ∨ SqT X.K H p ys) ∧ ∀ l, H l = none → Q (.ref l) (upd H l (.lst ys))) := by
  intro pins s σ H xs us Q I r h
  obtain ⟨p, ys, rfl, hq, q⟩ := h
  obtain ⟨u, rfl, rx⟩ := vals1 r
  cases rx
  have fin : ∀ (its : List Value), Vals ys its → ys.length ≤ sizeLine → ∀ (h' : Heap) (c' : Nat), (∀ b o', s.heap.get? b = some o' → h'.get? b = some o') →
      h'.get? s.heap.objs.size = some { cls := .type "list", dict := none, data := .seq its.toArray c', slots := #[] } → EP X pins σ Q (.ref s.heap.objs.size) { s with heap := h' } := fun its r' hz h' c' kp e =>
    ⟨.ref s.heap.objs.size, _, I.laid (t' := s.toks) kp (Nat.le_refl _) (show ObjOk X.prog X.w _ h' _ (.lst ys) from ⟨hz, its, c', r', e⟩), rfl, q _ (I.hok.fresh (Nat.le_refl _))⟩
  rcases hq with hq | hq
  · obtain ⟨its, r', pl, hz⟩ := I.list hq
    have hlen := r'.length
    obtain ⟨o, ho, hc, n, hd⟩ := pl.isList
    exact call_list_seq p (.inl rfl) ho hc hd (fun h' c' kp e => fin its r' hz h' c' kp e) (by simp only [List.size_toArray] <;> omega)
  · obtain ⟨its, r', pl, hz⟩ := I.tuple hq
    have hlen := r'.length
    obtain ⟨o, ho, hc, n, hd⟩ := pl
    exact call_list_seq p (.inr rfl) ho hc hd (fun h' c' kp e => fin its r' hz h' c' kp e) (by simp only [List.size_toArray] <;> omega)
theorem call_tuple_of : CallR X (.type "tuple") (fun xs H Q => ∃ p ys, xs = [.ref p] ∧ ((SqL X.K H p ys ∧ ∀ l, H l = none → Q (.ref l) (upd H l (.tup ys))) ∨ (SqT X.K H p ys ∧ Q (.ref p) H))) := by
  intro pins s σ H xs us Q I r h
  obtain ⟨p, ys, rfl, h⟩ := h
  obtain ⟨u, rfl, rx⟩ := vals1 r
  cases rx
  rcases h with ⟨hq, q⟩ | ⟨hq, q⟩
  · obtain ⟨its, r', pl, hz⟩ := I.list hq
    have hlen := r'.length
    refine call_tuple_list pl.isList (fun h' kp => ?_) (by simp only [List.size_toArray] <;> omega)
    have I1 : Inv X pins σ H { s with heap := h' } := I.kept (t' := s.toks) kp
    have I2 : Inv X pins σ (upd H h'.objs.size (.tup ys)) { s with heap := h'.push { cls := .type "tuple", data := .seq its.toArray } } :=
      I1.laid (t' := s.toks) (fun b o e => Heap.get?_push_of_some _ e) (Nat.le_refl _) (show ObjOk X.prog X.w _ _ _ (.tup ys) from ⟨hz, its, r', IsTup.new _ _⟩)
    exact ⟨.ref h'.objs.size, _, I2, rfl, q _ (I1.hok.fresh (Nat.le_refl _))⟩
  · obtain ⟨its, r', pl, hz⟩ := I.tuple hq
    exact call_tuple_same pl ⟨.ref p, H, I, rfl, q⟩

/-! ### the call of a builtin's method: o.m(..) -/
/-- the value is of that builtin type -/
def tyV (K : PySem.W.Frag) (T : String) (x : V) (H : Hp) : Prop := match x with
  | .str _ => T = "str"
  | .int _ => T = "int"
  | .ref p => (T = "list" ∧ ∃ xs, SqL K H p xs) ∨ (T = "tuple" ∧ ∃ o, K.lookup p = some o ∧ o.cls = .type "tuple" ∧ o.dict = none) ∨
      (T = "dict" ∧ ((∃ kvs, H p = some (.dK kvs)) ∨ ∃ kvs, H p = some (.dT kvs))) ∨ (T = "set" ∧ ∃ S n, H p = some (.set S n))
  | _ => False
theorem tyV_is {pins : List (Addr × Obj)} {σ : St} {H : Hp} {s : Shared} {T : String} {x : V} {v : Value} (I : Inv X pins σ H s) (r : RelV x v) (ty : tyV X.K T x H) :
    s.TypeIs v T ∧ ∀ a, v = .ref a → ∃ ob, s.heap.get? a = some ob ∧ ob.dict = none := by
  cases x with
  | str z =>
    obtain ⟨t, rfl⟩ := r
    cases (show T = "str" from ty)
    exact ⟨typeIs_str s z t, fun _ e => nomatch e⟩
  | int i =>
    obtain ⟨t, rfl⟩ := r
    cases (show T = "int" from ty)
    exact ⟨typeIs_int s i t, fun _ e => nomatch e⟩
  | ref p =>
    cases r
    rcases ty with ⟨rfl, xs, hq⟩ | ⟨rfl, o, hk, hc, hd⟩ | ⟨rfl, hk⟩ | ⟨rfl, S, n, hk⟩
    · obtain ⟨its, _, pl, _⟩ := I.list hq
      refine ⟨pl.isList.typeIs, fun a e => ?_⟩
      cases e
      obtain ⟨o, n, e, c, hd, _⟩ := pl
      exact ⟨o, e, hd⟩
    · refine ⟨⟨o, I.kIn p o hk, hc⟩, fun a e => ?_⟩
      cases e
      exact ⟨o, I.kIn _ o hk, hd⟩
    · have z : ∃ o, s.heap.get? p = some o ∧ o.ExactDict := by
        rcases hk with ⟨kvs, hk⟩ | ⟨kvs, hk⟩
        · obtain ⟨_, _, _, _, o, _, _, e, ex, _⟩ := I.hok p _ hk
          exact ⟨o, e, ex⟩
        · obtain ⟨_, _, _, _, o, _, _, e, ex, _⟩ := I.hok p _ hk
          exact ⟨o, e, ex⟩
      obtain ⟨o, e, ex⟩ := z
      refine ⟨⟨o, e, ex.1⟩, fun a e2 => ?_⟩
      cases e2
      exact ⟨o, e, ex.2.1⟩
    · obtain ⟨o, _, _, _, e, ex, _⟩ := I.hok p _ hk
      refine ⟨⟨o, e, ex.1⟩, fun a e2 => ?_⟩
      cases e2
      exact ⟨o, e, ex.2.1⟩
  | _ => exact False.elim ty
def tBM0 (K : PySem.W.Frag) (T : String) (r : V → List V → Hp → VK → Prop) (to : TE) : TE := fun σ H Q => to σ H fun x H1 => tyV K T x H1 ∧ r x [] H1 Q
def tBM (K : PySem.W.Frag) (T : String) (r : V → List V → Hp → VK → Prop) (to : TE) (t : TA) : TE := fun σ H Q => to σ H fun x H1 => tyV K T x H1 ∧ t σ H1 fun xs H2 => r x xs H2 Q
variable {o e : Expr} {es : List Expr} {to : TE} {t : TA} {name : Str} {apos cpos : Pos} {T id : String} {r : V → List V → Hp → VK → Prop}
theorem pe_bm0 (pa : PlainAttrs T) (slot : Slot T name id) (hty : typeOf (.builtin id) = pure (.type "method_descriptor")) (hm : MtR X id r) (ho : PE X o to)
    (hbase : attributeBase o name X.env (eval o X.env) = eval o X.env := by rfl) (hline : (apos.endLine == cpos.line) = true := by rfl) : PE X (.Call (.Attribute o name apos) [] [] cpos) (tBM0 X.K T r to) := by
  intro pins s σ H Q I h
  refine wpAny_Call_method0_late hbase hline (thn (ho pins s σ H _ I h) fun v s1 ⟨x, H1, I1, r1, ty, q1⟩ => ?_)
  obtain ⟨h1, h2⟩ := tyV_is I1 r1 ty
  exact ⟨T, id, pa, slot, hty, h1, h2, Calls.callWith_builtin rfl (PySem.evalArgs_none (hm pins s1 σ H1 x [] v [] Q I1 r1 .nil q1))⟩
theorem pe_bm (pa : PlainAttrs T) (slot : Slot T name id) (hty : typeOf (.builtin id) = pure (.type "method_descriptor")) (hm : MtR X id r) (ho : PE X o to) (ha : PA X (e :: es) t)
    (hbase : attributeBase o name X.env (eval o X.env) = eval o X.env := by rfl)
    (hfew : ((backTo cpos (starEach (e :: es) X.env)).all (fun x => !x.1) && (backToKw cpos (keywordEach [] X.env)).all (fun x => x.1.isSome)
      && decide ((e :: es).length + ([] : List Keyword).length + (if ([] : List Keyword).isEmpty then 0 else 1) < 30)) = true := by rfl)
    (hline : (apos.endLine == cpos.line) = true := by rfl) (hs : starEach (e :: es) X.env = (false, eval e X.env) :: starEach es X.env := by rfl) (hplain : (backTo cpos (starEach es X.env)).any (·.1) = false := by rfl) :
    PE X (.Call (.Attribute o name apos) (e :: es) [] cpos) (tBM X.K T r to t) := by
  intro pins s σ H Q I h
  refine wpAny_Call_method_late hbase hfew hline rfl (thn (ho pins s σ H _ I h) fun v s1 ⟨x, H1, I1, r1, ty, q1⟩ => ?_)
  obtain ⟨h1, h2⟩ := tyV_is I1 r1 ty
  refine ⟨T, id, pa, slot, hty, h1, h2, ?_⟩
  have hA := ha cpos pins s1 σ H1 _ I1 q1
  rw [hs] at hA ⊢
  refine Calls.callWith_builtin (by show (false || (backTo cpos (starEach es X.env)).any (·.1)) = false; rw [hplain] <;> rfl) (Calls.evalArgs_plain ?_)
  exact thn hA fun us s2 ⟨vs, H2, I2, r2, q2⟩ => hm pins s2 σ H2 x vs v us Q I2 r1 r2 q2
/- xs.append(e), list.index on a module's tuple .. are MtR facts of 06m -/
end
end L2

namespace L2
open PySem PySem.Spec PyProof.Rows

def MtM (X : Cx) (id : String) (r : V → List V → Hp → VK → Prop) : Prop :=
  ∀ (pins : List (Addr × Obj)) (s : Shared) (σ : St) (H : Hp) (x : V) (xs : List V) (v : Value) (us : List Value) (Q : VK), Inv X pins σ H s → RelV x v → Vals xs us → r x xs H Q →
    wpAny (model X.prog X.w) X.A (call (.builtin id) (v :: us)) (EP X pins σ Q) X.xe s

/-! ### lists of values -/
theorem Vals.one : ∀ {x : V} {us : List Value}, Vals [x] us → ∃ u, us = [u] ∧ RelV x u
  | _, _, .cons r .nil => ⟨_, rfl, r⟩
theorem Vals.two : ∀ {x y : V} {us : List Value}, Vals [x, y] us → ∃ u v, us = [u, v] ∧ RelV x u ∧ RelV y v
  | _, _, _, .cons r (.cons q .nil) => ⟨_, _, rfl, r, q⟩
theorem Vals.zero : ∀ {us : List Value}, Vals [] us → us = []
  | _, .nil => rfl
theorem Vals.dropLast {xs : List V} {us : List Value} (h : Vals xs us) : Vals xs.dropLast us.dropLast := by
  induction h with
  | nil => exact .nil
  | cons r t ih =>
    cases t with
    | nil => exact .nil
    | cons q t' => exact .cons r ih
theorem Vals.eraseIdx : ∀ {xs : List V} {us : List Value} (i : Nat), Vals xs us → Vals (xs.eraseIdx i) (us.eraseIdx i)
  | _, _, _, .nil => .nil
  | _, _, 0, .cons _ t => t
  | _, _, i + 1, .cons r t => .cons r (Vals.eraseIdx i t)
theorem Vals.reverse {xs : List V} {us : List Value} (h : Vals xs us) : Vals xs.reverse us.reverse := by
  induction h with
  | nil => exact .nil
  | cons r t ih => rw [List.reverse_cons, List.reverse_cons]; exact Vals.append ih (.cons r .nil)
theorem Vals.rep {xs : List V} {us : List Value} (h : Vals xs us) : ∀ k : Nat, Vals (List.replicate k xs).flatten (List.replicate k us).flatten
  | 0 => .nil
  | k + 1 => by
    rw [List.replicate_succ, List.replicate_succ, List.flatten_cons, List.flatten_cons]
    exact Vals.append h (Vals.rep h k)
theorem erase_last {α : Type} (l : List α) : l.eraseIdx (l.length - 1) = l.dropLast := by
  induction l with
  | nil => rfl
  | cons a r ih =>
    cases r with
    | nil => rfl
    | cons b r =>
      have e : (a :: b :: r).length - 1 = ((b :: r).length - 1) + 1 := by
        have h1 : (a :: b :: r).length = r.length + 2 := rfl
        have h2 : (b :: r).length = r.length + 1 := rfl
        omega
      rw [e, List.eraseIdx_cons_succ, ih]
      all_goals rfl
theorem len_erase {α : Type} : ∀ (l : List α) (i : Nat), (l.eraseIdx i).length ≤ l.length
  | [], _ => Nat.le_refl _
  | _ :: _, 0 => Nat.le_succ _
  | _ :: r, i + 1 => Nat.succ_le_succ (len_erase r i)
theorem foldl_rep (its : List Value) : ∀ (k : Nat) (acc : List Value),
    List.foldl (fun x1 x2 => x1 ++ x2) acc.toArray (List.replicate k its.toArray) = (acc ++ (List.replicate k its).flatten).toArray
  | 0, acc => by simp
  | k + 1, acc => by
    have e : acc.toArray ++ its.toArray = (acc ++ its).toArray := by simp
    have e2 : (acc ++ its) ++ (List.replicate k its).flatten = acc ++ (List.replicate (k + 1) its).flatten := by
      rw [List.replicate_succ, List.flatten_cons, List.append_assoc]
    rw [← e2, ← foldl_rep its k (acc ++ its), ← e, List.replicate_succ, List.foldl_cons]

section
variable {X : Cx} {pins : List (Addr × Obj)} {σ : St} {H : Hp} {s : Shared} {l b : Addr} {xs ys zs : List V}

/-! ### the two steps: a tracked list is rewritten, a new list is laid -/
theorem Inv.lset {its its' : List Value} {n : Nat} {f : Array Value → Array Value} {t' : Nat} (I : Inv X pins σ H s) (hH : H l = some (.lst xs))
    (e : s.heap.get? l = some { cls := .type "list", data := .seq its.toArray n }) (hf : f its.toArray = its'.toArray) (hv : Vals ys its') (hz : ys.length ≤ sizeLine) :
    Inv X pins σ (upd H l (.lst ys)) { s with heap := s.heap.update l (Obj.mapSeq f), toks := t' } := by
  have q := PySem.IsL.update e f
  rw [hf] at q
  refine I.write (x := l) (e := l) (by rw [hH]; exact trivial) (.inl rfl) (fun b' u hb hu => (Heap.get?_update_other s.heap (Obj.mapSeq f) (Ne.symm hb)).trans hu) ⟨_, q⟩ ?_
  exact ⟨hz, its', _, hv, q⟩
theorem Inv.lnew {its : List Value} {t' : Nat} (I : Inv X pins σ H s) (hv : Vals ys its) (hz : ys.length ≤ sizeLine) :
    Inv X pins σ (upd H s.heap.objs.size (.lst ys)) { s with heap := s.heap.push { cls := .type "list", data := .seq its.toArray }, toks := t' } :=
  I.laid (fun _ _ q => Heap.get?_push_of_some _ q) (Nat.le_refl _) ⟨hz, its, 0, hv, Heap.get?_push_size _ rfl⟩
theorem Inv.fresh (I : Inv X pins σ H s) : H s.heap.objs.size = none := I.hok.fresh (Nat.le_refl _)
theorem Inv.lstM (I : Inv X pins σ H s) (hH : H l = some (.lst xs)) : xs.length ≤ sizeLine ∧ ∃ (its : List Value) (n : Nat), Vals xs its ∧ xs.length = its.length ∧ s.heap.get? l = some { cls := .type "list", data := .seq its.toArray n } := by
  obtain ⟨z, its, n, r, e⟩ := I.hok l _ hH
  exact ⟨z, its, n, r, r.length, e⟩

theorem notLongL {n : Nat} (h : n ≤ sizeLine) : Builtin.List.listTooLong n = false := by
  unfold Builtin.List.listTooLong
  exact decide_eq_false (by omega)
end

section
variable {X : Cx}

/-! ### methods -/
def rAppend : V → List V → Hp → VK → Prop := fun x vs H Q => ∃ l xs y, x = .ref l ∧ vs = [y] ∧ H l = some (.lst xs) ∧ xs.length < sizeLine ∧ Q .non (upd H l (.lst (xs ++ [y])))
theorem mt_append : MtM X "list.append" rAppend := by
  intro pins s σ H x vs v us Q I rx rv h
  obtain ⟨l, xs, y, rfl, rfl, hH, hz, q⟩ := h
  cases rx
  obtain ⟨u, rfl, ru⟩ := rv.one
  obtain ⟨z, its, n, r, hl, e⟩ := I.lstM hH
  refine call_meets F.slot_list_append ⟨_, e, rfl⟩ F.entry_list_append (F.args_list_append_2 _ _) (PySem.list_append l its.toArray n u (by rw [List.size_toArray]; omega)) ⟨e, ?_⟩
  refine ⟨.non, _, I.lset (its' := its ++ [u]) hH e (by simp) (r.append (.cons ru .nil)) ?_, rfl, q⟩
  rw [List.length_append, List.length_singleton]
  omega

def rExtend : V → List V → Hp → VK → Prop := fun x vs H Q => ∃ l b xs zs, x = .ref l ∧ vs = [.ref b] ∧ H l = some (.lst xs) ∧ H b = some (.lst zs) ∧ xs.length + zs.length ≤ sizeLine ∧ Q .non (upd H l (.lst (xs ++ zs)))
theorem mt_extend : MtM X "list.extend" rExtend := by
  intro pins s σ H x vs v us Q I rx rv h
  obtain ⟨l, b, xs, zs, rfl, rfl, hH, hB, hz, q⟩ := h
  cases rx
  obtain ⟨u, rfl, ru⟩ := rv.one
  cases ru
  obtain ⟨z, its, n, r, hl, e⟩ := I.lstM hH
  obtain ⟨z2, its2, n2, r2, hl2, e2⟩ := I.lstM hB
  have hsz : its.toArray.size + its2.toArray.size ≤ sizeLine := by rw [List.size_toArray, List.size_toArray]; omega
  have hlong : ¬ (!its.toArray.isEmpty && Builtin.List.listTooLong (its.toArray.size + its2.toArray.size)) = true := by
    rw [notLongL hsz, Bool.and_false]
    exact Bool.false_ne_true
  refine call_meets F.slot_list_extend ⟨_, e, rfl⟩ F.entry_list_extend (F.args_list_extend_2 _ _)
    (AutoSeq1.list_extend_list_list_0 l its.toArray n b its2.toArray n2 hlong (by rw [List.size_toArray]; omega) (by omega)) ⟨e, e2, ?_⟩
  refine ⟨.non, _, I.lset (its' := its ++ its2) hH e (by simp) (r.append r2) ?_, rfl, q⟩
  rw [List.length_append]
  omega

def rPop : V → List V → Hp → VK → Prop := fun x vs H Q => ∃ l xs y, x = .ref l ∧ vs = [] ∧ H l = some (.lst xs) ∧ xs[xs.length - 1]? = some y ∧ Q y (upd H l (.lst xs.dropLast))
theorem mt_pop : MtM X "list.pop" rPop := by
  intro pins s σ H x vs v us Q I rx rv h
  obtain ⟨l, xs, y, rfl, rfl, hH, hy, q⟩ := h
  cases rx
  have hus := rv.zero
  subst hus
  obtain ⟨z, its, n, r, hl, e⟩ := I.lstM hH
  obtain ⟨u, hu, ru⟩ := r.get hy
  have hy' : its.toArray[its.toArray.size - 1]? = some u := by
    show its.toArray[its.length - 1]? = some u
    rw [← Array.getElem?_toList, ← hl]
    exact hu
  refine call_meets F.slot_list_pop ⟨_, e, rfl⟩ F.entry_list_pop (F.args_list_pop_1 _) (MeetsSeq.list_pop_last l its.toArray n u hy' (by rw [List.size_toArray]; omega)) ⟨e, ?_⟩
  refine ⟨y, _, I.lset (its' := its.dropLast) hH e ?_ r.dropLast ?_, ru, q⟩
  · show its.toArray.eraseIdxIfInBounds (its.toArray.size - 1) = its.dropLast.toArray
    rw [List.size_toArray, List.eraseIdxIfInBounds_toArray, erase_last]
  · rw [List.length_dropLast]
    omega

def rPopAt : V → List V → Hp → VK → Prop := fun x vs H Q => ∃ l xs i k y, x = .ref l ∧ vs = [.int i] ∧ H l = some (.lst xs) ∧ -(2 ^ 63) ≤ i ∧ i < 2 ^ 63 ∧ seqIndex? i xs.length = some k ∧ xs[k]? = some y ∧ Q y (upd H l (.lst (xs.eraseIdx k)))
theorem mt_popAt : MtM X "list.pop" rPopAt := by
  intro pins s σ H x vs v us Q I rx rv h
  obtain ⟨l, xs, i, k, y, rfl, rfl, hH, h1, h2, hk, hy, q⟩ := h
  cases rx
  obtain ⟨u, rfl, ru⟩ := rv.one
  obtain ⟨t, rfl⟩ := ru
  obtain ⟨z, its, n, r, hl, e⟩ := I.lstM hH
  obtain ⟨w, hw, rw'⟩ := r.get hy
  refine call_meets F.slot_list_pop ⟨_, e, rfl⟩ F.entry_list_pop (F.args_list_pop_2 _ _)
    (MeetsSeq.list_pop_at l its.toArray n i t k w (fitsIndex_both h1 h2) (by rw [List.size_toArray, ← hl]; exact hk) (by rw [← Array.getElem?_toList]; exact hw) (by rw [List.size_toArray]; omega)) ⟨e, ?_⟩
  refine ⟨y, _, I.lset (its' := its.eraseIdx k) hH e ?_ (r.eraseIdx k) ?_, rw', q⟩
  · show its.toArray.eraseIdxIfInBounds k = (its.eraseIdx k).toArray
    rw [List.eraseIdxIfInBounds_toArray]
  · have := len_erase xs k
    omega

def rReverse : V → List V → Hp → VK → Prop := fun x vs H Q => ∃ l xs, x = .ref l ∧ vs = [] ∧ H l = some (.lst xs) ∧ Q .non (upd H l (.lst xs.reverse))
theorem mt_reverse : MtM X "list.reverse" rReverse := by
  intro pins s σ H x vs v us Q I rx rv h
  obtain ⟨l, xs, rfl, rfl, hH, q⟩ := h
  cases rx
  have hus := rv.zero
  subst hus
  obtain ⟨z, its, n, r, hl, e⟩ := I.lstM hH
  refine call_meets F.slot_list_reverse ⟨_, e, rfl⟩ F.entry_list_reverse (F.args_list_reverse_1 _) (AutoSeq1.list_reverse_list_0 l its.toArray n (by rw [List.size_toArray]; omega)) ⟨e, ?_⟩
  refine ⟨.non, _, I.lset (its' := its.reverse) hH e (by simp) r.reverse ?_, rfl, q⟩
  rw [List.length_reverse]
  omega

def rClear : V → List V → Hp → VK → Prop := fun x vs H Q => ∃ l xs, x = .ref l ∧ vs = [] ∧ H l = some (.lst xs) ∧ Q .non (upd H l (.lst []))
theorem mt_clear : MtM X "list.clear" rClear := by
  intro pins s σ H x vs v us Q I rx rv h
  obtain ⟨l, xs, rfl, rfl, hH, q⟩ := h
  cases rx
  have hus := rv.zero
  subst hus
  obtain ⟨z, its, n, r, hl, e⟩ := I.lstM hH
  refine call_meets F.slot_list_clear ⟨_, e, rfl⟩ F.entry_list_clear (F.args_list_clear_1 _) (AutoSeq1.list_clear_list_0 l its.toArray n (by rw [List.size_toArray]; omega)) ⟨e, ?_⟩
  exact ⟨.non, _, I.lset (its' := []) (ys := []) hH e rfl .nil (Nat.zero_le _), rfl, q⟩

/-! ### list + list, list += list, list * int -/
def rCat : R2 := fun x y H Q => ∃ l b xs zs, x = .ref l ∧ y = .ref b ∧ H l = some (.lst xs) ∧ H b = some (.lst zs) ∧ xs.length + zs.length ≤ sizeLine ∧ ∀ p, H p = none → Q (.ref p) (upd H p (.lst (xs ++ zs)))
theorem op_cat : OpR X (binaryOp .Add) rCat := by
  intro pins s σ H x y v u Q I rx ry h
  obtain ⟨l, b, xs, zs, rfl, rfl, hH, hB, hz, q⟩ := h
  cases rx
  cases ry
  obtain ⟨z, its, n, r, hl, e⟩ := I.lstM hH
  obtain ⟨z2, its2, n2, r2, hl2, e2⟩ := I.lstM hB
  refine PySem.P.add_list e e2 ?_ (by rw [List.size_toArray, List.size_toArray]; omega)
  have ea : its.toArray ++ its2.toArray = (its ++ its2).toArray := by simp
  rw [ea]
  exact ⟨.ref _, _, I.lnew (t' := s.toks) (r.append r2) (by rw [List.length_append]; omega), rfl, q _ I.fresh⟩
/-- a list times an int (a negative one is nothing) -/
def rRep : R2 := fun x y H Q => ∃ l k xs, x = .ref l ∧ y = .int k ∧ H l = some (.lst xs) ∧ -(2 ^ 63) ≤ k ∧ k < 2 ^ 63 ∧ xs.length * k.toNat ≤ sizeLine ∧
  ∀ p, H p = none → Q (.ref p) (upd H p (.lst (List.replicate k.toNat xs).flatten))
theorem len_rep {α : Type} (xs : List α) (k : Nat) : (List.replicate k xs).flatten.length = k * xs.length := by
  induction k with
  | zero => simp
  | succ k ih => rw [List.replicate_succ, List.flatten_cons, List.length_append, ih, Nat.succ_mul, Nat.add_comm]
theorem op_rep : OpR X (binaryOp .Mult) rRep := by
  intro pins s σ H x y v u Q I rx ry h
  obtain ⟨l, k, xs, rfl, rfl, hH, h1, h2, hz, q⟩ := h
  cases rx
  obtain ⟨t, rfl⟩ := ry
  obtain ⟨z, its, n, r, hl, e⟩ := I.lstM hH
  have hlen : its.toArray.size * k.toNat ≤ sizeLine := by rw [List.size_toArray, ← hl]; exact hz
  have hcap : ¬ its.toArray.size * k.toNat > (2 ^ 63 - 1) / 8 := by
    have : (sizeLine : Nat) ≤ (2 ^ 63 - 1) / 8 := by decide
    omega
  have hfit : ¬ (!Builtin.List.listFitsIndex k) = true := by
    rw [fitsIndex_both h1 h2]
    exact Bool.false_ne_true
  have hlong : ¬ Builtin.List.listTooLong (its.toArray.size * k.toNat) = true := by
    rw [notLongL hlen]
    exact Bool.false_ne_true
  have hnew : List.foldl (fun x1 x2 => x1 ++ x2) #[] (List.replicate (if its.toArray.isEmpty = true then 0 else k.toNat) its.toArray) = (List.replicate k.toNat its).flatten.toArray := by
    have f0 : ∀ m : Nat, List.foldl (fun x1 x2 => x1 ++ x2) #[] (List.replicate m its.toArray) = (List.replicate m its).flatten.toArray := fun m => by
      have := foldl_rep its m []
      rw [List.nil_append] at this
      exact this
    rw [f0]
    cases its with
    | nil => simp
    | cons a r' => rw [if_neg (by simp)]
  refine wpAny_binaryOp_repeat_ref (T := "list") (U := "int") (by decide) ⟨_, e, rfl⟩ (fun s' => typeIs_int s' k t) noFill_list_mul F.fills_int_mul F.slot_int_rmul repeat_list F.slot_int_index.lookup
    (call_meets F.slot_int_rmul (typeIs_int s k t) F.entry_int_rmul (F.args_int_rmul_2 _ _) (int___rmul___int_list k t l its.toArray n)
      ⟨e, rfl, ⟨_, e, rfl⟩, call_meets F.slot_list_mul ⟨_, e, rfl⟩ F.entry_list_mul (F.args_list_mul_2 _ _) (AutoListH.list___mul___list_int_3 l its.toArray n k t hfit hcap hlong) ⟨e, ?_⟩⟩)
  rw [hnew]
  exact ⟨.ref _, _, I.lnew (t' := s.toks) (r.rep k.toNat) (by rw [len_rep, Nat.mul_comm]; exact hz), rfl, q _ I.fresh⟩

/-! ### del xs[i] -/
theorem del_list {pins : List (Addr × Obj)} {s : Shared} {σ : St} {H : Hp} {l : Addr} {xs : List V} {i : Int} {t : Tok} {k : Nat} {Q : Unit → Shared → Prop} (I : Inv X pins σ H s) (hH : H l = some (.lst xs))
    (h1 : -(2 ^ 63) ≤ i) (h2 : i < 2 ^ 63) (hk : seqIndex? i xs.length = some k) (h : ∀ s', Inv X pins σ (upd H l (.lst (xs.eraseIdx k))) s' → Q () s') :
    wpAny (model X.prog X.w) X.A (delItem (.ref l) (.int i t)) Q X.xe s := by
  obtain ⟨z, its, n, r, hl, e⟩ := I.lstM hH
  refine PySem.P.delItem_list (k := k) e (fitsIndex_both h1 h2) (by rw [List.size_toArray, ← hl]; exact hk) (h _ ?_) (by rw [List.size_toArray]; omega)
  refine I.lset (its' := its.eraseIdx k) (t' := s.toks) hH e ?_ (r.eraseIdx k) ?_
  · show its.toArray.eraseIdxIfInBounds k = (its.eraseIdx k).toArray
    rw [List.eraseIdxIfInBounds_toArray]
  · have := len_erase xs k
    omega
end

/-! ### xs[a:b] = ys -/
section
variable {prog : Program} {w : World} {A : Around} {E : Value → Shared → Prop} {s : Shared}
theorem splice_eq (its its2 : List Value) (a c : Nat) : its.toArray.extract 0 a ++ its2.toArray ++ its.toArray.extract c its.toArray.size = (its.take a ++ its2 ++ its.drop c).toArray := by
  apply Array.toList_inj.mp
  first
    | (simp
       exact List.take_of_length_le (by simp))
    | simp [List.take_of_length_le]
    | simp
theorem bounds_run {a c n : Nat} (hac : a ≤ c) (hc : c ≤ n) : sliceBounds (some (a : Int)) (some (c : Int)) none n = ((a : Int), (c : Int), 1) := by
  simp only [sliceBounds, Option.getD_none]
  have h1 : ¬ ((a : Int) < 0) := by omega
  have h2 : ¬ ((c : Int) < 0) := by omega
  simp only [h1, h2, if_false, show (1 : Int) > 0 by decide, if_true]
  congr 1
  · omega
  · congr 1; omega
set_option maxRecDepth 100000 in
/-- list.__setitem__ with a slice of step one and another list -/
theorem setItem_slice {l b sl : Addr} {items new : Array Value} {n n2 : Nat} {vl vu : Value} {a c : Nat} {Q : Unit → Shared → Prop}
    (e : s.heap.get? l = some { cls := .type "list", data := .seq items n }) (e2 : s.heap.get? b = some { cls := .type "list", data := .seq new n2 }) (hne : l ≠ b)
    (hs : s.heap.IsSliceOf sl vl vu .none) (pl : IsPart vl (some (a : Int))) (pu : IsPart vu (some (c : Int))) (hac : a ≤ c) (hc : c ≤ items.size)
    (hsz : items.size + new.size ≤ sizeLine) (h : Q () { s with heap := s.heap.update l (Obj.mapSeq fun xs => xs.extract 0 a ++ new ++ xs.extract c xs.size) }) :
    wpAny (model prog w) A (setItem (.ref l) (.ref sl) (.ref b)) Q E s := by
  have hl : s.heap.IsList l items := PySem.IsL.isList e
  have hb : s.heap.IsList b new := PySem.IsL.isList e2
  obtain ⟨os, hos, hcs, hds⟩ := id hs
  have hTs : s.TypeIs (.ref sl) "slice" := ⟨os, hos, hcs⟩
  have hstep : ¬ ((rawPart none == rawInt 0) = true) := Bool.false_ne_true
  have hsame : Builtin.List.listSameRef (.ref l) (.ref b) = false := by
    unfold Builtin.List.listSameRef
    exact beq_eq_false_iff_ne.mpr hne
  have hmax : (max (a : Int) (c : Int)).toNat = c := by omega
  have hz' : ((fun xs : Array Value => xs.extract 0 a ++ new ++ xs.extract c xs.size) items).size ≤ sizeLine + 1 := by
    simp only [Array.size_append, Array.size_extract]
    omega
  unfold setItem
  try with_reducible refine wpAny_holding ?_
  first | refine wpAny_bind (wpAny_pure ?_) | skip
  refine wpAny_bind (wpAny_sequenceKey hl.typeIs (by decide) ?_)
  refine wpAny_bind (wpAny_callSpecial?_slot (name := Str.ofString "__setitem__") hl.typeIs slot_list_setitem
    (wpAny_call_entry slot_list_setitem hl.typeIs entry_list_setitem ?_ (args_list_setitem _ _ _)))
  show wpAny _ _ (Builtin.List.listSubscript? (.ref sl) >>= _) _ _ s
  refine wpAny_bind ?_
  unfold Builtin.List.listSubscript?
  refine wpAny_bind (wpAny_specialOf hTs slice_no_index ?_)
  simp only [Option.isNone_none, if_true]
  refine wpAny_pure ?_
  show wpAny _ _ (typeOf (.ref sl) >>= _) _ _ s
  refine wpAny_bind (wpAny_typeOf hTs ?_)
  first
    | rw [if_neg (by decide)]
    | refine PySem.W.KFB.if_not (by decide) ?_
  rw [listSliceParts_eq]
  refine wpAny_bind (wpAny_bind (wpAny_field hos hds (x := .none) rfl (wpAny_bind (wpAny_listPart .none ?_))))
  rw [if_neg hstep]
  refine wpAny_bind (wpAny_field hos hds (x := vl) rfl (wpAny_bind (wpAny_listPart pl ?_)))
  refine wpAny_bind (wpAny_field hos hds (x := vu) rfl (wpAny_bind (wpAny_listPart pu (wpAny_pure ?_))))
  first
    | simp only [hsame, Bool.false_eq_true, if_false]
    | refine PySem.W.KFB.if_not hsame ?_
    | (dsimp only
       rw [if_neg (by rw [hsame]; exact Bool.false_ne_true)])
  refine wpAny_bind (m := Builtin.List.listAllItems (.ref b) "must assign iterable to extended slice") ?_
  unfold Builtin.List.listAllItems
  refine wpAny_bind (wpAny_typeOf hb.typeIs ?_)
  first
    | refine PySem.W.KFB.if_so (by decide) ?_
    | rw [if_pos (by decide)]
    | simp only [beq_self_eq_true, Bool.true_or, if_true]
  unfold Builtin.List.listItems
  refine wpAny_bind (wpAny_seqItems e2 rfl (wpAny_pure ?_))
  refine wpAny_bind (wpAny_bind (wpAny_seqItems e rfl (wpAny_pure ?_)))
  refine wpAny_bind (wpAny_of_eq ((sliceIndices_raw (some (a : Int)) (some (c : Int)) none items.size (by simp)).trans (congrArg (pure : Int × Int × Int → Sem (Int × Int × Int)) (bounds_run hac hc))) ?_)
  show wpAny _ _ (if ((1 : Int) == 1) = true then _ else _) _ _ s
  rw [if_pos (by decide)]
  refine wpAny_bind (wpAny_rule ?_)
  first
    | simp only [notLongL hsz, Bool.false_eq_true, if_false]
    | refine PySem.W.KFB.if_not (notLongL hsz) ?_
  first | refine wpAny_bind (wpAny_pure ?_) | skip
  show wpAny _ _ (updateSeq l (fun xs => xs.extract 0 ((a : Int)).toNat ++ new ++ xs.extract (max (a : Int) (c : Int)).toNat xs.size) >>= _) _ _ s
  rw [hmax, Int.toNat_natCast]
  refine wpAny_bind (wpAny_updateSeq (hz := Nat.le_trans (Nat.le_add_right _ _) hsz) (_hz' := hz') e rfl ?_)
  refine wpAny_bind (wpAny_letGo ?_)
  first
    | exact wpAny_bind (wpAny_pure (wpAny_pure ⟨.none, rfl, wpAny_pure h⟩))
    | exact wpAny_pure ⟨.none, rfl, wpAny_pure h⟩
end

section
variable {X : Cx}
/-- xs[a:c] = ys of another list, at the value level: sl is the slice object that was just made -/
theorem set_slice {pins : List (Addr × Obj)} {s : Shared} {σ : St} {H : Hp} {l b sl : Addr} {xs ys : List V} {a c : Int} {vl vu : Value} {Q : Unit → Shared → Prop} (I : Inv X pins σ H s)
    (hH : H l = some (.lst xs)) (hB : H b = some (.lst ys)) (hne : l ≠ b) (hs : s.heap.IsSliceOf sl vl vu .none) (ra : RelV (.int a) vl) (rc : RelV (.int c) vu) (h0 : 0 ≤ a) (hac : a ≤ c) (hc : c ≤ xs.length)
    (hz : xs.length + ys.length ≤ sizeLine) (h : ∀ s', Inv X pins σ (upd H l (.lst (xs.take a.toNat ++ ys ++ xs.drop c.toNat))) s' → Q () s') :
    wpAny (model X.prog X.w) X.A (setItem (.ref l) (.ref sl) (.ref b)) Q X.xe s := by
  obtain ⟨ta, rfl⟩ := ra
  obtain ⟨tc, rfl⟩ := rc
  obtain ⟨z, its, n, r, hl, e⟩ := I.lstM hH
  obtain ⟨z2, its2, n2, r2, hl2, e2⟩ := I.lstM hB
  obtain ⟨a', rfl⟩ := Int.eq_ofNat_of_zero_le h0
  obtain ⟨c', rfl⟩ := Int.eq_ofNat_of_zero_le (Int.le_trans h0 hac)
  simp only [Int.toNat_natCast] at h
  refine setItem_slice (a := a') (c := c') e e2 hne hs (.int _ _) (.int _ _) (by omega) (by rw [List.size_toArray]; omega) (by rw [List.size_toArray, List.size_toArray]; omega) (h _ ?_)
  refine I.lset (its' := its.take a' ++ its2 ++ its.drop c') (t' := s.toks) hH e ?_ (Vals.append (Vals.append (r.take _) r2) (r.drop _)) ?_
  · exact splice_eq its its2 a' c'
  · rw [List.length_append, List.length_append, List.length_take, List.length_drop]
    omega
end
end L2

namespace Att
open PySem PySem.W PySem.Calls PyProof.Rows

/-! ### the script -/
theorem ints_of_wellAll {P : Params} {h : Heap} : ∀ (ns : List Int) (vs : List Value), WellAll P h vs (ns.map WData.int) → IntsAre vs ns := by
  intro ns
  induction ns with
  | nil =>
    intro vs w
    rw [List.map_nil] at w
    cases w
    exact .nil
  | cons n ns ih =>
    intro vs w
    rw [List.map_cons] at w
    cases w with
    | cons a b =>
      cases a
      exact .cons _ _ (ih _ b)

theorem script_of {l : OpenLaw} {n : Nat} (hn : l.most = some n) {P : Params} {h : Heap} {args : List WData} {vals : List Value}
    (hpre : l.row.toRowW.claim.pre args = true) (hwl : WellAll P h vals args) :
    ∃ a vs ns, vals = [Value.ref a] ∧ args = [WData.list (ns.map WData.int)] ∧ h.get? a = some { cls := .type "list", data := .seq vs.toArray } ∧ IntsAre vs ns ∧ ns.length ≤ n := by
  have hsh : WShape.hasAll [] args [.list .int] = true := (pre_splitW hpre).1
  have hc : l.pre.holds [] { args := args } = true := (pre_splitW hpre).2
  obtain ⟨d, r, rfl, h1, h2⟩ := hasAllW_cons hsh
  obtain rfl := hasAllW_nil h2
  obtain ⟨xs, rfl, h3⟩ := hasW_list h1
  obtain ⟨ns, rfl⟩ := items_int h3
  have hlen : ns.length ≤ n := by
    unfold OpenLaw.pre at hc
    have h4 : (WTm.not (.lt (.lit (.int (n : Int))) (.len (.arg 0)))).holds [] { args := [.list (ns.map .int)] } = true := by
      have h4 := (holds_andW hc).1
      rw [hn] at h4
      exact h4
    have h5 := condW_of h4 (w_not (w_lt w_lit (w_len_list (w_arg rfl))))
    rw [List.length_map] at h5
    refine Nat.le_of_not_lt fun q => ?_
    have q' : (n : Int) < ((ns.length : Nat) : Int) := by omega
    first
      | (rw [decide_eq_true q'] at h5; exact absurd h5 (by decide))
      | (simp at h5; omega)
  cases hwl with
  | cons w1 w2 =>
    cases w2
    cases w1 with
    | list ho hall => exact ⟨_, _, ns, rfl, rfl, ho, ints_of_wellAll ns _ hall, hlen⟩

theorem post_true (l : OpenLaw) (args : List WData) : l.row.toRowW.claim.post args (.bool true) args = true :=
  postW_of (r := l.row.toRowW) (X := (true == true))
    (show WShape.has [] (.bool true) .bool = true by first | rfl | decide | simp [WShape.has, WShape.arms, WShape.armsAll])
    (show (WTm.eq .res (.lit (.bool true))).value [] { args := args, res := some (.bool true), after := args } = some (.bool (true == true)) from w_eq_bool (w_res rfl) w_lit) rfl

/-! ### the attachment: holds_open's last premise (the goal 'hc' behind k_head) from a wpAny of the law's body -/
theorem attach {l : OpenLaw} {n : Nat} {q : Program} {loose : List Str} {XP : (Str → Option Value) → Heap → Prop} {YP : World → Heap → Prop} {d : DefRec} {x : Str}
    (hn : l.most = some n) (hdf : d.params.defaults = [])
    (hbind : ∀ pm cd doc v : Value, bindArgs (docDef d.name d.params d.body d.scope pm cd doc) ⟨[v], []⟩ = pure [(x, v)])
    (hx : d.scope.names.lookup x = some .local ∨ d.scope.names.lookup x = some .cell)
    (hk : d.scope.kind = .function) (hco : d.scope.isCoroutine = false) (hgen : d.scope.isGenerator = false)
    (body : ∀ (w : World) (s₀ s₁ s : Shared) (mg mb : Str → Option Value) (fa : Addr) (o : Obj) (pm cd doc : Value) (a : Addr) (vs : List Value) (ns : List Int),
      Ground q loose [] XP w s₀ mg mb s₁.heap → YP w s₁.heap →
      s₁.heap.get? fa = some o → o.data = .func (docDef d.name d.params d.body d.scope pm cd doc) → s₁.heap.CodeRec cd d.name → mg d.name = some (.ref fa) →
      s₁.heap.get? a = some { cls := .type "list", data := .seq vs.toArray } → IntsAre vs ns → ns.length ≤ n →
      s.gens = #[] → s.os = s₁.os →
      Fr s₁.heap s₁.heap.objs.size s.heap (bindL (envOfC d.name d.scope s₁.heap.objs.size fa cd).kindOf [(x, .ref a)] fun _ => none) →
      Cl s₁.heap.objs.size (cellsFrom (s₁.heap.objs.size + 1) d.scope.names []) s.heap (bindC (envOfC d.name d.scope s₁.heap.objs.size fa cd).kindOf [(x, .ref a)] fun _ => none) →
      wpAny (model l.prog w) (callerA.deeper (envOfC d.name d.scope s₁.heap.objs.size fa cd)) (execs d.body (envOfC d.name d.scope s₁.heap.objs.size fa cd))
        (fun f s' => f = .ret (.bool true) ∧ OldK s₁.heap s'.heap ∧ s'.os = s₁.os ∧ AllBare s'.gens) (fun _ _ => False) s) :
    WalkO q loose XP YP l.row.toRowW d [] (fun f vs => PySem.call f vs) := by
  intro w s₀ s₁ mg mb G Y fa o pm cd doc dV kV ho hd hcd hD hmg hg args vals as hpre hlay hrd hwl hlo
  obtain rfl : dV = .none := Dflts.none hD hdf
  obtain rfl : kV = .none := Dflts.noKw hD
  obtain ⟨a, vs, ns, rfl, rfl, hobj, hints, hlen⟩ := script_of hn hpre hwl
  refine enter_call ?_
  refine call_cells_ret (o := o) (by rw [depth_caller]; decide) ho (fd_plain hd) G.T.nolimit hcd (hbind pm cd doc (.ref a)) (fun y hy => ?_) (fun h₁ tk F X => ?_) hco hgen hk
  · obtain rfl : y = (x, Value.ref a) := List.mem_singleton.mp hy
    rcases hx with e | e
    · exact .inl e
    · exact .inr ⟨e, cellsFrom_some _ _ _ (.inl e)⟩
  · refine wpAny_mono (body w s₀ s₁ { s₁ with heap := h₁, toks := tk } mg mb fa o pm cd doc a vs ns G Y ho (fd_plain hd) hcd hmg hobj hints hlen hg rfl F X) (fun f s' hq => ?_) (fun _ _ hq => hq)
    obtain ⟨rfl, h2, h3, h4⟩ := hq
    exact ⟨.inl ⟨.bool true, .bool true, [], rfl, fun _ => rfl, .bool true, post_true l _, fun _ => ⟨List.Pairwise.nil, fun _ hm => (nomatch hm)⟩⟩, h2, h3, h4⟩

/-- the same from a codeAny of the CALL (for a layer whose function contracts speak of calls) -/
theorem attach_call {l : OpenLaw} {n : Nat} {q : Program} {loose : List Str} {XP : (Str → Option Value) → Heap → Prop} {YP : World → Heap → Prop} {d : DefRec}
    (hn : l.most = some n) (hdf : d.params.defaults = [])
    (call : ∀ (w : World) (s₀ s₁ : Shared) (mg mb : Str → Option Value) (fa : Addr) (o : Obj) (pm cd doc : Value) (a : Addr) (vs : List Value) (ns : List Int),
      Ground q loose [] XP w s₀ mg mb s₁.heap → YP w s₁.heap →
      s₁.heap.get? fa = some o → o.data = .func (docDef d.name d.params d.body d.scope pm cd doc) → s₁.heap.CodeRec cd d.name → mg d.name = some (.ref fa) →
      s₁.heap.get? a = some { cls := .type "list", data := .seq vs.toArray } → IntsAre vs ns → ns.length ≤ n → s₁.gens = #[] →
      codeAny (model l.prog w) callerA (.call (.ref fa) ⟨[.ref a], []⟩) (fun r s' => r = .ok (.ret (.bool true)) ∧ OldK s₁.heap s'.heap ∧ s'.os = s₁.os ∧ AllBare s'.gens) s₁) :
    WalkO q loose XP YP l.row.toRowW d [] (fun f vs => PySem.call f vs) := by
  intro w s₀ s₁ mg mb G Y fa o pm cd doc dV kV ho hd hcd hD hmg hg args vals as hpre hlay hrd hwl hlo
  obtain rfl : dV = .none := Dflts.none hD hdf
  obtain rfl : kV = .none := Dflts.noKw hD
  obtain ⟨a, vs, ns, rfl, rfl, hobj, hints, hlen⟩ := script_of hn hpre hwl
  refine enter_call (codeAny_mono (call w s₀ s₁ mg mb fa o pm cd doc a vs ns G Y ho (fd_plain hd) hcd hmg hobj hints hlen hg) fun r s' hq => ?_)
  obtain ⟨rfl, h2, h3, h4⟩ := hq
  exact ⟨.inl ⟨.bool true, .bool true, [], rfl, fun _ => rfl, .bool true, post_true l _, fun _ => ⟨List.Pairwise.nil, fun _ hm => (nomatch hm)⟩⟩, h2, h3, h4⟩

/-- the same where the top left finished generators (o_head chose holds_openN): nothing may have changed at all and no generator may be left -/
theorem attachN {l : OpenLaw} {n : Nat} {q : Program} {loose : List Str} {XP : (Str → Option Value) → Heap → Prop} {YP : World → Heap → Prop} {d : DefRec} {x : Str}
    (hn : l.most = some n) (hdf : d.params.defaults = [])
    (hbind : ∀ pm cd doc v : Value, bindArgs (docDef d.name d.params d.body d.scope pm cd doc) ⟨[v], []⟩ = pure [(x, v)])
    (hx : d.scope.names.lookup x = some .local ∨ d.scope.names.lookup x = some .cell)
    (hk : d.scope.kind = .function) (hco : d.scope.isCoroutine = false) (hgen : d.scope.isGenerator = false)
    (body : ∀ (w : World) (s₀ s₁ s : Shared) (mg mb : Str → Option Value) (fa : Addr) (o : Obj) (pm cd doc : Value) (a : Addr) (vs : List Value) (ns : List Int),
      Ground q loose [] XP w s₀ mg mb s₁.heap → YP w s₁.heap →
      s₁.heap.get? fa = some o → o.data = .func (docDef d.name d.params d.body d.scope pm cd doc) → s₁.heap.CodeRec cd d.name → mg d.name = some (.ref fa) →
      s₁.heap.get? a = some { cls := .type "list", data := .seq vs.toArray } → IntsAre vs ns → ns.length ≤ n →
      s.gens = #[] → s.os = s₁.os →
      Fr s₁.heap s₁.heap.objs.size s.heap (bindL (envOfC d.name d.scope s₁.heap.objs.size fa cd).kindOf [(x, .ref a)] fun _ => none) →
      Cl s₁.heap.objs.size (cellsFrom (s₁.heap.objs.size + 1) d.scope.names []) s.heap (bindC (envOfC d.name d.scope s₁.heap.objs.size fa cd).kindOf [(x, .ref a)] fun _ => none) →
      wpAny (model l.prog w) (callerA.deeper (envOfC d.name d.scope s₁.heap.objs.size fa cd)) (execs d.body (envOfC d.name d.scope s₁.heap.objs.size fa cd))
        (fun f s' => f = .ret (.bool true) ∧ (∀ b o, s₁.heap.get? b = some o → s'.heap.get? b = some o) ∧ s'.os = s₁.os ∧ s'.gens = #[]) (fun _ _ => False) s) :
    WalkN q loose XP YP l.row.toRowW d [] (fun f vs => PySem.call f vs) := by
  intro w s₀ s₁ mg mb G Y fa o pm cd doc dV kV ho hd hcd hD hmg hg args vals as hpre hlay hrd hwl hlo
  obtain rfl : dV = .none := Dflts.none hD hdf
  obtain rfl : kV = .none := Dflts.noKw hD
  obtain ⟨a, vs, ns, rfl, rfl, hobj, hints, hlen⟩ := script_of hn hpre hwl
  refine enter_callW ?_
  refine call_cells_ret (o := o) (by rw [depth_caller]; decide) ho (fd_plain hd) G.T.nolimit hcd (hbind pm cd doc (.ref a)) (fun y hy => ?_) (fun h₁ tk F X => ?_) hco hgen hk
  · obtain rfl : y = (x, Value.ref a) := List.mem_singleton.mp hy
    rcases hx with e | e
    · exact .inl e
    · exact .inr ⟨e, cellsFrom_some _ _ _ (.inl e)⟩
  · refine wpAny_mono (body w s₀ s₁ { s₁ with heap := h₁, toks := tk } mg mb fa o pm cd doc a vs ns G Y ho (fd_plain hd) hcd hmg hobj hints hlen hg rfl F X) (fun f s' hq => ?_) (fun _ _ hq => hq)
    obtain ⟨rfl, h2, h3, h4⟩ := hq
    exact ⟨.inl ⟨.bool true, .bool true, [], rfl, fun _ => rfl, .bool true, post_true l _, fun _ => ⟨List.Pairwise.nil, fun _ hm => (nomatch hm)⟩⟩, h2, h3, h4⟩

/-! ### rules over ANY heap (no ledger) from facts about the written part K: the library's own take a ledger (News) for what they write -/
section
variable {prog : Program} {w : World} {A : Around} {E : Value → Shared → Prop} {s : Shared} {K : Frag}

/-- a def of the module, or a method (qual 'C.m'), entered: the frame is the next address; cells behind it -/
theorem call_fn {R : Result → Shared → Prop} {name qual : Str} {params : Arguments} {body : List Stmt} {scope : Scope} {dV kV doc pm cdv ct oc : Value} {an od : Option Addr} {osl : Array (Option Value)} {f : Addr} {args : Args} {binds : List (Str × Value)}
    (X : K.In s.heap) (hlim : s.heap.NoLimit) (ho : K.lookup f = some ⟨oc, od, .func (fnOf name qual params body scope dV kV doc pm an cdv ct), osl⟩) (hcd : codeIn K cdv qual = true) (hroom : A.depth < recursionLimit)
    (hbind : BindsTo s (fnOf name qual params body scope dV kV doc pm an cdv ct) args binds)
    (hkind : (binds.all fun y => scope.names.lookup y.1 == some .local || scope.names.lookup y.1 == some .cell) = true)
    (h : ∀ s₁, InCallC s s.heap.objs.size (bindL (envOfC qual scope s.heap.objs.size f cdv).kindOf binds fun _ => none) (cellsFrom (s.heap.objs.size + 1) scope.names [])
        (bindC (envOfC qual scope s.heap.objs.size f cdv).kindOf binds fun _ => none) s₁ →
      wpAny (model prog w) (A.deeper (envOfC qual scope s.heap.objs.size f cdv)) (execs body (envOfC qual scope s.heap.objs.size f cdv))
        (fun fl s' => R (.ok (.ret (match fl with | .ret v => v | _ => .none))) s')
        (fun e s' => wpAny (model prog w) (A.deeper (envOfC qual scope s.heap.objs.size f cdv)) (leaving (envOfC qual scope s.heap.objs.size f cdv) e) (fun _ s'' => R (.error e) s'') (fun e' s'' => R (.error e') s'') s') s₁)
    (hco : scope.isCoroutine = false) (hgen : scope.isGenerator = false) (hk : scope.kind = .function) : codeAny (model prog w) A (.call (.ref f) args) R s := by
  refine codeAny_call_function hroom (X _ _ ho) rfl hco hgen rfl (codeRec_of X hcd) (hbind _ _ _ _ ?_)
  refine wpAny_newFunctionEnv_cells hk (kindsX hkind _) fun env he s₁ x => ?_
  subst he
  exact ⟨hlim.keeps x.toInCall.keep, codeAny_func (h s₁ x)⟩

/-- C(..): dict at size, instance at size + 1, then __init__ -/
theorem make_obj {R : Result → Shared → Prop} {C fI : Addr} {rest : List Value} {kw : List (Str × Value)}
    (X : K.In s.heap) (hm : makesIn K C = true) (hi : findIn K (.ref C) "__init__" = some (some (.ref fI))) (hf : isFn K (.ref fI) = true)
    (h : codeAny (model prog w) (A.under (.builtin "type.__call__" ⟨.ref C :: rest, kw⟩)) (.call (.ref fI) ⟨.ref (s.heap.objs.size + 1) :: rest, kw⟩) (InitBack (s.heap.objs.size + 1) R)
      { s with heap := (s.heap.push emptyDict).push (instObj C s.heap.objs.size) }) : codeAny (model prog w) A (.call (.ref C) ⟨rest, kw⟩) R s := by
  obtain ⟨hh, g, d, t, os⟩ := s
  exact make_core (makes_of X hm) (looks_findIn X hi) (fun self => bind_fn X self (beq_iff_eq.mp hf)) (.inl rfl) h

/-- x.name where the instance's dict holds the name and the class does not -/
theorem get_field {x C : Addr} {ox : Obj} {es : List DictEntry} {n : Nat} {name : Str} {expr : Bool} {v : Value} {Q : Value → Shared → Prop}
    (X : K.In s.heap) (I : PySem.W.InstAt s.heap x ox C (some (dictOf es n))) (hg : plainGet K C name = true) (hh : hasDictIn K C = true) (ha : findIn K (.ref C) name = some none)
    (hl : getL name es = some (some v)) (hv : handedIn v = true) (h : Q v { s with toks := s.toks + 1 }) : wpAny (model prog w) A (getAttr (.ref x) name expr) Q E s :=
  get_value X I (plainGet_of hg).1 (findObj_own hh ha rfl hl) hv h

/-- x.m(..): the method found in the class -/
theorem get_method {x C f : Addr} {ox : Obj} {es : List DictEntry} {n : Nat} {name : Str} {pl : Sem Bool} {Q : Value × List Value → Shared → Prop}
    (X : K.In s.heap) (I : PySem.W.InstAt s.heap x ox C (some (dictOf es n))) (hg : plainGet K C name = true) (hf : findIn K (.ref C) name = some (some (.ref f))) (ht : isFn K (.ref f) = true)
    (hl : getL name es = some none) (h : Q (.ref f, [.ref x]) s) : wpAny (model prog w) A (getMethod (.ref x) name pl) Q E s :=
  method_fn X I (plainGet_of hg).1 (plainGet_of hg).2 hf (beq_iff_eq.mp ht) (by show (lookIn name (dictOf es n)).map _ = _; rw [lookIn_dict, hl]; rfl) h

/-! the whole heap as the ledger: makes every rule that writes through a ledger a rule over any heap -/
def noObjs (h : Heap) : Heap := { h with objs := #[] }
theorem noObjs_get (h : Heap) (b : Addr) : (noObjs h).get? b = none := by
  cases e : (noObjs h).get? b with
  | none => rfl
  | some o => exact absurd (Heap.lt_size e) (Nat.not_lt_zero _)
def ledger (h : Heap) (L d : Addr) : List (Addr × Obj) := (List.range h.objs.size).filterMap fun a => if a = L ∨ a = d then none else (h.get? a).map fun o => (a, o)
theorem mem_ledger {h : Heap} {L d a : Addr} {o : Obj} : (a, o) ∈ ledger h L d ↔ a ≠ L ∧ a ≠ d ∧ h.get? a = some o := by
  unfold ledger
  rw [List.mem_filterMap]
  constructor
  · rintro ⟨b, _, e⟩
    split at e
    · cases e
    · rename_i hb
      obtain ⟨o', ho, e'⟩ := Option.map_eq_some_iff.mp e
      cases e'
      exact ⟨fun q => hb (.inl q), fun q => hb (.inr q), ho⟩
  · rintro ⟨n1, n2, ho⟩
    refine ⟨a, List.mem_range.mpr (Heap.lt_size ho), ?_⟩
    rw [if_neg (show ¬ (a = L ∨ a = d) from fun q => q.elim n1 n2), ho] <;> rfl
theorem news_ledger {h : Heap} {L d : Addr} {od : Obj} (hne : d ≠ L) (ho : h.get? d = some od) : News (noObjs h) L h ([] ++ (d, od) :: ledger h L d) := by
  rintro ⟨a, o⟩ hp
  rcases List.mem_cons.mp hp with e | hp
  · cases e
    exact ⟨ho, hne, noObjs_get _ _⟩
  · obtain ⟨n1, n2, e⟩ := mem_ledger.mp hp
    exact ⟨e, n1, noObjs_get _ _⟩
theorem fr_all {h : Heap} {L : Addr} {m : Str → Option Value} (n : h.Ns L m) : Fr (noObjs h) L h m :=
  ⟨n, fun b o e => (by rw [noObjs_get] at e; cases e), Nat.zero_le _⟩
/-- Upd of the head entry (for append_K, setItem_K ..) -/
theorem upd_ledger {h : Heap} {L d : Addr} {o o' : Obj} : Upd d o o' ((d, o) :: ledger h L d) ((d, o') :: ledger h L d) :=
  .head fun ⟨_, _⟩ hp => (mem_ledger.mp hp).2.1

/-- x.name = v over any heap: L is any namespace of the heap (the frame's, say): its map stays, its object is not told; all else but the dict stays -/
theorem set_field {x C dx L : Addr} {ox : Obj} {m : Str → Option Value} {es es' : List DictEntry} {n n' : Nat} {name : Str} {v : Value} {Q : Unit → Shared → Prop}
    (X : K.In s.heap) (I : PySem.W.InstAt s.heap x ox C (some (dictOf es n))) (hd : ox.dict = some dx) (hL : s.heap.Ns L m) (hne : dx ≠ L)
    (hs : findIn K (.ref C) "__setattr__" = some (some (.builtin "object.__setattr__"))) (hp : plainOver K C = true) (ht : takerIn K C name = some none) (hh : hasDictIn K C = true) (hl : (getL name es).isSome = true)
    (e : (putL name (PyData.keyHash w.params name) (.str name (s.toks + 1)) v es, putN name es n) = (es', n')) (hz : es'.length ≤ 1000)
    (h : ∀ h' : Heap, h'.Ns L m → h'.get? dx = some (dictOf es' n') → (∀ b o, b ≠ dx → b ≠ L → s.heap.get? b = some o → h'.get? b = some o) → Q () { s with heap := h', toks := s.toks + 2 }) :
    wpAny (model prog w) A (setAttr (.ref x) name v) Q E s := by
  obtain ⟨e1, e2⟩ := Prod.mk.inj e
  have hdx : s.heap.get? dx = some (dictOf es n) := by
    have := I.dict
    rw [hd] at this
    exact this
  refine set_plain X I hs (osa_dict (s := { s with toks := s.toks + 1 }) (h₀ := noObjs s.heap) (L := L) (m := m) (od := dictOf es n) (od' := dictOf es' n') (es := es') (n := n') (pre := []) (post := ledger s.heap L dx)
    (fr_all hL) (news_ledger hne hdx) X I hd hp ht hh hl (fun _ q => nomatch q) (fun ⟨_, _⟩ q => (mem_ledger.mp q).2.1) (by rw [putName_dict, e1, e2]) rfl hz fun h' F' N' => ?_)
  exact h h' F'.ns (N'.get (List.Mem.head _)) fun b o n1 n2 ho => N'.get (List.Mem.tail _ (mem_ledger.mpr ⟨n2, n1, ho⟩))
end
end Att

namespace L2
open PySem PySem.Spec PyProof.Rows

theorem vals_ints : ∀ {vs : List Value} {ns : List Int}, IntsAre vs ns → Vals (ns.map V.int) vs
  | _, _, .nil => .nil
  | _, _, .cons n t h => .cons ⟨t, rfl⟩ (vals_ints h)

/-- nothing is tracked but the script, known to the object (or it is an object of the module) -/
def Only (H : Hp) : Prop := ∀ b, H b = none ∨ ∃ o xs, H b = some (.frz o (.lst xs))

/-- THE HEAD: the law's promise, at the heap behind the top. F, the promise of the law's def, may use that base is part of the heap (so K.In base, base.Ns mainGlobals mg stand in Mod) -/
theorem law_call {P : Program} {w : World} {K : PySem.W.Frag} {mg mb : Str → Option Value} {CX : CXT} {k : Nat} {fa a : Addr} {fd : FuncData} {x : Str} {sp : Sp} {s₁ : Shared} {vs : List Value} {ns : List Int}
    (KX : K.In s₁.heap) (hns : s₁.heap.Ns mainGlobals mg) (hb : s₁.heap.Ns builtinsNs mb) (hbb : ∀ x : Str, x ≠ "__name__" → mb x = bootBuiltins x) (hlim : s₁.heap.NoLimit) (hg : s₁.gens = #[])
    (ha : s₁.heap.get? a = some { cls := .type "list", data := .seq vs.toArray }) (hi : IntsAre vs ns) (hl : ns.length ≤ sizeLine) (hr : Room k callerA)
    (F : ∀ base : Heap, K.In base → base.Ns mainGlobals mg → FnOk P w K mg base CX k fa fd [x] sp) (hbind : ∀ (s : Shared) (u : Value), BindsTo s fd ⟨[u], []⟩ [(x, u)])
    (hsp : ∀ H : Hp, Only H → SqL K H a (ns.map V.int) → sp [.ref a] H (fun v _ => v = .bl true) fun _ _ _ => False)
    (hCX : ∀ H e s', CX [] H s₁ (fun _ _ _ => False) e s' → False) :
    codeAny (model P w) callerA (.call (.ref fa) ⟨[.ref a], []⟩) (fun r s' => r = .ok (.ret (.bool true)) ∧ OldK s₁.heap s'.heap ∧ s'.os = s₁.os ∧ AllBare s'.gens) s₁ := by
  have rv := vals_ints hi
  have lenV := hi.length
  -- from an abstract heap in which nothing but the script may be tracked
  have core : ∀ H : Hp, Only H → SqL K H a (ns.map V.int) → HOk P w H s₁.heap → (∀ b, H b ≠ none → b = a) → (H a ≠ none → K.lookup a = none) →
      codeAny (model P w) callerA (.call (.ref fa) ⟨[.ref a], []⟩) (fun r s' => r = .ok (.ret (.bool true)) ∧ OldK s₁.heap s'.heap ∧ s'.os = s₁.os ∧ AllBare s'.gens) s₁ := by
    intro H hO hS hok hA hK
    have base_of : ∀ {b : Addr} {o : Obj}, s₁.heap.get? b = some o → H b = none → (hidT s₁.heap H).get? b = some o := fun e n => hidT_get e n
    have noA : ∀ {b : Addr} {o : Obj} {es : Array DictEntry} {ep : Nat}, s₁.heap.get? b = some o → o.data = .dict es ep → H b = none := fun {b o es ep} e d => by
      cases q : H b with
      | none => rfl
      | some u =>
        have e' : b = a := hA b (by rw [q]; simp)
        subst e'
        rw [ha] at e; cases e
        have d' : Data.seq vs.toArray _ = Data.dict es ep := d
        cases d'
    have nsK : ∀ {b : Addr} {m : Str → Option Value}, s₁.heap.Ns b m → (hidT s₁.heap H).Ns b m := fun {b m} ⟨o, es, ep, e, d, r⟩ => ⟨o, es, ep, base_of e (noA e d), d, r⟩
    have hKb : K.In (hidT s₁.heap H) := fun b o e => base_of (KX b o e) (by
      cases q : H b with
      | none => rfl
      | some u =>
        have e' : b = a := hA b (by rw [q]; simp)
        subst e'
        rw [hK (by rw [q]; simp)] at e; cases e)
    have hM : Mod K mg (hidT s₁.heap H) := ⟨hKb, nsK hns, ⟨mb, nsK hb, hbb⟩, let ⟨mc, h1, h2⟩ := hlim; ⟨mc, nsK h1, h2⟩⟩
    have e0 : Env0 P w K mg (hidT s₁.heap H) callerA [] s₁ H := ⟨rfl, hM, fun b o e => of_hidT e, Nat.le_of_eq (hidT_size _ _), trivial, fun b hb => absurd (show b ∈ ([] : List Addr) from hb) (by simp), hok, .of_eq hg⟩
    refine codeAny_mono ((F _ hKb (nsK hns)).run callerA [] s₁ H ⟨[.ref a], []⟩ [.ref a] [.ref a] _ _ hr e0 (hbind s₁ (.ref a)) (.cons rfl .nil) (hsp H hO hS)) fun r s' h => ?_
    cases r with
    | error e => exact (hCX H e s' h).elim
    | ok fl =>
      cases fl with
      | next => exact False.elim h
      | brk => exact False.elim h
      | cont => exact False.elim h
      | ret u =>
        obtain ⟨v, H', os, bare, un, hok', r', q⟩ := h
        have q' : v = .bl true := q
        subst q'
        obtain rfl : u = Value.bool true := r'
        refine ⟨rfl, OldK.of_keep fun b o e => ?_, os, bare⟩
        cases q : H b with
        | none => exact un.keep b o e q (by intro z; exact absurd (show b ∈ ([] : List Addr) from z) (by simp)) (by simp)
        | some u =>
          rcases hO b with z | ⟨ob, xs, z⟩
          · rw [q] at z; cases z
          · have z2 := un.frzs b ob _ z
            obtain ⟨e1, _⟩ := hok b _ z
            obtain ⟨e2, _⟩ := hok' b _ z2
            rw [e] at e1; cases e1
            exact e2
  cases hk : K.lookup a with
  | some o =>
    -- the script is one of the module's own objects
    have e := KX a o hk
    rw [ha] at e
    cases e
    refine core (fun _ => none) (fun _ => .inl rfl) (.inr ⟨_, vs.toArray, _, hk, rfl, rfl, rfl, by rw [List.size_toArray, lenV]; exact hl, by simpa using rv⟩) (fun b u z => by have z' : (none : Option HO) = some u := z; cases z') (fun b z => absurd rfl z) fun z => absurd rfl z
  | none =>
    refine core (fun b => if b = a then some (.frz { cls := .type "list", data := .seq vs.toArray } (.lst (ns.map V.int))) else none) (fun b => ?_) (.inl (.inr ⟨{ cls := .type "list", data := .seq vs.toArray }, if_pos rfl⟩)) (fun b u z => ?_) (fun b z => ?_) fun _ => hk
    · by_cases hb : b = a
      · exact .inr ⟨_, _, if_pos hb⟩
      · exact .inl (if_neg hb)
    · by_cases hb : b = a
      · have z' := (if_pos hb).symm.trans z
        cases z'
        subst hb
        exact ⟨ha, by rw [List.length_map]; exact hl, vs, _, rv, ha⟩
      · have z' := (if_neg hb).symm.trans z
        cases z'
    · by_cases hb : b = a
      · exact hb
      · exact absurd (if_neg hb) z
end L2

namespace L2
open PySem PySem.Spec PyProof.Rows

abbrev KOf {K : PySem.W.Frag} {h : Heap} (_ : K.In h) : PySem.W.Frag := K

/-- the goal that k_head leaves (case hc), from the law's promise. F gives the function object fd (K's own) once, then the promise over every base -/
theorem walk_of {l : PySem.W.OpenLaw} {n k : Nat} {q : Program} {loose : List Str} {XP : (Str → Option Value) → Heap → Prop} {YP : World → Heap → Prop} {d : DefRec} {K : Params → PySem.W.Frag} {CX : World → CXT} {sp : World → Sp} {x : Str}
    (hn : l.most = some n) (hn2 : n ≤ sizeLine) (hdf : d.params.defaults = []) (hr : Room k callerA)
    (hY : ∀ (w : World) (h : Heap), YP w h → (K w.params).In h)
    (F : ∀ (w : World) (mg : Str → Option Value) (fa : Addr) (h : Heap), (K w.params).In h → h.Ns mainGlobals mg → mg d.name = some (.ref fa) →
      ∃ fd : FuncData, (∀ (s : Shared) (u : Value), BindsTo s fd ⟨[u], []⟩ [(x, u)]) ∧
        ∀ base : Heap, (K w.params).In base → base.Ns mainGlobals mg → FnOk l.prog w (K w.params) mg base (CX w) k fa fd [x] (sp w))
    (hsp : ∀ (w : World) (H : Hp) (a : Addr) (ns : List Int), ns.length ≤ n → Only H → SqL (K w.params) H a (ns.map V.int) → sp w [.ref a] H (fun v _ => v = .bl true) fun _ _ _ => False)
    (hCX : ∀ (w : World) (H : Hp) (s : Shared) (e : Value) (s' : Shared), CX w [] H s (fun _ _ _ => False) e s' → False) :
    PySem.W.WalkO q loose XP YP l.row.toRowW d [] (fun f vs => PySem.call f vs) := by
  refine Att.attach_call hn hdf fun w s₀ s₁ mg mb fa o pm cd doc a vs ns G Y ho hd hcd hmg hobj hints hlen hg => ?_
  have KX := hY w _ Y
  obtain ⟨fd, hb, hF⟩ := F w mg fa _ KX G.T.g hmg
  exact law_call KX G.T.g G.T.b G.T.builtins G.T.nolimit hg hobj hints (Nat.le_trans hlen hn2) hr hF hb (fun H hO hS => hsp w H a ns hlen hO hS) fun H e s' => hCX w H s₁ e s'
/-- the same where the promise hangs on the written part alone: (sp := My.sp_law), no hole under a binder -/
theorem walk_ofK {l : PySem.W.OpenLaw} {n k : Nat} {q : Program} {loose : List Str} {XP : (Str → Option Value) → Heap → Prop} {YP : World → Heap → Prop} {d : DefRec} {K : Params → PySem.W.Frag} {CX : CXT} {sp : PySem.W.Frag → Sp} {x : Str}
    (hn : l.most = some n) (hn2 : n ≤ sizeLine) (hdf : d.params.defaults = []) (hr : Room k callerA)
    (hY : ∀ (w : World) (h : Heap), YP w h → (K w.params).In h)
    (F : ∀ (w : World) (mg : Str → Option Value) (fa : Addr) (h : Heap), (K w.params).In h → h.Ns mainGlobals mg → mg d.name = some (.ref fa) →
      ∃ fd : FuncData, (∀ (s : Shared) (u : Value), BindsTo s fd ⟨[u], []⟩ [(x, u)]) ∧
        ∀ base : Heap, (K w.params).In base → base.Ns mainGlobals mg → FnOk l.prog w (K w.params) mg base CX k fa fd [x] (sp (K w.params)))
    (hsp : ∀ (K : PySem.W.Frag) (H : Hp) (a : Addr) (ns : List Int), ns.length ≤ n → Only H → SqL K H a (ns.map V.int) → sp K [.ref a] H (fun v _ => v = .bl true) fun _ _ _ => False)
    (hCX : ∀ (H : Hp) (s : Shared) (e : Value) (s' : Shared), CX [] H s (fun _ _ _ => False) e s' → False) :
    PySem.W.WalkO q loose XP YP l.row.toRowW d [] (fun f vs => PySem.call f vs) :=
  walk_of (K := K) (CX := fun _ => CX) (sp := fun w => sp (K w.params)) hn hn2 hdf hr hY F (fun w H a ns h1 h2 h3 => hsp (K w.params) H a ns h1 h2 h3) fun _ H s e s' => hCX H s e s'
end L2

/- THE LAST THEOREM (shape; LID, My.* are yours):
   My.Adr: a structure of the addresses that your layer names (classes, functions); My.Txt K t: a structure (Prop) of the equations over K;
   My.txt_mk : {K} {implicit addresses ..} (e1 : nsIn K mainGlobals "law" = some (some (.ref f))) (e2 : K.lookup f = some ⟨oc, od, .func (fnOf "law" "law" params body scope dV kV doc pm an cdv ct), sl⟩) (e3 : codeIn K cdv "law" = true) .. : ∃ t, My.Txt K t

set_option maxRecDepth 100000 in
set_option maxHeartbeats 0 in
theorem PySem.Challenge.cw_LID_holds : PySem.Challenge.rw_LID.Holds := by
  w_on; o_law; k_head; (case hw => w_witness2)
  k_fill
  refine L2.walk_of (l := PySem.Challenge.rw_LID) (n := 63) (k := 40) (x := "script") (CX := fun w => ..) (sp := fun _ => My.sp_law) rfl (by decide) rfl ⟨rfl, by decide, by decide⟩ (fun w h Y => PySem.W.kIn_of Y) ?F ?S ?C
  case F =>
    intro w mg fa h KX G hmg
    have T : ∃ t, My.Txt (L2.KOf KX) t := by
      dsimp only [L2.KOf]                          -- K must stand as «<heap const> w.params» for k_is
      refine' My.txt_mk ?e1 ?e2 ?e3 ..
      (case e1 => PySem.W.k_is)                    -- in the order: a name -> its address -> its object -> its parts
      (case e2 => PySem.W.k_is)
      ..
    obtain ⟨t, T⟩ := T
    have e0 := hmg.symm.trans (PySem.W.mg_of KX G T.law)
    cases e0                                       -- fa is the law's own address
    exact ⟨_, fun s u => .of_eq rfl, fun base kb nb => My.law_fn T kb nb⟩     -- if «.of_eq rfl» comes too early: refine' ⟨_, ?b, fun base kb nb => My.law_fn T kb nb⟩; exact fun s u => .of_eq rfl
  case S => exact fun w H a ns hl hO hS => ..
  case C => exact ..
(the tactic k_is has no namespace: write k_is) -/

/-! SHORT WORDS over the layer: a def of the text, its body, what a loop and a test want. -/
namespace L2
open PySem PySem.Spec PyProof.Rows

/-! ### the text by places -/
/-- the j-th statement of a class's body -/
def inClass (s : Stmt) (j : Nat) : Stmt := match s with
  | .ClassDef _ _ _ body _ _ _ _ _ _ _ => body.getD j (.Pass ⟨0, 0, 0, 0⟩)
  | _ => .Pass ⟨0, 0, 0, 0⟩
def defArgs (s : Stmt) : Arguments := match s with
  | .FunctionDef _ a _ _ _ _ _ _ _ _ => a
  | _ => { posonlyargs := [], args := [], vararg := none, kwonlyargs := [], kw_defaults := [], kwarg := none, defaults := [] }
def defBody (s : Stmt) : List Stmt := match s with
  | .FunctionDef _ _ b _ _ _ _ _ _ _ => b
  | _ => []
def defScope (s : Stmt) : Scope := match s with
  | .FunctionDef _ _ _ _ _ _ sc _ _ _ => sc
  | _ => { kind := .function, names := [], isGenerator := false, isCoroutine := false }

/-! ### no exception leaves a def -/
abbrev CX0 : CXT := fun _ _ _ _ _ _ => False
abbrev E0 : XK := fun _ _ _ => False
theorem pass0 {X : Cx} : Passes CX0 X E0 := fun _ _ _ _ _ _ _ h => h.elim

/-! ### a def (or method) of the text as it stands behind the top -/
structure Fun (K : PySem.W.Frag) (x qual : Str) (st : Stmt) (f : Addr) (fd : FuncData) : Prop where
  ex : ∃ (oc : Value) (od : Option Addr) (kV doc pm : Value) (an : Option Addr) (cdv ct : Value) (osl : Array (Option Value)),
    fd = PySem.W.fnOf x qual (defArgs st) (defBody st) (defScope st) .none kV doc pm an cdv ct ∧ K.lookup f = some ⟨oc, od, .func fd, osl⟩ ∧ PySem.W.codeIn K cdv qual = true
  kp : PySem.W.keepIn K (.ref f) = true
section
variable {P : Program} {w : World} {K : PySem.W.Frag} {mg : Str → Option Value} {base : Heap}
/-- THE RULE for a def: its body as a term of rules, and the reading of that term -/
theorem Fun.ok {x qual : Str} {st : Stmt} {f : Addr} {fd : FuncData} {N ps : List Str} {k : Nat} {sp : Sp} (F : Fun K x qual st f fd) (S : FnScope N ps (defScope st)) (len : ∀ vs H Q E, sp vs H Q E → vs.length = ps.length)
    (hbody : ∀ (cdv : Value) (A : Around) (outer : List Env) (s : Shared) (H : Hp) (vs : List V) (Q : VK) (E : XK), Room k (A.deeper (envOfC qual (defScope st) s.heap.objs.size f cdv)) → sp vs H Q E →
      ∃ t, PSs (cxOf CX0 P w K mg base N qual (defScope st) f cdv A outer s H E).nox (defBody st) t ∧ t { nx := fun _ H' => Q .non H', rt := Q } (start N vs) H) : FnOk P w K mg base CX0 (k + 1) f fd ps sp := by
  obtain ⟨oc, od, kV, doc, pm, an, cdv, ct, osl, rfl, lk, hcd⟩ := F.ex
  refine fn_of lk hcd S len fun A outer s H vs Q E hr hsp => ?_
  obtain ⟨t, h, q⟩ := hbody cdv A outer s H vs Q E hr hsp
  exact ⟨t, h.nox, q⟩
/-- how its arguments bind (no defaults): h is «fun _ _ _ _ _ _ us hl => match us, hl with | [_, _], _ => rfl», one _ a parameter -/
theorem Fun.binds {x qual : Str} {st : Stmt} {f : Addr} {fd : FuncData} {ps : List Str} (F : Fun K x qual st f fd)
    (h : ∀ (kV doc pm : Value) (an : Option Addr) (cdv ct : Value) (us : List Value), us.length = ps.length → bindArgs (PySem.W.fnOf x qual (defArgs st) (defBody st) (defScope st) .none kV doc pm an cdv ct) ⟨us, []⟩ = pure (ps.zip us)) : Binds K fd ps [] := by
  obtain ⟨oc, od, kV, doc, pm, an, cdv, ct, osl, rfl, lk, hcd⟩ := F.ex
  exact .all (h kV doc pm an cdv ct)
theorem fun_mk {x qual : Str} {st : Stmt} {f : Addr} {oc : Value} {od an : Option Addr} {osl : Array (Option Value)} {kV doc pm cdv ct : Value} (l : K.lookup f = some ⟨oc, od, .func (PySem.W.fnOf x qual (defArgs st) (defBody st) (defScope st) .none kV doc pm an cdv ct), osl⟩)
    (c : PySem.W.codeIn K cdv qual = true) (k : PySem.W.keepIn K (.ref f) = true) : Fun K x qual st f (PySem.W.fnOf x qual (defArgs st) (defBody st) (defScope st) .none kV doc pm an cdv ct) := ⟨⟨oc, od, kV, doc, pm, an, cdv, ct, osl, rfl, l, c⟩, k⟩
end
theorem hu_of {A : Around} {k : Nat} (hr : Room k A) : A.units + 1 < cLine := Nat.lt_of_le_of_lt (Nat.add_le_add_left (by decide : 1 ≤ 64) _) hr.units
theorem small1000 {n : Nat} (h : n ≤ 1000) : n < sizeLine := Nat.lt_of_le_of_lt h (by decide)

/-! ### expressions in short: the name that stands in the i-th slot -/
section
variable {X : Cx}
theorem pv (i : Nat) {x : Str} {pos : Pos} (hN : X.N[i]? = some x := by rfl) (hv : Vis X.env.scope x := by first | exact Or.inl rfl | exact Or.inr (Or.inl rfl) | exact Or.inr (Or.inr rfl)) (hd : (x == ("__debug__" : Str)) = false := by decide)
    (hcd : (x == ("__classdict__" : Str)) = false := by decide) : PE X (.Name x pos) (tVar i) := pe_var hN hv hd hcd
end

/-! ### tests -/
theorem iteF {A B : Prop} (h : B) : if false = true then A else B := by
  rw [if_neg Bool.false_ne_true]
  exact h
theorem iteT {A B : Prop} (h : A) : if true = true then A else B := by
  rw [if_pos rfl]
  exact h
theorem ite2 {c A B : Prop} [Decidable c] (h1 : c → A) (h2 : ¬ c → B) : if c then A else B := by
  by_cases h : c
  · rw [if_pos h]
    exact h1 h
  · rw [if_neg h]
    exact h2 h
theorem iteNS {c A B : Prop} [Decidable c] (hc : c) (h : B) : if (!decide c) = true then A else B := by
  rw [decide_eq_true hc]
  exact iteF h

/-! ### heaps -/
/-- all that was tracked is as it was -/
def Same (H H' : Hp) : Prop := ∀ b o, H b = some o → H' b = some o
theorem Same.refl (H : Hp) : Same H H := fun _ _ h => h
theorem Same.trans {H H1 H2 : Hp} (a : Same H H1) (b : Same H1 H2) : Same H H2 := fun c o h => b c o (a c o h)
theorem Same.free {H H' : Hp} (e : Same H H') {l : Addr} (h : H' l = Option.none) : H l = Option.none := by
  cases q : H l with
  | none => rfl
  | some o =>
    rw [e l o q] at h
    cases h
theorem Same.seq {K : PySem.W.Frag} {H H' : Hp} {a : Addr} {xs : List V} (e : Same H H') (h : SqL K H a xs) : SqL K H' a xs := by
  rcases h with (h | ⟨o, h⟩) | h
  · exact .inl (.inl (e _ _ h))
  · exact .inl (.inr ⟨o, e _ _ h⟩)
  · exact .inr h

end L2

-- part Lx1
set_option Elab.async false
set_option linter.all false
set_option maxRecDepth 100000
set_option maxHeartbeats 4000000
namespace L2
open PySem PySem.Spec PyProof.Rows

/-! ### a text, walked -/
def Its (x : Str) : It := ⟨fun i _ => i < x.cps.size, fun i H v H' => H' = H ∧ ∃ c, x.cps[i]? = some c ∧ v = .str ⟨#[c]⟩, fun i _ => i = x.cps.size⟩
theorem go_str {M : Model} {A : Around} {E : Value → Shared → Prop} {s : Shared} {tg : Expr} {it : Addr} {y : Str} {t : Tok} {Q : Unit → Shared → Prop} (hQ : Q () s) : wpAny M A (letOwnedTupleGo tg (.ref it) (.str y t)) Q E s := by
  unfold letOwnedTupleGo
  cases tg <;> exact wpAny_pure hQ
theorem turn_str {P : Program} {w : World} {K : PySem.W.Frag} {tg : Expr} (T : String) (it : Addr) (x : Str) (t : Tok)
    (W : ∀ A : Around, A.handled = none → Walks P w A it [it] [it] x.cps.size (SignAt x) (fun i h => h.IsStrIter it T x t i))
    (hs : ∀ (A : Around) (i : Nat) (s : Shared) (Q : Value → Shared → Prop) (E : Value → Shared → Prop), s.heap.IsStrIter it T x t i → Q (.ref it) s → wpAny (model P w) A (pyIter (.ref it)) Q E s) :
    Turn P w K tg (Its x) [it] it (fun i h => h.IsStrIter it T x t i) where
  mem := by simp
  obj := fun i h st b hb => by
    have e : b = it := by simpa using hb
    subst e
    obtain ⟨o, e, c, d⟩ := st
    exact ⟨o, e, fun v z => by rw [d] at z; cases z⟩
  keep := fun i h h' st k => by
    obtain ⟨o, e, r⟩ := st
    exact ⟨o, k it (by simp) o e, r⟩
  item := by
    intro X hP hw hK hc i pins s σ H E I hf st hg
    subst hP hw hK
    obtain ⟨f0, f1, f2, f3, f4, f5⟩ := hf it (by simp)
    refine (W X.A (I.ok.hd hc)).item i s _ _ hg st fun v h' tk hv st' kk => ?_
    obtain ⟨c, u, hcu, rfl⟩ := hv
    have I1 : Inv X pins σ H { s with heap := h', toks := tk } := I.turned (fun b o hb e => kk b o (by simpa using hb) e) f0 f1 f3 f4 f5
    exact ⟨_, rfl, go_str ⟨.str ⟨#[c]⟩, H, I1, ⟨u, rfl⟩, ⟨rfl, c, hcu, rfl⟩, st', fun b hb => (hf b hb).1⟩⟩
  done := by
    intro X hP hw hK hc i pins s σ H E I hf st hg
    subst hP hw hK
    obtain ⟨f0, f1, f2, f3, f4, f5⟩ := hf it (by simp)
    have hg' : i = x.cps.size := hg
    subst hg'
    refine (W X.A (I.ok.hd hc)).done s _ _ st fun h' tk kk => ?_
    exact ⟨rfl, I.turned (fun b o hb e => kk b o (by simpa using hb) e) f0 f1 f3 f4 f5⟩
  self := hs
section
variable {X : Cx} {tg : Expr}
def iStr (tl : TE) : TI := fun σ H R => tl σ H fun x H1 => ∃ z, x = .str z ∧ R (Its z) H1
theorem pi_str {l : Expr} {tl : TE} (hl : PE X l tl) : PI X tg l (iStr tl) := by
  intro pins s σ H R I h
  refine thn (hl pins s σ H _ I h) fun v s1 ⟨x, H1, I1, r1, q1⟩ => ?_
  obtain ⟨z, e, q⟩ := q1
  subst e
  obtain ⟨t, rfl⟩ := r1
  have fin : ∀ (T : String) (o : Obj), Turn X.prog X.w X.K tg (Its z) [s1.heap.objs.size] s1.heap.objs.size (fun i h => h.IsStrIter s1.heap.objs.size T z t i) →
      (s1.heap.push o).IsStrIter s1.heap.objs.size T z t 0 → PIE X pins σ tg R (.ref s1.heap.objs.size) { s1 with heap := s1.heap.push o } := fun T o TT st => by
    refine ⟨s1.heap.objs.size, [s1.heap.objs.size], _, _, H1, rfl, I1.kept (t' := s1.toks) fun b o e => Heap.get?_push_of_some _ e, TT, st, fun b hb => ?_, q⟩
    have e : b = s1.heap.objs.size := by simpa using hb
    subst e
    exact I1.fpOk (Nat.le_refl _) (I1.hok.fresh (Nat.le_refl _))
  cases ha : z.cps.all (· < 128)
  · exact wpAny_pyIter_wide ha (fin "str_iterator" _ (turn_str _ _ z t (fun A hA => Walks.strWide hA _ z t) fun A i s Q E st h => wpAny_pyIter_striter_wide st h) ⟨_, Heap.get?_push_size _ rfl, rfl, rfl⟩)
  · exact wpAny_pyIter_ascii ha (fin "str_ascii_iterator" _ (turn_str _ _ z t (fun A hA => Walks.strAscii hA _ z t) fun A i s Q E st h => wpAny_pyIter_striter_ascii st h) ⟨_, Heap.get?_push_size _ rfl, rfl, rfl⟩)
end

/-! ### a list comprehension -/
section
variable {prog : Program} {w : World} {A : Around} {R : Result → Shared → Prop} {s : Shared}
theorem compLoop_gen {elt target iter : Expr} {ifs : List Expr} {scope : Scope} {pos : Pos} {it acc : Value} {env : Env} (I : Nat → Shared → Prop)
    (turn : ∀ n s, I n s → wpAny (model prog w) A (pyNext it) (fun r s₁ => match r with
      | none => R (.ok .next) s₁
      | some v => wpAny (model prog w) A (letOwnedTupleGo target it v) (fun _ s₁' => wpAny (model prog w) A (assign target env v) (fun _ s₂ =>
          wpAny (model prog w) A (forIn ifs true fun c r => if r = true then do let ok ← isTrue c env (eval c env); pure (ForInStep.yield ok) else pure (ForInStep.yield r)) (fun ok s₃ =>
            if ok = true then wpAny (model prog w) A (eval elt env) (fun x s₄ =>
              wpAny (model prog w) A (call (.builtin "list.append") [acc, x]) (fun _ s₅ => ∃ m, m < n ∧ I m s₅) (fun _ _ => False) s₄) (fun _ _ => False) s₃
            else ∃ m, m < n ∧ I m s₃) (fun _ _ => False) s₂) (fun _ _ => False) s₁') (fun _ _ => False) s₁) (fun _ _ => False) s)
    (n : Nat) (h : I n s) :
    codeAny (model prog w) A (.compLoop (.ListComp elt [⟨target, iter, ifs, 0⟩] scope pos) 0 it acc env) R s := by
  refine codeAny_loop rfl I (fun n s hI => ?_) n h
  show wpAny _ A ((compTurn (.ListComp elt [⟨target, iter, ifs, 0⟩] scope pos) 0 it acc env).onRaise (fun x => do noteFrame x env; theTreesLotGoes x)) _ _ s
  refine wpAny_noted ?_
  rw [compTurn_list]
  refine wpAny_bind (wpAny_standAt (wpAny_bind (wpAny_mono (turn n s hI) (fun r s₁ h₁ => ?_) fun _ _ h' => h'.elim)))
  cases r with
  | none => exact wpAny_pure h₁
  | some v =>
    refine wpAny_bind (wpAny_mono h₁ (fun _ s₁' h₁' => ?_) fun _ _ h' => h'.elim)
    refine wpAny_bind (wpAny_mono h₁' (fun _ s₂ h₂ => wpAny_bind (wpAny_mono h₂ (fun ok s₃ h₃ => ?_) fun _ _ h' => h'.elim)) fun _ _ h' => h'.elim)
    cases ok with
    | false => exact wpAny_pure ⟨rfl, h₃⟩
    | true =>
      exact wpAny_bind (wpAny_bind (wpAny_mono h₃ (fun x s₄ h₄ => wpAny_bind (wpAny_mono h₄ (fun _ s₅ h₅ => wpAny_pure (wpAny_pure ⟨rfl, h₅⟩)) fun _ _ h' => h'.elim)) fun _ _ h' => h'.elim))
end

/-- the context of a comprehension's block: its frame at C, its closure cl, entered at s₀, H₀; ex: the iterator's records -/
def compCx (X : Cx) (N : List Str) (scope : Scope) (cl : List (Str × Addr)) (C : Addr) (s₀ : Shared) (H₀ : Hp) (ex : List Addr) : Cx :=
  { X with N := N, s₀ := s₀, H₀ := H₀, env := compEnvC scope cl C X.env, outer := X.stack, stack := X.stack, ex := ex, fn := fun _ => false, pn := [], xe := fun _ _ => False }

/-- the tests behind the for -/
def PIfs (X : Cx) (ifs : List Expr) (t : TT) : Prop :=
  ∀ (pins : List (Addr × Obj)) (s : Shared) (σ : St) (H : Hp) (Q : Bool → Hp → Prop), Inv X pins σ H s → t σ H Q →
    wpAny (model X.prog X.w) X.A (forIn ifs true fun c r => if r = true then do let ok ← isTrue c X.env (eval c X.env); pure (ForInStep.yield ok) else pure (ForInStep.yield r)) (TP X pins σ Q) X.xe s
def tYes : TT := fun _ H Q => Q true H
theorem pifs_nil {X : Cx} : PIfs X [] tYes := fun pins s σ H Q I h => wpAny_tests_nil ⟨H, I, h⟩
theorem pifs_one {X : Cx} {c : Expr} {t : TT} (h : PT X c t) : PIfs X [c] t := fun pins s σ H Q I hq => wpAny_tests_one (h pins s σ H Q I hq)

/-- the reading: cs the block's names at the start of a turn -/
def tComp (wi : TI) (cs : St → St) (g : TG) (ti : TT) (te : TE) : TE := fun σ H Q => wi σ H fun J H1 => ∃ W : Nat → Nat → List V → Hp → Prop, (∃ m, W 0 m [] H1) ∧ ∀ i m ys H, W i m ys H →
  ys.length ≤ sizeLine ∧ ((J.stop i H ∧ ∀ p, H p = none → Q (.ref p) (upd H p (.lst ys))) ∨
  (J.go i H ∧ ∀ x H', J.yld i H x H' → g x (cs σ) H' fun σ2 H2 => ti σ2 H2 fun ok H3 => if ok = true then te σ2 H3 fun y H4 => ∃ m', m' < m ∧ W (i + 1) m' (ys ++ [y]) H4 else ∃ m', m' < m ∧ W (i + 1) m' ys H3))

/-- how the block's names start: nl own names, then the free ones, the slots js of the def -/
def csOf (nl : Nat) (js : List Nat) (σ : St) : St := List.replicate nl none ++ js.map fun j => (σ[j]?).join
/-- what the block's scope must have -/
structure CompOk (X : Cx) (N : List Str) (nl : Nat) (js : List Nat) (scope : Scope) (cl : List (Str × Addr)) : Prop where
  clos : closureFor scope X.env = pure cl
  nocell : ∀ y ∈ scope.names, y.2 ≠ .cell
  kind : scope.kind = .function
  names : ∀ y ∈ scope.names, y.2 = .local → scope.names.lookup y.1 = some .local
  cells : ∀ x c, cl.lookup x = some c → X.env.cells.lookup x = some c
  has : ∀ x, ((relabel scope X.env).names.lookup x = some .cell ∨ (relabel scope X.env).names.lookup x = some .free) → ∃ c, cl.lookup x = some c
  len : N.length = nl + js.length
  free : ∀ k j x, js[k]? = some j → N[nl + k]? = some x → X.N[j]? = some x ∧ (X.env.kindOf x = some .cell ∨ X.env.kindOf x = some .free) ∧ Vis X.env.scope x ∧
    ((relabel scope X.env).names.lookup x = some .cell ∨ (relabel scope X.env).names.lookup x = some .free)
  /-- the target stores own names alone -/
def KeepsT (g : TG) (cs : St → St) : Prop := ∀ (σ : St) (x : V) (H : Hp) (K : St → Hp → Prop), g x (cs σ) H K → g x (cs σ) H fun σ2 H2 => (σ2.length = (cs σ).length ∧ ∀ (j : Nat) (v : V), (cs σ)[j]? = some (some v) → σ2[j]? = some (some v)) ∧ K σ2 H2
theorem keeps_name {i nl : Nat} {js : List Nat} (hi : i < nl) : KeepsT (gName i) (csOf nl js) := fun σ x H K h => by
  refine ⟨⟨by simp, fun j v e => ?_⟩, h⟩
  by_cases hj : j = i
  · subst hj
    unfold csOf at e
    rw [List.getElem?_append_left (by simpa using hi), List.getElem?_replicate, if_pos hi] at e
    cases e
  · rw [List.getElem?_set_ne (Ne.symm hj)]; exact e

section
variable {X : Cx}
theorem Inv.comp {pins : List (Addr × Obj)} {σ : St} {H : Hp} {s s4 : Shared} {N : List Str} {nl : Nat} {js : List Nat} {scope : Scope} {cl : List (Str × Addr)} {C D : Addr} {fp : List Addr} {oD : Obj} {m : Str → Option Value}
    (I : Inv X pins σ H s) (ok : CompOk X N nl js scope cl) (hf : ∀ b ∈ fp, FpOk X pins H b) (hfp : ∀ b ∈ fp, b < s.heap.objs.size) (hC : s.heap.objs.size ≤ C) (hD : s.heap.objs.size ≤ D) (hDC : D ≠ C)
    (ho : s4.os = s.os) (hg : AllBare s4.gens) (k : ∀ b o, s.heap.get? b = some o → s4.heap.get? b = some o) (hn : s4.heap.Ns C m) (hDo : s4.heap.get? D = some oD) (hDd : ∀ v, oD.data ≠ .cell v) :
    Inv (compCx X N scope cl C s H fp) [(D, oD)] (csOf nl js σ) H s4 := by
  have stk : ∀ b, s.heap.objs.size ≤ b → b ∉ frs X.stack := fun b hb z => by
    rcases List.mem_cons.mp (I.stkSub b z) with e | e
    · rw [e] at hb; exact absurd (Nat.lt_of_lt_of_le I.lt hb) (Nat.lt_irrefl _)
    · exact I.nofs hb e
  refine ⟨⟨I.ok.mod, ok.kind, I.ok.glob, I.ok.blt, hC, fun x y c h1 h2 => I.ok.inj x y c (ok.cells x c h1) (ok.cells y c h2), fun x h => ok.has x h, (fun x c h => nomatch h), I.ok.hd, I.ok.frames, .inl rfl, fun b hb => ⟨?_, fun x c e z => ?_⟩, I.bs, Nat.le_trans I.ok.bsz I.sz, fun b o e hb => ?_, fun b hb => ?_, I.stack, I.stkFree⟩,
    ho, hg, Un.kept k, ⟨m, hn, fun i x v h1 h2 h3 => ?_⟩, fun x c e => ?_, I.hok.fresh hC, fun x c e => I.freeC x c (ok.cells x c e), fun p hp => ?_, I.hok.kept k, ?_⟩
  · exact Nat.ne_of_lt (Nat.lt_of_lt_of_le (hfp b hb) hC)
  · exact (hf b hb).2.2.2.2.1 x c (ok.cells x c e) z
  · have hb : b ∈ fp := hb
    rcases (hf b hb).2.2.2.1 with z | z
    · exact I.ok.noex b o e z
    · exact absurd (Nat.lt_of_lt_of_le (Heap.lt_size e) (Nat.le_trans I.ok.bsz z)) (Nat.lt_irrefl _)
  · have hb : b ∈ fp := hb
    intro z
    rcases List.mem_cons.mp (I.stkSub b z) with e | e
    · exact (hf b hb).2.1 e
    · exact (hf b hb).2.2.1 e
  · have h1 : N[i]? = some x := h1
    unfold csOf at h2
    have hi : nl ≤ i := by
      rcases Nat.lt_or_ge i nl with z | z
      · rw [List.getElem?_append_left (by simpa using z), List.getElem?_replicate, if_pos z] at h2; cases h2
      · exact z
    rw [List.getElem?_append_right (by simpa using hi), List.length_replicate, List.getElem?_map] at h2
    cases ej : js[i - nl]? with
    | none => rw [ej] at h2; cases h2
    | some j =>
      rw [ej] at h2
      have h2' : (σ[j]?).join = some v := by simpa using h2
      have e2 : σ[j]? = some (some v) := by
        cases q : σ[j]? with
        | none => rw [q] at h2'; cases h2'
        | some y => rw [q] at h2'; rw [show y = some v from h2']
      obtain ⟨g1, g2, g3, g4⟩ := ok.free (i - nl) j x ej (by rw [Nat.add_sub_cancel' hi]; exact h1)
      obtain ⟨m0, hn0, hl⟩ := I.loc
      obtain ⟨u, r, l⟩ := hl j x v g1 e2 g3
      refine ⟨u, r, .inr ⟨g4, ?_⟩⟩
      rcases l with ⟨lk, _⟩ | ⟨_, c, ec, ic⟩
      · rcases g2 with z | z <;> (rw [z] at lk; cases lk)
      · obtain ⟨c', ec'⟩ := ok.has x g4
        have : c' = c := Option.some.inj ((ok.cells x c' ec').symm.trans ec)
        subst this
        obtain ⟨oc, hoc, hd⟩ := ic
        exact ⟨c', ec', oc, k _ _ hoc, hd⟩
  · obtain ⟨v, oc, hoc, hd⟩ := I.cell x c (ok.cells x c e)
    exact ⟨v, oc, k _ _ hoc, hd⟩
  · have hp : p ∈ [(D, oD)] := hp
    have e : p = (D, oD) := by simpa using hp
    subst e
    exact ⟨hDo, I.hok.fresh hD, hDC, stk D hD, hDd⟩
  · show (csOf nl js σ).length = N.length
    unfold csOf
    rw [List.length_append, List.length_replicate, List.length_map]
    exact ok.len.symm

/-- behind the block: the list is tracked, the frame's own object is a record of no account -/
def CompEnd (X : Cx) (pins : List (Addr × Obj)) (σ : St) (Q : VK) (acc : Value) (C : Addr) (s' : Shared) : Prop :=
  ∃ D H' m, acc = .ref D ∧ Inv X pins σ H' s' ∧ FpOk X pins H' C ∧ s'.heap.Ns C m ∧ Q (.ref D) H'

theorem comp_run {N : List Str} {nl : Nat} {js : List Nat} {scope : Scope} {cl : List (Str × Addr)} {elt target iter : Expr} {ifs : List Expr} {pos : Pos} {wi : TI} {g : TG} {ti : TT} {te : TE} {pins : List (Addr × Obj)} {s : Shared} {σ : St} {H : Hp} {Q : VK}
    {E : Value → Shared → Prop} (RR : Value → Addr → Result → Shared → Prop) (hRR : ∀ acc C s', CompEnd X pins σ Q acc C s' → RR acc C (.ok .next) s')
    (hc : X.calm = true) (ok : CompOk X N nl js scope cl) (hi : PI X target iter wi) (hk : KeepsT g (csOf nl js))
    (hg : ∀ C s₀ H₀ ex, PG (compCx X N scope cl C s₀ H₀ ex) target g) (ht : ∀ C s₀ H₀ ex, PIfs (compCx X N scope cl C s₀ H₀ ex) ifs ti) (he : ∀ C s₀ H₀ ex, PE (compCx X N scope cl C s₀ H₀ ex) elt te)
    (I : Inv X pins σ H s) (h : tComp wi (csOf nl js) g ti te σ H Q) :
    wpAny (model X.prog X.w) X.A (eval iter X.env) (fun x s₁ => wpAny (model X.prog X.w) X.A (pyIter x) (fun it s₂ => wpAny (model X.prog X.w) X.A (newList []) (fun acc s₃ =>
      wpAny (model X.prog X.w) X.A (newFunctionEnv scope X.env.globals cl [] X.env.qual none .none (some X.env)) (fun cenv s₄ =>
        codeAny (model X.prog X.w) X.A (.compStart (.ListComp elt [⟨target, iter, ifs, 0⟩] scope pos) 0 it acc { cenv with scope := relabel scope X.env }) (RR acc cenv.locals) s₄) E s₃) E s₂) X.xe s₁) X.xe s := by
  refine thn (hi pins s σ H _ I h) fun v s1 h1 => thn h1 fun itv s2 h2 => ?_
  obtain ⟨it, fp, tn, J, H2, e, I2, T, st2, f2, W, ⟨m0, w0⟩, turn⟩ := h2
  subst e
  have hfp : ∀ b ∈ fp, b < s2.heap.objs.size := fun b hb => by
    obtain ⟨o, e, _⟩ := T.obj _ _ st2 b hb
    exact Heap.lt_size e
  refine wpAny_newObj_type (wpAny_newFunctionEnv ok.nocell (by intro y hy; simp at hy) (fun h₁ hns₁ hsb₁ => ?_) ok.kind)
  dsimp only at hns₁ hsb₁ ⊢
  generalize hP2 : s2.heap.push { cls := .type "list", dict := none, data := .seq ([] : List Value).toArray } = P2 at hns₁ hsb₁ ⊢
  have hC : P2.objs.size = s2.heap.objs.size + 1 := by rw [← hP2, Heap.size_push]
  have hDC : s2.heap.objs.size ≠ P2.objs.size := by rw [hC]; exact Nat.ne_of_lt (Nat.lt_succ_self _)
  have hCle : s2.heap.objs.size ≤ P2.objs.size := by rw [hC]; exact Nat.le_succ _
  have below : ∀ b, b < s2.heap.objs.size → b ≠ P2.objs.size ∧ b ≠ s2.heap.objs.size := fun b hb => ⟨by rw [hC]; exact Nat.ne_of_lt (Nat.lt_succ_of_lt hb), Nat.ne_of_lt hb⟩
  have old : ∀ b o, s2.heap.get? b = some o → h₁.get? b = some o := fun b o e => hsb₁.extBut b o (below b (Heap.lt_size e)).1 (Heap.get?_push_of_some _ (hP2 ▸ Heap.get?_push_of_some _ e))
  have hacc : h₁.PlainList s2.heap.objs.size #[] := ⟨_, hsb₁.extBut _ _ hDC (Heap.get?_push_of_some _ (hP2 ▸ Heap.get?_push_size _ rfl))⟩
  obtain ⟨n0, ha0⟩ := hacc
  generalize hCC : P2.objs.size = C at *
  generalize hDD : s2.heap.objs.size = D at *
  -- the block's context
  have I4 : Inv (compCx X N scope cl C s2 H2 fp) [(D, { cls := .type "list", data := .seq ([] : List Value).toArray n0 })] (csOf nl js σ) H2 { s2 with heap := h₁, toks := s2.toks + ([] : List (Str × Value)).length } :=
    I2.comp ok f2 (fun b hb => by rw [hDD]; exact hfp b hb) (by rw [hDD]; exact hCle) (by rw [hDD]; exact Nat.le_refl _) hDC rfl I2.bare old hns₁ ha0 (fun v z => nomatch z)
  have st4 : tn 0 h₁ := T.keep _ _ _ st2 fun b hb o e => old b o e
  -- what stays true of the records
  have nD : ∀ b ∈ fp, b ≠ D := fun b hb => Nat.ne_of_lt (hfp b hb)
  have nC : ∀ b ∈ fp, b ≠ C := fun b hb => (below b (hfp b hb)).1
  have stkD : ∀ b, D ≤ b → b ∉ frs X.stack := fun b hb z => by
    rcases List.mem_cons.mp (I2.stkSub b z) with e | e
    · rw [e] at hb; exact absurd (Nat.lt_of_lt_of_le I2.lt (by rw [hDD]; exact hb)) (Nat.lt_irrefl _)
    · exact I2.nofs (by rw [hDD]; exact hb) e
  have cellD : ∀ x c b, D ≤ b → cl.lookup x = some c → c ≠ b := fun x c b hb e z => by
    obtain ⟨v, q⟩ := I2.cell x c (ok.cells x c e)
    exact absurd (Nat.lt_of_lt_of_le q.lt (by rw [z, hDD]; exact hb)) (Nat.lt_irrefl _)
  have stat : ∀ {H' : Hp} {oD : Obj}, (∀ b ∈ fp, H' b = none) → ∀ b ∈ fp, FpOk (compCx X N scope cl C s2 H2 fp) [(D, oD)] H' b := fun {H' oD} hn b hb => by
    refine ⟨hn b hb, nC b hb, fun z => ?_, .inl hb, fun x c e z => (f2 b hb).2.2.2.2.1 x c (ok.cells x c e) z, fun p hp z => ?_⟩
    · have z : b ∈ frs X.stack := z
      rcases List.mem_cons.mp (I2.stkSub b z) with e | e
      · exact (f2 b hb).2.1 e
      · exact (f2 b hb).2.2.1 e
    · have hp : p = (D, oD) := by simpa [compCx] using hp
      subst hp
      exact nD b hb z.symm
  have loop : ∀ s₃ : Shared, s₃ = { s2 with heap := h₁, toks := s2.toks + ([] : List (Str × Value)).length } →
      codeAny (model X.prog X.w) X.A (.compLoop (.ListComp elt [⟨target, iter, ifs, 0⟩] scope pos) 0 (.ref it) (.ref D) (compEnvC scope cl C X.env)) (RR (.ref D) C) s₃ := by
    rintro s₃ rfl
    refine compLoop_gen (env := compEnvC scope cl C X.env) (fun n s' => ∃ i ys us nn H', Inv (compCx X N scope cl C s2 H2 fp) [(D, { cls := .type "list", data := .seq (us : List Value).toArray nn })] (csOf nl js σ) H' s' ∧ Vals ys us ∧ tn i s'.heap ∧ (∀ b ∈ fp, H' b = none) ∧ W i n ys H')
      ?_ m0 ⟨0, [], [], n0, H2, I4, .nil, st4, fun b hb => (f2 b hb).1, w0⟩
    rintro n s3 ⟨i, ys, us, nn, H3, I3, rv3, st3, fr3, w3⟩
    obtain ⟨hsz, tr⟩ := turn i n ys H3 w3
    rcases tr with ⟨stop, qn⟩ | ⟨go, step⟩
    · refine wpAny_mono (T.done (compCx X N scope cl C s2 H2 fp) rfl rfl rfl hc i _ s3 (csOf nl js σ) H3 (fun _ _ => False) I3 (stat fr3) st3 stop) (fun r s4 hr => ?_) fun _ _ z => z
      obtain ⟨rfl, J4⟩ := hr
      show RR (.ref D) C (.ok .next) s4
      obtain ⟨pD, pfree, _, _, _⟩ := J4.pin (D, { cls := .type "list", data := .seq (us : List Value).toArray nn }) (by simp [compCx])
      obtain ⟨mC, hnC, _⟩ := J4.loc
      have hnC : s4.heap.Ns C mC := hnC
      have ltH : ∀ b o, H2 b = some o → b ≠ D := fun b o e => by have := I2.hok.lt e; rw [hDD] at this; exact Nat.ne_of_lt this
      have ltg : ∀ b o, s2.heap.get? b = some o → b ≠ D := fun b o e => by have := Heap.lt_size e; rw [hDD] at this; exact Nat.ne_of_lt this
      have B : Un (frs X.stack) fp H2 H3 s2.heap s4.heap := J4.base
      have un : Un (frs X.stack) fp H2 (upd H3 D (.lst ys)) s2.heap s4.heap :=
        ⟨B.keep, B.slot, fun b o e n x => by rw [upd_ne (ltg b o e)]; exact B.free b o e n x, B.there, fun b xs e => by rw [upd_ne (ltH b _ e)]; exact B.tups b xs e,
          fun b o u e => by rw [upd_ne (ltH b _ e)]; exact B.frzs b o u e, fun b ps e => by rw [upd_ne (ltH b _ e)]; exact B.tbls b ps e⟩
      have hokD : HOk X.prog X.w (upd H3 D (.lst ys)) s4.heap := fun b u e => by
        by_cases hb : b = D
        · subst hb
          rw [upd_same] at e
          cases e
          exact ⟨hsz, us, nn, rv3, pD⟩
        · rw [upd_ne hb] at e
          refine (J4.hok b u e).stay (fun c v _ q => q) (fun c q => ?_) fun c xs q => ?_
          · rw [upd_ne (ne_of_none q pfree)]; exact q
          · rw [upd_ne (ne_of_none q pfree)]; exact q
      refine hRR _ _ _ ⟨D, upd H3 D (.lst ys), mC, rfl, I2.call' (ch := fp) J4.os un hokD J4.bare (fun b hb => ⟨(f2 b hb).2.2.2.1, (f2 b hb).2.1, (f2 b hb).2.2.2.2.1, (f2 b hb).2.2.2.2.2⟩), ?_, hnC, qn D pfree⟩
      have hCn : H3 C = none := J4.free
      refine ⟨by rw [upd_ne hDC.symm]; exact hCn, ?_, ?_, .inr ?_, fun x c e z => ?_, fun p hp z => ?_⟩
      · exact Nat.ne_of_gt (Nat.lt_of_lt_of_le I2.lt (by rw [hDD]; exact hCle))
      · exact I2.nofs (by rw [hDD]; exact hCle)
      · exact Nat.le_trans I2.sz (by rw [hDD]; exact hCle)
      · obtain ⟨v, q⟩ := I2.cell x c e
        exact absurd (Nat.lt_of_lt_of_le q.lt (by rw [z, hDD]; exact hCle)) (Nat.lt_irrefl _)
      · exact absurd (Nat.lt_of_lt_of_le (Heap.lt_size (I2.pin p hp).1) (by rw [z, hDD]; exact hCle)) (Nat.lt_irrefl _)
    · refine wpAny_mono (T.item (compCx X N scope cl C s2 H2 fp) rfl rfl rfl hc i _ s3 (csOf nl js σ) H3 (fun _ _ => False) I3 (stat fr3) st3 go) (fun r s4 hr => ?_) fun _ _ z => z
      obtain ⟨u, rfl, h4⟩ := hr
      show wpAny (model X.prog X.w) X.A (letOwnedTupleGo target (.ref it) u) _ _ s4
      refine thn h4 fun _ s5 ⟨x, H5, I5, r5, y5, st5, fr5⟩ => ?_
      have I5' := I5.pinned (stat fr5) (T.obj _ _ st5)
      refine thn (hg C s2 H2 fp _ s5 (csOf nl js σ) H5 x u _ I5' r5 (hk σ x H5 _ (step x H5 y5))) fun _ s6 ⟨σ6, H6, I6, ⟨hl6, hs6⟩, q6⟩ => ?_
      refine thn (ht C s2 H2 fp _ s6 σ6 H6 _ I6 q6) fun okb s7 ⟨H7, I7, q7⟩ => ?_
      -- the iterator and the list are pinned through
      have back : ∀ {H8 : Hp} {s8 : Shared}, Inv (compCx X N scope cl C s2 H2 fp) ([(D, { cls := .type "list", data := .seq (us : List Value).toArray nn })] ++ pinsAt fp s5.heap) σ6 H8 s8 →
          Inv (compCx X N scope cl C s2 H2 fp) [(D, { cls := .type "list", data := .seq (us : List Value).toArray nn })] (csOf nl js σ) H8 s8 ∧ tn (i + 1) s8.heap ∧ ∀ b ∈ fp, H8 b = none := fun {H8 s8} I8 => by
        refine ⟨I8.unpinned.weak hl6.symm hs6, T.keep _ _ _ st5 fun b hb o e => (I8.pin (b, o) (List.mem_append_right _ (List.mem_append_right _ (mem_pinsAt hb e)))).1, fun b hb => ?_⟩
        obtain ⟨o, e, d⟩ := T.obj _ _ st5 b hb
        exact (I8.pin (b, o) (List.mem_append_right _ (List.mem_append_right _ (mem_pinsAt hb e)))).2.1
      cases okb with
      | false =>
        have q7 : ∃ m', m' < n ∧ W (i + 1) m' ys H7 := by simpa using q7
        obtain ⟨m', hm, w7⟩ := q7
        obtain ⟨I8, st8, fr8⟩ := back I7
        show ∃ m, m < n ∧ _
        exact ⟨m', hm, i + 1, ys, us, nn, H7, I8, rv3, st8, fr8, w7⟩
      | true =>
        have q7 : te σ6 H7 fun y H4 => ∃ m', m' < n ∧ W (i + 1) m' (ys ++ [y]) H4 := by simpa using q7
        show wpAny (model X.prog X.w) X.A (eval elt (compEnvC scope cl C X.env)) _ _ s7
        refine thn (he C s2 H2 fp _ s7 σ6 H7 _ I7 q7) fun yv s8 ⟨y, H8, I8, ry, m', hm, w8⟩ => ?_
        obtain ⟨I9, st9, fr9⟩ := back I8
        obtain ⟨pD, pfree, pne, pnf, _⟩ := I9.pin (D, { cls := .type "list", data := .seq (us : List Value).toArray nn }) (by simp [compCx])
        refine wpAny_list_append_plain (items := us.toArray) ⟨nn, pD⟩ (fun h' hp' sb => ?_) (by have := rv3.length; simp; omega)
        obtain ⟨n', hp'⟩ := hp'
        have I10 : Inv (compCx X N scope cl C s2 H2 fp) [] (csOf nl js σ) H8 { s8 with heap := h' } := by
          refine (I9.pins_of (pins' := []) (fun p hp => absurd hp (by simp))).turned (t' := s8.toks) (it := D) (fun b o hb e => (sb.2 b hb).trans e) pfree pne (.inr (by show s2.heap.objs.size ≤ D; rw [hDD]; exact Nat.le_refl _)) (fun x c e => cellD x c D (Nat.le_refl _) e) (fun p hp => ?_)
          exact absurd hp (by simp [compCx])
        refine ⟨m', hm, i + 1, ys ++ [y], us ++ [yv], n', H8, I10.pins_of (fun p hp => ?_), rv3.append (.cons ry .nil), T.keep _ _ _ st9 fun b hb o e => (sb.2 b (nD b hb)).trans e, fr9, w8⟩
        have e : p = (D, { cls := .type "list", data := .seq (us ++ [yv]).toArray n' }) := by simpa using hp
        subst e
        exact ⟨by simpa using hp', pfree, pne, pnf, fun v z => nomatch z⟩
  exact codeAny_compStart_list (loop _ rfl) (T.self _ 0 _ _ _ st4 (loop _ rfl))

theorem pe_comp {N : List Str} {nl : Nat} {js : List Nat} {scope : Scope} {cl : List (Str × Addr)} {elt target iter : Expr} {ifs : List Expr} {pos : Pos} {wi : TI} {g : TG} {ti : TT} {te : TE}
    (hc : X.calm = true) (ok : CompOk X N nl js scope cl) (hi : PI X target iter wi) (hk : KeepsT g (csOf nl js))
    (hg : ∀ C s₀ H₀ ex, PG (compCx X N scope cl C s₀ H₀ ex) target g) (ht : ∀ C s₀ H₀ ex, PIfs (compCx X N scope cl C s₀ H₀ ex) ifs ti) (he : ∀ C s₀ H₀ ex, PE (compCx X N scope cl C s₀ H₀ ex) elt te)
    (hs : ∀ x, foldedSetIterable iter X.env x = pure x := by intro _; rfl) :
    PE X (.ListComp elt [⟨target, iter, ifs, 0⟩] scope pos) (tComp wi (csOf nl js) g ti te) := by
  intro pins s σ H Q I h
  rw [eval_ListComp]
  refine wpAny_comprehension_free (use := none) rfl hs ok.clos ok.kind ok.names (wpAny_mono (comp_run (E := X.xe) (pos := pos) (fun acc C => compPost (model X.prog X.w) X.A X.xe none (EP X pins σ Q) acc C) (fun acc C s' z => ?_) hc ok hi hk hg ht he I h) (fun _ _ z => z) fun _ _ z => z)
  obtain ⟨D, H', m, rfl, J, fC, hn, q⟩ := z
  refine ⟨m, hn, fun h' sb => ⟨.ref D, H', J.turned (t' := s'.toks) (fun b o hb e => (sb.2 b hb).trans e) fC.1 fC.2.1 fC.2.2.2.1 fC.2.2.2.2.1 fC.2.2.2.2.2, rfl, q⟩⟩

/-- y = [..] on one line: the store is done ahead of the block's leave -/
theorem ps_setcomp {N : List Str} {nl : Nat} {js : List Nat} {scope : Scope} {cl : List (Str × Addr)} {elt target iter : Expr} {ifs : List Expr} {pos spos py : Pos} {wi : TI} {g : TG} {ti : TT} {te : TE} {i : Nat} {y : Str}
    (hN : X.N.Nodup) (hi' : X.N[i]? = some y) (hy : Loc X.env.scope y) (hyl : X.env.scope.names.lookup y = some .local)
    (hc : X.calm = true) (ok : CompOk X N nl js scope cl) (hi : PI X target iter wi) (hk : KeepsT g (csOf nl js))
    (hg : ∀ C s₀ H₀ ex, PG (compCx X N scope cl C s₀ H₀ ex) target g) (ht : ∀ C s₀ H₀ ex, PIfs (compCx X N scope cl C s₀ H₀ ex) ifs ti) (he : ∀ C s₀ H₀ ex, PE (compCx X N scope cl C s₀ H₀ ex) elt te)
    (hsw : swapsWith (.ListComp elt [⟨target, iter, ifs, 0⟩] scope pos) (some (.Name y py)) spos.line X.env = pure true := by rfl)
    (hs : ∀ x, foldedSetIterable iter X.env x = pure x := by intro _; rfl) :
    PS X (.Assign [.Name y py] (.ListComp elt [⟨target, iter, ifs, 0⟩] scope pos) spos) (tAsg (tComp wi (csOf nl js) g ti te) (gName i)) := by
  intro pins s σ H D I h
  rw [exec_Assign_Name_used _ _ _ _ hsw]
  refine wpAny_bind (wpAny_standAt (wpAny_bind ?_))
  show wpAny _ X.A (do let _ ← comprehension (.ListComp elt [⟨target, iter, ifs, 0⟩] scope pos) scope X.env _ (newList []) false (eval iter X.env) (some (assign (.Name y py) X.env))) _ _ s
  refine wpAny_bind (wpAny_mono (wpAny_comprehension_free (use := some (assign (.Name y py) X.env)) (Q := fun _ s' => SP X pins D .next s') rfl hs ok.clos ok.kind ok.names
    (comp_run (E := X.xe) (pos := pos) (fun acc C => compPost (model X.prog X.w) X.A X.xe (some (assign (.Name y py) X.env)) (fun _ s' => SP X pins D .next s') acc C) (fun acc C s' z => ?_) hc ok hi hk hg ht he I h)) (fun _ s' hq => wpAny_pure (wpAny_pure hq)) fun _ _ e => e)
  obtain ⟨D', H', m, rfl, J, fC, hn, q⟩ := z
  show wpAny _ X.A (assign (.Name y py) X.env (.ref D')) _ _ _
  refine wpAny_assign_Name (store_ok2 J hN hi' hy (v := .ref D') rfl (fun s'' J' hsb => ?_) (.inr hyl))
  obtain ⟨a, sb, ha⟩ := hsb
  have hCa : C ≠ a := by
    rcases ha with rfl | ha
    · exact fC.2.1
    · exact fun z => fC.2.2.2.2.1 y a ha z.symm
  refine ⟨m, hn.sameBut sb hCa, fun h' sb' => ?_⟩
  exact ⟨_, H', J'.turned (t' := s''.toks) (fun b o hb e => (sb'.2 b hb).trans e) fC.1 fC.2.1 fC.2.2.2.1 fC.2.2.2.2.1 fC.2.2.2.2.2, q⟩
end
end L2

-- part Lx2
set_option Elab.async false
set_option linter.all false
set_option maxRecDepth 100000
set_option maxHeartbeats 4000000
namespace L2
open PySem PySem.Spec PyProof.Rows

/-! ### data: values without a heap -/
inductive D where
  | non | bl (b : Bool) | int (i : Int) | str (x : Str) | tup (xs : List D) | lst (xs : List D)

mutual
def Rep (K : PySem.W.Frag) (H : Hp) : D → V → Prop
  | .non, v => v = .non
  | .bl b, v => v = .bl b
  | .int i, v => v = .int i
  | .str x, v => v = .str x
  | .tup ds, v => ∃ a vs, v = .ref a ∧ SqT K H a vs ∧ RepL K H ds vs
  | .lst ds, v => ∃ a vs, v = .ref a ∧ SqL K H a vs ∧ RepL K H ds vs
def RepL (K : PySem.W.Frag) (H : Hp) : List D → List V → Prop
  | [], vs => vs = []
  | d :: ds, vs => ∃ v r, vs = v :: r ∧ Rep K H d v ∧ RepL K H ds r
end

theorem Same.rd {H H' : Hp} (e : Same H H') {a : Addr} {u : HO} (h : Rd H a u) : Rd H' a u := h.elim (fun z => .inl (e _ _ z)) fun ⟨o, z⟩ => .inr ⟨o, e _ _ z⟩
theorem Same.sqT {K : PySem.W.Frag} {H H' : Hp} (e : Same H H') {a : Addr} {xs : List V} (h : SqT K H a xs) : SqT K H' a xs := h.elim (fun z => .inl (e.rd z)) .inr
theorem Same.sqL {K : PySem.W.Frag} {H H' : Hp} (e : Same H H') {a : Addr} {xs : List V} (h : SqL K H a xs) : SqL K H' a xs := h.elim (fun z => .inl (e.rd z)) .inr
mutual
theorem Rep.mono {K : PySem.W.Frag} {H H' : Hp} (e : Same H H') : ∀ {d : D} {v : V}, Rep K H d v → Rep K H' d v
  | .non, _, h => by simp only [Rep] at h ⊢; exact h
  | .bl b, _, h => by simp only [Rep] at h ⊢; exact h
  | .int i, _, h => by simp only [Rep] at h ⊢; exact h
  | .str x, _, h => by simp only [Rep] at h ⊢; exact h
  | .tup ds, _, h => by
    simp only [Rep] at h ⊢
    obtain ⟨a, vs, h1, h2, h3⟩ := h
    exact ⟨a, vs, h1, e.sqT h2, RepL.mono e h3⟩
  | .lst ds, _, h => by
    simp only [Rep] at h ⊢
    obtain ⟨a, vs, h1, h2, h3⟩ := h
    exact ⟨a, vs, h1, e.sqL h2, RepL.mono e h3⟩
theorem RepL.mono {K : PySem.W.Frag} {H H' : Hp} (e : Same H H') : ∀ {ds : List D} {vs : List V}, RepL K H ds vs → RepL K H' ds vs
  | [], _, h => by simp only [RepL] at h ⊢; exact h
  | d :: ds, _, h => by
    simp only [RepL] at h ⊢
    obtain ⟨v, r, h1, h2, h3⟩ := h
    exact ⟨v, r, h1, Rep.mono e h2, RepL.mono e h3⟩
end
theorem RepL.length {K : PySem.W.Frag} {H : Hp} : ∀ {ds : List D} {vs : List V}, RepL K H ds vs → ds.length = vs.length
  | [], _, h => by simp only [RepL] at h; subst h; rfl
  | d :: ds, _, h => by
    simp only [RepL] at h
    obtain ⟨v, r, h1, h2, h3⟩ := h
    subst h1
    simp [RepL.length h3]
theorem RepL.get {K : PySem.W.Frag} {H : Hp} : ∀ {ds : List D} {vs : List V} {i : Nat} {d : D}, RepL K H ds vs → ds[i]? = some d → ∃ v, vs[i]? = some v ∧ Rep K H d v
  | [], _, _, _, _, e => by simp at e
  | x :: ds, _, 0, d, h, e => by
    simp only [RepL] at h
    obtain ⟨v, r, h1, h2, h3⟩ := h
    subst h1
    simp at e
    subst e
    exact ⟨v, rfl, h2⟩
  | x :: ds, _, i + 1, d, h, e => by
    simp only [RepL] at h
    obtain ⟨v, r, h1, h2, h3⟩ := h
    subst h1
    obtain ⟨u, h4, h5⟩ := RepL.get (i := i) h3 (by simpa using e)
    exact ⟨u, by simpa using h4, h5⟩
theorem RepL.append {K : PySem.W.Frag} {H : Hp} : ∀ {ds es : List D} {vs us : List V}, RepL K H ds vs → RepL K H es us → RepL K H (ds ++ es) (vs ++ us)
  | [], _, _, _, h, h' => by simp only [RepL] at h; subst h; exact h'
  | d :: ds, _, _, _, h, h' => by
    simp only [RepL] at h
    obtain ⟨v, r, h1, h2, h3⟩ := h
    subst h1
    simp only [List.cons_append, RepL]
    exact ⟨v, _, rfl, h2, RepL.append h3 h'⟩
theorem RepL.drop {K : PySem.W.Frag} {H : Hp} : ∀ (n : Nat) {ds : List D} {vs : List V}, RepL K H ds vs → RepL K H (ds.drop n) (vs.drop n)
  | 0, _, _, h => h
  | _ + 1, [], _, h => by simp only [RepL] at h; subst h; simp [RepL]
  | n + 1, d :: ds, _, h => by
    simp only [RepL] at h
    obtain ⟨v, r, h1, h2, h3⟩ := h
    subst h1
    exact RepL.drop n h3
theorem RepL.take {K : PySem.W.Frag} {H : Hp} : ∀ (n : Nat) {ds : List D} {vs : List V}, RepL K H ds vs → RepL K H (ds.take n) (vs.take n)
  | 0, _, _, h => by simp [RepL]
  | _ + 1, [], _, h => by simp only [RepL] at h; subst h; simp [RepL]
  | n + 1, d :: ds, _, h => by
    simp only [RepL] at h
    obtain ⟨v, r, h1, h2, h3⟩ := h
    subst h1
    simp only [List.take_succ_cons, RepL]
    exact ⟨v, _, rfl, h2, RepL.take n h3⟩
theorem RepL.snoc {K : PySem.W.Frag} {H : Hp} {ds : List D} {vs : List V} {d : D} {v : V} (h : RepL K H ds vs) (r : Rep K H d v) : RepL K H (ds ++ [d]) (vs ++ [v]) :=
  h.append (by simp only [RepL]; exact ⟨v, [], rfl, r, rfl⟩)

/-! ### the heap grows: G is what is shared (never changed), H all that is tracked -/
structure Grow (G H G' H' : Hp) : Prop where
  g : Same G G'
  h : Same H H'
  s : Same G' H'
  n : ∀ a o, H a = some o → G a = none → G' a = none
theorem Grow.refl {G H : Hp} (s : Same G H) : Grow G H G H := ⟨Same.refl _, Same.refl _, s, fun _ _ _ n => n⟩
theorem Grow.trans {G H G1 H1 G2 H2 : Hp} (a : Grow G H G1 H1) (b : Grow G1 H1 G2 H2) : Grow G H G2 H2 :=
  ⟨a.g.trans b.g, a.h.trans b.h, b.s, fun x o e n => b.n x o (a.h x o e) (a.n x o e n)⟩
theorem Same.upd {G H : Hp} (s : Same G H) {p : Addr} (o : HO) : Same (upd G p o) (upd H p o) := fun b u e => by
  by_cases hb : b = p
  · subst hb; rw [upd_same] at e ⊢; exact e
  · rw [upd_ne hb] at e ⊢; exact s b u e
theorem same_new {H : Hp} {p : Addr} (o : HO) (n : H p = none) : Same H (L2.upd H p o) := fun b u e => by
  rw [upd_ne (ne_of_none e n)]; exact e
theorem Grow.laid {G H : Hp} (s : Same G H) {p : Addr} (o : HO) (n : H p = none) : Grow G H (L2.upd G p o) (L2.upd H p o) :=
  ⟨same_new o (s.free n), same_new o n, s.upd o, fun a u e z => by rw [upd_ne (ne_of_none e n)]; exact z⟩

/-- a slot: shared data, or an object of one's own -/
inductive Sl where
  | sh (d : D) | pv (d : D)
abbrev En := List (Option Sl)
/-- B: what stood ahead of the def's entry -/
def RepX (K : PySem.W.Frag) (B G H : Hp) : Sl → V → Prop
  | .sh d, v => Rep K G d v
  | .pv (.lst ds), v => ∃ a vs, v = .ref a ∧ B a = none ∧ G a = none ∧ H a = some (.lst vs) ∧ RepL K G ds vs
  | .pv _, _ => False
theorem RepX.grow {K : PySem.W.Frag} {B G H G' H' : Hp} (g : Grow G H G' H') : ∀ {x : Sl} {v : V}, RepX K B G H x v → RepX K B G' H' x v
  | .sh d, _, h => Rep.mono g.g h
  | .pv (.lst ds), _, ⟨a, vs, h1, h0, h2, h3, h4⟩ => ⟨a, vs, h1, h0, g.n a _ h3 h2, g.h _ _ h3, h4.mono g.g⟩
structure RepS (K : PySem.W.Frag) (B G H : Hp) (δ : En) (σ : St) : Prop where
  len : δ.length = σ.length
  at_ : ∀ (i : Nat) (x : Sl), δ[i]? = some (some x) → ∃ v, σ[i]? = some (some v) ∧ RepX K B G H x v
  ap : ∀ (i j : Nat) (x y : D), i ≠ j → δ[i]? = some (some (.pv x)) → δ[j]? = some (some (.pv y)) → σ[i]? ≠ σ[j]?
theorem RepS.grow {K : PySem.W.Frag} {B G H G' H' : Hp} {δ : En} {σ : St} (r : RepS K B G H δ σ) (g : Grow G H G' H') : RepS K B G' H' δ σ :=
  ⟨r.len, fun i x e => let ⟨v, h1, h2⟩ := r.at_ i x e; ⟨v, h1, h2.grow g⟩, r.ap⟩
theorem RepS.set {K : PySem.W.Frag} {B G H : Hp} {δ : En} {σ : St} (r : RepS K B G H δ σ) (i : Nat) {d : D} {v : V} (h : Rep K G d v) : RepS K B G H (δ.set i (some (.sh d))) (σ.set i (some v)) := by
  refine ⟨by simp [r.len], fun j x e => ?_, fun j l x y hjl e1 e2 => ?_⟩
  · by_cases hj : i = j
    · subst hj
      by_cases hl : i < δ.length
      · rw [List.getElem?_set_self hl] at e
        cases e
        exact ⟨v, List.getElem?_set_self (by rw [← r.len]; exact hl), h⟩
      · rw [List.getElem?_eq_none (by simpa using hl)] at e; cases e
    · rw [List.getElem?_set_ne hj] at e
      rw [List.getElem?_set_ne hj]
      exact r.at_ j x e
  · have nj : ∀ (m : Nat) (z : D), (δ.set i (some (.sh d)))[m]? = some (some (.pv z)) → i ≠ m ∧ δ[m]? = some (some (.pv z)) := fun m z e => by
      by_cases hm : i = m
      · subst hm
        by_cases hl : i < δ.length
        · rw [List.getElem?_set_self hl] at e; cases e
        · rw [List.getElem?_eq_none (by simpa using hl)] at e; cases e
      · rw [List.getElem?_set_ne hm] at e; exact ⟨hm, e⟩
    obtain ⟨h1, e1'⟩ := nj j x e1
    obtain ⟨h2, e2'⟩ := nj l y e2
    rw [List.getElem?_set_ne h1, List.getElem?_set_ne h2]
    exact r.ap j l x y hjl e1' e2'

/-! ### expressions: f is what the expression is worth -/
abbrev FE := En → Option D
/-- what is wanted of a reading -/
def Gives (K : PySem.W.Frag) (t : TE) (f : FE) : Prop := ∀ (B G H : Hp) (δ : En) (σ : St) (d : D) (Q : VK), Same G H → RepS K B G H δ σ → f δ = some d →
  (∀ v G' H', Grow G H G' H' → Rep K G' d v → Q v H') → t σ H Q
def PD (X : Cx) (e : Expr) (f : FE) : Prop := ∃ t, PE X e t ∧ Gives X.K t f
def PDT (X : Cx) (e : Expr) (f : En → Option Bool) : Prop := ∃ t, PT X e t ∧ ∀ (B G H : Hp) (δ : En) (σ : St) (b : Bool) (Q : Bool → Hp → Prop), Same G H → RepS X.K B G H δ σ → f δ = some b →
  (∀ G' H', Grow G H G' H' → Q b H') → t σ H Q
def PDW (X : Cx) (e : Expr) (f : En → Option Bool) : Prop := ∃ t, PW X e t ∧ ∀ (B G H : Hp) (δ : En) (σ : St) (b : Bool) (Q : Bool → Hp → Prop), Same G H → RepS X.K B G H δ σ → f δ = some b →
  (∀ G' H', Grow G H G' H' → Q b H') → t σ H Q
def PAD (X : Cx) (es : List Expr) (f : En → Option (List D)) : Prop := ∃ t, PA X es t ∧ ∀ (B G H : Hp) (δ : En) (σ : St) (ds : List D) (Q : List V → Hp → Prop), Same G H → RepS X.K B G H δ σ → f δ = some ds →
  (∀ vs G' H', Grow G H G' H' → RepL X.K G' ds vs → Q vs H') → t σ H Q

section
variable {X : Cx} {e a b c : Expr} {es : List Expr} {f g h : FE} {pos p : Pos}

@[simp] def fVar (i : Nat) : FE := fun δ => match δ[i]? with | some (some (.sh d)) => some d | _ => none
theorem pd_var (i : Nat) {x : Str} (hN : X.N[i]? = some x := by rfl) (hv : Vis X.env.scope x := by first | exact Or.inl rfl | exact Or.inr (Or.inl rfl) | exact Or.inr (Or.inr rfl)) (hd : (x == ("__debug__" : Str)) = false := by decide)
    (hcd : (x == ("__classdict__" : Str)) = false := by decide) : PD X (.Name x pos) (fVar i) := by
  refine ⟨tVar i, pe_var hN hv hd hcd, fun B G H δ σ d Q sG rs ef k => ?_⟩
  unfold fVar at ef
  split at ef
  · rename_i d' ed
    cases ef
    obtain ⟨v, h1, h2⟩ := rs.at_ i _ ed
    exact ⟨v, h1, k v G H (Grow.refl sG) h2⟩
  · cases ef
@[simp] def fC (d : D) : FE := fun _ => some d
theorem pd_int {i j} : PD X (.Constant (.int i) j pos) (fC (.int i)) := ⟨_, pe_int, fun B G H δ σ d Q sG rs ef k => by cases ef; exact k _ G H (Grow.refl sG) (by simp [Rep])⟩
theorem pd_bl {i j} : PD X (.Constant (.bool i) j pos) (fC (.bl i)) := ⟨_, pe_bl, fun B G H δ σ d Q sG rs ef k => by cases ef; exact k _ G H (Grow.refl sG) (by simp [Rep])⟩
theorem pd_non {j} : PD X (.Constant .none j pos) (fC .non) := ⟨_, pe_non, fun B G H δ σ d Q sG rs ef k => by cases ef; exact k _ G H (Grow.refl sG) (by simp [Rep])⟩
theorem pd_str {i j} : PD X (.Constant (.str i) j pos) (fC (.str i)) := ⟨_, pe_str, fun B G H δ σ d Q sG rs ef k => by cases ef; exact k _ G H (Grow.refl sG) (by simp [Rep])⟩
theorem pd_glob {x : Str} {v : V} {u : Value} {d : D} (hg : Gl X x) (hm : X.mg x = some u) (r : RelV v u) (rep : ∀ G, Rep X.K G d v) (hd : (x == ("__debug__" : Str)) = false := by decide) : PD X (.Name x pos) (fC d) :=
  ⟨_, pe_glob hg hm r hd, fun B G H δ σ d Q sG rs ef k => by cases ef; exact k _ G H (Grow.refl sG) (rep G)⟩

/-! arguments -/
@[simp] def fNil : En → Option (List D) := fun _ => some []
@[simp] def fCons (f : FE) (g : En → Option (List D)) : En → Option (List D) := fun δ => (f δ).bind fun d => (g δ).bind fun ds => some (d :: ds)
theorem pad_nil : PAD X [] fNil := ⟨_, pa_nil, fun B G H δ σ d Q sG rs ef k => by cases ef; exact k _ G H (Grow.refl sG) (by simp [RepL])⟩
theorem pad_cons {g : En → Option (List D)} (ha : PD X e f) (hr : PAD X es g) (hs : starEach (e :: es) X.env = (false, eval e X.env) :: starEach es X.env := by rfl) : PAD X (e :: es) (fCons f g) := by
  obtain ⟨ta, pa, ka⟩ := ha
  obtain ⟨tr, pr, kr⟩ := hr
  refine ⟨_, pa_cons pa pr hs, fun B G H δ σ ds Q sG rs ef k => ?_⟩
  unfold fCons at ef
  obtain ⟨d, e1, ef⟩ := Option.bind_eq_some_iff.mp ef
  obtain ⟨ds', e2, ef⟩ := Option.bind_eq_some_iff.mp ef
  cases ef
  refine ka B G H δ σ d _ sG rs e1 fun v G1 H1 g1 r1 => kr B G1 H1 δ σ ds' _ g1.s (rs.grow g1) e2 fun vs G2 H2 g2 r2 => ?_
  exact k _ G2 H2 (g1.trans g2) (by simp only [RepL]; exact ⟨v, vs, rfl, r1.mono g2.g, r2⟩)

/-! calls of defs -/
def spD (K : PySem.W.Frag) (M : List D → Option D) : Sp := fun vs H Q _ => ∃ G ds d, Same G H ∧ RepL K G ds vs ∧ M ds = some d ∧ ∀ v G' H', Grow G H G' H' → Rep K G' d v → Q v H'
def DefOk (P : Program) (w : World) (K : PySem.W.Frag) (mg : Str → Option Value) (base : Heap) (k : Nat) (x : Str) (ps : List Str) (M : List D → Option D) : Prop :=
  ∃ f fd, FnOk P w K mg base CX0 k f fd ps (spD K M) ∧ Binds K fd ps [] ∧ PySem.W.keepIn K (.ref f) = true ∧ mg x = some (.ref f)
@[simp] def fCall (M : List D → Option D) (g : En → Option (List D)) : FE := fun δ => (g δ).bind M
theorem pd_call {k : Nat} {x : Str} {ps : List Str} {M : List D → Option D} {g : En → Option (List D)} (F : DefOk X.prog X.w X.K X.mg X.base k x ps M) (hr : Room k X.A) (ha : PAD X (e :: es) g) (hg : Gl X x := by rfl)
    (hdb : (x == ("__debug__" : Str)) = false := by decide) (he : starEach (e :: es) X.env = (false, eval e X.env) :: starEach es X.env := by rfl) (hpl : (backTo pos (starEach es X.env)).any (·.1) = false := by rfl) :
    PD X (.Call (.Name x p) (e :: es) [] pos) (fCall M g) := by
  obtain ⟨f, fd, F, hb, hk, hm⟩ := F
  obtain ⟨ta, pa, ka⟩ := ha
  refine ⟨_, pe_call F hr hg hm hk hb .nil pass0 pa hdb he hpl, fun B G H δ σ d Q sG rs ef k => ?_⟩
  unfold fCall at ef
  obtain ⟨ds, e1, ef⟩ := Option.bind_eq_some_iff.mp ef
  refine ka B G H δ σ ds _ sG rs e1 fun vs G1 H1 g1 r1 => ?_
  rw [List.append_nil]
  exact ⟨G1, ds, d, g1.s, r1, ef, fun v G' H' g2 r2 => k v G' H' (g1.trans g2) r2⟩

/-! built-ins -/
def CallD (X : Cx) (f : Value) (c : List D → Option D) : Prop := ∃ r, CallR X f r ∧ ∀ (G H : Hp) (ds : List D) (vs : List V) (d : D) (Q : VK), Same G H → RepL X.K G ds vs → c ds = some d →
  (∀ v G' H', Grow G H G' H' → Rep X.K G' d v → Q v H') → r vs H Q
theorem pd_callB {x : Str} {id : String} {cD : List D → Option D} {g : En → Option (List D)} (hc : CallD X (.builtin id) cD) (hm : X.mg x = none) (hv : bootBuiltins x = some (.builtin id)) (ha : PAD X (e :: es) g) (hg : Gl X x := by rfl)
    (hn : x ≠ "__name__" := by decide) (hdb : (x == ("__debug__" : Str)) = false := by decide)
    (he : starEach (e :: es) X.env = (false, eval e X.env) :: starEach es X.env := by rfl) (hpl : (backTo pos (starEach es X.env)).any (·.1) = false := by rfl) : PD X (.Call (.Name x p) (e :: es) [] pos) (fCall cD g) := by
  obtain ⟨r, hc, kc⟩ := hc
  obtain ⟨ta, pa, ka⟩ := ha
  refine ⟨_, pe_callB hc hg hm hv pa hn hdb he hpl, fun B G H δ σ d Q sG rs ef k => ?_⟩
  unfold fCall at ef
  obtain ⟨ds, e1, ef⟩ := Option.bind_eq_some_iff.mp ef
  exact ka B G H δ σ ds _ sG rs e1 fun vs G1 H1 g1 r1 => kc G1 H1 ds vs d Q g1.s r1 ef fun v G' H' g2 r2 => k v G' H' (g1.trans g2) r2
theorem pd_callTy {x : Str} {T : String} {cD : List D → Option D} {g : En → Option (List D)} (hc : CallD X (.type T) cD) (hm : X.mg x = none) (hv : bootBuiltins x = some (.type T)) (ha : PAD X (e :: es) g) (hg : Gl X x := by rfl)
    (hn : x ≠ "__name__" := by decide) (hdb : (x == ("__debug__" : Str)) = false := by decide)
    (he : starEach (e :: es) X.env = (false, eval e X.env) :: starEach es X.env := by rfl) (hpl : (backTo pos (starEach es X.env)).any (·.1) = false := by rfl) : PD X (.Call (.Name x p) (e :: es) [] pos) (fCall cD g) := by
  obtain ⟨r, hc, kc⟩ := hc
  obtain ⟨ta, pa, ka⟩ := ha
  refine ⟨_, pe_callTy hc hg hm hv pa hn hdb he hpl, fun B G H δ σ d Q sG rs ef k => ?_⟩
  unfold fCall at ef
  obtain ⟨ds, e1, ef⟩ := Option.bind_eq_some_iff.mp ef
  exact ka B G H δ σ ds _ sG rs e1 fun vs G1 H1 g1 r1 => kc G1 H1 ds vs d Q g1.s r1 ef fun v G' H' g2 r2 => k v G' H' (g1.trans g2) r2

/-! operations -/
def OpD (X : Cx) (f : Value → Value → Sem Value) (o : D → D → Option D) : Prop := ∃ r, OpR X f r ∧ ∀ (G H : Hp) (x y : D) (v u : V) (d : D) (Q : VK), Same G H → Rep X.K G x v → Rep X.K G y u → o x y = some d →
  (∀ v G' H', Grow G H G' H' → Rep X.K G' d v → Q v H') → r v u H Q
theorem OpD.or {F : Value → Value → Sem Value} {o o' : D → D → Option D} (h : OpD X F o) (h' : OpD X F o') : OpD X F (fun x y => (o x y).or (o' x y)) := by
  obtain ⟨r, h1, h2⟩ := h
  obtain ⟨r', h1', h2'⟩ := h'
  refine ⟨_, h1.or h1', fun G H x y v u d Q sG rx ry e k => ?_⟩
  cases eo : o x y with
  | some z =>
    have : z = d := by simpa [eo] using e
    subst this
    exact .inl (h2 G H x y v u z Q sG rx ry eo k)
  | none => exact .inr (h2' G H x y v u d Q sG rx ry (by simpa [eo] using e) k)
@[simp] def f2 (o : D → D → Option D) (f g : FE) : FE := fun δ => (f δ).bind fun x => (g δ).bind fun y => o x y
theorem gives_op {r : R2} {o : D → D → Option D} {ta tb : TE} (ka : Gives X.K ta f) (kb : Gives X.K tb g) (ko : ∀ (G H : Hp) (x y : D) (v u : V) (d : D) (Q : VK), Same G H → Rep X.K G x v → Rep X.K G y u → o x y = some d →
    (∀ v G' H', Grow G H G' H' → Rep X.K G' d v → Q v H') → r v u H Q) : Gives X.K (tOp r ta tb) (f2 o f g) := fun B G H δ σ d Q sG rs ef k => by
  unfold f2 at ef
  obtain ⟨x, e1, ef⟩ := Option.bind_eq_some_iff.mp ef
  obtain ⟨y, e2, ef⟩ := Option.bind_eq_some_iff.mp ef
  exact ka B G H δ σ x _ sG rs e1 fun v G1 H1 g1 r1 => kb B G1 H1 δ σ y _ g1.s (rs.grow g1) e2 fun u G2 H2 g2 r2 =>
    ko G2 H2 x y v u d Q g2.s (r1.mono g2.g) r2 ef fun v G' H' g3 r3 => k v G' H' ((g1.trans g2).trans g3) r3
theorem pd_op {op : Operator} {o : D → D → Option D} (ho : OpD X (binaryOp op) o) (ha : PD X a f) (hb : PD X b g) : PD X (.BinOp a op b pos) (f2 o f g) := by
  obtain ⟨r, ho, ko⟩ := ho
  obtain ⟨ta, pa, ka⟩ := ha
  obtain ⟨tb, pb, kb⟩ := hb
  exact ⟨_, pe_op ho pa pb, gives_op ka kb ko⟩
theorem pd_cmp {op : CmpOp} {o : D → D → Option D} (ho : OpD X (compareOp op) o) (ha : PD X a f) (hb : PD X b g) (hm : behindInMarks op b = false := by first | exact nomark _ | with_unfolding_all rfl) : PD X (.Compare a [op] [b] pos) (f2 o f g) := by
  obtain ⟨r, ho, ko⟩ := ho
  obtain ⟨ta, pa, ka⟩ := ha
  obtain ⟨tb, pb, kb⟩ := hb
  exact ⟨_, pe_cmpR ho pa pb hm, gives_op ka kb ko⟩
/-- a value that is a bool, as a test -/
@[simp] def fB (f : FE) : En → Option Bool := fun δ => match f δ with | some (.bl b) => some b | _ => none
theorem fB_some {δ : En} {b : Bool} (e : fB f δ = some b) : f δ = some (.bl b) := by
  unfold fB at e
  split at e
  · rename_i h; cases e; exact h
  · cases e
theorem pdt_cmp {op : CmpOp} {o : D → D → Option D} (ho : OpD X (compareOp op) o) (ha : PD X a f) (hb : PD X b g) (hm : behindInMarks op b = false := by first | exact nomark _ | with_unfolding_all rfl) : PDT X (.Compare a [op] [b] pos) (fB (f2 o f g)) := by
  obtain ⟨r, ho, ko⟩ := ho
  obtain ⟨ta, pa, ka⟩ := ha
  obtain ⟨tb, pb, kb⟩ := hb
  refine ⟨_, pt_cmpR ho pa pb hm, fun B G H δ σ q Q sG rs ef k => ?_⟩
  refine gives_op ka kb ko B G H δ σ _ _ sG rs (fB_some ef) fun v G' H' g1 r1 => ?_
  simp only [Rep] at r1
  exact ⟨q, r1, k G' H' g1⟩
theorem pdt_val (h : PD X e f) (he : ∀ whole, isTrue e X.env whole = (do let v ← whole; standAt e.pos; holding [v] (truthy v)) := by intro _; rfl) : PDT X e (fB f) := by
  obtain ⟨t, pe, ke⟩ := h
  refine ⟨_, pt_val pe he, fun B G H δ σ q Q sG rs ef k => ?_⟩
  refine ke B G H δ σ _ _ sG rs (fB_some ef) fun v G' H' g1 r1 => ?_
  simp only [Rep] at r1
  exact ⟨q, r1, k G' H' g1⟩
/-- a op b op' c -/
@[simp] def f3 (o o' : D → D → Option D) (f g h : FE) : FE := fun δ => (f δ).bind fun x => (g δ).bind fun y => (o x y).bind fun z => match z with | .bl true => (h δ).bind fun w => o' y w | .bl false => some (.bl false) | _ => none
theorem gives_chain {r r' : R2} {o o' : D → D → Option D} {ta tb tc : TE} (ka : Gives X.K ta f) (kb : Gives X.K tb g) (kc : Gives X.K tc h) (ko : ∀ (G H : Hp) (x y : D) (v u : V) (d : D) (Q : VK), Same G H → Rep X.K G x v → Rep X.K G y u → o x y = some d →
    (∀ v G' H', Grow G H G' H' → Rep X.K G' d v → Q v H') → r v u H Q) (ko' : ∀ (G H : Hp) (x y : D) (v u : V) (d : D) (Q : VK), Same G H → Rep X.K G x v → Rep X.K G y u → o' x y = some d →
    (∀ v G' H', Grow G H G' H' → Rep X.K G' d v → Q v H') → r' v u H Q) : Gives X.K (tChain r r' ta tb tc) (f3 o o' f g h) := fun B G H δ σ d Q sG rs ef k => by
  unfold f3 at ef
  obtain ⟨x, e1, ef⟩ := Option.bind_eq_some_iff.mp ef
  obtain ⟨y, e2, ef⟩ := Option.bind_eq_some_iff.mp ef
  obtain ⟨z, e3, ef⟩ := Option.bind_eq_some_iff.mp ef
  refine ka B G H δ σ x _ sG rs e1 fun v G1 H1 g1 r1 => kb B G1 H1 δ σ y _ g1.s (rs.grow g1) e2 fun u G2 H2 g2 r2 => ko G2 H2 x y v u z _ g2.s (r1.mono g2.g) r2 e3 fun zz G3 H3 g3 r3 => ?_
  have g13 := (g1.trans g2).trans g3
  split at ef
  · simp only [Rep] at r3
    obtain ⟨w, e4, ef⟩ := Option.bind_eq_some_iff.mp ef
    refine ⟨true, r3, ?_⟩
    rw [if_pos rfl]
    exact kc B G3 H3 δ σ w _ g3.s (rs.grow g13) e4 fun q G4 H4 g4 r4 => ko' G4 H4 y w u q d Q g4.s (r2.mono (g3.g.trans g4.g)) r4 ef fun v G' H' g5 r5 => k v G' H' ((g13.trans g4).trans g5) r5
  · simp only [Rep] at r3
    cases ef
    refine ⟨false, r3, ?_⟩
    rw [if_neg Bool.false_ne_true]
    exact k _ G3 H3 g13 (by simp [Rep])
  · cases ef
theorem pd_chain {op op' : CmpOp} {o o' : D → D → Option D} (ho : OpD X (compareOp op) o) (ho' : OpD X (compareOp op') o') (ha : PD X a f) (hb : PD X b g) (hc : PD X c h) (hm : lastMarks [op, op'] [b, c] = false := by with_unfolding_all rfl) :
    PD X (.Compare a [op, op'] [b, c] pos) (f3 o o' f g h) := by
  obtain ⟨r, ho, ko⟩ := ho
  obtain ⟨r', ho', ko'⟩ := ho'
  obtain ⟨ta, pa, ka⟩ := ha
  obtain ⟨tb, pb, kb⟩ := hb
  obtain ⟨tc, pc, kc⟩ := hc
  exact ⟨_, pe_chain ho ho' pa pb pc hm, gives_chain ka kb kc ko ko'⟩
theorem pdt_chain {op op' : CmpOp} {o o' : D → D → Option D} (ho : OpD X (compareOp op) o) (ho' : OpD X (compareOp op') o') (ha : PD X a f) (hb : PD X b g) (hc : PD X c h) (hm : lastMarks [op, op'] [b, c] = false := by with_unfolding_all rfl) :
    PDT X (.Compare a [op, op'] [b, c] pos) (fB (f3 o o' f g h)) := by
  obtain ⟨r, ho, ko⟩ := ho
  obtain ⟨r', ho', ko'⟩ := ho'
  obtain ⟨ta, pa, ka⟩ := ha
  obtain ⟨tb, pb, kb⟩ := hb
  obtain ⟨tc, pc, kc⟩ := hc
  refine ⟨_, pt_chain ho ho' pa pb pc hm, fun B G H δ σ q Q sG rs ef k => ?_⟩
  refine gives_chain ka kb kc ko ko' B G H δ σ _ _ sG rs (fB_some ef) fun v G' H' g1 r1 => ?_
  simp only [Rep] at r1
  exact ⟨q, r1, k G' H' g1⟩

/-! and, or, not -/
@[simp] def bAnd (f g : En → Option Bool) : En → Option Bool := fun δ => (f δ).bind fun x => if x = true then g δ else some false
@[simp] def bOr (f g : En → Option Bool) : En → Option Bool := fun δ => (f δ).bind fun x => if x = true then some true else g δ
@[simp] def bNot (f : En → Option Bool) : En → Option Bool := fun δ => (f δ).map (!·)
variable {fb gb : En → Option Bool} {rest : List Expr}
theorem PDW.pdt (h : PDW X e fb) : PDT X e fb := by
  obtain ⟨t, pw, k⟩ := h
  exact ⟨t, pw.pt, k⟩
theorem pdw_and1 (ha : PDT X a fb) : PDW X (.BoolOp .And [a] pos) fb := by
  obtain ⟨t, pt, k⟩ := ha
  exact ⟨t, pw_and1 pt, k⟩
theorem pdw_or1 (ha : PDT X a fb) : PDW X (.BoolOp .Or [a] pos) fb := by
  obtain ⟨t, pt, k⟩ := ha
  exact ⟨t, pw_or1 pt, k⟩
theorem pdw_and (ha : PDT X a fb) (hb : PDW X (.BoolOp .And (b :: rest) pos) gb) : PDW X (.BoolOp .And (a :: b :: rest) pos) (bAnd fb gb) := by
  obtain ⟨t, pt, k1⟩ := ha
  obtain ⟨u, pu, k2⟩ := hb
  refine ⟨_, pw_and pt pu, fun B G H δ σ q Q sG rs ef k => ?_⟩
  unfold bAnd at ef
  obtain ⟨x, e1, ef⟩ := Option.bind_eq_some_iff.mp ef
  refine k1 B G H δ σ x _ sG rs e1 fun G1 H1 g1 => ?_
  cases x with
  | true => rw [if_pos rfl] at ef ⊢; exact k2 B G1 H1 δ σ q Q g1.s (rs.grow g1) ef fun G' H' g2 => k G' H' (g1.trans g2)
  | false => rw [if_neg Bool.false_ne_true] at ef ⊢; cases ef; exact k G1 H1 g1
theorem pdw_or (ha : PDT X a fb) (hb : PDW X (.BoolOp .Or (b :: rest) pos) gb) : PDW X (.BoolOp .Or (a :: b :: rest) pos) (bOr fb gb) := by
  obtain ⟨t, pt, k1⟩ := ha
  obtain ⟨u, pu, k2⟩ := hb
  refine ⟨_, pw_or pt pu, fun B G H δ σ q Q sG rs ef k => ?_⟩
  unfold bOr at ef
  obtain ⟨x, e1, ef⟩ := Option.bind_eq_some_iff.mp ef
  refine k1 B G H δ σ x _ sG rs e1 fun G1 H1 g1 => ?_
  cases x with
  | false => rw [if_neg Bool.false_ne_true] at ef ⊢; exact k2 B G1 H1 δ σ q Q g1.s (rs.grow g1) ef fun G' H' g2 => k G' H' (g1.trans g2)
  | true => rw [if_pos rfl] at ef ⊢; cases ef; exact k G1 H1 g1
theorem pdt_not (ha : PDT X a fb) : PDT X (.UnaryOp .Not a pos) (bNot fb) := by
  obtain ⟨t, pt, k1⟩ := ha
  refine ⟨_, L2.pt_not pt, fun B G H δ σ q Q sG rs ef k => ?_⟩
  unfold bNot at ef
  obtain ⟨x, e1, ef⟩ := Option.map_eq_some_iff.mp ef
  subst ef
  exact k1 B G H δ σ x _ sG rs e1 fun G1 H1 g1 => k G1 H1 g1
/-- as values -/
@[simp] def fAnd (f g : FE) : FE := fun δ => match f δ with | some (.bl true) => g δ | some (.bl false) => some (.bl false) | _ => none
@[simp] def fOr (f g : FE) : FE := fun δ => match f δ with | some (.bl true) => some (.bl true) | some (.bl false) => g δ | _ => none
@[simp] def fNot (f : FE) : FE := fun δ => match f δ with | some (.bl b) => some (.bl (!b)) | _ => none
theorem pd_one {op} (h : PD X a f) : PD X (.BoolOp op [a] pos) f := by
  obtain ⟨t, pt, k⟩ := h
  exact ⟨t, pe_one pt, k⟩
theorem pd_and (ha : PD X a f) (hb : PD X (.BoolOp .And (b :: rest) pos) g) : PD X (.BoolOp .And (a :: b :: rest) pos) (fAnd f g) := by
  obtain ⟨t, pt, k1⟩ := ha
  obtain ⟨u, pu, k2⟩ := hb
  refine ⟨_, pe_and pt pu, fun B G H δ σ q Q sG rs ef k => ?_⟩
  unfold fAnd at ef
  split at ef
  · rename_i e1
    refine k1 B G H δ σ _ _ sG rs e1 fun v G1 H1 g1 r1 => ⟨true, by simpa only [Rep] using r1, ?_⟩
    rw [if_pos rfl]
    exact k2 B G1 H1 δ σ q Q g1.s (rs.grow g1) ef fun v G' H' g2 r2 => k v G' H' (g1.trans g2) r2
  · rename_i e1
    cases ef
    refine k1 B G H δ σ _ _ sG rs e1 fun v G1 H1 g1 r1 => ⟨false, by simpa only [Rep] using r1, ?_⟩
    rw [if_neg Bool.false_ne_true]
    exact k _ G1 H1 g1 (by simp [Rep])
  · cases ef
theorem pd_or (ha : PD X a f) (hb : PD X (.BoolOp .Or (b :: rest) pos) g) : PD X (.BoolOp .Or (a :: b :: rest) pos) (fOr f g) := by
  obtain ⟨t, pt, k1⟩ := ha
  obtain ⟨u, pu, k2⟩ := hb
  refine ⟨_, pe_or pt pu, fun B G H δ σ q Q sG rs ef k => ?_⟩
  unfold fOr at ef
  split at ef
  · rename_i e1
    cases ef
    refine k1 B G H δ σ _ _ sG rs e1 fun v G1 H1 g1 r1 => ⟨true, by simpa only [Rep] using r1, ?_⟩
    rw [if_pos rfl]
    exact k _ G1 H1 g1 (by simp [Rep])
  · rename_i e1
    refine k1 B G H δ σ _ _ sG rs e1 fun v G1 H1 g1 r1 => ⟨false, by simpa only [Rep] using r1, ?_⟩
    rw [if_neg Bool.false_ne_true]
    exact k2 B G1 H1 δ σ q Q g1.s (rs.grow g1) ef fun v G' H' g2 r2 => k v G' H' (g1.trans g2) r2
  · cases ef
theorem pd_not (ha : PD X a f) : PD X (.UnaryOp .Not a pos) (fNot f) := by
  obtain ⟨t, pt, k1⟩ := ha
  refine ⟨_, pe_not pt, fun B G H δ σ q Q sG rs ef k => ?_⟩
  unfold fNot at ef
  split at ef
  · rename_i b e1
    cases ef
    refine k1 B G H δ σ _ _ sG rs e1 fun v G1 H1 g1 r1 => ⟨b, by simpa only [Rep] using r1, k _ G1 H1 g1 (by simp [Rep])⟩
  · cases ef
@[simp] def fIf (c : En → Option Bool) (f g : FE) : FE := fun δ => (c δ).bind fun x => if x = true then f δ else g δ
theorem pd_if {c : Expr} (hc : PDT X c fb) (ha : PD X a f) (hb : PD X b g) : PD X (.IfExp c a b pos) (fIf fb f g) := by
  obtain ⟨tc, pc, kc⟩ := hc
  obtain ⟨ta, pa, ka⟩ := ha
  obtain ⟨tb, pb, kb⟩ := hb
  refine ⟨_, pe_ifExp pc pa pb, fun B G H δ σ q Q sG rs ef k => ?_⟩
  unfold fIf at ef
  obtain ⟨x, e1, ef⟩ := Option.bind_eq_some_iff.mp ef
  refine kc B G H δ σ x _ sG rs e1 fun G1 H1 g1 => ?_
  cases x with
  | true => rw [if_pos rfl] at ef ⊢; exact ka B G1 H1 δ σ q Q g1.s (rs.grow g1) ef fun v G' H' g2 => k v G' H' (g1.trans g2)
  | false => rw [if_neg Bool.false_ne_true] at ef ⊢; exact kb B G1 H1 δ σ q Q g1.s (rs.grow g1) ef fun v G' H' g2 => k v G' H' (g1.trans g2)

/-! displays -/
@[simp] def fTup (g : En → Option (List D)) : FE := fun δ => (g δ).bind fun ds => if ds.length ≤ sizeLine then some (.tup ds) else none
@[simp] def fLst (g : En → Option (List D)) : FE := fun δ => (g δ).bind fun ds => if ds.length ≤ sizeLine then some (.lst ds) else none
theorem rep_tup {K : PySem.W.Frag} {G : Hp} {p : Addr} {ds : List D} {vs : List V} (hn : G p = none) (r : RepL K G ds vs) : Rep K (upd G p (.tup vs)) (.tup ds) (.ref p) := by
  simp only [Rep]
  exact ⟨p, vs, rfl, SqT.of upd_same, r.mono (same_new _ hn)⟩
theorem rep_lst {K : PySem.W.Frag} {G : Hp} {p : Addr} {ds : List D} {vs : List V} (hn : G p = none) (r : RepL K G ds vs) : Rep K (upd G p (.lst vs)) (.lst ds) (.ref p) := by
  simp only [Rep]
  exact ⟨p, vs, rfl, SqL.of upd_same, r.mono (same_new _ hn)⟩
theorem pd_tup {x1} {g : En → Option (List D)} (ha : PAD X es g) : PD X (.Tuple es x1 pos) (fTup g) := by
  obtain ⟨t, pt, k1⟩ := ha
  refine ⟨_, pe_tup pt, fun B G H δ σ q Q sG rs ef k => ?_⟩
  unfold fTup at ef
  obtain ⟨ds, e1, ef⟩ := Option.bind_eq_some_iff.mp ef
  split at ef
  · rename_i hl
    cases ef
    exact k1 B G H δ σ ds _ sG rs e1 fun vs G1 H1 g1 r1 => ⟨by rw [← r1.length]; exact hl, fun p hp => k _ _ _ (g1.trans (Grow.laid g1.s _ hp)) (rep_tup (g1.s.free hp) r1)⟩
  · cases ef
theorem pd_lst {g : En → Option (List D)} (ha : PAD X es g) : PD X (.List es pos) (fLst g) := by
  obtain ⟨t, pt, k1⟩ := ha
  refine ⟨_, pe_lst pt, fun B G H δ σ q Q sG rs ef k => ?_⟩
  unfold fLst at ef
  obtain ⟨ds, e1, ef⟩ := Option.bind_eq_some_iff.mp ef
  split at ef
  · rename_i hl
    cases ef
    exact k1 B G H δ σ ds _ sG rs e1 fun vs G1 H1 g1 r1 => ⟨by rw [← r1.length]; exact hl, fun p hp => k _ _ _ (g1.trans (Grow.laid g1.s _ hp)) (rep_lst (g1.s.free hp) r1)⟩
  · cases ef

/-! a[b] -/
def ixD : D → D → Option D
  | .lst ds, .int i => atI ds i
  | .tup ds, .int i => atI ds i
  | .str z, .int i => if z.length ≤ sizeLine then (atI z.cps.toList i).map fun c => .str ⟨#[c]⟩ else none
  | _, _ => none
theorem RepL.atI {K : PySem.W.Frag} {H : Hp} {ds : List D} {vs : List V} {i : Int} {d : D} (r : RepL K H ds vs) (e : L2.atI ds i = some d) : ∃ v, L2.atI vs i = some v ∧ Rep K H d v := by
  unfold L2.atI at e ⊢
  rw [← r.length]
  obtain ⟨j, e1, e2⟩ := Option.bind_eq_some_iff.mp e
  obtain ⟨v, h1, h2⟩ := r.get e2
  exact ⟨v, by rw [e1]; exact h1, h2⟩
theorem pd_ix (ha : PD X a f) (hb : PD X b g) (hs : PlainIx b := by intro _ _; rfl) : PD X (.Subscript a b pos) (f2 ixD f g) := by
  obtain ⟨ta, pa, ka⟩ := ha
  obtain ⟨tb, pb, kb⟩ := hb
  refine ⟨_, pe_ix ix_seq pa pb hs, gives_op ka kb fun G H x y v u d Q sG rx ry e k => ?_⟩
  unfold ixD at e
  split at e
  · simp only [Rep] at rx ry
    obtain ⟨p, vs, rfl, hq, rl⟩ := rx
    obtain ⟨w, e1, r1⟩ := rl.atI e
    exact .inl ⟨p, vs, _, w, rfl, ry, sG.sqL hq, e1, k w G H (Grow.refl sG) r1⟩
  · simp only [Rep] at rx ry
    obtain ⟨p, vs, rfl, hq, rl⟩ := rx
    obtain ⟨w, e1, r1⟩ := rl.atI e
    exact .inr (.inl ⟨p, vs, _, w, rfl, ry, sG.sqT hq, e1, k w G H (Grow.refl sG) r1⟩)
  · simp only [Rep] at rx ry
    split at e
    · rename_i hl
      obtain ⟨c, e1, rfl⟩ := Option.map_eq_some_iff.mp e
      exact .inr (.inr ⟨_, _, c, rx, ry, hl, e1, k _ G H (Grow.refl sG) (by simp [Rep])⟩)
    · cases e
  · cases e
end
end L2

-- part Lx3
set_option Elab.async false
set_option linter.all false
set_option maxRecDepth 100000
set_option maxHeartbeats 4000000
namespace L2
open PySem PySem.Spec PyProof.Rows

section
variable {X : Cx}
/-! ### ints -/
theorem opd_i0 {f : Value → Value → Sem Value} {g : Int → Int → V} {g' : Int → Int → D} (h : OpR X f (rI0 g)) (hg : ∀ G i j, Rep X.K G (g' i j) (g i j)) :
    OpD X f (fun x y => match x, y with | .int i, .int j => some (g' i j) | _, _ => none) := by
  refine ⟨_, h, fun G H x y v u d Q sG rx ry e k => ?_⟩
  dsimp only at e
  split at e
  · cases e
    simp only [Rep] at rx ry
    exact ⟨_, _, rx, ry, k _ G H (Grow.refl sG) (hg _ _ _)⟩
  · cases e
theorem opd_i {f : Value → Value → Sem Value} {C : Int → Int → Prop} [∀ i j, Decidable (C i j)] {g : Int → Int → V} {g' : Int → Int → D} (h : OpR X f (rI C g)) (hg : ∀ G i j, Rep X.K G (g' i j) (g i j)) :
    OpD X f (fun x y => match x, y with | .int i, .int j => if C i j then some (g' i j) else none | _, _ => none) := by
  refine ⟨_, h, fun G H x y v u d Q sG rx ry e k => ?_⟩
  dsimp only at e
  split at e
  · split at e
    · rename_i hc
      cases e
      simp only [Rep] at rx ry
      exact ⟨_, _, rx, ry, hc, k _ G H (Grow.refl sG) (hg _ _ _)⟩
    · cases e
  · cases e
instance (i j : Int) : Decidable (CDiv i j) := inferInstanceAs (Decidable (_ ∧ _))
instance (i j : Int) : Decidable (CMul i j) := inferInstanceAs (Decidable (_ ∨ _))
instance (i j : Int) : Decidable (CPow i j) := inferInstanceAs (Decidable (_ ∧ _ ∧ _))
def iAdd : D → D → Option D | .int i, .int j => some (.int (i + j)) | _, _ => none
def subD : D → D → Option D | .int i, .int j => some (.int (i - j)) | _, _ => none
def iMul : D → D → Option D | .int i, .int j => if CMul i j then some (.int (i * j)) else none | _, _ => none
def fdivD : D → D → Option D | .int i, .int j => if CDiv i j then some (.int (i / j)) else none | _, _ => none
def modD : D → D → Option D | .int i, .int j => if 0 < j then some (.int (i % j)) else none | _, _ => none
def powD : D → D → Option D | .int i, .int j => if CPow i j then some (.int (i ^ j.toNat)) else none | _, _ => none
theorem od_iadd : OpD X (binaryOp .Add) iAdd := opd_i0 op_add fun _ _ _ => by simp [Rep]
theorem od_sub : OpD X (binaryOp .Sub) subD := opd_i0 op_sub fun _ _ _ => by simp [Rep]
theorem od_imul : OpD X (binaryOp .Mult) iMul := opd_i op_mul fun _ _ _ => by simp [Rep]
theorem od_fdiv : OpD X (binaryOp .FloorDiv) fdivD := opd_i op_fdiv fun _ _ _ => by simp [Rep]
theorem od_mod : OpD X (binaryOp .Mod) modD := opd_i op_mod fun _ _ _ => by simp [Rep]
theorem od_pow : OpD X (binaryOp .Pow) powD := opd_i op_pow fun _ _ _ => by simp [Rep]

/-! ### texts, lists -/
def sAdd : D → D → Option D | .str i, .str j => if i.length + j.length ≤ sizeLine then some (.str (i ++ j)) else none | _, _ => none
theorem od_sadd : OpD X (binaryOp .Add) sAdd := by
  refine ⟨_, op_add_str, fun G H x y v u d Q sG rx ry e k => ?_⟩
  unfold sAdd at e
  split at e
  · split at e
    · rename_i hc
      cases e
      simp only [Rep] at rx ry
      exact ⟨_, _, rx, ry, hc, k _ G H (Grow.refl sG) (by simp [Rep])⟩
    · cases e
  · cases e
/-- two lists that are read -/
def rCatL (K : PySem.W.Frag) : R2 := fun x y H Q => ∃ l b xs zs, x = .ref l ∧ y = .ref b ∧ SqL K H l xs ∧ SqL K H b zs ∧ xs.length + zs.length ≤ sizeLine ∧ ∀ p, H p = none → Q (.ref p) (upd H p (.lst (xs ++ zs)))
def lAdd : D → D → Option D | .lst i, .lst j => if i.length + j.length ≤ sizeLine then some (.lst (i ++ j)) else none | _, _ => none
theorem od_ladd (h : OpR X (binaryOp .Add) (rCatL X.K)) : OpD X (binaryOp .Add) lAdd := by
  refine ⟨_, h, fun G H x y v u d Q sG rx ry e k => ?_⟩
  unfold lAdd at e
  split at e
  · split at e
    · rename_i hc
      cases e
      simp only [Rep] at rx ry
      obtain ⟨p1, xs, rfl, q1, r1⟩ := rx
      obtain ⟨p2, ys, rfl, q2, r2⟩ := ry
      exact ⟨p1, p2, xs, ys, rfl, rfl, sG.sqL q1, sG.sqL q2, by rw [← r1.length, ← r2.length]; exact hc, fun p hp => k _ _ _ (Grow.laid sG _ hp) (rep_lst (sG.free hp) (r1.append r2))⟩
    · cases e
  · cases e

/-! ### comparisons -/
def iCmp (f : Int → Int → Bool) : D → D → Option D | .int i, .int j => some (.bl (f i j)) | _, _ => none
theorem od_lt : OpD X (compareOp .Lt) (iCmp fun i j => decide (i < j)) := opd_i0 op_lt fun _ _ _ => by simp [Rep]
theorem od_le : OpD X (compareOp .LtE) (iCmp fun i j => decide (i ≤ j)) := opd_i0 op_le fun _ _ _ => by simp [Rep]
theorem od_gt : OpD X (compareOp .Gt) (iCmp fun i j => decide (j < i)) := opd_i0 op_gt fun _ _ _ => by simp [Rep]
theorem od_ge : OpD X (compareOp .GtE) (iCmp fun i j => decide (j ≤ i)) := opd_i0 op_ge fun _ _ _ => by simp [Rep]
theorem op_le_str : OpR X (compareOp .LtE) (fun x y H Q => ∃ i j, x = .str i ∧ y = .str j ∧ Q (.bl (!decide (j.cps.toList < i.cps.toList))) H) := by
  intro pins s σ H x y v u Q I rx ry h
  obtain ⟨i, j, rfl, rfl, q⟩ := h
  obtain ⟨t, rfl⟩ := rx
  obtain ⟨t', rfl⟩ := ry
  exact PySem.P.le_str ⟨.bl _, H, I, rfl, q⟩
def sLe : D → D → Option D | .str i, .str j => some (.bl (!decide (j.cps.toList < i.cps.toList))) | _, _ => none
theorem od_sle : OpD X (compareOp .LtE) sLe := by
  refine ⟨_, op_le_str, fun G H x y v u d Q sG rx ry e k => ?_⟩
  unfold sLe at e
  split at e
  · cases e
    simp only [Rep] at rx ry
    exact ⟨_, _, rx, ry, k _ G H (Grow.refl sG) (by simp [Rep])⟩
  · cases e
/-- the scalars -/
def scalV : D → Option V
  | .non => some .non | .bl b => some (.bl b) | .int i => some (.int i) | .str x => some (.str x) | _ => none
theorem scalV_rep {K : PySem.W.Frag} {G : Hp} {d : D} {v w : V} (e : scalV d = some w) (r : Rep K G d v) : v = w := by
  cases d <;> simp only [scalV, Rep] at e r <;> first | cases e | skip
  all_goals exact r
def sEq (n : Bool) : D → D → Option D := fun x y => (scalV x).bind fun v => (scalV y).bind fun u => if scal v u = true then some (.bl (if n then !decide (v = u) else decide (v = u))) else none
theorem od_seq : OpD X (compareOp .Eq) (sEq false) := by
  refine ⟨_, op_eq, fun G H x y v u d Q sG rx ry e k => ?_⟩
  unfold sEq at e
  obtain ⟨v', e1, e⟩ := Option.bind_eq_some_iff.mp e
  obtain ⟨u', e2, e⟩ := Option.bind_eq_some_iff.mp e
  obtain rfl := scalV_rep e1 rx
  obtain rfl := scalV_rep e2 ry
  split at e
  · rename_i hs
    cases e
    exact ⟨hs, k _ G H (Grow.refl sG) (by simp [Rep])⟩
  · cases e
theorem od_sne : OpD X (compareOp .NotEq) (sEq true) := by
  refine ⟨_, op_ne, fun G H x y v u d Q sG rx ry e k => ?_⟩
  unfold sEq at e
  obtain ⟨v', e1, e⟩ := Option.bind_eq_some_iff.mp e
  obtain ⟨u', e2, e⟩ := Option.bind_eq_some_iff.mp e
  obtain rfl := scalV_rep e1 rx
  obtain rfl := scalV_rep e2 ry
  split at e
  · rename_i hs
    cases e
    exact ⟨hs, k _ G H (Grow.refl sG) (by simp [Rep])⟩
  · cases e
/-- in a tuple or list of scalars, in a text -/
def flatD : D → Bool | .non => true | .bl _ => true | .int _ => true | .str _ => true | _ => false
def toV : D → V | .non => .non | .bl b => .bl b | .int i => .int i | .str x => .str x | _ => .non
theorem rep_flat {K : PySem.W.Frag} {G : Hp} {d : D} {v : V} (e : flatD d = true) (r : Rep K G d v) : v = toV d ∧ flatV v = true := by
  cases d with
  | non => simp only [Rep] at r; subst r; exact ⟨rfl, rfl⟩
  | bl b => simp only [Rep] at r; subst r; exact ⟨rfl, rfl⟩
  | int b => simp only [Rep] at r; subst r; exact ⟨rfl, rfl⟩
  | str b => simp only [Rep] at r; subst r; exact ⟨rfl, rfl⟩
  | tup b => cases e
  | lst b => cases e
theorem repL_flat {K : PySem.W.Frag} {G : Hp} : ∀ {ds : List D} {vs : List V}, ds.all flatD = true → RepL K G ds vs → vs = ds.map toV ∧ vs.all flatV = true
  | [], _, _, r => by simp only [RepL] at r; subst r; exact ⟨rfl, rfl⟩
  | d :: ds, _, e, r => by
    simp only [RepL] at r
    obtain ⟨v, us, rfl, r1, r2⟩ := r
    rw [List.all_cons, Bool.and_eq_true] at e
    obtain ⟨h1, h2⟩ := rep_flat e.1 r1
    obtain ⟨h3, h4⟩ := repL_flat e.2 r2
    exact ⟨by rw [h1, h3]; rfl, by rw [List.all_cons, h2, h4]; rfl⟩
def inSeq (x : D) (ds : List D) : Option Bool := if flatD x = true ∧ ds.all flatD = true then some (inV (toV x) (ds.map toV)) else none
def inD (n : Bool) : D → D → Option D
  | x, .tup ds => (inSeq x ds).map fun b => .bl (if n then !b else b)
  | x, .lst ds => (inSeq x ds).map fun b => .bl (if n then !b else b)
  | .str i, .str j => some (.bl (if n then !(!(Builtin.Str.occurrences j i 0 j.length 1).isEmpty) else !(Builtin.Str.occurrences j i 0 j.length 1).isEmpty))
  | _, _ => none
theorem od_in : OpD X (compareOp .In) (inD false) := by
  refine ⟨_, (op_in_seq.or op_in_str), fun G H x y v u d Q sG rx ry e k => ?_⟩
  unfold inD at e
  split at e
  · obtain ⟨b, e1, rfl⟩ := Option.map_eq_some_iff.mp e
    unfold inSeq at e1
    split at e1
    · rename_i hc
      cases e1
      simp only [Rep] at ry
      obtain ⟨p, vs, rfl, q, r⟩ := ry
      obtain ⟨h1, h2⟩ := rep_flat hc.1 rx
      obtain ⟨h3, h4⟩ := repL_flat hc.2 r
      subst h1 h3
      exact .inl ⟨p, _, rfl, .inr (sG.sqT q), h2, h4, k _ G H (Grow.refl sG) (by simp [Rep])⟩
    · cases e1
  · obtain ⟨b, e1, rfl⟩ := Option.map_eq_some_iff.mp e
    unfold inSeq at e1
    split at e1
    · rename_i hc
      cases e1
      simp only [Rep] at ry
      obtain ⟨p, vs, rfl, q, r⟩ := ry
      obtain ⟨h1, h2⟩ := rep_flat hc.1 rx
      obtain ⟨h3, h4⟩ := repL_flat hc.2 r
      subst h1 h3
      exact .inl ⟨p, _, rfl, .inl (sG.sqL q), h2, h4, k _ G H (Grow.refl sG) (by simp [Rep])⟩
    · cases e1
  · cases e
    simp only [Rep] at rx ry
    exact .inr ⟨_, _, rx, ry, k _ G H (Grow.refl sG) (by simp [Rep])⟩
  · cases e
theorem od_notin : OpD X (compareOp .NotIn) (inD true) := by
  refine ⟨_, (op_notIn_seq.or op_notIn_str), fun G H x y v u d Q sG rx ry e k => ?_⟩
  unfold inD at e
  split at e
  · obtain ⟨b, e1, rfl⟩ := Option.map_eq_some_iff.mp e
    unfold inSeq at e1
    split at e1
    · rename_i hc
      cases e1
      simp only [Rep] at ry
      obtain ⟨p, vs, rfl, q, r⟩ := ry
      obtain ⟨h1, h2⟩ := rep_flat hc.1 rx
      obtain ⟨h3, h4⟩ := repL_flat hc.2 r
      subst h1 h3
      exact .inl ⟨p, _, rfl, .inr (sG.sqT q), h2, h4, k _ G H (Grow.refl sG) (by simp [Rep])⟩
    · cases e1
  · obtain ⟨b, e1, rfl⟩ := Option.map_eq_some_iff.mp e
    unfold inSeq at e1
    split at e1
    · rename_i hc
      cases e1
      simp only [Rep] at ry
      obtain ⟨p, vs, rfl, q, r⟩ := ry
      obtain ⟨h1, h2⟩ := rep_flat hc.1 rx
      obtain ⟨h3, h4⟩ := repL_flat hc.2 r
      subst h1 h3
      exact .inl ⟨p, _, rfl, .inl (sG.sqL q), h2, h4, k _ G H (Grow.refl sG) (by simp [Rep])⟩
    · cases e1
  · cases e
    simp only [Rep] at rx ry
    exact .inr ⟨_, _, rx, ry, k _ G H (Grow.refl sG) (by simp [Rep])⟩
  · cases e

/-! ### slices -/
def cutD (xs : List D) (lo hi : Option Int) : List D := (xs.drop (HT.sIx xs.length 0 lo)).take (HT.sIx xs.length xs.length hi - HT.sIx xs.length 0 lo)
theorem RepL.cut {K : PySem.W.Frag} {G : Hp} {ds : List D} {vs : List V} (r : RepL K G ds vs) (lo hi : Option Int) : RepL K G (cutD ds lo hi) (cutV vs lo hi) := by
  unfold cutD cutV
  rw [r.length]
  exact (r.drop _).take _
/-- a slice's part -/
def POD (X : Cx) (e : Option Expr) (f : En → Option (Option Int)) : Prop := ∃ t, PO X e t ∧ ∀ (B G H : Hp) (δ : En) (σ : St) (o : Option Int) (Q : Option Int → Hp → Prop), Same G H → RepS X.K B G H δ σ → f δ = some o →
  (∀ G' H', Grow G H G' H' → Q o H') → t σ H Q
theorem pod_none : POD X none (fun _ => some none) := ⟨_, po_none, fun B G H δ σ o Q sG rs e k => by cases e; exact k G H (Grow.refl sG)⟩
@[simp] def oInt (f : FE) : En → Option (Option Int) := fun δ => match f δ with | some (.int i) => some (some i) | _ => none
theorem pod_some {e : Expr} {f : FE} (h : PD X e f) : POD X (some e) (oInt f) := by
  obtain ⟨t, pt, k1⟩ := h
  refine ⟨_, po_some pt, fun B G H δ σ o Q sG rs e k => ?_⟩
  unfold oInt at e
  split at e
  · rename_i i e1
    cases e
    exact k1 B G H δ σ _ _ sG rs e1 fun v G' H' g1 r1 => ⟨i, by simpa only [Rep] using r1, k G' H' g1⟩
  · cases e
def slD (x : D) (lo hi : Option Int) : Option D := match x with
  | .lst ds => some (.lst (cutD ds lo hi))
  | _ => none
@[simp] def fSl (f : FE) (l h : En → Option (Option Int)) : FE := fun δ => (f δ).bind fun x => (l δ).bind fun lo => (h δ).bind fun hi => slD x lo hi
theorem pd_sl {e : Expr} {f : FE} {lo hi : Option Expr} {fl fh : En → Option (Option Int)} {pos p2 : Pos} (he : PD X e f) (hl : POD X lo fl) (hh : POD X hi fh) : PD X (.Subscript e (.Slice lo hi none p2) pos) (fSl f fl fh) := by
  obtain ⟨t, pt, k1⟩ := he
  obtain ⟨tl, pl, kl⟩ := hl
  obtain ⟨th, ph, kh⟩ := hh
  refine ⟨_, pe_slice sl_list pt pl ph, fun B G H δ σ d Q sG rs e k => ?_⟩
  unfold fSl at e
  obtain ⟨x, e1, e⟩ := Option.bind_eq_some_iff.mp e
  obtain ⟨l, e2, e⟩ := Option.bind_eq_some_iff.mp e
  obtain ⟨h, e3, e⟩ := Option.bind_eq_some_iff.mp e
  refine k1 B G H δ σ x _ sG rs e1 fun v G1 H1 g1 r1 => kl B G1 H1 δ σ l _ g1.s (rs.grow g1) e2 fun G2 H2 g2 => kh B G2 H2 δ σ h _ g2.s (rs.grow (g1.trans g2)) e3 fun G3 H3 g3 => ?_
  have g13 := (g1.trans g2).trans g3
  unfold slD at e
  split at e
  · cases e
    have r3 := r1.mono (g2.g.trans g3.g)
    simp only [Rep] at r3
    obtain ⟨a, vs, rfl, q, rl⟩ := r3
    exact ⟨a, vs, rfl, g3.s.sqL q, fun p hp => k _ _ _ (g13.trans (Grow.laid g3.s _ hp)) (rep_lst (g3.s.free hp) (rl.cut l h))⟩
  · cases e

/-! ### built-ins -/
def lenD : List D → Option D
  | [.lst ds] => some (.int ds.length)
  | [.tup ds] => some (.int ds.length)
  | [.str z] => if z.length ≤ sizeLine then some (.int z.length) else none
  | _ => none
theorem repL_one {K : PySem.W.Frag} {G : Hp} {d : D} {vs : List V} (r : RepL K G [d] vs) : ∃ v, vs = [v] ∧ Rep K G d v := by
  simp only [RepL] at r
  obtain ⟨v, us, rfl, r1, rfl⟩ := r
  exact ⟨v, rfl, r1⟩
theorem cd_len : CallD X (.builtin "len") lenD := by
  refine ⟨_, call_len_seq.or call_len_str, fun G H ds vs d Q sG r e k => ?_⟩
  unfold lenD at e
  split at e
  · cases e
    obtain ⟨v, rfl, r1⟩ := repL_one r
    simp only [Rep] at r1
    obtain ⟨a, us, rfl, q, rl⟩ := r1
    exact .inl ⟨a, us, rfl, .inl (sG.sqL q), k _ G H (Grow.refl sG) (by simp [Rep, rl.length])⟩
  · cases e
    obtain ⟨v, rfl, r1⟩ := repL_one r
    simp only [Rep] at r1
    obtain ⟨a, us, rfl, q, rl⟩ := r1
    exact .inl ⟨a, us, rfl, .inr (sG.sqT q), k _ G H (Grow.refl sG) (by simp [Rep, rl.length])⟩
  · split at e
    · rename_i hl
      cases e
      obtain ⟨v, rfl, r1⟩ := repL_one r
      simp only [Rep] at r1
      subst r1
      exact .inr ⟨_, rfl, hl, k _ G H (Grow.refl sG) (by simp [Rep])⟩
    · cases e
  · cases e
def tupD : List D → Option D
  | [.lst ds] => some (.tup ds)
  | [.tup ds] => some (.tup ds)
  | _ => none
theorem cd_tuple : CallD X (.type "tuple") tupD := by
  refine ⟨_, call_tuple_of, fun G H ds vs d Q sG r e k => ?_⟩
  unfold tupD at e
  split at e
  · cases e
    obtain ⟨v, rfl, r1⟩ := repL_one r
    simp only [Rep] at r1
    obtain ⟨a, us, rfl, q, rl⟩ := r1
    exact ⟨a, us, rfl, .inl ⟨sG.sqL q, fun l hl => k _ _ _ (Grow.laid sG _ hl) (rep_tup (sG.free hl) rl)⟩⟩
  · cases e
    obtain ⟨v, rfl, r1⟩ := repL_one r
    have r2 := r1
    simp only [Rep] at r1
    obtain ⟨a, us, rfl, q, rl⟩ := r1
    exact ⟨a, us, rfl, .inr ⟨sG.sqT q, k _ G H (Grow.refl sG) r2⟩⟩
  · cases e
def lstD : List D → Option D
  | [.lst ds] => some (.lst ds)
  | [.tup ds] => some (.lst ds)
  | _ => none
theorem cd_list : CallD X (.type "list") lstD := by
  refine ⟨_, call_list_of, fun G H ds vs d Q sG r e k => ?_⟩
  unfold lstD at e
  split at e
  · cases e
    obtain ⟨v, rfl, r1⟩ := repL_one r
    simp only [Rep] at r1
    obtain ⟨a, us, rfl, q, rl⟩ := r1
    exact ⟨a, us, rfl, .inl (sG.sqL q), fun l hl => k _ _ _ (Grow.laid sG _ hl) (rep_lst (sG.free hl) rl)⟩
  · cases e
    obtain ⟨v, rfl, r1⟩ := repL_one r
    simp only [Rep] at r1
    obtain ⟨a, us, rfl, q, rl⟩ := r1
    exact ⟨a, us, rfl, .inr (sG.sqT q), fun l hl => k _ _ _ (Grow.laid sG _ hl) (rep_lst (sG.free hl) rl)⟩
  · cases e
end

/-! ### statements -/
inductive Out where
  | nx (δ : En) | rt (d : D) | bk (δ : En) | ct (δ : En)
abbrev FS := En → Option Out
/-- statements on: what is shared grows, what stood ahead of the entry stays -/
structure Stp (B G G' H' : Hp) : Prop where
  g : Same G G'
  s : Same G' H'
  b : Same B H'
  n : ∀ a o, B a = some o → G a = none → G' a = none
theorem Stp.refl {B G H : Hp} (s : Same G H) (b : Same B H) : Stp B G G H := ⟨Same.refl _, s, b, fun _ _ _ n => n⟩
theorem Stp.trans {B G G1 H1 G2 H2 : Hp} (a : Stp B G G1 H1) (c : Stp B G1 G2 H2) : Stp B G G2 H2 := ⟨a.g.trans c.g, c.s, c.b, fun x o e n => c.n x o e (a.n x o e n)⟩
theorem Grow.stp {B G H G' H' : Hp} (g : Grow G H G' H') (b : Same B H) : Stp B G G' H' := ⟨g.g, g.s, b.trans g.h, fun a o e n => g.n a o (b a o e) n⟩
def Want (K : PySem.W.Frag) (B G : Hp) (D : Ends) : Out → Prop
  | .nx δ' => ∀ σ' G' H', Stp B G G' H' → RepS K B G' H' δ' σ' → D.nx σ' H'
  | .bk δ' => ∀ σ' G' H', Stp B G G' H' → RepS K B G' H' δ' σ' → D.bk σ' H'
  | .ct δ' => ∀ σ' G' H', Stp B G G' H' → RepS K B G' H' δ' σ' → D.ct σ' H'
  | .rt d => ∀ v G' H', Stp B G G' H' → Rep K G' d v → D.rt v H'
def GivesS (K : PySem.W.Frag) (t : TS) (F : FS) : Prop := ∀ (B G H : Hp) (δ : En) (σ : St) (o : Out) (D : Ends), Same G H → Same B H → RepS K B G H δ σ → F δ = some o → Want K B G D o → t D σ H
def PSD (X : Cx) (st : Stmt) (F : FS) : Prop := ∃ t, PS X st t ∧ GivesS X.K t F
def PSsD (X : Cx) (sts : List Stmt) (F : FS) : Prop := ∃ t, PSs X sts t ∧ GivesS X.K t F
theorem Want.mono {K : PySem.W.Frag} {B G G1 H1 : Hp} {D : Ends} {o : Out} (w : Want K B G D o) (g : Stp B G G1 H1) : Want K B G1 D o := by
  cases o with
  | nx δ => exact fun σ' G' H' a => w σ' G' H' (g.trans a)
  | bk δ => exact fun σ' G' H' a => w σ' G' H' (g.trans a)
  | ct δ => exact fun σ' G' H' a => w σ' G' H' (g.trans a)
  | rt d => exact fun v G' H' a => w v G' H' (g.trans a)
section
variable {X : Cx} {st : Stmt} {rest sts : List Stmt} {F F' : FS} {pos : Pos} {f : FE} {e : Expr}
@[simp] def sNil : FS := fun δ => some (.nx δ)
@[simp] def sSeq (F F' : FS) : FS := fun δ => match F δ with | some (.nx δ') => F' δ' | o => o
theorem psd_nil : PSsD X [] sNil := ⟨_, pss_nil, fun B G H δ σ o D sG sB rs e w => by cases e; exact w σ G H (Stp.refl sG sB) rs⟩
theorem psd_cons (h1 : PSD X st F) (h2 : PSsD X rest F') : PSsD X (st :: rest) (sSeq F F') := by
  obtain ⟨t, p1, k1⟩ := h1
  obtain ⟨u, p2, k2⟩ := h2
  refine ⟨_, pss_cons p1 p2, fun B G H δ σ o D sG sB rs e w => ?_⟩
  unfold sSeq at e
  show t { D with nx := u D } σ H
  cases e1 : F δ with
  | none => rw [e1] at e; cases e
  | some o1 =>
    rw [e1] at e
    cases o1 with
    | nx δ' => exact k1 B G H δ σ (.nx δ') _ sG sB rs e1 fun σ' G' H' a r => k2 B G' H' δ' σ' o D a.s a.b r e (w.mono a)
    | rt d => cases e; exact k1 B G H δ σ (.rt d) _ sG sB rs e1 w
    | bk δ' => cases e; exact k1 B G H δ σ (.bk δ') _ sG sB rs e1 w
    | ct δ' => cases e; exact k1 B G H δ σ (.ct δ') _ sG sB rs e1 w
@[simp] def sSet (i : Nat) (f : FE) : FS := fun δ => (f δ).map fun d => .nx (δ.set i (some (.sh d)))
theorem psd_set (i : Nat) {x : Str} {pos' : Pos} (hN : X.N.Nodup) (he : PD X e f) (hi : X.N[i]? = some x := by rfl) (hx : Loc X.env.scope x := by first | exact Or.inl rfl | exact Or.inr rfl)
    (hs : swapsWith e (some (.Name x pos')) pos.line X.env = pure false := by rfl) (hf : X.fn x = true ∨ X.env.scope.names.lookup x = some .local := by first | exact .inl rfl | exact .inr rfl) : PSD X (.Assign [.Name x pos'] e pos) (sSet i f) := by
  obtain ⟨t, pt, k⟩ := he
  refine ⟨_, ps_set hN hi hx pt hs hf, fun B G H δ σ o D sG sB rs e w => ?_⟩
  unfold sSet at e
  obtain ⟨d, e1, rfl⟩ := Option.map_eq_some_iff.mp e
  exact k B G H δ σ d _ sG rs e1 fun v G' H' g r => w _ G' H' (g.stp sB) ((rs.grow g).set i r)
@[simp] def sRet (f : FE) : FS := fun δ => (f δ).map .rt
theorem psd_ret (he : PD X e f) : PSD X (.Return (some e) pos) (sRet f) := by
  obtain ⟨t, pt, k⟩ := he
  refine ⟨_, ps_ret pt, fun B G H δ σ o D sG sB rs e w => ?_⟩
  unfold sRet at e
  obtain ⟨d, e1, rfl⟩ := Option.map_eq_some_iff.mp e
  exact k B G H δ σ d _ sG rs e1 fun v G' H' g r => w v G' H' (g.stp sB) r
@[simp] def sIf (c : En → Option Bool) (F F' : FS) : FS := fun δ => (c δ).bind fun b => if b = true then F δ else F' δ
theorem psd_if {c : Expr} {a b : List Stmt} {fb : En → Option Bool} (hc : PDT X c fb) (ha : PSsD X a F) (hb : PSsD X b F') : PSD X (.If c a b pos) (sIf fb F F') := by
  obtain ⟨tc, pc, kc⟩ := hc
  obtain ⟨ta, pa, ka⟩ := ha
  obtain ⟨tb, pb, kb⟩ := hb
  refine ⟨_, ps_if pc pa pb, fun B G H δ σ o D sG sB rs e w => ?_⟩
  unfold sIf at e
  obtain ⟨x, e1, e⟩ := Option.bind_eq_some_iff.mp e
  refine kc B G H δ σ x _ sG rs e1 fun G1 H1 g1 => ?_
  cases x with
  | true => rw [if_pos rfl] at e ⊢; exact ka B G1 H1 δ σ o D g1.s (sB.trans g1.h) (rs.grow g1) e (w.mono (g1.stp sB))
  | false => rw [if_neg Bool.false_ne_true] at e ⊢; exact kb B G1 H1 δ σ o D g1.s (sB.trans g1.h) (rs.grow g1) e (w.mono (g1.stp sB))

/-! ### loops: what is walked, as a list of data -/
/-- J walks the data xs, whatever has been laid since -/
structure Wk (K : PySem.W.Frag) (J : It) (G : Hp) (xs : List D) : Prop where
  go : ∀ i d G' H', xs[i]? = some d → Same G G' → Same G' H' → J.go i H' ∧ ∀ x H2, J.yld i H' x H2 → H2 = H' ∧ Rep K G' d x
  stop : ∀ G' H', Same G G' → Same G' H' → J.stop xs.length H'
theorem Wk.mono {K : PySem.W.Frag} {J : It} {G G1 : Hp} {xs : List D} (w : Wk K J G xs) (s : Same G G1) : Wk K J G1 xs :=
  ⟨fun i d G' H' e a b => w.go i d G' H' e (s.trans a) b, fun G' H' a b => w.stop G' H' (s.trans a) b⟩
def PID (X : Cx) (tg iter : Expr) (f : En → Option (List D)) : Prop := ∃ wi, PI X tg iter wi ∧ ∀ (B G H : Hp) (δ : En) (σ : St) (xs : List D) (R : It → Hp → Prop), Same G H → RepS X.K B G H δ σ → f δ = some xs →
  (∀ J G' H', Grow G H G' H' → Wk X.K J G' xs → R J H') → wi σ H R
@[simp] def oLst (f : FE) : En → Option (List D) := fun δ => match f δ with | some (.lst ds) => some ds | _ => none
@[simp] def oTup (f : FE) : En → Option (List D) := fun δ => match f δ with | some (.tup ds) => some ds | _ => none
def signs (z : Str) : List D := z.cps.toList.map fun c => .str ⟨#[c]⟩
@[simp] def oStr (f : FE) : En → Option (List D) := fun δ => match f δ with | some (.str z) => some (signs z) | _ => none
def rngD (lo : Int) (n : Nat) : List D := (List.range n).map fun (k : Nat) => .int (lo + (k : Int))
@[simp] def oRng (f : FE) : En → Option (List D) := fun δ => match f δ with | some (.int j) => if -(2 ^ 62) ≤ j ∧ j < 2 ^ 62 then some (rngD 0 j.toNat) else none | _ => none
variable {tg : Expr}
theorem pid_list (he : PD X e f) : PID X tg e (oLst f) := by
  obtain ⟨t, pt, k⟩ := he
  refine ⟨_, pi_list pt, fun B G H δ σ xs R sG rs e q => ?_⟩
  unfold oLst at e
  split at e
  · rename_i ds e1
    cases e
    refine k B G H δ σ _ _ sG rs e1 fun v G1 H1 g1 r1 => ?_
    simp only [Rep] at r1
    obtain ⟨a, vs, rfl, hq, rl⟩ := r1
    refine ⟨a, rfl, ⟨vs, g1.s.sqL hq⟩, q _ G1 H1 g1 ⟨fun i d G' H' ed a1 b1 => ?_, fun G' H' a1 b1 => ⟨vs, (a1.trans b1).sqL hq, by rw [rl.length]; exact Nat.le_refl _⟩⟩⟩
    obtain ⟨x, ex, rx⟩ := rl.get ed
    refine ⟨⟨vs, x, (a1.trans b1).sqL hq, ex⟩, fun x' H2 y => ⟨y.1, ?_⟩⟩
    have := y.2 vs ((a1.trans b1).sqL hq)
    rw [ex] at this
    cases this
    exact rx.mono a1
  · cases e
theorem pid_tup (he : PD X e f) : PID X tg e (oTup f) := by
  obtain ⟨t, pt, k⟩ := he
  refine ⟨_, pi_tup pt, fun B G H δ σ xs R sG rs e q => ?_⟩
  unfold oTup at e
  split at e
  · rename_i ds e1
    cases e
    refine k B G H δ σ _ _ sG rs e1 fun v G1 H1 g1 r1 => ?_
    simp only [Rep] at r1
    obtain ⟨a, vs, rfl, hq, rl⟩ := r1
    refine ⟨a, rfl, ⟨vs, g1.s.sqT hq⟩, q _ G1 H1 g1 ⟨fun i d G' H' ed a1 b1 => ?_, fun G' H' a1 b1 => ⟨vs, (a1.trans b1).sqT hq, by rw [rl.length]; exact Nat.le_refl _⟩⟩⟩
    obtain ⟨x, ex, rx⟩ := rl.get ed
    refine ⟨⟨vs, x, (a1.trans b1).sqT hq, ex⟩, fun x' H2 y => ⟨y.1, ?_⟩⟩
    have := y.2 vs ((a1.trans b1).sqT hq)
    rw [ex] at this
    cases this
    exact rx.mono a1
  · cases e
theorem pid_str (he : PD X e f) : PID X tg e (oStr f) := by
  obtain ⟨t, pt, k⟩ := he
  refine ⟨_, pi_str pt, fun B G H δ σ xs R sG rs e q => ?_⟩
  unfold oStr at e
  split at e
  · rename_i z e1
    cases e
    refine k B G H δ σ _ _ sG rs e1 fun v G1 H1 g1 r1 => ?_
    simp only [Rep] at r1
    refine ⟨z, r1, q _ G1 H1 g1 ⟨fun i d G' H' ed a1 b1 => ?_, fun G' H' a1 b1 => ?_⟩⟩
    · unfold signs at ed
      rw [List.getElem?_map] at ed
      obtain ⟨c, ec, rfl⟩ := Option.map_eq_some_iff.mp ed
      have ec' : z.cps[i]? = some c := by simpa using ec
      refine ⟨?_, fun x' H2 y => ?_⟩
      · show i < z.cps.size
        obtain ⟨hi, _⟩ := Array.getElem?_eq_some_iff.mp ec'
        exact hi
      · obtain ⟨y1, c', ec2, rfl⟩ := y
        rw [ec'] at ec2
        cases ec2
        exact ⟨y1, by simp [Rep]⟩
    · show (signs z).length = z.cps.size
      simp [signs]
  · cases e
theorem pid_range {p : Pos} (hm : X.mg "range" = none) (he : PD X e f) (hg : Gl X "range" := by rfl) (hs : starEach [e] X.env = [(false, eval e X.env)] := by rfl) : PID X tg (.Call (.Name "range" p) [e] [] pos) (oRng f) := by
  obtain ⟨t, pt, k⟩ := he
  refine ⟨_, pi_range1 hg hm (pa_cons pt pa_nil hs) hs, fun B G H δ σ xs R sG rs e q => ?_⟩
  unfold oRng at e
  split at e
  · rename_i j e1
    split at e
    · rename_i hj
      cases e
      refine k B G H δ σ _ _ sG rs e1 fun v G1 H1 g1 r1 => ?_
      simp only [Rep] at r1
      subst r1
      refine ⟨j, rfl, hj.1, hj.2, q _ G1 H1 g1 ⟨fun i d G' H' ed a1 b1 => ?_, fun G' H' a1 b1 => ?_⟩⟩
      · unfold rngD at ed
        rw [List.getElem?_map] at ed
        obtain ⟨c, ec, rfl⟩ := Option.map_eq_some_iff.mp ed
        obtain ⟨hi, hc⟩ := List.getElem?_eq_some_iff.mp ec
        rw [List.length_range] at hi
        rw [List.getElem_range] at hc
        subst hc
        refine ⟨hi, fun x' H2 y => ⟨y.1, ?_⟩⟩
        rw [y.2]
        simp [Rep]
      · show j.toNat ≤ (rngD 0 j.toNat).length
        simp [rngD]
    · cases e
  · cases e

/-- the loop's worth: the target's slot i -/
def forL (i : Nat) (F : FS) : List D → FS
  | [], δ => some (.nx δ)
  | x :: xs, δ => match F (δ.set i (some (.sh x))) with
    | some (.nx δ') => forL i F xs δ'
    | some (.ct δ') => forL i F xs δ'
    | some (.bk δ') => some (.nx δ')
    | some (.rt d) => some (.rt d)
    | none => none
@[simp] def sFor (i : Nat) (f : En → Option (List D)) (F : FS) : FS := fun δ => (f δ).bind fun xs => forL i F xs δ
theorem psd_for (i : Nat) {x : Str} {pos' : Pos} {iter : Expr} {body : List Stmt} {g : En → Option (List D)} (hN : X.N.Nodup) (hc : X.calm = true) (hp : PassesOwn (model X.prog X.w) X.A X.env X.xe) (hi : PID X (.Name x pos') iter g) (hb : PSsD X body F)
    (hix : X.N[i]? = some x := by rfl) (hx : Loc X.env.scope x := by first | exact Or.inl rfl | exact Or.inr rfl) (hf : X.fn x = true ∨ X.env.scope.names.lookup x = some .local := by first | exact .inl rfl | exact .inr rfl)
    (hs : ∀ x, foldedSetIterable iter X.env x = pure x := by intro _; rfl) : PSD X (.For (.Name x pos') iter body [] pos) (sFor i g F) := by
  obtain ⟨wi, pw, kw⟩ := hi
  obtain ⟨tb, pb, kb⟩ := hb
  refine ⟨_, ps_for hp hc pw (pg_name hN hix hx hf) pb hs, fun B G H δ σ o D sG sB rs e w => ?_⟩
  unfold sFor at e
  obtain ⟨xs, e1, e⟩ := Option.bind_eq_some_iff.mp e
  refine kw B G H δ σ xs _ sG rs e1 fun J G1 H1 g1 wk => ?_
  have st1 : Stp B G G1 H1 := g1.stp sB
  refine ⟨fun n m σ' H' => ∃ δ' G', m = xs.length - n ∧ n ≤ xs.length ∧ Stp B G1 G' H' ∧ RepS X.K B G' H' δ' σ' ∧ forL i F (xs.drop n) δ' = some o, ⟨_, δ, G1, rfl, Nat.zero_le _, Stp.refl st1.s st1.b, rs.grow g1, by simpa using e⟩, ?_⟩
  rintro n m σ' H' ⟨δ', G', rfl, hn, a1, rs', eo⟩
  by_cases hlt : n < xs.length
  · right
    obtain ⟨go, yl⟩ := wk.go n xs[n] G' H' (by simp [hlt]) a1.g a1.s
    rw [List.drop_eq_getElem_cons hlt] at eo
    unfold forL at eo
    refine ⟨go, fun σ2 H2 => ∃ m', m' < xs.length - n ∧ ∃ δ2 G2, m' = xs.length - (n + 1) ∧ n + 1 ≤ xs.length ∧ Stp B G1 G2 H2 ∧ RepS X.K B G2 H2 δ2 σ2 ∧ forL i F (xs.drop (n + 1)) δ2 = some o, fun σ2 H2 z => z, fun x H2 y => ?_⟩
    obtain ⟨rfl, rx⟩ := yl x H2 y
    show tb _ (σ'.set i (some x)) H2
    have again : ∀ {δ2 : En} {σ2 : St} {G2 H3 : Hp}, Stp B G' G2 H3 → RepS X.K B G2 H3 δ2 σ2 → forL i F (xs.drop (n + 1)) δ2 = some o →
        ∃ m', m' < xs.length - n ∧ ∃ δ2 G2, m' = xs.length - (n + 1) ∧ n + 1 ≤ xs.length ∧ Stp B G1 G2 H3 ∧ RepS X.K B G2 H3 δ2 σ2 ∧ forL i F (xs.drop (n + 1)) δ2 = some o :=
      fun {δ2 σ2 G2 H3} a r e => ⟨xs.length - (n + 1), by omega, δ2, G2, rfl, hlt, a1.trans a, r, e⟩
    cases eF : F (δ'.set i (some (.sh xs[n]))) with
    | none => rw [eF] at eo; cases eo
    | some o1 =>
      rw [eF] at eo
      refine kb B G' H2 _ _ o1 _ a1.s a1.b (rs'.set i rx) eF ?_
      cases o1 with
      | nx δ2 => exact fun σ2 G2 H3 a r => again a r eo
      | ct δ2 => exact fun σ2 G2 H3 a r => again a r eo
      | bk δ2 =>
        cases eo
        exact fun σ2 G2 H3 a r => w σ2 G2 H3 (st1.trans (a1.trans a)) r
      | rt d =>
        cases eo
        exact fun v G2 H3 a r => w v G2 H3 (st1.trans (a1.trans a)) r
  · left
    have hnn : n = xs.length := by omega
    subst hnn
    rw [List.drop_of_length_le (Nat.le_refl _)] at eo
    cases eo
    exact ⟨wk.stop G' H' a1.g a1.s, w σ' G' H' (st1.trans a1) rs'⟩

/-! ### a list comprehension -/
def compL (c : D → Option Bool) (g : D → Option D) : List D → Option (List D)
  | [] => some []
  | x :: xs => (c x).bind fun b => if b = true then (g x).bind fun y => (compL c g xs).bind fun ys => some (y :: ys) else compL c g xs
/-- the block's slots: nl own ones (the target is i), then the def's js -/
@[simp] def csD (nl : Nat) (js : List Nat) (δ : En) : En := List.replicate nl none ++ js.map fun j => match δ[j]? with | some (some (.sh d)) => some (.sh d) | _ => none
@[simp] def fComp (nl : Nat) (js : List Nat) (i : Nat) (it : En → Option (List D)) (c : En → Option Bool) (g : FE) : FE := fun δ => (it δ).bind fun xs =>
  if xs.length ≤ sizeLine then (compL (fun x => c ((csD nl js δ).set i (some (.sh x)))) (fun x => g ((csD nl js δ).set i (some (.sh x)))) xs).map .lst else none
/-- the tests -/
def PIfsD (X : Cx) (ifs : List Expr) (f : En → Option Bool) : Prop := ∃ t, PIfs X ifs t ∧ ∀ (B G H : Hp) (δ : En) (σ : St) (b : Bool) (Q : Bool → Hp → Prop), Same G H → RepS X.K B G H δ σ → f δ = some b →
  (∀ G' H', Grow G H G' H' → Q b H') → t σ H Q
@[simp] def bYes : En → Option Bool := fun _ => some true
theorem pifd_nil : PIfsD X [] bYes := ⟨_, pifs_nil, fun B G H δ σ b Q sG rs e k => by cases e; exact k G H (Grow.refl sG)⟩
theorem pifd_one {c : Expr} {fb : En → Option Bool} (h : PDT X c fb) : PIfsD X [c] fb := by
  obtain ⟨t, pt, k⟩ := h
  exact ⟨t, pifs_one pt, k⟩
theorem RepS.cs {K : PySem.W.Frag} {B G H : Hp} {δ : En} {σ : St} (r : RepS K B G H δ σ) (nl : Nat) (js : List Nat) : RepS K B G H (csD nl js δ) (csOf nl js σ) := by
  refine ⟨by simp [csD, csOf], fun i x e => ?_, fun i j x y hij e1 e2 => ?_⟩
  · unfold csD at e
    unfold csOf
    rcases Nat.lt_or_ge i nl with z | z
    · rw [List.getElem?_append_left (by simpa using z), List.getElem?_replicate, if_pos z] at e; cases e
    · rw [List.getElem?_append_right (by simpa using z), List.length_replicate, List.getElem?_map] at e ⊢
      obtain ⟨j, ej, e⟩ := Option.map_eq_some_iff.mp e
      split at e
      · rename_i d ed
        cases e
        obtain ⟨v, h1, h2⟩ := r.at_ j _ ed
        exact ⟨v, by rw [ej, Option.map_some, h1]; rfl, h2⟩
      · cases e
  · unfold csD at e1
    rcases Nat.lt_or_ge i nl with z | z
    · rw [List.getElem?_append_left (by simpa using z), List.getElem?_replicate, if_pos z] at e1; cases e1
    · rw [List.getElem?_append_right (by simpa using z), List.length_replicate, List.getElem?_map] at e1
      obtain ⟨j, ej, e⟩ := Option.map_eq_some_iff.mp e1
      split at e <;> cases e
theorem compL_len {c : D → Option Bool} {g : D → Option D} : ∀ {xs ys : List D}, compL c g xs = some ys → ys.length ≤ xs.length
  | [], ys, e => by cases e; exact Nat.le_refl _
  | x :: xs, ys, e => by
    unfold compL at e
    obtain ⟨b, e1, e⟩ := Option.bind_eq_some_iff.mp e
    split at e
    · obtain ⟨y, e2, e⟩ := Option.bind_eq_some_iff.mp e
      obtain ⟨zs, e3, e⟩ := Option.bind_eq_some_iff.mp e
      cases e
      have := compL_len e3
      simp only [List.length_cons]; omega
    · have := compL_len e
      simp only [List.length_cons]; omega
theorem gives_comp {wi : TI} {ti : TT} {te : TE} {it : En → Option (List D)} {c : En → Option Bool} {g : FE} {nl i : Nat} {js : List Nat}
    (kw : ∀ (B G H : Hp) (δ : En) (σ : St) (xs : List D) (R : It → Hp → Prop), Same G H → RepS X.K B G H δ σ → it δ = some xs → (∀ J G' H', Grow G H G' H' → Wk X.K J G' xs → R J H') → wi σ H R)
    (kt : ∀ (B G H : Hp) (δ : En) (σ : St) (b : Bool) (Q : Bool → Hp → Prop), Same G H → RepS X.K B G H δ σ → c δ = some b → (∀ G' H', Grow G H G' H' → Q b H') → ti σ H Q) (ke : Gives X.K te g) :
    Gives X.K (tComp wi (csOf nl js) (gName i) ti te) (fComp nl js i it c g) := fun B G H δ σ d Q sG rs e k => by
  unfold fComp at e
  obtain ⟨xs, e1, e⟩ := Option.bind_eq_some_iff.mp e
  split at e
  · rename_i hl
    obtain ⟨zs, e2, rfl⟩ := Option.map_eq_some_iff.mp e
    refine kw B G H δ σ xs _ sG rs e1 fun J G1 H1 g1 wk => ?_
    refine ⟨fun n m ys H' => ∃ G' ws us, m = xs.length - n ∧ n ≤ xs.length ∧ Grow G H G' H' ∧ Same G1 G' ∧ RepL X.K G' ws ys ∧ zs = ws ++ us ∧ compL (fun x => c ((csD nl js δ).set i (some (.sh x)))) (fun x => g ((csD nl js δ).set i (some (.sh x)))) (xs.drop n) = some us,
      ⟨_, G1, [], zs, rfl, Nat.zero_le _, g1, Same.refl _, by simp [RepL], rfl, by simpa using e2⟩, ?_⟩
    rintro n m ys H' ⟨G', ws, us, rfl, hn, gr, s1, rl, rfl, ec⟩
    have hwl : (ws ++ us).length ≤ xs.length := compL_len e2
    refine ⟨by rw [← rl.length]; rw [List.length_append] at hwl; omega, ?_⟩
    by_cases hlt : n < xs.length
    · right
      obtain ⟨go, yl⟩ := wk.go n xs[n] G' H' (by simp [hlt]) s1 gr.s
      rw [List.drop_eq_getElem_cons hlt] at ec
      unfold compL at ec
      obtain ⟨b, ec1, ec⟩ := Option.bind_eq_some_iff.mp ec
      refine ⟨go, fun x H2 y => ?_⟩
      obtain ⟨rfl, rx⟩ := yl x H2 y
      show ti ((csOf nl js σ).set i (some x)) H2 _
      have rs2 := ((rs.grow gr).cs nl js).set i rx
      refine kt B G' H2 _ _ b _ gr.s rs2 ec1 fun G3 H3 g3 => ?_
      cases b with
      | true =>
        rw [if_pos rfl] at ec ⊢
        obtain ⟨y', ec2, ec⟩ := Option.bind_eq_some_iff.mp ec
        obtain ⟨us', ec3, ec⟩ := Option.bind_eq_some_iff.mp ec
        cases ec
        refine ke B G3 H3 _ _ y' _ g3.s (rs2.grow g3) ec2 fun v G4 H4 g4 r4 => ?_
        exact ⟨xs.length - (n + 1), by omega, G4, ws ++ [y'], us', rfl, hlt, (gr.trans g3).trans g4, s1.trans (g3.g.trans g4.g), (rl.mono (g3.g.trans g4.g)).snoc r4, by simp, ec3⟩
      | false =>
        rw [if_neg Bool.false_ne_true] at ec ⊢
        exact ⟨xs.length - (n + 1), by omega, G3, ws, us, rfl, hlt, gr.trans g3, s1.trans g3.g, rl.mono g3.g, rfl, ec⟩
    · left
      have hnn : n = xs.length := by omega
      subst hnn
      rw [List.drop_of_length_le (Nat.le_refl _)] at ec
      cases ec
      refine ⟨wk.stop G' H' s1 gr.s, fun p hp => k _ _ _ (gr.trans (Grow.laid gr.s _ hp)) ?_⟩
      rw [List.append_nil]
      exact rep_lst (gr.s.free hp) rl
  · cases e
theorem pd_comp {N : List Str} {nl i : Nat} {js : List Nat} {scope : Scope} {cl : List (Str × Addr)} {elt iter : Expr} {ifs : List Expr} {x : Str} {px pos : Pos} {it : En → Option (List D)} {c : En → Option Bool} {g : FE}
    (hc : X.calm = true) (ok : CompOk X N nl js scope cl) (hi : PID X (.Name x px) iter it) (hin : i < nl) (hNd : N.Nodup) (hix : N[i]? = some x) (hx : scope.names.lookup x = some .local)
    (ht : ∃ ti, (∀ C s₀ H₀ ex, PIfs (compCx X N scope cl C s₀ H₀ ex) ifs ti) ∧ ∀ (B G H : Hp) (δ : En) (σ : St) (b : Bool) (Q : Bool → Hp → Prop), Same G H → RepS X.K B G H δ σ → c δ = some b → (∀ G' H', Grow G H G' H' → Q b H') → ti σ H Q)
    (he : ∃ te, (∀ C s₀ H₀ ex, PE (compCx X N scope cl C s₀ H₀ ex) elt te) ∧ Gives X.K te g)
    (hs : ∀ x, foldedSetIterable iter X.env x = pure x := by intro _; rfl) :
    PD X (.ListComp elt [⟨.Name x px, iter, ifs, 0⟩] scope pos) (fComp nl js i it c g) := by
  obtain ⟨wi, pw, kw⟩ := hi
  obtain ⟨ti, pt, kt⟩ := ht
  obtain ⟨te, pe, ke⟩ := he
  refine ⟨_, pe_comp hc ok pw (keeps_name hin) (fun C s₀ H₀ ex => pg_name hNd hix (.inl (lookup_relabel_local hx)) (.inr (lookup_relabel_local hx))) pt pe hs, gives_comp kw kt ke⟩
end
end L2

-- part Lx4
set_option Elab.async false
set_option linter.all false
set_option maxRecDepth 100000
set_option maxHeartbeats 4000000
namespace L2
open PySem PySem.Spec PyProof.Rows

section
variable {X : Cx}
/-! ### + of lists and tuples that are read -/
theorem op_catL : OpR X (binaryOp .Add) (rCatL X.K) := by
  intro pins s σ H x y v u Q I rx ry h
  obtain ⟨l, b, xs, zs, rfl, rfl, hH, hB, hz, q⟩ := h
  cases rx
  cases ry
  obtain ⟨its, r, hl, hz1⟩ := I.list hH
  obtain ⟨its2, r2, hl2, hz2⟩ := I.list hB
  obtain ⟨⟨cls, dd, data, sl⟩, ho, hc, n, hd⟩ := hl.isList
  obtain ⟨⟨cls2, dd2, data2, sl2⟩, ho2, hc2, n2, hd2⟩ := hl2.isList
  simp only at hc hd hc2 hd2
  subst hc hd hc2 hd2
  have ea : its.toArray ++ its2.toArray = (its ++ its2).toArray := by simp
  have h1 := r.length
  have h2 := r2.length
  refine concat_meets ⟨_, ho, rfl⟩ ⟨_, ho2, rfl⟩ noFill_list_add seq_list_add PySem.F.slot_list_add PySem.F.entry_list_add (PySem.F.args_list_add_2 _ _) (list_addW l b its.toArray its2.toArray n n2 dd dd2 sl sl2 (by simp; omega)) ⟨ho, ho2, ?_⟩
  rw [ea]
  exact ⟨.ref _, _, I.lnew (t' := s.toks) (r.append r2) (by rw [List.length_append]; omega), rfl, q _ I.fresh⟩
/-- () + t is t -/
def rCatT0 (K : PySem.W.Frag) : R2 := fun x y H Q => ∃ a b ys, x = .ref a ∧ y = .ref b ∧ SqT K H a [] ∧ SqT K H b ys ∧ Q (.ref b) H
theorem op_catT0 : OpR X (binaryOp .Add) (rCatT0 X.K) := by
  intro pins s σ H x y v u Q I rx ry h
  obtain ⟨a, b, ys, rfl, rfl, ha, hb, q⟩ := h
  cases rx
  cases ry
  obtain ⟨its, r1, p1, _⟩ := I.tuple ha
  obtain ⟨its2, r2, p2, _⟩ := I.tuple hb
  cases r1
  obtain ⟨⟨cls, dd, data, sl⟩, ho, hc, n, hd⟩ := id p1
  obtain ⟨⟨cls2, dd2, data2, sl2⟩, ho2, hc2, n2, hd2⟩ := id p2
  simp only at hc hd hc2 hd2
  subst hc hd hc2 hd2
  exact concat_meets ⟨_, ho, rfl⟩ ⟨_, ho2, rfl⟩ noFill_tuple_add seq_tuple_add PySem.F.slot_tuple_add PySem.F.entry_tuple_add (PySem.F.args_tuple_add_2 _ _)
      (tuple_addW0 a b #[] its2.toArray n n2 dd dd2 sl sl2 rfl) ⟨ho, ho2, ⟨.ref b, H, I, rfl, q⟩⟩
def tupAdd : D → D → Option D | .tup i, .tup j => if i.length + j.length ≤ sizeLine then some (.tup (i ++ j)) else none | _, _ => none
theorem od_tadd : OpD X (binaryOp .Add) tupAdd := by
  refine ⟨_, op_catT0.or op_catT, fun G H x y v u d Q sG rx ry e k => ?_⟩
  unfold tupAdd at e
  split at e
  · rename_i i j
    split at e
    · rename_i hc
      cases e
      have rx0 := rx
      have ry0 := ry
      simp only [Rep] at rx ry
      obtain ⟨p1, xs, rfl, q1, r1⟩ := rx
      obtain ⟨p2, ys, rfl, q2, r2⟩ := ry
      cases i with
      | nil =>
        have : xs = [] := by simpa only [RepL] using r1
        subst this
        exact .inl ⟨p1, p2, ys, rfl, rfl, sG.sqT q1, sG.sqT q2, k _ G H (Grow.refl sG) (by simpa using ry0)⟩
      | cons i0 is =>
        refine .inr ⟨p1, p2, xs, ys, rfl, rfl, sG.sqT q1, sG.sqT q2, ?_, by rw [← r1.length, ← r2.length]; exact hc, fun hy => ?_, fun hy p hp => k _ _ _ (Grow.laid sG _ hp) (rep_tup (sG.free hp) (r1.append r2))⟩
        · intro z
          have := r1.length
          rw [z] at this
          cases this
        · have : j = [] := by
            have := r2.length
            rw [hy] at this
            exact List.length_eq_zero_iff.mp this
          subst this
          exact k _ G H (Grow.refl sG) (by simpa using rx0)
    · cases e
  · cases e
def addD (x y : D) : Option D := (iAdd x y).or ((sAdd x y).or ((tupAdd x y).or (lAdd x y)))
theorem od_add : OpD X (binaryOp .Add) addD := od_iadd.or (od_sadd.or (od_tadd.or (od_ladd op_catL)))

/-! ### is -/
theorem op_isB : OpR X (compareOp .Is) (fun x y H Q => ∃ i j, x = .bl i ∧ y = .bl j ∧ Q (.bl (i == j)) H) := by
  intro pins s σ H x y v u Q I rx ry h
  obtain ⟨i, j, rfl, rfl, q⟩ := h
  cases rx
  cases ry
  exact is_bool ⟨.bl _, H, I, rfl, q⟩
def isB : D → D → Option D | .bl i, .bl j => some (.bl (i == j)) | _, _ => none
theorem od_isB : OpD X (compareOp .Is) isB := by
  refine ⟨_, op_isB, fun G H x y v u d Q sG rx ry e k => ?_⟩
  unfold isB at e
  split at e
  · cases e
    simp only [Rep] at rx ry
    exact ⟨_, _, rx, ry, k _ G H (Grow.refl sG) (by simp [Rep])⟩
  · cases e

/-! ### == of two lists of scalars -/
def eqVs : List V → List V → Bool
  | [], [] => true
  | x :: xs, y :: ys => eqV x y && eqVs xs ys
  | _, _ => false
theorem eqVs_ne : ∀ {xs ys : List V}, xs.length ≠ ys.length → eqVs xs ys = false
  | [], [], h => absurd rfl h
  | [], _ :: _, _ => rfl
  | _ :: _, [], _ => rfl
  | x :: xs, y :: ys, h => by
    show (eqV x y && eqVs xs ys) = false
    rw [eqVs_ne (fun z => h (by simp [z])), Bool.and_false]
theorem eqVs_all : ∀ {xs ys : List V}, xs.length = ys.length → eqVs xs ys = (List.range xs.length).all fun j => eqV (xs.getD j .non) (ys.getD j .non)
  | [], [], _ => rfl
  | x :: xs, y :: ys, h => by
    show (eqV x y && eqVs xs ys) = _
    rw [eqVs_all (show xs.length = ys.length by simpa using h), List.length_cons, List.range_succ_eq_map, List.all_cons, List.all_map]
    rfl
theorem op_eqL (hu : X.A.units + 1 < cLine) : OpR X (compareOp .Eq) (fun x y H Q => ∃ a b xs ys, x = .ref a ∧ y = .ref b ∧ SqL X.K H a xs ∧ SqL X.K H b ys ∧ xs.all flatV = true ∧ ys.all flatV = true ∧ Q (.bl (eqVs xs ys)) H) := by
  intro pins s σ H x y v u Q I rx ry h
  obtain ⟨a, b, xs, ys, rfl, rfl, ha, hb, fa, fb, q⟩ := h
  cases rx
  cases ry
  obtain ⟨its, r, pl, hz⟩ := I.list ha
  obtain ⟨its2, r2, pl2, hz2⟩ := I.list hb
  have h1 := r.length
  have h2 := r2.length
  by_cases hl : xs.length = ys.length
  · refine SeqAt.eq_listAt (e := fun j => eqV (xs.getD j .non) (ys.getD j .non)) pl.isList pl2.isList (by simp; omega) (by omega) (fun j g1 g2 => ?_) ?_
    · have e1 : xs[j]? = some (xs.getD j .non) := by rw [List.getD_eq_getElem?_getD]; rw [List.getElem?_eq_getElem (by simp at g1; omega)]; rfl
      have e2 : ys[j]? = some (ys.getD j .non) := by rw [List.getD_eq_getElem?_getD]; rw [List.getElem?_eq_getElem (by simp at g2; omega)]; rfl
      obtain ⟨u1, k1, k2⟩ := r.get e1
      obtain ⟨u2, k3, k4⟩ := r2.get e2
      have w1 : its.toArray[j] = u1 := by
        obtain ⟨_, z⟩ := List.getElem?_eq_some_iff.mp k1
        simpa using z
      have w2 : its2.toArray[j] = u2 := by
        obtain ⟨_, z⟩ := List.getElem?_eq_some_iff.mp k3
        simpa using z
      rw [w1, w2]
      exact eqAt_V k2 k4 (List.all_eq_true.mp fa _ (List.mem_of_getElem? e1)) (List.all_eq_true.mp fb _ (List.mem_of_getElem? e2))
    · refine ⟨.bl _, H, I, rfl, ?_⟩
      rw [List.size_toArray, ← h1, ← eqVs_all hl]
      exact q
  · refine SeqAt.eq_list_lengthsAt pl.isList pl2.isList (by simp; omega) (by omega) ⟨.bl _, H, I, rfl, ?_⟩
    rw [eqVs_ne hl] at q
    exact q

/-! ### all -/
def truV : V → Option Bool | .bl b => some b | _ => none
theorem call_allL (hc : X.calm = true) : CallR X (.builtin "all") (fun xs H Q => ∃ (a : Addr) (bs : List Bool), xs = [.ref a] ∧ SqL X.K H a (bs.map V.bl) ∧ Q (.bl (bs.all id)) H) := by
  intro pins s σ H xs us Q I r h
  obtain ⟨a, bs, rfl, hq, q⟩ := h
  obtain ⟨u, rfl, rx⟩ := vals1 r
  cases rx
  obtain ⟨its, rv, pl, hz⟩ := I.list hq
  have hne : a ≠ s.heap.objs.size := by
    obtain ⟨o, n, e, _⟩ := pl
    exact Nat.ne_of_lt (Heap.lt_size e)
  have hlen : bs.length = its.length := by have := rv.length; simpa using this
  refine call_all_walk (wpAny_pyIter_list pl.isList ⟨s.heap.objs.size, [s.heap.objs.size, a], [s.heap.objs.size], its.toArray.size, fun i v => its.toArray[i]? = some v, _, fun i => bs.getD i false, rfl,
    Walks.list (A := X.A.in1) (I.ok.hd hc) s.heap.objs.size a hne its.toArray, ⟨⟨_, Heap.get?_push_size _ rfl, rfl, rfl⟩, ?_⟩, ?_, fun h' tk kk => ?_⟩)
  · obtain ⟨o, ho, c, n, d⟩ := pl.isList
    exact ⟨o, Heap.get?_push_of_some _ ho, c, n, d⟩
  · intro i v s' Q' E' hv hQ
    have hv' : its[i]? = some v := by simpa using hv
    have hi : i < bs.length := by rw [hlen]; exact (List.getElem?_eq_some_iff.mp hv').1
    have eb : (bs.map V.bl)[i]? = some (V.bl bs[i]) := by simp [hi]
    obtain ⟨w', k1, k2⟩ := rv.get eb
    rw [hv'] at k1
    cases k1
    cases (show v = Value.bool bs[i] from k2)
    have : bs.getD i false = bs[i] := by simp [hi]
    have hQ : Q' (bs.getD i false) s' := hQ
    rw [this] at hQ
    exact wpAny_truthy_bool hQ
  · refine ⟨.bl _, H, I.kept (t' := tk) (fun b o e => kk b o (by simpa using Nat.ne_of_lt (Heap.lt_size e)) (Heap.get?_push_of_some _ e)), rfl, ?_⟩
    have e : (List.range its.toArray.size).all (fun i => bs.getD i false) = bs.all id := by
      rw [List.size_toArray, ← hlen]
      clear q hlen hz pl rv hq
      induction bs with
      | nil => rfl
      | cons b bs ih => rw [List.length_cons, List.range_succ_eq_map, List.all_cons, List.all_map, List.all_cons, ← ih]; rfl
    rw [e]
    exact q
def bools : List D → Option (List Bool)
  | [] => some []
  | .bl b :: ds => (bools ds).map (b :: ·)
  | _ => none
theorem bools_rep {K : PySem.W.Frag} {G : Hp} : ∀ {ds : List D} {bs : List Bool} {vs : List V}, bools ds = some bs → RepL K G ds vs → vs = bs.map V.bl
  | [], bs, vs, e, r => by
    cases e
    simp only [RepL] at r
    exact r
  | .bl b :: ds, bs, vs, e, r => by
    simp only [bools] at e
    obtain ⟨cs, e1, rfl⟩ := Option.map_eq_some_iff.mp e
    simp only [RepL, Rep] at r
    obtain ⟨v, us, rfl, rfl, r2⟩ := r
    rw [bools_rep e1 r2]
    rfl
  | .non :: ds, bs, vs, e, r => nomatch e
  | .int _ :: ds, bs, vs, e, r => nomatch e
  | .str _ :: ds, bs, vs, e, r => nomatch e
  | .tup _ :: ds, bs, vs, e, r => nomatch e
  | .lst _ :: ds, bs, vs, e, r => nomatch e
def allD : List D → Option D
  | [.lst ds] => (bools ds).map fun bs => .bl (bs.all id)
  | _ => none
theorem cd_all (hc : X.calm = true) : CallD X (.builtin "all") allD := by
  refine ⟨_, call_allL hc, fun G H ds vs d Q sG r e k => ?_⟩
  unfold allD at e
  split at e
  · obtain ⟨bs, e1, rfl⟩ := Option.map_eq_some_iff.mp e
    obtain ⟨v, rfl, r1⟩ := repL_one r
    simp only [Rep] at r1
    obtain ⟨a, us, rfl, q, rl⟩ := r1
    obtain rfl := bools_rep e1 rl
    exact ⟨a, bs, rfl, sG.sqL q, k _ G H (Grow.refl sG) (by simp [Rep])⟩
  · cases e

/-! ### isinstance with a built-in type -/
/-- the type's name -/
def tyD : D → String | .non => "NoneType" | .bl _ => "bool" | .int _ => "int" | .str _ => "str" | .tup _ => "tuple" | .lst _ => "list"
theorem isinst_D {pins : List (Addr × Obj)} {σ : St} {G H : Hp} {s : Shared} {A : Around} {E : Value → Shared → Prop} {Q : Value → Shared → Prop} {c : Value} {b : Bool} {d : D} {x : V} {u : Value} (I : Inv X pins σ H s) (sG : Same G H) (r : Rep X.K G d x) (rx : RelV x u)
    (e : PySem.W.kitOne X.K (.type (tyD d)) c = some b) (h : ∀ tk, Q (.bool b) { s with toks := tk }) : wpAny (model X.prog X.w) A (call (.builtin "isinstance") [u, c]) Q E s := by
  cases d with
  | non => simp only [Rep] at r; subst r; exact isinst_ok I rx .non e h
  | bl y => simp only [Rep] at r; subst r; exact isinst_ok I rx (.bl _) e h
  | int i => simp only [Rep] at r; subst r; exact isinst_ok I rx (.int _) e h
  | str y => simp only [Rep] at r; subst r; exact isinst_ok I rx (.str _) e h
  | tup ds =>
    simp only [Rep] at r
    obtain ⟨a, vs, rfl, q, rl⟩ := r
    cases (show u = Value.ref a from rx)
    obtain ⟨its, _, ⟨o, h1, h2, _⟩, _⟩ := I.tuple (sG.sqT q)
    exact PySem.W.kia_one PySem.W.kitx_tuple I.kIn ⟨o, h1, h2⟩ e (fun z => nomatch z) h
  | lst ds =>
    simp only [Rep] at r
    obtain ⟨a, vs, rfl, q, rl⟩ := r
    cases (show u = Value.ref a from rx)
    obtain ⟨its, _, p, _⟩ := I.list (sG.sqL q)
    obtain ⟨o, h1, h2, _⟩ := p.isList
    exact PySem.W.kia_one PySem.W.kitx_list I.kIn ⟨o, h1, h2⟩ e (fun z => nomatch z) h
/-- the answer by the name of the class -/
def isTy (T : String) (d : D) : Bool := tyD d == T || (T == "int" && tyD d == "bool")
def IsTyOk (K : PySem.W.Frag) (T : String) : Prop := ∀ d : D, PySem.W.kitOne K (.type (tyD d)) (.type T) = some (isTy T d)
@[simp] def fIs (T : String) (f : FE) : FE := fun δ => (f δ).map fun d => .bl (isTy T d)
def tIs (K : PySem.W.Frag) (T : String) (ta : TE) : TE := fun σ H Q => ta σ H fun v H1 => ∃ G d, Same G H1 ∧ Rep K G d v ∧ Q (.bl (isTy T d)) H1
theorem pd_is {e : Expr} {f : FE} {T : Str} {p pT pos : Pos} (T' : String) (hT : IsTyOk X.K T') (hm : X.mg "isinstance" = none) (hmT : X.mg T = none) (hv : bootBuiltins T = some (.type T')) (he : PD X e f) (hg : Gl X "isinstance" := by rfl) (hgT : Gl X T := by rfl) (hn : T ≠ "__name__" := by decide) (hd : (T == ("__debug__" : Str)) = false := by decide)
    (hs : starEach [e, .Name T pT] X.env = (false, eval e X.env) :: starEach [.Name T pT] X.env := by rfl) (hs2 : starEach [.Name T pT] X.env = (false, eval (.Name T pT) X.env) :: starEach [] X.env := by rfl) (hpl : (backTo pos (starEach [.Name T pT] X.env)).any (·.1) = false := by rfl)
    (hb : bootBuiltins "isinstance" = some (.builtin "isinstance") := by decide +kernel) :
    PD X (.Call (.Name "isinstance" p) [e, .Name T pT] [] pos) (fIs T' f) := by
  obtain ⟨t, pt, k1⟩ := he
  have hc : CallR X (.builtin "isinstance") (fun xs H Q => ∃ G d v, Same G H ∧ Rep X.K G d v ∧ xs = [v, .ty T'] ∧ Q (.bl (isTy T' d)) H) := by
    intro pins s σ H xs us Q I r h
    obtain ⟨G, d, v, sG, rd, rfl, q⟩ := h
    obtain ⟨u, w', rfl, r1, r2⟩ := vals2 r
    cases (show w' = Value.type T' from r2)
    exact isinst_D I sG rd r1 (hT d) fun tk => ⟨.bl _, H, I.tok tk, rfl, q⟩
  refine ⟨_, pe_callB hc hg hm hb (pa_cons pt (pa_cons (pe_bltn (v := .ty T') hgT hmT hv rfl hn hd) pa_nil hs2) hs) (by decide) (by decide) hs hpl, fun B G H δ σ d Q sG rs ef k => ?_⟩
  unfold fIs at ef
  obtain ⟨x, e1, rfl⟩ := Option.map_eq_some_iff.mp ef
  exact k1 B G H δ σ x _ sG rs e1 fun v G1 H1 g1 r1 => ⟨G1, x, v, g1.s, r1, rfl, k _ G1 H1 g1 (by simp [Rep])⟩
theorem isTyOk_of {K : PySem.W.Frag} {T : String} (h : ∀ S : String, S ∈ ["NoneType", "bool", "int", "str", "tuple", "list"] → PySem.W.kitOne K (.type S) (.type T) = some (S == T || (T == "int" && S == "bool"))) : IsTyOk K T := fun d => h _ (by cases d <;> simp [tyD])

/-! ### canonical readings: for blocks -/
def tOf (K : PySem.W.Frag) (f : FE) : TE := fun σ H Q => ∃ B G δ d, Same G H ∧ RepS K B G H δ σ ∧ f δ = some d ∧ ∀ v G' H', Grow G H G' H' → Rep K G' d v → Q v H'
theorem PD.canon {e : Expr} {f : FE} (h : PD X e f) : PE X e (tOf X.K f) := by
  obtain ⟨t, pt, k⟩ := h
  intro pins s σ H Q I ⟨B, G, δ, d, sG, rs, ef, q⟩
  exact pt pins s σ H Q I (k B G H δ σ d Q sG rs ef q)
theorem gives_tOf {K : PySem.W.Frag} {f : FE} : Gives K (tOf K f) f := fun B G H δ σ d Q sG rs e k => ⟨B, G, δ, d, sG, rs, e, k⟩
def ttOf (K : PySem.W.Frag) (f : En → Option Bool) : TT := fun σ H Q => ∃ B G δ b, Same G H ∧ RepS K B G H δ σ ∧ f δ = some b ∧ ∀ G' H', Grow G H G' H' → Q b H'
theorem PIfsD.canon {ifs : List Expr} {f : En → Option Bool} (h : PIfsD X ifs f) : PIfs X ifs (ttOf X.K f) := by
  obtain ⟨t, pt, k⟩ := h
  intro pins s σ H Q I ⟨B, G, δ, b, sG, rs, ef, q⟩
  exact pt pins s σ H Q I (k B G H δ σ b Q sG rs ef q)
/-- a block without free names -/
theorem compOk0 {N : List Str} {nl : Nat} {scope : Scope} (hk : scope.kind = .function) (hn : ∀ y ∈ scope.names, y.2 ≠ .free ∧ y.2 ≠ .cell) (hl : ∀ y ∈ scope.names, y.2 = .local → scope.names.lookup y.1 = some .local) (hN : N.length = nl) : CompOk X N nl [] scope [] where
  clos := closureFor_none fun x hx => (hn x hx).1
  nocell := fun y hy => (hn y hy).2
  kind := hk
  names := hl
  cells := fun x c e => nomatch e
  has := fun x h => by
    exfalso
    have key : ∀ k, (relabel scope X.env).names.lookup x = some k → k = .cell ∨ k = .free → False := fun k e hk => by
      have hm := PySem.mem_of_lookup e
      unfold relabel at hm
      obtain ⟨⟨n, k0⟩, h1, h2⟩ := List.mem_map.mp hm
      have hf := hn _ h1
      have hc : (k0 == NameKind.free && X.env.scope.kind == .function && X.env.kindOf n == some .cell) = false := by
        have : (k0 == NameKind.free) = false := by simpa using hf.1
        rw [this]; rfl
      dsimp only at h2
      rw [hc] at h2
      have e2 : k0 = k := congrArg Prod.snd h2
      subst e2
      rcases hk with z | z
      · exact hf.2 z
      · exact hf.1 z
    rcases h with h | h
    · exact key _ h (.inl rfl)
    · exact key _ h (.inr rfl)
  len := by simpa using hN
  free := fun k j x e => by simp at e
theorem pd_comp' {N : List Str} {nl i : Nat} {js : List Nat} {scope : Scope} {cl : List (Str × Addr)} {elt iter : Expr} {ifs : List Expr} {x : Str} {px pos : Pos} {it : En → Option (List D)} {c : En → Option Bool} {g : FE}
    (hc : X.calm = true) (ok : CompOk X N nl js scope cl) (hi : PID X (.Name x px) iter it) (hin : i < nl) (hNd : N.Nodup) (hix : N[i]? = some x) (hx : scope.names.lookup x = some .local)
    (ht : ∀ C s₀ H₀ ex, PIfsD (compCx X N scope cl C s₀ H₀ ex) ifs c) (he : ∀ C s₀ H₀ ex, PD (compCx X N scope cl C s₀ H₀ ex) elt g)
    (hs : ∀ x, foldedSetIterable iter X.env x = pure x := by intro _; rfl) :
    PD X (.ListComp elt [⟨.Name x px, iter, ifs, 0⟩] scope pos) (fComp nl js i it c g) :=
  pd_comp hc ok hi hin hNd hix hx ⟨ttOf X.K c, fun C s₀ H₀ ex => (ht C s₀ H₀ ex).canon, fun B G H δ σ b Q sG rs e k => ⟨B, G, δ, b, sG, rs, e, k⟩⟩ ⟨tOf X.K g, fun C s₀ H₀ ex => (he C s₀ H₀ ex).canon, gives_tOf⟩ hs
end

/-! ### a def -/
section
variable {P : Program} {w : World} {K : PySem.W.Frag} {mg : Str → Option Value} {base : Heap}
def startD (N : List Str) (ds : List D) : En := ds.map (fun d => some (.sh d)) ++ List.replicate (N.length - ds.length) none
theorem repS_start {N : List Str} {G H : Hp} {ds : List D} {vs : List V} (r : RepL K G ds vs) : RepS K H G H (startD N ds) (start N vs) := by
  have hl := r.length
  refine ⟨by simp [startD, start, hl], fun i x e => ?_, fun i j x y _ e => ?_⟩
  · unfold startD at e
    unfold start
    by_cases hi : i < ds.length
    · rw [List.getElem?_append_left (by simpa using hi), List.getElem?_map] at e
      obtain ⟨d, e1, e2⟩ := Option.map_eq_some_iff.mp e
      cases e2
      obtain ⟨v, h1, h2⟩ := r.get e1
      exact ⟨v, by rw [List.getElem?_append_left (by simp; omega), List.getElem?_map, h1]; rfl, h2⟩
    · rw [List.getElem?_append_right (by simpa using hi), List.getElem?_replicate] at e
      split at e <;> cases e
  · exfalso
    unfold startD at e
    by_cases hi : i < ds.length
    · rw [List.getElem?_append_left (by simpa using hi), List.getElem?_map] at e
      obtain ⟨d, e1, e2⟩ := Option.map_eq_some_iff.mp e
      cases e2
    · rw [List.getElem?_append_right (by simpa using hi), List.getElem?_replicate] at e
      split at e <;> cases e
/-- what a def is worth, by its body -/
def runF (N : List Str) (n : Nat) (fb : FS) : List D → Option D := fun ds => if ds.length = n then (match fb (startD N ds) with | some (.rt d) => some d | some (.nx _) => some .non | _ => none) else none
def DefAt (K : PySem.W.Frag) (mg : Str → Option Value) (x : Str) (st : Stmt) : Prop := ∃ f fd, Fun K x x st f fd ∧ mg x = some (.ref f)
theorem defAt_mk {h : Heap} {x : Str} {st : Stmt} {f : Addr} {oc : Value} {od an : Option Addr} {osl : Array (Option Value)} {kV doc pm cdv ct : Value} (X : K.In h) (G : h.Ns mainGlobals mg) (a : PySem.W.nsIn K mainGlobals x = some (some (.ref f)))
    (l : K.lookup f = some ⟨oc, od, .func (PySem.W.fnOf x x (defArgs st) (defBody st) (defScope st) .none kV doc pm an cdv ct), osl⟩) (c : PySem.W.codeIn K cdv x = true) (k : PySem.W.keepIn K (.ref f) = true) : DefAt K mg x st :=
  ⟨f, _, fun_mk l c k, PySem.W.mg_of X G a⟩
/-- a constant of the module -/
def GlobAt (K : PySem.W.Frag) (mg : Str → Option Value) (x : Str) (d : D) : Prop := ∃ v u, mg x = some u ∧ RelV v u ∧ ∀ G, Rep K G d v
theorem GlobAt.pd {X : Cx} {x : Str} {d : D} {pos : Pos} (h : GlobAt X.K X.mg x d) (hg : Gl X x := by rfl) (hd : (x == ("__debug__" : Str)) = false := by decide) : PD X (.Name x pos) (fC d) := by
  obtain ⟨v, u, hm, r, rep⟩ := h
  exact pd_glob hg hm r rep hd
abbrev cxD (P : Program) (w : World) (K : PySem.W.Frag) (mg : Str → Option Value) (base : Heap) (N : List Str) (x : Str) (scope : Scope) (f : Addr) (cdv : Value) (A : Around) (outer : List Env) (s : Shared) (H : Hp) (E : XK) : Cx :=
  (cxOf CX0 P w K mg base N x scope f cdv A outer s H E).nox
theorem def_runF {x : Str} {st : Stmt} {N ps : List Str} {k : Nat} {fb : FS} {f : Addr} {fd : FuncData} (F : Fun K x x st f fd) (S : FnScope N ps (defScope st))
    (hbody : ∀ (f : Addr) (cdv : Value) (A : Around) (outer : List Env) (s : Shared) (H : Hp) (E : XK), Room k (A.deeper (envOfC x (defScope st) s.heap.objs.size f cdv)) → PSsD (cxD P w K mg base N x (defScope st) f cdv A outer s H E) (defBody st) fb) :
    FnOk P w K mg base CX0 (k + 1) f fd ps (spD K (runF N ps.length fb)) := by
  refine F.ok S (fun vs H Q E h => ?_) (fun cdv A outer s H vs Q E hr h => ?_)
  · obtain ⟨G, ds, d, sG, r, e, _⟩ := h
    rw [← r.length]
    unfold runF at e
    split at e
    · rename_i hl; exact hl
    · cases e
  · obtain ⟨G, ds, d, sG, r, e, q⟩ := h
    obtain ⟨t, pt, kt⟩ := hbody f cdv A outer s H E hr
    refine ⟨t, pt, ?_⟩
    have gr : ∀ {G' H' : Hp}, Stp H G G' H' → Grow G H G' H' := fun a => ⟨a.g, a.b, a.s, a.n⟩
    unfold runF at e
    split at e
    · split at e
      · rename_i eb
        cases e
        exact kt H G H _ _ _ _ sG (Same.refl _) (repS_start r) eb fun v G' H' a rv => q v G' H' (gr a) rv
      · rename_i eb
        cases e
        exact kt H G H _ _ _ _ sG (Same.refl _) (repS_start r) eb fun σ' G' H' a rv => q _ G' H' (gr a) (by simp [Rep])
      · cases e
    · cases e
theorem def_run {x : Str} {st : Stmt} {N ps : List Str} {k : Nat} {fb : FS} (F : DefAt K mg x st) (S : FnScope N ps (defScope st))
    (hb : ∀ (kV doc pm : Value) (an : Option Addr) (cdv ct : Value) (us : List Value), us.length = ps.length → bindArgs (PySem.W.fnOf x x (defArgs st) (defBody st) (defScope st) .none kV doc pm an cdv ct) ⟨us, []⟩ = pure (ps.zip us))
    (hbody : ∀ (f : Addr) (cdv : Value) (A : Around) (outer : List Env) (s : Shared) (H : Hp) (E : XK), Room k (A.deeper (envOfC x (defScope st) s.heap.objs.size f cdv)) → PSsD (cxD P w K mg base N x (defScope st) f cdv A outer s H E) (defBody st) fb) :
    DefOk P w K mg base (k + 1) x ps (runF N ps.length fb) := by
  obtain ⟨f, fd, F, hm⟩ := F
  exact ⟨f, fd, def_runF F S hbody, F.binds hb, F.kp, hm⟩
/-- the law itself, for the head -/
theorem law_at {l : PySem.W.OpenLaw} {w : World} {K : PySem.W.Frag} {mg : Str → Option Value} {fa : Addr} {st : Stmt} {k : Nat} {x : Str} {M : List D → Option D} (hfa : mg "law" = some (.ref fa)) (F : DefAt K mg "law" st)
    (hb : ∀ (kV doc pm : Value) (an : Option Addr) (cdv ct : Value) (u : Value), bindArgs (PySem.W.fnOf "law" "law" (defArgs st) (defBody st) (defScope st) .none kV doc pm an cdv ct) ⟨[u], []⟩ = pure [(x, u)])
    (ok : ∀ (f : Addr) (fd : FuncData) (base : Heap), Fun K "law" "law" st f fd → FnOk l.prog w K mg base CX0 k f fd [x] (spD K M)) :
    ∃ fd : FuncData, (∀ (s : Shared) (v : Value), BindsTo s fd ⟨[v], []⟩ [(x, v)]) ∧ ∀ base : Heap, K.In base → base.Ns mainGlobals mg → FnOk l.prog w K mg base CX0 k fa fd [x] (spD K M) := by
  obtain ⟨f, fd, F, hm⟩ := F
  rw [hfa] at hm
  cases hm
  refine ⟨fd, fun s v => ?_, fun base _ _ => ok _ _ base F⟩
  obtain ⟨oc, od, kV, doc, pm, an, cdv, ct, osl, rfl, lk, hcd⟩ := F.ex
  exact .of_eq (hb kV doc pm an cdv ct v)
theorem repL_ints {K : PySem.W.Frag} {H : Hp} : ∀ (ns : List Int), RepL K H (ns.map D.int) (ns.map V.int)
  | [] => by simp [RepL]
  | n :: ns => by
    simp only [List.map_cons, RepL]
    exact ⟨_, _, rfl, by simp [Rep], repL_ints ns⟩
theorem law_sp {K : PySem.W.Frag} {H : Hp} {a : Addr} {ns : List Int} {M : List D → Option D} (h : SqL K H a (ns.map V.int)) (e : M [.lst (ns.map D.int)] = some (.bl true)) : spD K M [.ref a] H (fun v _ => v = .bl true) fun _ _ _ => False := by
  refine ⟨H, [.lst (ns.map D.int)], .bl true, Same.refl _, ?_, e, fun v G' H' g r => by simpa only [Rep] using r⟩
  simp only [RepL, Rep]
  exact ⟨_, _, rfl, ⟨a, _, rfl, h, repL_ints ns⟩, rfl⟩
theorem globAt_int {h : Heap} {x : Str} {i : Int} {t : Tok} (X : K.In h) (G : h.Ns mainGlobals mg) (a : PySem.W.nsIn K mainGlobals x = some (some (.int i t))) : GlobAt K mg x (.int i) :=
  ⟨.int i, _, PySem.W.mg_of X G a, ⟨t, rfl⟩, fun _ => by simp [Rep]⟩
theorem repL_strs {K : PySem.W.Frag} {H : Hp} : ∀ (ns : List Str), RepL K H (ns.map D.str) (ns.map V.str)
  | [] => by simp [RepL]
  | n :: ns => by
    simp only [List.map_cons, RepL]
    exact ⟨_, _, rfl, by simp [Rep], repL_strs ns⟩
theorem globAt_strs {h : Heap} {x : Str} {a : Addr} {its : Array Value} {n : Nat} {dd : Option Addr} {sl : Array (Option Value)} {ws : List Str} (X : K.In h) (G : h.Ns mainGlobals mg) (e : PySem.W.nsIn K mainGlobals x = some (some (.ref a)))
    (l : K.lookup a = some ⟨.type "tuple", dd, .seq its n, sl⟩) (hs : its.size ≤ sizeLine) (v : Vals (ws.map V.str) its.toList) : GlobAt K mg x (.tup (ws.map D.str)) := by
  refine ⟨.ref a, _, PySem.W.mg_of X G e, rfl, fun G => ?_⟩
  simp only [Rep]
  exact ⟨a, _, rfl, .inr ⟨_, its, n, l, rfl, rfl, hs, v⟩, repL_strs ws⟩
theorem tyOk_int {K : PySem.W.Frag} : IsTyOk K "int" := fun d => by cases d <;> rfl
theorem tyOk_bool {K : PySem.W.Frag} : IsTyOk K "bool" := fun d => by cases d <;> rfl
theorem tyOk_str {K : PySem.W.Frag} : IsTyOk K "str" := fun d => by cases d <;> rfl
theorem tyOk_tuple {K : PySem.W.Frag} : IsTyOk K "tuple" := fun d => by cases d <;> rfl
theorem tyOk_list {K : PySem.W.Frag} : IsTyOk K "list" := fun d => by cases d <;> rfl
end

/-! ### names of the operations, as the generator writes them -/
section
variable {X : Cx}
def leD (x y : D) : Option D := (iCmp (fun i j => decide (i ≤ j)) x y).or (sLe x y)
theorem od_leD : OpD X (compareOp .LtE) leD := od_le.or od_sle
def gtD : D → D → Option D := iCmp fun i j => decide (j < i)
def ltD : D → D → Option D := iCmp fun i j => decide (i < j)
def geD : D → D → Option D := iCmp fun i j => decide (j ≤ i)
def eqLs : D → D → Option D | .lst i, .lst j => if i.all flatD = true ∧ j.all flatD = true then some (.bl (eqVs (i.map toV) (j.map toV))) else none | _, _ => none
theorem od_eqLs (hu : X.A.units + 1 < cLine) : OpD X (compareOp .Eq) eqLs := by
  refine ⟨_, op_eqL hu, fun G H x y v u d Q sG rx ry e k => ?_⟩
  unfold eqLs at e
  split at e
  · split at e
    · rename_i hc
      cases e
      simp only [Rep] at rx ry
      obtain ⟨p1, xs, rfl, q1, r1⟩ := rx
      obtain ⟨p2, ys, rfl, q2, r2⟩ := ry
      obtain ⟨h1, h2⟩ := repL_flat hc.1 r1
      obtain ⟨h3, h4⟩ := repL_flat hc.2 r2
      subst h1 h3
      exact ⟨p1, p2, _, _, rfl, rfl, sG.sqL q1, sG.sqL q2, h2, h4, k _ G H (Grow.refl sG) (by simp [Rep])⟩
    · cases e
  · cases e
def eqD (x y : D) : Option D := (sEq false x y).or (eqLs x y)
theorem od_eq (hu : X.A.units + 1 < cLine) : OpD X (compareOp .Eq) eqD := od_seq.or (od_eqLs hu)
def neD : D → D → Option D := sEq true
theorem od_ne (hu : X.A.units + 1 < cLine) : OpD X (compareOp .NotEq) neD := od_sne
def mulD : D → D → Option D := iMul
theorem od_mul : OpD X (binaryOp .Mult) mulD := od_imul
def isO (n : Bool) : D → D → Option D := if n then fun _ _ => none else isB
theorem od_is : OpD X (compareOp .Is) (isO false) := od_isB
/-- a list, a tuple, a text, walked -/
theorem pi_any {tg l : Expr} {tl : TE} (hl : PE X l tl) : PI X tg l (fun σ H R => tl σ H fun x H1 => (∃ a, x = .ref a ∧ (∃ xs, SqL X.K H1 a xs) ∧ R (Itl X.K a) H1) ∨ (∃ a, x = .ref a ∧ (∃ xs, SqT X.K H1 a xs) ∧ R (Itt X.K a) H1) ∨ (∃ z, x = .str z ∧ R (Its z) H1)) := by
  intro pins s σ H R I h
  -- the value first, then the walk by its kind
  refine thn (hl pins s σ H _ I h) fun v s1 ⟨x, H1, I1, r1, q1⟩ => ?_
  have lift : ∀ {wi : (It → Hp → Prop) → Prop}, True := fun {_} => trivial
  rcases q1 with ⟨a, e, ⟨xs, hq⟩, q⟩ | ⟨a, e, ⟨xs, hq⟩, q⟩ | ⟨z, e, q⟩
  · subst e
    cases r1
    obtain ⟨its, rv, p, hz⟩ := I1.list hq
    refine wpAny_pyIter_list p.isList ?_
    refine ⟨s1.heap.objs.size, [s1.heap.objs.size], _, _, H1, rfl, I1.kept (t' := s1.toks) fun b o e => Heap.get?_push_of_some _ e, turn_list a _, ⟨_, Heap.get?_push_size _ rfl, rfl, rfl⟩, fun b hb => ?_, q⟩
    have e : b = s1.heap.objs.size := by simpa using hb
    subst e
    exact I1.fpOk (Nat.le_refl _) (I1.hok.fresh (Nat.le_refl _))
  · subst e
    cases r1
    obtain ⟨its, rv, p, hz⟩ := I1.tuple hq
    refine wpAny_pyIter_tuple (show s1.heap.IsTuple a its.toArray from p) ?_
    refine ⟨s1.heap.objs.size, [s1.heap.objs.size], _, _, H1, rfl, I1.kept (t' := s1.toks) fun b o e => Heap.get?_push_of_some _ e, turn_tuple a _, ⟨_, Heap.get?_push_size _ rfl, rfl, rfl⟩, fun b hb => ?_, q⟩
    have e : b = s1.heap.objs.size := by simpa using hb
    subst e
    exact I1.fpOk (Nat.le_refl _) (I1.hok.fresh (Nat.le_refl _))
  · subst e
    obtain ⟨t, rfl⟩ := r1
    have fin : ∀ (T : String) (o : Obj), Turn X.prog X.w X.K tg (Its z) [s1.heap.objs.size] s1.heap.objs.size (fun i h => h.IsStrIter s1.heap.objs.size T z t i) →
        (s1.heap.push o).IsStrIter s1.heap.objs.size T z t 0 → PIE X pins σ tg R (.ref s1.heap.objs.size) { s1 with heap := s1.heap.push o } := fun T o TT st => by
      refine ⟨s1.heap.objs.size, [s1.heap.objs.size], _, _, H1, rfl, I1.kept (t' := s1.toks) fun b o e => Heap.get?_push_of_some _ e, TT, st, fun b hb => ?_, q⟩
      have e : b = s1.heap.objs.size := by simpa using hb
      subst e
      exact I1.fpOk (Nat.le_refl _) (I1.hok.fresh (Nat.le_refl _))
    cases ha : z.cps.all (· < 128)
    · exact wpAny_pyIter_wide ha (fin "str_iterator" _ (turn_str _ _ z t (fun A hA => Walks.strWide hA _ z t) fun A i s Q E st h => wpAny_pyIter_striter_wide st h) ⟨_, Heap.get?_push_size _ rfl, rfl, rfl⟩)
    · exact wpAny_pyIter_ascii ha (fin "str_ascii_iterator" _ (turn_str _ _ z t (fun A hA => Walks.strAscii hA _ z t) fun A i s Q E st h => wpAny_pyIter_striter_ascii st h) ⟨_, Heap.get?_push_size _ rfl, rfl, rfl⟩)
@[simp] def oSeq (f : FE) : En → Option (List D) := fun δ => match f δ with | some (.lst ds) => some ds | some (.tup ds) => some ds | some (.str z) => some (signs z) | _ => none
theorem pid_seq {tg e : Expr} {f : FE} (he : PD X e f) : PID X tg e (oSeq f) := by
  obtain ⟨t, pt, k⟩ := he
  refine ⟨_, pi_any pt, fun B G H δ σ xs R sG rs e q => ?_⟩
  unfold oSeq at e
  split at e
  · rename_i ds e1
    cases e
    refine k B G H δ σ _ _ sG rs e1 fun v G1 H1 g1 r1 => .inl ?_
    simp only [Rep] at r1
    obtain ⟨a, vs, rfl, hq, rl⟩ := r1
    refine ⟨a, rfl, ⟨vs, g1.s.sqL hq⟩, q _ G1 H1 g1 ⟨fun i d G' H' ed a1 b1 => ?_, fun G' H' a1 b1 => ⟨vs, (a1.trans b1).sqL hq, by rw [rl.length]; exact Nat.le_refl _⟩⟩⟩
    obtain ⟨x, ex, rx⟩ := rl.get ed
    refine ⟨⟨vs, x, (a1.trans b1).sqL hq, ex⟩, fun x' H2 y => ⟨y.1, ?_⟩⟩
    have := y.2 vs ((a1.trans b1).sqL hq)
    rw [ex] at this
    cases this
    exact rx.mono a1
  · rename_i ds e1
    cases e
    refine k B G H δ σ _ _ sG rs e1 fun v G1 H1 g1 r1 => .inr (.inl ?_)
    simp only [Rep] at r1
    obtain ⟨a, vs, rfl, hq, rl⟩ := r1
    refine ⟨a, rfl, ⟨vs, g1.s.sqT hq⟩, q _ G1 H1 g1 ⟨fun i d G' H' ed a1 b1 => ?_, fun G' H' a1 b1 => ⟨vs, (a1.trans b1).sqT hq, by rw [rl.length]; exact Nat.le_refl _⟩⟩⟩
    obtain ⟨x, ex, rx⟩ := rl.get ed
    refine ⟨⟨vs, x, (a1.trans b1).sqT hq, ex⟩, fun x' H2 y => ⟨y.1, ?_⟩⟩
    have := y.2 vs ((a1.trans b1).sqT hq)
    rw [ex] at this
    cases this
    exact rx.mono a1
  · rename_i z e1
    cases e
    refine k B G H δ σ _ _ sG rs e1 fun v G1 H1 g1 r1 => .inr (.inr ?_)
    simp only [Rep] at r1
    refine ⟨z, r1, q _ G1 H1 g1 ⟨fun i d G' H' ed a1 b1 => ?_, fun G' H' a1 b1 => ?_⟩⟩
    · unfold signs at ed
      rw [List.getElem?_map] at ed
      obtain ⟨c, ec, rfl⟩ := Option.map_eq_some_iff.mp ed
      have ec' : z.cps[i]? = some c := by simpa using ec
      refine ⟨?_, fun x' H2 y => ?_⟩
      · show i < z.cps.size
        obtain ⟨hi, _⟩ := Array.getElem?_eq_some_iff.mp ec'
        exact hi
      · obtain ⟨y1, c', ec2, rfl⟩ := y
        rw [ec'] at ec2
        cases ec2
        exact ⟨y1, by simp [Rep]⟩
    · show (signs z).length = z.cps.size
      simp [signs]
  · cases e
/-- -i -/
@[simp] def f1 (o : D → Option D) (f : FE) : FE := fun δ => (f δ).bind o
def negD : D → Option D | .int i => some (.int (-i)) | _ => none
theorem pd_neg {e : Expr} {f : FE} {pos : Pos} (he : PD X e f) : PD X (.UnaryOp .USub e pos) (f1 negD f) := by
  obtain ⟨t, pt, k1⟩ := he
  refine ⟨_, pe_un un_neg pt, fun B G H δ σ d Q sG rs ef k => ?_⟩
  unfold f1 at ef
  obtain ⟨x, e1, ef⟩ := Option.bind_eq_some_iff.mp ef
  unfold negD at ef
  split at ef
  · cases ef
    exact k1 B G H δ σ _ _ sG rs e1 fun v G1 H1 g1 r1 => ⟨_, by simpa only [Rep] using r1, k _ G1 H1 g1 (by simp [Rep])⟩
  · cases ef
end
end L2

-- part Lm
set_option Elab.async false
set_option linter.all false
set_option maxRecDepth 100000
set_option maxHeartbeats 4000000
namespace L2
open PySem PySem.Spec PyProof.Rows
theorem compL_yes {g : D → Option D} {h : D → D} : ∀ {xs : List D}, (∀ x ∈ xs, g x = some (h x)) → compL (fun _ => some true) g xs = some (xs.map h)
  | [], _ => rfl
  | x :: xs, hg => by
    unfold compL
    rw [hg x List.mem_cons_self, compL_yes fun y hy => hg y (List.mem_cons_of_mem _ hy)]
    rfl
theorem compL_if {c : D → Option Bool} {g : D → Option D} {p : D → Bool} {h : D → D} : ∀ {xs : List D}, (∀ x ∈ xs, c x = some (p x)) → (∀ x ∈ xs, p x = true → g x = some (h x)) → compL c g xs = some ((xs.filter p).map h)
  | [], _, _ => rfl
  | x :: xs, hc, hg => by
    have ih := compL_if (xs := xs) (fun y hy => hc y (List.mem_cons_of_mem _ hy)) fun y hy => hg y (List.mem_cons_of_mem _ hy)
    unfold compL
    rw [hc x List.mem_cons_self]
    show (if p x = true then _ else _) = _
    cases e : p x with
    | true => rw [if_pos rfl, hg x List.mem_cons_self e, ih, List.filter_cons, if_pos e]; rfl
    | false => rw [if_neg Bool.false_ne_true, ih, List.filter_cons, if_neg (by rw [e]; exact Bool.false_ne_true)]
theorem bools_map {α : Type} (p : α → Bool) : ∀ (xs : List α), bools (xs.map fun x => D.bl (p x)) = some (xs.map p)
  | [] => rfl
  | x :: xs => by
    show (bools (xs.map fun x => D.bl (p x))).map (p x :: ·) = _
    rw [bools_map p xs]
    rfl
theorem forL_each {i : Nat} {F : FS} (P : En → Prop) : ∀ (xs : List D) (δ : En), P δ → (∀ x ∈ xs, ∀ δ, P δ → ∃ δ', F (δ.set i (some (.sh x))) = some (.nx δ') ∧ P δ') → ∃ δ', forL i F xs δ = some (.nx δ') ∧ P δ'
  | [], δ, h0, _ => ⟨δ, rfl, h0⟩
  | x :: xs, δ, h0, st => by
    obtain ⟨δ', e, h1⟩ := st x List.mem_cons_self δ h0
    unfold forL
    rw [e]
    exact forL_each P xs δ' h1 fun y hy => st y (List.mem_cons_of_mem _ hy)
theorem forL_test {i : Nat} {F : FS} (P : En → Prop) (p : D → Bool) (d : D) : ∀ (xs : List D) (δ : En), P δ →
    (∀ x ∈ xs, ∀ δ, P δ → (p x = true → ∃ δ', F (δ.set i (some (.sh x))) = some (.nx δ') ∧ P δ') ∧ (p x = false → F (δ.set i (some (.sh x))) = some (.rt d))) →
    (xs.all p = true → ∃ δ', forL i F xs δ = some (.nx δ') ∧ P δ') ∧ (xs.all p = false → forL i F xs δ = some (.rt d))
  | [], δ, h0, _ => ⟨fun _ => ⟨δ, rfl, h0⟩, fun z => nomatch z⟩
  | x :: xs, δ, h0, st => by
    obtain ⟨h1, h2⟩ := st x List.mem_cons_self δ h0
    rw [List.all_cons]
    cases e : p x with
    | true =>
      obtain ⟨δ', e1, h3⟩ := h1 e
      have ih := forL_test P p d xs δ' h3 fun y hy => st y (List.mem_cons_of_mem _ hy)
      unfold forL
      rw [e1, Bool.true_and]
      exact ih
    | false =>
      refine ⟨fun z => (by rw [Bool.false_and] at z; cases z), fun _ => ?_⟩
      unfold forL
      rw [h2 e]
/-! evaluation, step by step -/
section
variable {F F' : FS} {f : FE} {δ δ' : En} {d : D} {o : Option Out} {c : En → Option Bool} {i : Nat}
theorem ev_run {N : List Str} {n : Nat} {fb : FS} {ds : List D} (hl : ds.length = n) (e : fb (startD N ds) = some (.rt d)) : runF N n fb ds = some d := by
  unfold runF
  rw [if_pos hl, e]
theorem ev_seqN (e : F δ = some (.nx δ')) (e' : F' δ' = o) : sSeq F F' δ = o := by
  unfold sSeq
  rw [e]
  exact e'
theorem ev_seqR (e : F δ = some (.rt d)) : sSeq F F' δ = some (.rt d) := by
  unfold sSeq
  rw [e]
theorem ev_ifT (e : c δ = some true) (e' : F δ = o) : sIf c F F' δ = o := by
  unfold sIf
  rw [e]
  exact e'
theorem ev_ifF (e : c δ = some false) (e' : F' δ = o) : sIf c F F' δ = o := by
  unfold sIf
  rw [e]
  exact e'
theorem ev_set (e : f δ = some d) : sSet i f δ = some (.nx (δ.set i (some (.sh d)))) := by
  unfold sSet
  rw [e]
  rfl
theorem ev_ret (e : f δ = some d) : sRet f δ = some (.rt d) := by
  unfold sRet
  rw [e]
  rfl
theorem ev_nil : sNil δ = some (.nx δ) := rfl
theorem ev_for {it : En → Option (List D)} {xs : List D} (e : it δ = some xs) (e' : forL i F xs δ = o) : sFor i it F δ = o := by
  unfold sFor
  rw [e]
  exact e'
/-- if c: return d -/
theorem ev_guT (e : c δ = some true) (e' : f δ = some d) : sIf c (sSeq (sRet f) sNil) sNil δ = some (.rt d) := ev_ifT e (ev_seqR (ev_ret e'))
theorem ev_guF (e : c δ = some false) : sIf c (sSeq (sRet f) sNil) sNil δ = some (.nx δ) := ev_ifF e ev_nil
theorem ev_call {M : List D → Option D} {g : En → Option (List D)} {ds : List D} (e : g δ = some ds) : fCall M g δ = M ds := by
  unfold fCall
  rw [e]
  rfl
theorem ev_cons {g : En → Option (List D)} {ds : List D} (e : f δ = some d) (e' : g δ = some ds) : fCons f g δ = some (d :: ds) := by
  unfold fCons
  rw [e, e']
  rfl
theorem ev_f2 {o : D → D → Option D} {f g : FE} {x y : D} (e : f δ = some x) (e' : g δ = some y) : f2 o f g δ = o x y := by
  unfold f2
  rw [e, e']
  rfl
theorem ev_lstI {ds : List D} (e : f δ = some (.lst ds)) : oSeq f δ = some ds := by
  unfold oSeq
  rw [e]
theorem ev_tupI {ds : List D} (e : f δ = some (.tup ds)) : oSeq f δ = some ds := by
  unfold oSeq
  rw [e]
theorem ev_comp {nl i : Nat} {js : List Nat} {it : En → Option (List D)} {g : FE} {xs ys : List D} (e : it δ = some xs) (hl : xs.length ≤ sizeLine)
    (e' : compL (fun x => c ((csD nl js δ).set i (some (.sh x)))) (fun x => g ((csD nl js δ).set i (some (.sh x)))) xs = some ys) : fComp nl js i it c g δ = some (.lst ys) := by
  unfold fComp
  rw [e, Option.bind_some, if_pos hl, e']
  rfl
theorem ev_tup {g : En → Option (List D)} {ds : List D} (e : g δ = some ds) (hl : ds.length ≤ sizeLine) : fTup g δ = some (.tup ds) := by
  unfold fTup
  rw [e, Option.bind_some, if_pos hl]
theorem ev_lst {g : En → Option (List D)} {ds : List D} (e : g δ = some ds) (hl : ds.length ≤ sizeLine) : fLst g δ = some (.lst ds) := by
  unfold fLst
  rw [e, Option.bind_some, if_pos hl]
theorem forL_ix {F : FS} {i : Nat} (P : Nat → En → Prop) : ∀ (xs : List D) (δ : En) (k0 : Nat), P k0 δ → (∀ k x, xs[k]? = some x → ∀ δ, P (k0 + k) δ → ∃ δ', F (δ.set i (some (.sh x))) = some (.nx δ') ∧ P (k0 + k + 1) δ') → ∃ δ', forL i F xs δ = some (.nx δ') ∧ P (k0 + xs.length) δ'
  | [], δ, k0, h0, _ => ⟨δ, rfl, h0⟩
  | x :: xs, δ, k0, h0, st => by
    obtain ⟨δ', e, h1⟩ := st 0 x rfl δ h0
    unfold forL
    rw [e]
    obtain ⟨δ2, e2, h2⟩ := forL_ix P xs δ' (k0 + 1) h1 fun k y hy δ hp => by
      obtain ⟨δ3, e3, h3⟩ := st (k + 1) y (by simpa using hy) δ (by rw [show k0 + (k + 1) = k0 + 1 + k by omega]; exact hp)
      exact ⟨δ3, e3, by rw [show k0 + 1 + k + 1 = k0 + (k + 1) + 1 by omega]; exact h3⟩
    exact ⟨δ2, e2, by rw [List.length_cons, show k0 + (xs.length + 1) = k0 + 1 + xs.length by omega]; exact h2⟩
end
end L2

-- part K01a
set_option Elab.async false
set_option linter.all false
set_option maxRecDepth 100000
set_option maxHeartbeats 4000000
namespace K01
open PySem PySem.Spec PyProof.Rows L2
def top (i : Nat) : Stmt := PySem.Challenge.pw_reason_k01_names_and_terms.main.body.getD i (.Pass ⟨0, 0, 0, 0⟩)
def g_LONGEST : D := (.int 8)
def g_MOST_PLACES : D := (.int 4)
def g_WORDS : D := (.tup [(.str "not"), (.str "if"), (.str "under"), (.str "unlike"), (.str "sum"), (.str "least"), (.str "count")])
structure Txt (K : PySem.W.Frag) (mg : Str → Option Value) : Prop where
  d_is_whole : DefAt K mg "is_whole" (top 4)
  d_is_small : DefAt K mg "is_small" (top 5)
  d_is_big : DefAt K mg "is_big" (top 6)
  d_is_figure : DefAt K mg "is_figure" (top 7)
  d_is_short_text : DefAt K mg "is_short_text" (top 8)
  d_is_name : DefAt K mg "is_name" (top 9)
  d_is_constant : DefAt K mg "is_constant" (top 10)
  d_is_variable : DefAt K mg "is_variable" (top 11)
  d_is_fact : DefAt K mg "is_fact" (top 12)
  d__law_text : DefAt K mg "_law_text" (top 15)
  d__law_thing : DefAt K mg "_law_thing" (top 16)
  d__law_has : DefAt K mg "_law_has" (top 17)
  d__law_named : DefAt K mg "_law_named" (top 18)
  d__law_constant : DefAt K mg "_law_constant" (top 19)
  d__law_variable : DefAt K mg "_law_variable" (top 20)
  d__law_truths : DefAt K mg "_law_truths" (top 22)
  d__law_told : DefAt K mg "_law_told" (top 21)
  d__law_fact : DefAt K mg "_law_fact" (top 23)
  d__law_is_fact : DefAt K mg "_law_is_fact" (top 24)
  d_law : DefAt K mg "law" (top 25)
  m_all : mg "all" = none
  m_bool : mg "bool" = none
  m_int : mg "int" = none
  m_isinstance : mg "isinstance" = none
  m_len : mg "len" = none
  m_list : mg "list" = none
  m_range : mg "range" = none
  m_str : mg "str" = none
  m_tuple : mg "tuple" = none
  t_bool : IsTyOk K "bool"
  t_int : IsTyOk K "int"
  t_list : IsTyOk K "list"
  t_str : IsTyOk K "str"
  t_tuple : IsTyOk K "tuple"
  c_LONGEST : GlobAt K mg "LONGEST" g_LONGEST
  c_MOST_PLACES : GlobAt K mg "MOST_PLACES" g_MOST_PLACES
  c_WORDS : GlobAt K mg "WORDS" g_WORDS
def fb_is_whole : FS := (sSeq (sRet (fAnd (fIs "int" (fVar 0)) (fNot (fIs "bool" (fVar 0)))))
    sNil)
def M_is_whole : List D → Option D := runF ["thing"] 1 fb_is_whole
def fb_is_small : FS := (sSeq (sRet (f3 (leD) (leD) (fC (.str "a")) (fVar 0) (fC (.str "z"))))
    sNil)
def M_is_small : List D → Option D := runF ["sign"] 1 fb_is_small
def fb_is_big : FS := (sSeq (sRet (f3 (leD) (leD) (fC (.str "A")) (fVar 0) (fC (.str "Z"))))
    sNil)
def M_is_big : List D → Option D := runF ["sign"] 1 fb_is_big
def fb_is_figure : FS := (sSeq (sRet (f3 (leD) (leD) (fC (.str "0")) (fVar 0) (fC (.str "9"))))
    sNil)
def M_is_figure : List D → Option D := runF ["sign"] 1 fb_is_figure
def fb_is_short_text : FS := (sSeq (sRet (fAnd (fIs "str" (fVar 0)) (f3 (leD) (leD) (fC (.int 1)) (fCall lenD (fCons (fVar 0) fNil)) (fC g_LONGEST))))
    sNil)
def M_is_short_text : List D → Option D := runF ["thing"] 1 fb_is_short_text
def fb_is_name : FS := (sSeq (sIf (bOr (bNot (fB (fCall M_is_short_text (fCons (fVar 0) fNil)))) (fB (f2 (inD false) (fVar 0) (fC g_WORDS)))) (sSeq (sRet (fC (.bl false)))
    sNil) sNil)
    (sSeq (sRet (fCall allD (fCons (fComp 1 [] 0 (oSeq (fVar 0)) bYes (fCall M_is_small (fCons (fVar 0) fNil))) fNil)))
    sNil))
def M_is_name : List D → Option D := runF ["thing"] 1 fb_is_name
def fb_is_constant : FS := (sSeq (sRet (fOr (fCall M_is_whole (fCons (fVar 0) fNil)) (fCall M_is_name (fCons (fVar 0) fNil))))
    sNil)
def M_is_constant : List D → Option D := runF ["thing"] 1 fb_is_constant
def fb_is_variable : FS := (sSeq (sIf (bOr (bNot (fB (fCall M_is_short_text (fCons (fVar 0) fNil)))) (bNot (fB (fCall M_is_big (fCons (f2 ixD (fVar 0) (fC (.int 0))) fNil))))) (sSeq (sRet (fC (.bl false)))
    sNil) sNil)
    (sSeq (sRet (fCall allD (fCons (fComp 1 [] 0 (oSeq (fVar 0)) bYes (fOr (fCall M_is_small (fCons (fVar 0) fNil)) (fOr (fCall M_is_big (fCons (fVar 0) fNil)) (fCall M_is_figure (fCons (fVar 0) fNil))))) fNil)))
    sNil))
def M_is_variable : List D → Option D := runF ["thing"] 1 fb_is_variable
def fb_is_fact : FS := (sSeq (sIf (bOr (bNot (fB (fIs "tuple" (fVar 0)))) (fB (f2 (neD) (fCall lenD (fCons (fVar 0) fNil)) (fC (.int 2))))) (sSeq (sRet (fC (.bl false)))
    sNil) sNil)
    (sSeq (sSet 1 (f2 ixD (fVar 0) (fC (.int 1))))
    (sSeq (sIf (bOr (bNot (fB (fCall M_is_name (fCons (f2 ixD (fVar 0) (fC (.int 0))) fNil)))) (bOr (bNot (fB (fIs "tuple" (fVar 1)))) (fB (f2 (gtD) (fCall lenD (fCons (fVar 1) fNil)) (fC g_MOST_PLACES))))) (sSeq (sRet (fC (.bl false)))
    sNil) sNil)
    (sSeq (sRet (fCall allD (fCons (fComp 1 [] 0 (oSeq (fVar 1)) bYes (fCall M_is_constant (fCons (fVar 0) fNil))) fNil)))
    sNil))))
def M_is_fact : List D → Option D := runF ["thing", "places"] 1 fb_is_fact
def fb__law_text : FS := (sSeq (sSet 1 (fLst (fCons (fC (.str "not")) (fCons (fC (.str "if")) (fCons (fC (.str "under")) (fCons (fC (.str "unlike")) (fCons (fC (.str "sum")) (fCons (fC (.str "least")) (fCons (fC (.str "count")) fNil)))))))))
    (sSeq (sIf (fB (f2 (eqD) (f2 modD (fVar 0) (fC (.int 12))) (fC (.int 11)))) (sSeq (sRet (f2 addD (f2 ixD (fVar 1) (f2 modD (f2 fdivD (fVar 0) (fC (.int 12))) (fC (.int 7)))) (f2 ixD (fLst (fCons (fC (.str "")) (fCons (fC (.str "")) (fCons (fC (.str "s")) fNil)))) (f2 modD (f2 fdivD (fVar 0) (fC (.int 84))) (fC (.int 3))))))
    sNil) sNil)
    (sSeq (sSet 2 (f2 ixD (fLst (fCons (fC (.int 1)) (fCons (fC (.int 2)) (fCons (fC (.int 3)) (fCons (fC (.int 8)) (fCons (fC (.int 9)) (fCons (fC (.int 0)) (fCons (fC (.int 4)) (fCons (fC (.int 5)) (fCons (fC (.int 7)) (fCons (fC (.int 1)) fNil))))))))))) (f2 modD (f2 fdivD (fVar 0) (fC (.int 12))) (fC (.int 10)))))
    (sSeq (sSet 0 (f2 fdivD (fVar 0) (fC (.int 120))))
    (sSeq (sSet 3 (f2 ixD (fLst (fCons (fC (.str "abmyz")) (fCons (fC (.str "AZabz09")) (fCons (fC (.str "abyzABYZ0189_ -")) fNil)))) (f2 modD (fVar 0) (fC (.int 3)))))
    (sSeq (sSet 0 (f2 fdivD (fVar 0) (fC (.int 3))))
    (sSeq (sSet 4 (fC (.str "")))
    (sSeq (sFor 5 (oRng (fVar 2)) (sSeq (sSet 4 (f2 addD (fVar 4) (f2 ixD (fVar 3) (f2 modD (fVar 0) (fCall lenD (fCons (fVar 3) fNil))))))
    (sSeq (sSet 0 (f2 fdivD (fVar 0) (fCall lenD (fCons (fVar 3) fNil))))
    sNil)))
    (sSeq (sRet (fVar 4))
    sNil)))))))))
def M__law_text : List D → Option D := runF ["_law_cell_here", "_law_words", "_law_size", "_law_shape", "_law_text_here", "_law_k"] 1 fb__law_text
def fb__law_thing : FS := (sSeq (sIf (fB (f2 (ltD) (f2 modD (fVar 0) (fC (.int 8))) (fC (.int 5)))) (sSeq (sRet (fCall M__law_text (fCons (f2 fdivD (fVar 0) (fC (.int 8))) fNil)))
    sNil) sNil)
    (sSeq (sIf (fB (f2 (eqD) (f2 modD (fVar 0) (fC (.int 8))) (fC (.int 5)))) (sSeq (sRet (f2 subD (f2 modD (f2 fdivD (fVar 0) (fC (.int 8))) (f2 mulD (fC (.int 2)) (f2 powD (fC (.int 10)) (fC (.int 29))))) (f2 powD (fC (.int 10)) (fC (.int 29)))))
    sNil) sNil)
    (sSeq (sIf (fB (f2 (eqD) (f2 modD (fVar 0) (fC (.int 8))) (fC (.int 6)))) (sSeq (sRet (f2 subD (f2 modD (f2 fdivD (fVar 0) (fC (.int 8))) (fC (.int 7))) (fC (.int 3))))
    sNil) sNil)
    (sSeq (sRet (f2 ixD (fLst (fCons (fC .non) (fCons (fC (.bl true)) (fCons (fC (.bl false)) (fCons (fLst fNil) (fCons (fTup (fCons (fC (.str "a")) fNil)) (fCons (fLst (fCons (fC (.str "a")) fNil)) (fCons (fTup fNil) fNil)))))))) (f2 modD (f2 fdivD (fVar 0) (fC (.int 8))) (fC (.int 7)))))
    sNil))))
def M__law_thing : List D → Option D := runF ["_law_cell_here"] 1 fb__law_thing
def fb__law_has : FS := (sSeq (sFor 2 (oSeq (fVar 0)) (sSeq (sIf (fB (f2 (inD true) (fVar 2) (fVar 1))) (sSeq (sRet (fC (.bl false)))
    sNil) sNil)
    sNil))
    (sSeq (sRet (fC (.bl true)))
    sNil))
def M__law_has : List D → Option D := runF ["_law_text_here", "_law_signs", "_law_sign"] 2 fb__law_has
def fb__law_named : FS := (sSeq (sIf (bOr (bNot (fB (fIs "str" (fVar 0)))) (bNot (fB (f3 (leD) (leD) (fC (.int 1)) (fCall lenD (fCons (fVar 0) fNil)) (fC (.int 8)))))) (sSeq (sRet (fC (.bl false)))
    sNil) sNil)
    (sSeq (sIf (fB (f2 (inD false) (fVar 0) (fTup (fCons (fC (.str "not")) (fCons (fC (.str "if")) (fCons (fC (.str "under")) (fCons (fC (.str "unlike")) (fCons (fC (.str "sum")) (fCons (fC (.str "least")) (fCons (fC (.str "count")) fNil)))))))))) (sSeq (sRet (fC (.bl false)))
    sNil) sNil)
    (sSeq (sRet (fCall M__law_has (fCons (fVar 0) (fCons (fC (.str "abcdefghijklmnopqrstuvwxyz")) fNil))))
    sNil)))
def M__law_named : List D → Option D := runF ["_law_thing_here"] 1 fb__law_named
def fb__law_constant : FS := (sSeq (sRet (fOr (fAnd (fIs "int" (fVar 0)) (fNot (fIs "bool" (fVar 0)))) (fCall M__law_named (fCons (fVar 0) fNil))))
    sNil)
def M__law_constant : List D → Option D := runF ["_law_thing_here"] 1 fb__law_constant
def fb__law_variable : FS := (sSeq (sSet 1 (fC (.str "ABCDEFGHIJKLMNOPQRSTUVWXYZ")))
    (sSeq (sIf (bOr (bNot (fB (fIs "str" (fVar 0)))) (bOr (bNot (fB (f3 (leD) (leD) (fC (.int 1)) (fCall lenD (fCons (fVar 0) fNil)) (fC (.int 8))))) (fB (f2 (inD true) (f2 ixD (fVar 0) (fC (.int 0))) (fVar 1))))) (sSeq (sRet (fC (.bl false)))
    sNil) sNil)
    (sSeq (sRet (fCall M__law_has (fCons (fVar 0) (fCons (f2 addD (fC (.str "abcdefghijklmnopqrstuvwxyz0123456789")) (fVar 1)) fNil))))
    sNil)))
def M__law_variable : List D → Option D := runF ["_law_thing_here", "_law_great"] 1 fb__law_variable
def fb__law_truths : FS := (sSeq (sFor 1 (oSeq (fVar 0)) (sSeq (sIf (bNot (fB (fIs "bool" (fVar 1)))) (sSeq (sRet (fC (.bl false)))
    sNil) sNil)
    sNil))
    (sSeq (sRet (fC (.bl true)))
    sNil))
def M__law_truths : List D → Option D := runF ["_law_some", "_law_one"] 1 fb__law_truths
def fb__law_told : FS := (sSeq (sSet 1 (fLst (fCons (fCall M_is_name (fCons (fVar 0) fNil)) (fCons (fCall M_is_constant (fCons (fVar 0) fNil)) (fCons (fCall M_is_variable (fCons (fVar 0) fNil)) fNil)))))
    (sSeq (sSet 2 (fLst (fCons (fCall M__law_named (fCons (fVar 0) fNil)) (fCons (fCall M__law_constant (fCons (fVar 0) fNil)) (fCons (fCall M__law_variable (fCons (fVar 0) fNil)) fNil)))))
    (sSeq (sRet (fAnd (f2 (eqD) (fVar 1) (fVar 2)) (fCall M__law_truths (fCons (fVar 1) fNil))))
    sNil)))
def M__law_told : List D → Option D := runF ["_law_thing_here", "_law_found", "_law_due"] 1 fb__law_told
def fb__law_fact : FS := (sSeq (sSet 2 (fCall tupD (fCons (fComp 1 [] 0 (oSeq (fSl (fVar 0) (fun _ => some none) (oInt (f2 modD (fVar 1) (fC (.int 6)))))) bYes (fCall M__law_thing (fCons (fVar 0) fNil))) fNil)))
    (sSeq (sSet 3 (f2 ixD (fLst (fCons (fC (.str "edge")) (fCons (fCall M__law_thing (fCons (f2 fdivD (fVar 1) (fC (.int 6))) fNil)) fNil))) (f2 fdivD (f2 modD (f2 fdivD (fVar 1) (fC (.int 48))) (fC (.int 3))) (fC (.int 2)))))
    (sSeq (sSet 4 (f2 modD (f2 fdivD (fVar 1) (fC (.int 144))) (fC (.int 12))))
    (sSeq (sIf (fB (f2 (eqD) (fVar 4) (fC (.int 9)))) (sSeq (sRet (fTup (fCons (fVar 3) (fCons (fCall lstD (fCons (fVar 2) fNil)) fNil))))
    sNil) sNil)
    (sSeq (sIf (fB (f2 (eqD) (fVar 4) (fC (.int 10)))) (sSeq (sRet (fTup (fCons (fVar 3) (fCons (fVar 2) (fCons (fTup fNil) fNil)))))
    sNil) sNil)
    (sSeq (sIf (fB (f2 (eqD) (fVar 4) (fC (.int 11)))) (sSeq (sRet (f2 ixD (fLst (fCons (fTup (fCons (fVar 3) fNil)) (fCons (fLst (fCons (fVar 3) (fCons (fVar 2) fNil))) (fCons (fVar 3) fNil)))) (f2 modD (f2 fdivD (fVar 1) (fC (.int 1728))) (fC (.int 3)))))
    sNil) sNil)
    (sSeq (sRet (fTup (fCons (fVar 3) (fCons (fVar 2) fNil))))
    sNil)))))))
def M__law_fact : List D → Option D := runF ["_law_cells", "_law_cell_here", "_law_places", "_law_head", "_law_shape"] 2 fb__law_fact
def fb__law_is_fact : FS := (sSeq (sIf (bOr (bNot (fB (fIs "tuple" (fVar 0)))) (bOr (fB (f2 (neD) (fCall lenD (fCons (fVar 0) fNil)) (fC (.int 2)))) (bNot (fB (fIs "tuple" (f2 ixD (fVar 0) (fC (.int 1)))))))) (sSeq (sRet (fC (.bl false)))
    sNil) sNil)
    (sSeq (sFor 1 (oSeq (f2 ixD (fVar 0) (fC (.int 1)))) (sSeq (sIf (bNot (fB (fCall M__law_constant (fCons (fVar 1) fNil)))) (sSeq (sRet (fC (.bl false)))
    sNil) sNil)
    sNil))
    (sSeq (sRet (fAnd (fCall M__law_named (fCons (f2 ixD (fVar 0) (fC (.int 0))) fNil)) (f2 (leD) (fCall lenD (fCons (f2 ixD (fVar 0) (fC (.int 1))) fNil)) (fC (.int 4)))))
    sNil)))
def M__law_is_fact : List D → Option D := runF ["_law_thing_here", "_law_place"] 1 fb__law_is_fact
def fb_law : FS := (sSeq (sSet 1 (fSl (fVar 0) (fun _ => some none) (oInt (fC (.int 30)))))
    (sSeq (sFor 2 (oSeq (f2 addD (fVar 1) (fLst (fCons (fC (.int 11)) (fCons (fC (.int 95)) fNil))))) (sSeq (sIf (bNot (fB (fCall M__law_told (fCons (fCall M__law_thing (fCons (fVar 2) fNil)) fNil)))) (sSeq (sRet (fC (.bl false)))
    sNil) sNil)
    sNil))
    (sSeq (sFor 3 (oRng (fCall lenD (fCons (fVar 1) fNil))) (sSeq (sSet 4 (fCall M__law_fact (fCons (f2 addD (fSl (fVar 1) (oInt (f2 addD (fVar 3) (fC (.int 1)))) (fun _ => some none)) (fSl (fVar 1) (fun _ => some none) (oInt (fVar 3)))) (fCons (f2 ixD (fVar 1) (fVar 3)) fNil))))
    (sSeq (sFor 5 (oRng (fC (.int 2))) (sSeq (sSet 6 (fCall M_is_fact (fCons (fVar 4) fNil)))
    (sSeq (sIf (bOr (bNot (fB (fIs "bool" (fVar 6)))) (fB (f2 (neD) (fVar 6) (fCall M__law_is_fact (fCons (fVar 4) fNil))))) (sSeq (sRet (fC (.bl false)))
    sNil) sNil)
    sNil)))
    sNil)))
    (sSeq (sSet 7 (fTup (fCons (fC (.str "edge")) (fCons (fCall tupD (fCons (fSl (fComp 1 [] 0 (oSeq (fComp 1 [] 0 (oSeq (fVar 1)) bYes (fCall M__law_text (fCons (fVar 0) fNil)))) (fB (fCall M__law_named (fCons (fVar 0) fNil))) (fVar 0)) (fun _ => some none) (oInt (fC (.int 4)))) fNil)) fNil))))
    (sSeq (sRet (fAnd (f2 (isO false) (fCall M_is_fact (fCons (fVar 7) fNil)) (fC (.bl true))) (fAnd (f2 (isO false) (fCall M_is_fact (fCons (fTup (fCons (fC (.str "edge")) (fCons (fTup fNil) fNil))) fNil)) (fC (.bl true))) (f2 (isO false) (fCall M_is_fact (fCons (fC (.str "edge")) fNil)) (fC (.bl false))))))
    sNil)))))
def M_law : List D → Option D := runF ["_law_script", "_law_cells", "_law_cell_here", "_law_k", "_law_thing_here", "_law_turn", "_law_found", "_law_small"] 1 fb_law
end K01

-- part K01b
set_option Elab.async false
set_option linter.all false
set_option maxRecDepth 100000
set_option maxHeartbeats 4000000
namespace K01
open PySem PySem.Spec PyProof.Rows L2
theorem sc_is_whole : FnScope ["thing"] ["thing"] (defScope (top 4)) := ⟨rfl, rfl, rfl, by decide +kernel, rfl, by decide +kernel, by decide +kernel⟩
theorem mk_is_whole {P : Program} {w : World} {K : PySem.W.Frag} {mg : Str → Option Value} {base : Heap} (T : Txt K mg)  : DefOk P w K mg base 1 "is_whole" ["thing"] M_is_whole :=
  def_run T.d_is_whole sc_is_whole (fun _ _ _ _ _ _ us hl => match us, hl with | [_], _ => rfl) fun f cdv A outer s H E hr => by
    have nd : (["thing"] : List Str).Nodup := sc_is_whole.nd
    have hu := hu_of hr
    exact (psd_cons (psd_ret (pd_and (pd_is "int" T.t_int T.m_isinstance T.m_int boot_int (pd_var 0)) (pd_one (pd_not (pd_is "bool" T.t_bool T.m_isinstance T.m_bool boot_bool (pd_var 0))))))
    psd_nil)

theorem sc_is_small : FnScope ["sign"] ["sign"] (defScope (top 5)) := ⟨rfl, rfl, rfl, by decide +kernel, rfl, by decide +kernel, by decide +kernel⟩
theorem mk_is_small {P : Program} {w : World} {K : PySem.W.Frag} {mg : Str → Option Value} {base : Heap} (T : Txt K mg)  : DefOk P w K mg base 1 "is_small" ["sign"] M_is_small :=
  def_run T.d_is_small sc_is_small (fun _ _ _ _ _ _ us hl => match us, hl with | [_], _ => rfl) fun f cdv A outer s H E hr => by
    have nd : (["sign"] : List Str).Nodup := sc_is_small.nd
    have hu := hu_of hr
    exact (psd_cons (psd_ret (pd_chain od_leD od_leD pd_str (pd_var 0) pd_str))
    psd_nil)

theorem sc_is_big : FnScope ["sign"] ["sign"] (defScope (top 6)) := ⟨rfl, rfl, rfl, by decide +kernel, rfl, by decide +kernel, by decide +kernel⟩
theorem mk_is_big {P : Program} {w : World} {K : PySem.W.Frag} {mg : Str → Option Value} {base : Heap} (T : Txt K mg)  : DefOk P w K mg base 1 "is_big" ["sign"] M_is_big :=
  def_run T.d_is_big sc_is_big (fun _ _ _ _ _ _ us hl => match us, hl with | [_], _ => rfl) fun f cdv A outer s H E hr => by
    have nd : (["sign"] : List Str).Nodup := sc_is_big.nd
    have hu := hu_of hr
    exact (psd_cons (psd_ret (pd_chain od_leD od_leD pd_str (pd_var 0) pd_str))
    psd_nil)

theorem sc_is_figure : FnScope ["sign"] ["sign"] (defScope (top 7)) := ⟨rfl, rfl, rfl, by decide +kernel, rfl, by decide +kernel, by decide +kernel⟩
theorem mk_is_figure {P : Program} {w : World} {K : PySem.W.Frag} {mg : Str → Option Value} {base : Heap} (T : Txt K mg)  : DefOk P w K mg base 1 "is_figure" ["sign"] M_is_figure :=
  def_run T.d_is_figure sc_is_figure (fun _ _ _ _ _ _ us hl => match us, hl with | [_], _ => rfl) fun f cdv A outer s H E hr => by
    have nd : (["sign"] : List Str).Nodup := sc_is_figure.nd
    have hu := hu_of hr
    exact (psd_cons (psd_ret (pd_chain od_leD od_leD pd_str (pd_var 0) pd_str))
    psd_nil)

theorem sc_is_short_text : FnScope ["thing"] ["thing"] (defScope (top 8)) := ⟨rfl, rfl, rfl, by decide +kernel, rfl, by decide +kernel, by decide +kernel⟩
theorem mk_is_short_text {P : Program} {w : World} {K : PySem.W.Frag} {mg : Str → Option Value} {base : Heap} (T : Txt K mg)  : DefOk P w K mg base 1 "is_short_text" ["thing"] M_is_short_text :=
  def_run T.d_is_short_text sc_is_short_text (fun _ _ _ _ _ _ us hl => match us, hl with | [_], _ => rfl) fun f cdv A outer s H E hr => by
    have nd : (["thing"] : List Str).Nodup := sc_is_short_text.nd
    have hu := hu_of hr
    exact (psd_cons (psd_ret (pd_and (pd_is "str" T.t_str T.m_isinstance T.m_str boot_str (pd_var 0)) (pd_one (pd_chain od_leD od_leD pd_int (pd_callB cd_len T.m_len boot_len (pad_cons (pd_var 0) pad_nil)) (T.c_LONGEST.pd)))))
    psd_nil)

theorem sc_is_name : FnScope ["thing"] ["thing"] (defScope (top 9)) := ⟨rfl, rfl, rfl, by decide +kernel, rfl, by decide +kernel, by decide +kernel⟩
theorem mk_is_name {P : Program} {w : World} {K : PySem.W.Frag} {mg : Str → Option Value} {base : Heap} (T : Txt K mg) (ok_is_short_text : DefOk P w K mg base 1 "is_short_text" ["thing"] M_is_short_text) (ok_is_small : DefOk P w K mg base 1 "is_small" ["sign"] M_is_small) : DefOk P w K mg base 2 "is_name" ["thing"] M_is_name :=
  def_run T.d_is_name sc_is_name (fun _ _ _ _ _ _ us hl => match us, hl with | [_], _ => rfl) fun f cdv A outer s H E hr => by
    have nd : (["thing"] : List Str).Nodup := sc_is_name.nd
    have hu := hu_of hr
    exact (psd_cons (psd_if (PDW.pdt (pdw_or (pdt_not (pdt_val (pd_call ok_is_short_text (hr.mono (by decide)) (pad_cons (pd_var 0) pad_nil)))) (pdw_or1 (pdt_cmp od_in (pd_var 0) (T.c_WORDS.pd))))) (psd_cons (psd_ret pd_bl)
    psd_nil) psd_nil)
    (psd_cons (psd_ret (pd_callB (cd_all rfl) T.m_all boot_all (pad_cons (pd_comp' (N := ["sign"]) (i := 0) rfl (compOk0 rfl (by decide +kernel) (by decide +kernel) rfl) (pid_seq (pd_var 0)) (by decide) (by decide) rfl rfl (fun _ _ _ _ => pifd_nil) (fun _ _ _ _ => (pd_call ok_is_small (hr.mono (by decide)) (pad_cons (pd_var 0) pad_nil)))) pad_nil)))
    psd_nil))

theorem sc_is_constant : FnScope ["thing"] ["thing"] (defScope (top 10)) := ⟨rfl, rfl, rfl, by decide +kernel, rfl, by decide +kernel, by decide +kernel⟩
theorem mk_is_constant {P : Program} {w : World} {K : PySem.W.Frag} {mg : Str → Option Value} {base : Heap} (T : Txt K mg) (ok_is_name : DefOk P w K mg base 2 "is_name" ["thing"] M_is_name) (ok_is_whole : DefOk P w K mg base 1 "is_whole" ["thing"] M_is_whole) : DefOk P w K mg base 3 "is_constant" ["thing"] M_is_constant :=
  def_run T.d_is_constant sc_is_constant (fun _ _ _ _ _ _ us hl => match us, hl with | [_], _ => rfl) fun f cdv A outer s H E hr => by
    have nd : (["thing"] : List Str).Nodup := sc_is_constant.nd
    have hu := hu_of hr
    exact (psd_cons (psd_ret (pd_or (pd_call ok_is_whole (hr.mono (by decide)) (pad_cons (pd_var 0) pad_nil)) (pd_one (pd_call ok_is_name (hr.mono (by decide)) (pad_cons (pd_var 0) pad_nil)))))
    psd_nil)

theorem sc_is_variable : FnScope ["thing"] ["thing"] (defScope (top 11)) := ⟨rfl, rfl, rfl, by decide +kernel, rfl, by decide +kernel, by decide +kernel⟩
theorem mk_is_variable {P : Program} {w : World} {K : PySem.W.Frag} {mg : Str → Option Value} {base : Heap} (T : Txt K mg) (ok_is_big : DefOk P w K mg base 1 "is_big" ["sign"] M_is_big) (ok_is_figure : DefOk P w K mg base 1 "is_figure" ["sign"] M_is_figure) (ok_is_short_text : DefOk P w K mg base 1 "is_short_text" ["thing"] M_is_short_text) (ok_is_small : DefOk P w K mg base 1 "is_small" ["sign"] M_is_small) : DefOk P w K mg base 2 "is_variable" ["thing"] M_is_variable :=
  def_run T.d_is_variable sc_is_variable (fun _ _ _ _ _ _ us hl => match us, hl with | [_], _ => rfl) fun f cdv A outer s H E hr => by
    have nd : (["thing"] : List Str).Nodup := sc_is_variable.nd
    have hu := hu_of hr
    exact (psd_cons (psd_if (PDW.pdt (pdw_or (pdt_not (pdt_val (pd_call ok_is_short_text (hr.mono (by decide)) (pad_cons (pd_var 0) pad_nil)))) (pdw_or1 (pdt_not (pdt_val (pd_call ok_is_big (hr.mono (by decide)) (pad_cons (pd_ix (pd_var 0) pd_int) pad_nil))))))) (psd_cons (psd_ret pd_bl)
    psd_nil) psd_nil)
    (psd_cons (psd_ret (pd_callB (cd_all rfl) T.m_all boot_all (pad_cons (pd_comp' (N := ["sign"]) (i := 0) rfl (compOk0 rfl (by decide +kernel) (by decide +kernel) rfl) (pid_seq (pd_var 0)) (by decide) (by decide) rfl rfl (fun _ _ _ _ => pifd_nil) (fun _ _ _ _ => (pd_or (pd_call ok_is_small (hr.mono (by decide)) (pad_cons (pd_var 0) pad_nil)) (pd_or (pd_call ok_is_big (hr.mono (by decide)) (pad_cons (pd_var 0) pad_nil)) (pd_one (pd_call ok_is_figure (hr.mono (by decide)) (pad_cons (pd_var 0) pad_nil))))))) pad_nil)))
    psd_nil))

theorem sc_is_fact : FnScope ["thing", "places"] ["thing"] (defScope (top 12)) := ⟨rfl, rfl, rfl, by decide +kernel, rfl, by decide +kernel, by decide +kernel⟩
theorem mk_is_fact {P : Program} {w : World} {K : PySem.W.Frag} {mg : Str → Option Value} {base : Heap} (T : Txt K mg) (ok_is_constant : DefOk P w K mg base 3 "is_constant" ["thing"] M_is_constant) (ok_is_name : DefOk P w K mg base 2 "is_name" ["thing"] M_is_name) : DefOk P w K mg base 4 "is_fact" ["thing"] M_is_fact :=
  def_run T.d_is_fact sc_is_fact (fun _ _ _ _ _ _ us hl => match us, hl with | [_], _ => rfl) fun f cdv A outer s H E hr => by
    have nd : (["thing", "places"] : List Str).Nodup := sc_is_fact.nd
    have hu := hu_of hr
    exact (psd_cons (psd_if (PDW.pdt (pdw_or (pdt_not (pdt_val (pd_is "tuple" T.t_tuple T.m_isinstance T.m_tuple boot_tuple (pd_var 0)))) (pdw_or1 (pdt_cmp (od_ne hu) (pd_callB cd_len T.m_len boot_len (pad_cons (pd_var 0) pad_nil)) pd_int)))) (psd_cons (psd_ret pd_bl)
    psd_nil) psd_nil)
    (psd_cons (psd_set 1 nd (pd_ix (pd_var 0) pd_int))
    (psd_cons (psd_if (PDW.pdt (pdw_or (pdt_not (pdt_val (pd_call ok_is_name (hr.mono (by decide)) (pad_cons (pd_ix (pd_var 0) pd_int) pad_nil)))) (pdw_or (pdt_not (pdt_val (pd_is "tuple" T.t_tuple T.m_isinstance T.m_tuple boot_tuple (pd_var 1)))) (pdw_or1 (pdt_cmp od_gt (pd_callB cd_len T.m_len boot_len (pad_cons (pd_var 1) pad_nil)) (T.c_MOST_PLACES.pd)))))) (psd_cons (psd_ret pd_bl)
    psd_nil) psd_nil)
    (psd_cons (psd_ret (pd_callB (cd_all rfl) T.m_all boot_all (pad_cons (pd_comp' (N := ["place"]) (i := 0) rfl (compOk0 rfl (by decide +kernel) (by decide +kernel) rfl) (pid_seq (pd_var 1)) (by decide) (by decide) rfl rfl (fun _ _ _ _ => pifd_nil) (fun _ _ _ _ => (pd_call ok_is_constant (hr.mono (by decide)) (pad_cons (pd_var 0) pad_nil)))) pad_nil)))
    psd_nil))))

theorem sc__law_text : FnScope ["_law_cell_here", "_law_words", "_law_size", "_law_shape", "_law_text_here", "_law_k"] ["_law_cell_here"] (defScope (top 15)) := ⟨rfl, rfl, rfl, by decide +kernel, rfl, by decide +kernel, by decide +kernel⟩
theorem mk__law_text {P : Program} {w : World} {K : PySem.W.Frag} {mg : Str → Option Value} {base : Heap} (T : Txt K mg)  : DefOk P w K mg base 1 "_law_text" ["_law_cell_here"] M__law_text :=
  def_run T.d__law_text sc__law_text (fun _ _ _ _ _ _ us hl => match us, hl with | [_], _ => rfl) fun f cdv A outer s H E hr => by
    have nd : (["_law_cell_here", "_law_words", "_law_size", "_law_shape", "_law_text_here", "_law_k"] : List Str).Nodup := sc__law_text.nd
    have hu := hu_of hr
    exact (psd_cons (psd_set 1 nd (pd_lst (pad_cons pd_str (pad_cons pd_str (pad_cons pd_str (pad_cons pd_str (pad_cons pd_str (pad_cons pd_str (pad_cons pd_str pad_nil)))))))))
    (psd_cons (psd_if (pdt_cmp (od_eq hu) (pd_op od_mod (pd_var 0) pd_int) pd_int) (psd_cons (psd_ret (pd_op od_add (pd_ix (pd_var 1) (pd_op od_mod (pd_op od_fdiv (pd_var 0) pd_int) pd_int)) (pd_ix (pd_lst (pad_cons pd_str (pad_cons pd_str (pad_cons pd_str pad_nil)))) (pd_op od_mod (pd_op od_fdiv (pd_var 0) pd_int) pd_int))))
    psd_nil) psd_nil)
    (psd_cons (psd_set 2 nd (pd_ix (pd_lst (pad_cons pd_int (pad_cons pd_int (pad_cons pd_int (pad_cons pd_int (pad_cons pd_int (pad_cons pd_int (pad_cons pd_int (pad_cons pd_int (pad_cons pd_int (pad_cons pd_int pad_nil))))))))))) (pd_op od_mod (pd_op od_fdiv (pd_var 0) pd_int) pd_int)))
    (psd_cons (psd_set 0 nd (pd_op od_fdiv (pd_var 0) pd_int))
    (psd_cons (psd_set 3 nd (pd_ix (pd_lst (pad_cons pd_str (pad_cons pd_str (pad_cons pd_str pad_nil)))) (pd_op od_mod (pd_var 0) pd_int)))
    (psd_cons (psd_set 0 nd (pd_op od_fdiv (pd_var 0) pd_int))
    (psd_cons (psd_set 4 nd pd_str)
    (psd_cons (psd_for 5 nd rfl PassesOwn.never (pid_range T.m_range (pd_var 2)) (psd_cons (psd_set 4 nd (pd_op od_add (pd_var 4) (pd_ix (pd_var 3) (pd_op od_mod (pd_var 0) (pd_callB cd_len T.m_len boot_len (pad_cons (pd_var 3) pad_nil))))))
    (psd_cons (psd_set 0 nd (pd_op od_fdiv (pd_var 0) (pd_callB cd_len T.m_len boot_len (pad_cons (pd_var 3) pad_nil))))
    psd_nil)))
    (psd_cons (psd_ret (pd_var 4))
    psd_nil)))))))))

theorem sc__law_thing : FnScope ["_law_cell_here"] ["_law_cell_here"] (defScope (top 16)) := ⟨rfl, rfl, rfl, by decide +kernel, rfl, by decide +kernel, by decide +kernel⟩
theorem mk__law_thing {P : Program} {w : World} {K : PySem.W.Frag} {mg : Str → Option Value} {base : Heap} (T : Txt K mg) (ok__law_text : DefOk P w K mg base 1 "_law_text" ["_law_cell_here"] M__law_text) : DefOk P w K mg base 2 "_law_thing" ["_law_cell_here"] M__law_thing :=
  def_run T.d__law_thing sc__law_thing (fun _ _ _ _ _ _ us hl => match us, hl with | [_], _ => rfl) fun f cdv A outer s H E hr => by
    have nd : (["_law_cell_here"] : List Str).Nodup := sc__law_thing.nd
    have hu := hu_of hr
    exact (psd_cons (psd_if (pdt_cmp od_lt (pd_op od_mod (pd_var 0) pd_int) pd_int) (psd_cons (psd_ret (pd_call ok__law_text (hr.mono (by decide)) (pad_cons (pd_op od_fdiv (pd_var 0) pd_int) pad_nil)))
    psd_nil) psd_nil)
    (psd_cons (psd_if (pdt_cmp (od_eq hu) (pd_op od_mod (pd_var 0) pd_int) pd_int) (psd_cons (psd_ret (pd_op od_sub (pd_op od_mod (pd_op od_fdiv (pd_var 0) pd_int) (pd_op od_mul pd_int (pd_op od_pow pd_int pd_int))) (pd_op od_pow pd_int pd_int)))
    psd_nil) psd_nil)
    (psd_cons (psd_if (pdt_cmp (od_eq hu) (pd_op od_mod (pd_var 0) pd_int) pd_int) (psd_cons (psd_ret (pd_op od_sub (pd_op od_mod (pd_op od_fdiv (pd_var 0) pd_int) pd_int) pd_int))
    psd_nil) psd_nil)
    (psd_cons (psd_ret (pd_ix (pd_lst (pad_cons pd_non (pad_cons pd_bl (pad_cons pd_bl (pad_cons (pd_lst pad_nil) (pad_cons (pd_tup (pad_cons pd_str pad_nil)) (pad_cons (pd_lst (pad_cons pd_str pad_nil)) (pad_cons (pd_tup pad_nil) pad_nil)))))))) (pd_op od_mod (pd_op od_fdiv (pd_var 0) pd_int) pd_int)))
    psd_nil))))

theorem sc__law_has : FnScope ["_law_text_here", "_law_signs", "_law_sign"] ["_law_text_here", "_law_signs"] (defScope (top 17)) := ⟨rfl, rfl, rfl, by decide +kernel, rfl, by decide +kernel, by decide +kernel⟩
theorem mk__law_has {P : Program} {w : World} {K : PySem.W.Frag} {mg : Str → Option Value} {base : Heap} (T : Txt K mg)  : DefOk P w K mg base 1 "_law_has" ["_law_text_here", "_law_signs"] M__law_has :=
  def_run T.d__law_has sc__law_has (fun _ _ _ _ _ _ us hl => match us, hl with | [_, _], _ => rfl) fun f cdv A outer s H E hr => by
    have nd : (["_law_text_here", "_law_signs", "_law_sign"] : List Str).Nodup := sc__law_has.nd
    have hu := hu_of hr
    exact (psd_cons (psd_for 2 nd rfl PassesOwn.never (pid_seq (pd_var 0)) (psd_cons (psd_if (pdt_cmp od_notin (pd_var 2) (pd_var 1)) (psd_cons (psd_ret pd_bl)
    psd_nil) psd_nil)
    psd_nil))
    (psd_cons (psd_ret pd_bl)
    psd_nil))

theorem sc__law_named : FnScope ["_law_thing_here"] ["_law_thing_here"] (defScope (top 18)) := ⟨rfl, rfl, rfl, by decide +kernel, rfl, by decide +kernel, by decide +kernel⟩
theorem mk__law_named {P : Program} {w : World} {K : PySem.W.Frag} {mg : Str → Option Value} {base : Heap} (T : Txt K mg) (ok__law_has : DefOk P w K mg base 1 "_law_has" ["_law_text_here", "_law_signs"] M__law_has) : DefOk P w K mg base 2 "_law_named" ["_law_thing_here"] M__law_named :=
  def_run T.d__law_named sc__law_named (fun _ _ _ _ _ _ us hl => match us, hl with | [_], _ => rfl) fun f cdv A outer s H E hr => by
    have nd : (["_law_thing_here"] : List Str).Nodup := sc__law_named.nd
    have hu := hu_of hr
    exact (psd_cons (psd_if (PDW.pdt (pdw_or (pdt_not (pdt_val (pd_is "str" T.t_str T.m_isinstance T.m_str boot_str (pd_var 0)))) (pdw_or1 (pdt_not (pdt_chain od_leD od_leD pd_int (pd_callB cd_len T.m_len boot_len (pad_cons (pd_var 0) pad_nil)) pd_int))))) (psd_cons (psd_ret pd_bl)
    psd_nil) psd_nil)
    (psd_cons (psd_if (pdt_cmp od_in (pd_var 0) (pd_tup (pad_cons pd_str (pad_cons pd_str (pad_cons pd_str (pad_cons pd_str (pad_cons pd_str (pad_cons pd_str (pad_cons pd_str pad_nil))))))))) (psd_cons (psd_ret pd_bl)
    psd_nil) psd_nil)
    (psd_cons (psd_ret (pd_call ok__law_has (hr.mono (by decide)) (pad_cons (pd_var 0) (pad_cons pd_str pad_nil))))
    psd_nil)))

theorem sc__law_constant : FnScope ["_law_thing_here"] ["_law_thing_here"] (defScope (top 19)) := ⟨rfl, rfl, rfl, by decide +kernel, rfl, by decide +kernel, by decide +kernel⟩
theorem mk__law_constant {P : Program} {w : World} {K : PySem.W.Frag} {mg : Str → Option Value} {base : Heap} (T : Txt K mg) (ok__law_named : DefOk P w K mg base 2 "_law_named" ["_law_thing_here"] M__law_named) : DefOk P w K mg base 3 "_law_constant" ["_law_thing_here"] M__law_constant :=
  def_run T.d__law_constant sc__law_constant (fun _ _ _ _ _ _ us hl => match us, hl with | [_], _ => rfl) fun f cdv A outer s H E hr => by
    have nd : (["_law_thing_here"] : List Str).Nodup := sc__law_constant.nd
    have hu := hu_of hr
    exact (psd_cons (psd_ret (pd_or (pd_and (pd_is "int" T.t_int T.m_isinstance T.m_int boot_int (pd_var 0)) (pd_one (pd_not (pd_is "bool" T.t_bool T.m_isinstance T.m_bool boot_bool (pd_var 0))))) (pd_one (pd_call ok__law_named (hr.mono (by decide)) (pad_cons (pd_var 0) pad_nil)))))
    psd_nil)

theorem sc__law_variable : FnScope ["_law_thing_here", "_law_great"] ["_law_thing_here"] (defScope (top 20)) := ⟨rfl, rfl, rfl, by decide +kernel, rfl, by decide +kernel, by decide +kernel⟩
theorem mk__law_variable {P : Program} {w : World} {K : PySem.W.Frag} {mg : Str → Option Value} {base : Heap} (T : Txt K mg) (ok__law_has : DefOk P w K mg base 1 "_law_has" ["_law_text_here", "_law_signs"] M__law_has) : DefOk P w K mg base 2 "_law_variable" ["_law_thing_here"] M__law_variable :=
  def_run T.d__law_variable sc__law_variable (fun _ _ _ _ _ _ us hl => match us, hl with | [_], _ => rfl) fun f cdv A outer s H E hr => by
    have nd : (["_law_thing_here", "_law_great"] : List Str).Nodup := sc__law_variable.nd
    have hu := hu_of hr
    exact (psd_cons (psd_set 1 nd pd_str)
    (psd_cons (psd_if (PDW.pdt (pdw_or (pdt_not (pdt_val (pd_is "str" T.t_str T.m_isinstance T.m_str boot_str (pd_var 0)))) (pdw_or (pdt_not (pdt_chain od_leD od_leD pd_int (pd_callB cd_len T.m_len boot_len (pad_cons (pd_var 0) pad_nil)) pd_int)) (pdw_or1 (pdt_cmp od_notin (pd_ix (pd_var 0) pd_int) (pd_var 1)))))) (psd_cons (psd_ret pd_bl)
    psd_nil) psd_nil)
    (psd_cons (psd_ret (pd_call ok__law_has (hr.mono (by decide)) (pad_cons (pd_var 0) (pad_cons (pd_op od_add pd_str (pd_var 1)) pad_nil))))
    psd_nil)))

theorem sc__law_truths : FnScope ["_law_some", "_law_one"] ["_law_some"] (defScope (top 22)) := ⟨rfl, rfl, rfl, by decide +kernel, rfl, by decide +kernel, by decide +kernel⟩
theorem mk__law_truths {P : Program} {w : World} {K : PySem.W.Frag} {mg : Str → Option Value} {base : Heap} (T : Txt K mg)  : DefOk P w K mg base 1 "_law_truths" ["_law_some"] M__law_truths :=
  def_run T.d__law_truths sc__law_truths (fun _ _ _ _ _ _ us hl => match us, hl with | [_], _ => rfl) fun f cdv A outer s H E hr => by
    have nd : (["_law_some", "_law_one"] : List Str).Nodup := sc__law_truths.nd
    have hu := hu_of hr
    exact (psd_cons (psd_for 1 nd rfl PassesOwn.never (pid_seq (pd_var 0)) (psd_cons (psd_if (pdt_not (pdt_val (pd_is "bool" T.t_bool T.m_isinstance T.m_bool boot_bool (pd_var 1)))) (psd_cons (psd_ret pd_bl)
    psd_nil) psd_nil)
    psd_nil))
    (psd_cons (psd_ret pd_bl)
    psd_nil))

theorem sc__law_told : FnScope ["_law_thing_here", "_law_found", "_law_due"] ["_law_thing_here"] (defScope (top 21)) := ⟨rfl, rfl, rfl, by decide +kernel, rfl, by decide +kernel, by decide +kernel⟩
theorem mk__law_told {P : Program} {w : World} {K : PySem.W.Frag} {mg : Str → Option Value} {base : Heap} (T : Txt K mg) (ok__law_constant : DefOk P w K mg base 3 "_law_constant" ["_law_thing_here"] M__law_constant) (ok__law_named : DefOk P w K mg base 2 "_law_named" ["_law_thing_here"] M__law_named) (ok__law_truths : DefOk P w K mg base 1 "_law_truths" ["_law_some"] M__law_truths) (ok__law_variable : DefOk P w K mg base 2 "_law_variable" ["_law_thing_here"] M__law_variable) (ok_is_constant : DefOk P w K mg base 3 "is_constant" ["thing"] M_is_constant) (ok_is_name : DefOk P w K mg base 2 "is_name" ["thing"] M_is_name) (ok_is_variable : DefOk P w K mg base 2 "is_variable" ["thing"] M_is_variable) : DefOk P w K mg base 4 "_law_told" ["_law_thing_here"] M__law_told :=
  def_run T.d__law_told sc__law_told (fun _ _ _ _ _ _ us hl => match us, hl with | [_], _ => rfl) fun f cdv A outer s H E hr => by
    have nd : (["_law_thing_here", "_law_found", "_law_due"] : List Str).Nodup := sc__law_told.nd
    have hu := hu_of hr
    exact (psd_cons (psd_set 1 nd (pd_lst (pad_cons (pd_call ok_is_name (hr.mono (by decide)) (pad_cons (pd_var 0) pad_nil)) (pad_cons (pd_call ok_is_constant (hr.mono (by decide)) (pad_cons (pd_var 0) pad_nil)) (pad_cons (pd_call ok_is_variable (hr.mono (by decide)) (pad_cons (pd_var 0) pad_nil)) pad_nil)))))
    (psd_cons (psd_set 2 nd (pd_lst (pad_cons (pd_call ok__law_named (hr.mono (by decide)) (pad_cons (pd_var 0) pad_nil)) (pad_cons (pd_call ok__law_constant (hr.mono (by decide)) (pad_cons (pd_var 0) pad_nil)) (pad_cons (pd_call ok__law_variable (hr.mono (by decide)) (pad_cons (pd_var 0) pad_nil)) pad_nil)))))
    (psd_cons (psd_ret (pd_and (pd_cmp (od_eq hu) (pd_var 1) (pd_var 2)) (pd_one (pd_call ok__law_truths (hr.mono (by decide)) (pad_cons (pd_var 1) pad_nil)))))
    psd_nil)))

theorem sc__law_fact : FnScope ["_law_cells", "_law_cell_here", "_law_places", "_law_head", "_law_shape"] ["_law_cells", "_law_cell_here"] (defScope (top 23)) := ⟨rfl, rfl, rfl, by decide +kernel, rfl, by decide +kernel, by decide +kernel⟩
theorem mk__law_fact {P : Program} {w : World} {K : PySem.W.Frag} {mg : Str → Option Value} {base : Heap} (T : Txt K mg) (ok__law_thing : DefOk P w K mg base 2 "_law_thing" ["_law_cell_here"] M__law_thing) : DefOk P w K mg base 3 "_law_fact" ["_law_cells", "_law_cell_here"] M__law_fact :=
  def_run T.d__law_fact sc__law_fact (fun _ _ _ _ _ _ us hl => match us, hl with | [_, _], _ => rfl) fun f cdv A outer s H E hr => by
    have nd : (["_law_cells", "_law_cell_here", "_law_places", "_law_head", "_law_shape"] : List Str).Nodup := sc__law_fact.nd
    have hu := hu_of hr
    exact (psd_cons (psd_set 2 nd (pd_callTy cd_tuple T.m_tuple boot_tuple (pad_cons (pd_comp' (N := ["_law_one"]) (i := 0) rfl (compOk0 rfl (by decide +kernel) (by decide +kernel) rfl) (pid_seq (pd_sl (pd_var 0) pod_none (pod_some (pd_op od_mod (pd_var 1) pd_int)))) (by decide) (by decide) rfl rfl (fun _ _ _ _ => pifd_nil) (fun _ _ _ _ => (pd_call ok__law_thing (hr.mono (by decide)) (pad_cons (pd_var 0) pad_nil)))) pad_nil)))
    (psd_cons (psd_set 3 nd (pd_ix (pd_lst (pad_cons pd_str (pad_cons (pd_call ok__law_thing (hr.mono (by decide)) (pad_cons (pd_op od_fdiv (pd_var 1) pd_int) pad_nil)) pad_nil))) (pd_op od_fdiv (pd_op od_mod (pd_op od_fdiv (pd_var 1) pd_int) pd_int) pd_int)))
    (psd_cons (psd_set 4 nd (pd_op od_mod (pd_op od_fdiv (pd_var 1) pd_int) pd_int))
    (psd_cons (psd_if (pdt_cmp (od_eq hu) (pd_var 4) pd_int) (psd_cons (psd_ret (pd_tup (pad_cons (pd_var 3) (pad_cons (pd_callTy cd_list T.m_list boot_list (pad_cons (pd_var 2) pad_nil)) pad_nil))))
    psd_nil) psd_nil)
    (psd_cons (psd_if (pdt_cmp (od_eq hu) (pd_var 4) pd_int) (psd_cons (psd_ret (pd_tup (pad_cons (pd_var 3) (pad_cons (pd_var 2) (pad_cons (pd_tup pad_nil) pad_nil)))))
    psd_nil) psd_nil)
    (psd_cons (psd_if (pdt_cmp (od_eq hu) (pd_var 4) pd_int) (psd_cons (psd_ret (pd_ix (pd_lst (pad_cons (pd_tup (pad_cons (pd_var 3) pad_nil)) (pad_cons (pd_lst (pad_cons (pd_var 3) (pad_cons (pd_var 2) pad_nil))) (pad_cons (pd_var 3) pad_nil)))) (pd_op od_mod (pd_op od_fdiv (pd_var 1) pd_int) pd_int)))
    psd_nil) psd_nil)
    (psd_cons (psd_ret (pd_tup (pad_cons (pd_var 3) (pad_cons (pd_var 2) pad_nil))))
    psd_nil)))))))

theorem sc__law_is_fact : FnScope ["_law_thing_here", "_law_place"] ["_law_thing_here"] (defScope (top 24)) := ⟨rfl, rfl, rfl, by decide +kernel, rfl, by decide +kernel, by decide +kernel⟩
theorem mk__law_is_fact {P : Program} {w : World} {K : PySem.W.Frag} {mg : Str → Option Value} {base : Heap} (T : Txt K mg) (ok__law_constant : DefOk P w K mg base 3 "_law_constant" ["_law_thing_here"] M__law_constant) (ok__law_named : DefOk P w K mg base 2 "_law_named" ["_law_thing_here"] M__law_named) : DefOk P w K mg base 4 "_law_is_fact" ["_law_thing_here"] M__law_is_fact :=
  def_run T.d__law_is_fact sc__law_is_fact (fun _ _ _ _ _ _ us hl => match us, hl with | [_], _ => rfl) fun f cdv A outer s H E hr => by
    have nd : (["_law_thing_here", "_law_place"] : List Str).Nodup := sc__law_is_fact.nd
    have hu := hu_of hr
    exact (psd_cons (psd_if (PDW.pdt (pdw_or (pdt_not (pdt_val (pd_is "tuple" T.t_tuple T.m_isinstance T.m_tuple boot_tuple (pd_var 0)))) (pdw_or (pdt_cmp (od_ne hu) (pd_callB cd_len T.m_len boot_len (pad_cons (pd_var 0) pad_nil)) pd_int) (pdw_or1 (pdt_not (pdt_val (pd_is "tuple" T.t_tuple T.m_isinstance T.m_tuple boot_tuple (pd_ix (pd_var 0) pd_int)))))))) (psd_cons (psd_ret pd_bl)
    psd_nil) psd_nil)
    (psd_cons (psd_for 1 nd rfl PassesOwn.never (pid_seq (pd_ix (pd_var 0) pd_int)) (psd_cons (psd_if (pdt_not (pdt_val (pd_call ok__law_constant (hr.mono (by decide)) (pad_cons (pd_var 1) pad_nil)))) (psd_cons (psd_ret pd_bl)
    psd_nil) psd_nil)
    psd_nil))
    (psd_cons (psd_ret (pd_and (pd_call ok__law_named (hr.mono (by decide)) (pad_cons (pd_ix (pd_var 0) pd_int) pad_nil)) (pd_one (pd_cmp od_leD (pd_callB cd_len T.m_len boot_len (pad_cons (pd_ix (pd_var 0) pd_int) pad_nil)) pd_int))))
    psd_nil)))

theorem sc_law : FnScope ["_law_script", "_law_cells", "_law_cell_here", "_law_k", "_law_thing_here", "_law_turn", "_law_found", "_law_small"] ["_law_script"] (defScope (top 25)) := ⟨rfl, rfl, rfl, by decide +kernel, rfl, by decide +kernel, by decide +kernel⟩
theorem mk_law {P : Program} {w : World} {K : PySem.W.Frag} {mg : Str → Option Value} {base : Heap} (T : Txt K mg) {f : Addr} {fd : FuncData} (F : Fun K "law" "law" (top 25) f fd) (ok__law_fact : DefOk P w K mg base 3 "_law_fact" ["_law_cells", "_law_cell_here"] M__law_fact) (ok__law_is_fact : DefOk P w K mg base 4 "_law_is_fact" ["_law_thing_here"] M__law_is_fact) (ok__law_named : DefOk P w K mg base 2 "_law_named" ["_law_thing_here"] M__law_named) (ok__law_text : DefOk P w K mg base 1 "_law_text" ["_law_cell_here"] M__law_text) (ok__law_thing : DefOk P w K mg base 2 "_law_thing" ["_law_cell_here"] M__law_thing) (ok__law_told : DefOk P w K mg base 4 "_law_told" ["_law_thing_here"] M__law_told) (ok_is_fact : DefOk P w K mg base 4 "is_fact" ["thing"] M_is_fact) : FnOk P w K mg base CX0 5 f fd ["_law_script"] (spD K M_law) :=
  def_runF F sc_law fun f cdv A outer s H E hr => by
    have nd : (["_law_script", "_law_cells", "_law_cell_here", "_law_k", "_law_thing_here", "_law_turn", "_law_found", "_law_small"] : List Str).Nodup := sc_law.nd
    have hu := hu_of hr
    exact (psd_cons (psd_set 1 nd (pd_sl (pd_var 0) pod_none (pod_some pd_int)))
    (psd_cons (psd_for 2 nd rfl PassesOwn.never (pid_seq (pd_op od_add (pd_var 1) (pd_lst (pad_cons pd_int (pad_cons pd_int pad_nil))))) (psd_cons (psd_if (pdt_not (pdt_val (pd_call ok__law_told (hr.mono (by decide)) (pad_cons (pd_call ok__law_thing (hr.mono (by decide)) (pad_cons (pd_var 2) pad_nil)) pad_nil)))) (psd_cons (psd_ret pd_bl)
    psd_nil) psd_nil)
    psd_nil))
    (psd_cons (psd_for 3 nd rfl PassesOwn.never (pid_range T.m_range (pd_callB cd_len T.m_len boot_len (pad_cons (pd_var 1) pad_nil))) (psd_cons (psd_set 4 nd (pd_call ok__law_fact (hr.mono (by decide)) (pad_cons (pd_op od_add (pd_sl (pd_var 1) (pod_some (pd_op od_add (pd_var 3) pd_int)) pod_none) (pd_sl (pd_var 1) pod_none (pod_some (pd_var 3)))) (pad_cons (pd_ix (pd_var 1) (pd_var 3)) pad_nil))))
    (psd_cons (psd_for 5 nd rfl PassesOwn.never (pid_range T.m_range pd_int) (psd_cons (psd_set 6 nd (pd_call ok_is_fact (hr.mono (by decide)) (pad_cons (pd_var 4) pad_nil)))
    (psd_cons (psd_if (PDW.pdt (pdw_or (pdt_not (pdt_val (pd_is "bool" T.t_bool T.m_isinstance T.m_bool boot_bool (pd_var 6)))) (pdw_or1 (pdt_cmp (od_ne hu) (pd_var 6) (pd_call ok__law_is_fact (hr.mono (by decide)) (pad_cons (pd_var 4) pad_nil)))))) (psd_cons (psd_ret pd_bl)
    psd_nil) psd_nil)
    psd_nil)))
    psd_nil)))
    (psd_cons (psd_set 7 nd (pd_tup (pad_cons pd_str (pad_cons (pd_callTy cd_tuple T.m_tuple boot_tuple (pad_cons (pd_sl (pd_comp' (N := ["_law_one"]) (i := 0) rfl (compOk0 rfl (by decide +kernel) (by decide +kernel) rfl) (pid_seq (pd_comp' (N := ["_law_cell_here"]) (i := 0) rfl (compOk0 rfl (by decide +kernel) (by decide +kernel) rfl) (pid_seq (pd_var 1)) (by decide) (by decide) rfl rfl (fun _ _ _ _ => pifd_nil) (fun _ _ _ _ => (pd_call ok__law_text (hr.mono (by decide)) (pad_cons (pd_var 0) pad_nil))))) (by decide) (by decide) rfl rfl (fun _ _ _ _ => pifd_one (pdt_val (pd_call ok__law_named (hr.mono (by decide)) (pad_cons (pd_var 0) pad_nil)))) (fun _ _ _ _ => (pd_var 0))) pod_none (pod_some pd_int)) pad_nil)) pad_nil))))
    (psd_cons (psd_ret (pd_and (pd_cmp od_is (pd_call ok_is_fact (hr.mono (by decide)) (pad_cons (pd_var 7) pad_nil)) pd_bl) (pd_and (pd_cmp od_is (pd_call ok_is_fact (hr.mono (by decide)) (pad_cons (pd_tup (pad_cons pd_str (pad_cons (pd_tup pad_nil) pad_nil))) pad_nil)) pd_bl) (pd_one (pd_cmp od_is (pd_call ok_is_fact (hr.mono (by decide)) (pad_cons pd_str pad_nil)) pd_bl)))))
    psd_nil)))))

end K01

-- part K01m
set_option Elab.async false
set_option linter.all false
set_option maxRecDepth 100000
set_option maxHeartbeats 4000000
namespace K01
open PySem PySem.Spec PyProof.Rows L2

theorem atI_mem {α : Type} (xs : List α) (i : Int) (h0 : 0 ≤ i) (h1 : i < xs.length) : ∃ d ∈ xs, atI xs i = some d := by
  obtain ⟨n, rfl⟩ : ∃ n : Nat, i = n := ⟨i.toNat, by omega⟩
  have hi : n < xs.length := by omega
  exact ⟨xs[n], List.getElem_mem hi, atI_nat (by simp [hi])⟩

/-! signs -/
def smallC (c : Nat) : Bool := decide (97 ≤ c) && decide (c ≤ 122)
def bigC (c : Nat) : Bool := decide (65 ≤ c) && decide (c ≤ 90)
def figC (c : Nat) : Bool := decide (48 ≤ c) && decide (c ≤ 57)
theorem one_lt (a b : Nat) : decide ([a] < [b]) = decide (a < b) := by
  by_cases h : a < b
  · rw [decide_eq_true h, decide_eq_true]
    exact List.Lex.rel h
  · rw [decide_eq_false h, decide_eq_false]
    intro z
    cases z with
    | rel q => exact h q
    | cons q => cases q
theorem leC (a : Str) (x c : Nat) (ha : a.cps.toList = [x]) : leD (.str a) (.str ⟨#[c]⟩) = some (.bl (decide (x ≤ c))) := by
  show some (D.bl (!decide ((⟨#[c]⟩ : Str).cps.toList < a.cps.toList))) = _
  rw [ha]
  show some (D.bl (!decide ([c] < [x]))) = _
  rw [one_lt]
  by_cases h : c < x
  · simp [h, Nat.not_le.mpr h]
  · simp [h, Nat.not_lt.mp h]
theorem leC' (a : Str) (x c : Nat) (ha : a.cps.toList = [x]) : leD (.str ⟨#[c]⟩) (.str a) = some (.bl (decide (c ≤ x))) := by
  show some (D.bl (!decide (a.cps.toList < (⟨#[c]⟩ : Str).cps.toList))) = _
  rw [ha]
  show some (D.bl (!decide ([x] < [c]))) = _
  rw [one_lt]
  by_cases h : x < c
  · simp [h, Nat.not_le.mpr h]
  · simp [h, Nat.not_lt.mp h]
theorem chain_c (a b : Str) (x y c : Nat) (ha : a.cps.toList = [x]) (hb : b.cps.toList = [y]) (δ : En) (f : FE) (hf : f δ = some (.str ⟨#[c]⟩)) :
    f3 leD leD (fC (.str a)) f (fC (.str b)) δ = some (.bl (decide (x ≤ c) && decide (c ≤ y))) := by
  simp only [f3, fC, hf, Option.bind_some, leC a x c ha]
  cases decide (x ≤ c) with
  | false => rfl
  | true => simp only [leC' b y c hb, Bool.true_and]
theorem run1 {x : Str} {f : FE} {d : D} : runF [x] 1 (sSeq (sRet f) sNil) [d] = f [some (.sh d)] := by
  simp [runF, startD]
  cases f [some (.sh d)] <;> rfl
theorem e_small (c : Nat) : M_is_small [.str ⟨#[c]⟩] = some (.bl (smallC c)) := run1.trans (chain_c _ _ 97 122 c (by decide +kernel) (by decide +kernel) _ _ rfl)
theorem e_big (c : Nat) : M_is_big [.str ⟨#[c]⟩] = some (.bl (bigC c)) := run1.trans (chain_c _ _ 65 90 c (by decide +kernel) (by decide +kernel) _ _ rfl)
theorem e_fig (c : Nat) : M_is_figure [.str ⟨#[c]⟩] = some (.bl (figC c)) := run1.trans (chain_c _ _ 48 57 c (by decide +kernel) (by decide +kernel) _ _ rfl)

/-! texts -/
theorem sl_big {n : Nat} (h : n ≤ 1000) : n ≤ sizeLine := by rw [sizeLine_eq]; omega
def okL : D → Prop
  | .str z => z.length ≤ 100
  | _ => True
def shortB (z : Str) : Bool := decide ((1 : Int) ≤ z.length) && decide ((z.length : Int) ≤ 8)
theorem len_str {z : Str} (h : z.length ≤ 100) : lenD [.str z] = some (.int z.length) := by
  show (if z.length ≤ sizeLine then some (D.int z.length) else none) = _
  rw [if_pos (sl_big (by omega))]
theorem le_int (i j : Int) : leD (.int i) (.int j) = some (.bl (decide (i ≤ j))) := rfl
theorem len_chain {z : Str} {δ : En} {f : FE} (h : z.length ≤ 100) (hf : f δ = some (.str z)) : f3 leD leD (fC (.int 1)) (fCall lenD (fCons f fNil)) (fC (.int 8)) δ = some (.bl (shortB z)) := by
  simp only [f3, fC, fCall, fCons, fNil, hf, Option.bind_some, len_str h, le_int, shortB]
  cases decide ((1 : Int) ≤ z.length) with
  | false => rfl
  | true => rfl
def wholeB : D → Bool | .int _ => true | _ => false
theorem e_whole (d : D) : M_is_whole [d] = some (.bl (wholeB d)) := by cases d <;> rfl
theorem e_short {d : D} (h : okL d) : M_is_short_text [d] = some (.bl (match d with | .str z => shortB z | _ => false)) := by
  cases d with
  | str z => exact run1.trans (len_chain h rfl)
  | _ => rfl
theorem compL_map {α : Type} {g : D → Option D} {k : α → D} {h : α → D} : ∀ {xs : List α}, (∀ x ∈ xs, g (k x) = some (h x)) → compL (fun _ => some true) g (xs.map k) = some (xs.map h)
  | [], _ => rfl
  | x :: xs, hg => by
    rw [List.map_cons]
    unfold compL
    rw [hg x List.mem_cons_self, compL_map fun y hy => hg y (List.mem_cons_of_mem _ hy)]
    rfl
theorem all_map {α : Type} (p : α → Bool) (xs : List α) : allD [.lst (xs.map fun x => .bl (p x))] = some (.bl (xs.all p)) := by
  show (bools (xs.map fun x => D.bl (p x))).map (fun bs => D.bl (bs.all id)) = _
  rw [bools_map, Option.map_some, List.all_map]
  rfl
theorem comp_signs {z : Str} {g f : FE} {p : Nat → Bool} {δ : En} (h : z.length ≤ 100) (hf : f δ = some (.str z)) (hg : ∀ c : Nat, g [some (.sh (.str ⟨#[c]⟩))] = some (.bl (p c))) :
    fCall allD (fCons (fComp 1 [] 0 (oSeq f) bYes g) fNil) δ = some (.bl (z.cps.toList.all p)) := by
  have hl : (L2.signs z).length ≤ sizeLine := by
    unfold L2.signs
    rw [List.length_map, Array.length_toList]
    exact sl_big (by have : z.cps.size = z.length := rfl; omega)
  have e : fComp 1 [] 0 (oSeq f) bYes g δ = some (.lst (z.cps.toList.map fun c => .bl (p c))) := by
    simp only [fComp, oSeq, hf, Option.bind_some, if_pos hl, bYes]
    unfold L2.signs
    rw [compL_map (h := fun c => .bl (p c)) fun c _ => by simpa [csD] using hg c]
    rfl
  simp only [fCall, fCons, fNil, e, Option.bind_some, all_map]
def wordsV : List V := [.str "not", .str "if", .str "under", .str "unlike", .str "sum", .str "least", .str "count"]
def nameB : D → Bool
  | .str z => shortB z && (!inV (.str z) wordsV) && z.cps.toList.all smallC
  | _ => false
theorem in_words (z : Str) : inD false (.str z) g_WORDS = some (.bl (inV (.str z) wordsV)) := rfl
theorem e_name {d : D} (h : okL d) : M_is_name [d] = some (.bl (nameB d)) := by
  cases d with
  | str z =>
    have hz : z.length ≤ 100 := h
    have e1 := e_short (d := .str z) h
    have e2 := in_words z
    have e3 := comp_signs (δ := [some (.sh (.str z))]) (f := fVar 0) (g := fCall M_is_small (fCons (fVar 0) fNil)) (p := smallC) hz rfl (fun c => by simpa using e_small c)
    have et : bOr (bNot (fB (fCall M_is_short_text (fCons (fVar 0) fNil)))) (fB (f2 (inD false) (fVar 0) (fC g_WORDS))) [some (.sh (.str z))] = some (!shortB z || inV (.str z) wordsV) := by
      simp [e1, e2]
      cases shortB z <;> rfl
    cases hb : (!shortB z || inV (.str z) wordsV) with
    | true =>
      rw [hb] at et
      have : nameB (.str z) = false := by
        unfold nameB
        cases hs : shortB z <;> rw [hs] at hb <;> simp_all
      rw [this]
      exact ev_run rfl (ev_seqR (ev_guT et rfl))
    | false =>
      rw [hb] at et
      have : nameB (.str z) = z.cps.toList.all smallC := by
        unfold nameB
        cases hs : shortB z <;> rw [hs] at hb <;> simp_all
      rw [this]
      exact ev_run rfl (ev_seqN (ev_guF et) (ev_seqR (ev_ret e3)))
  | _ => rfl

def constB (d : D) : Bool := wholeB d || nameB d
theorem e_const {d : D} (h : okL d) : M_is_constant [d] = some (.bl (constB d)) := by
  refine run1.trans ?_
  have e1 := e_whole d
  have e2 := e_name h
  simp only [fOr, fCall, fCons, fNil, fVar, List.getElem?_cons_zero, Option.bind_some, e1, e2, constB]
  cases wholeB d <;> rfl
def headB (z : Str) : Bool := match z.cps.toList with | [] => false | c :: _ => bigC c
def varB : D → Bool
  | .str z => shortB z && headB z && z.cps.toList.all fun c => smallC c || (bigC c || figC c)
  | _ => false
theorem short_pos {z : Str} (h : shortB z = true) : ∃ c cs, z.cps.toList = c :: cs := by
  cases e : z.cps.toList with
  | nil =>
    have : z.length = 0 := by
      have h1 : z.cps.toList.length = 0 := by rw [e]; rfl
      rw [Array.length_toList] at h1
      exact h1
    unfold shortB at h
    rw [this] at h
    exact absurd h (by decide)
  | cons c cs => exact ⟨c, cs, rfl⟩
theorem ix_zero {z : Str} {c : Nat} {cs : List Nat} (h : z.length ≤ 100) (e : z.cps.toList = c :: cs) : ixD (.str z) (.int 0) = some (.str ⟨#[c]⟩) := by
  show (if z.length ≤ sizeLine then (atI z.cps.toList 0).map (fun c => D.str ⟨#[c]⟩) else none) = _
  rw [if_pos (sl_big (by omega)), e]
  have : atI (c :: cs) ((0 : Nat) : Int) = some c := atI_nat rfl
  have : atI (c :: cs) 0 = some c := this
  rw [this]
  rfl
theorem nameB_eq (z : Str) : nameB (.str z) = (shortB z && (!inV (.str z) wordsV) && z.cps.toList.all smallC) := rfl
theorem varB_eq (z : Str) : varB (.str z) = (shortB z && headB z && z.cps.toList.all fun c => smallC c || (bigC c || figC c)) := rfl
theorem e_var {d : D} (h : okL d) : M_is_variable [d] = some (.bl (varB d)) := by
  cases d with
  | str z =>
    have hz : z.length ≤ 100 := h
    have e1 := e_short (d := .str z) h
    have e3 := comp_signs (δ := [some (.sh (.str z))]) (f := fVar 0) (g := fOr (fCall M_is_small (fCons (fVar 0) fNil)) (fOr (fCall M_is_big (fCons (fVar 0) fNil)) (fCall M_is_figure (fCons (fVar 0) fNil)))) (p := fun c => smallC c || (bigC c || figC c)) hz rfl (fun c => by
      simp only [fOr, fCall, fCons, fNil, fVar, List.getElem?_cons_zero, Option.bind_some, e_small, e_big, e_fig]
      cases smallC c <;> cases bigC c <;> rfl)
    have et : bOr (bNot (fB (fCall M_is_short_text (fCons (fVar 0) fNil)))) (bNot (fB (fCall M_is_big (fCons (f2 ixD (fVar 0) (fC (.int 0))) fNil)))) [some (.sh (.str z))] = some (!(shortB z && headB z)) := by
      simp only [bOr, bNot, fB, fCall, fCons, fNil, fVar, f2, fC, List.getElem?_cons_zero, Option.bind_some, e1, Option.map_some]
      cases hs : shortB z with
      | false => rfl
      | true =>
        obtain ⟨c, cs, ec⟩ := short_pos hs
        simp [ix_zero hz ec, e_big, headB, ec]
    cases hb : (shortB z && headB z) with
    | false =>
      rw [hb] at et
      have : varB (.str z) = false := by rw [varB_eq, hb]; rfl
      rw [this]
      exact ev_run rfl (ev_seqR (ev_guT et rfl))
    | true =>
      rw [hb] at et
      have : varB (.str z) = z.cps.toList.all fun c => smallC c || (bigC c || figC c) := by rw [varB_eq, hb]; rfl
      rw [this]
      exact ev_run rfl (ev_seqN (ev_guF et) (ev_seqR (ev_ret e3)))
  | _ => rfl
/-! the law's own reading -/
def sgn : D → Nat | .str w => w.cps.getD 0 0 | _ => 0
theorem notin_one (c : Nat) (s : Str) : inD true (.str ⟨#[c]⟩) (.str s) = some (.bl (!decide (c ∈ s.cps.toList))) := by
  show some (D.bl (!(!(Builtin.Str.occurrences s ⟨#[c]⟩ 0 s.length 1).isEmpty))) = _
  rw [PySem.StrLaws.found_one]
theorem all_signs (z : Str) (p : Nat → Bool) : (L2.signs z).all (fun x => p (sgn x)) = z.cps.toList.all p := by
  unfold L2.signs
  rw [List.all_map]
  rfl
theorem e_has (z s : Str) : M__law_has [.str z, .str s] = some (.bl (z.cps.toList.all fun c => decide (c ∈ s.cps.toList))) := by
  have key := forL_test (i := 2) (F := sSeq (sIf (fB (f2 (inD true) (fVar 2) (fVar 1))) (sSeq (sRet (fC (.bl false))) sNil) sNil) sNil) (fun δ => ∃ y, δ = [some (.sh (.str z)), some (.sh (.str s)), y]) (fun x => decide (sgn x ∈ s.cps.toList)) (.bl false) (L2.signs z)
    [some (.sh (.str z)), some (.sh (.str s)), none] ⟨_, rfl⟩ (by
      rintro x hx δ ⟨y, rfl⟩
      unfold L2.signs at hx
      obtain ⟨c, _, rfl⟩ := List.mem_map.mp hx
      have et : fB (f2 (inD true) (fVar 2) (fVar 1)) [some (.sh (.str z)), some (.sh (.str s)), some (.sh (.str ⟨#[c]⟩))] = some (!decide (c ∈ s.cps.toList)) := by
        simp [notin_one]
      refine ⟨fun h => ?_, fun h => ?_⟩
      · have h : decide (c ∈ s.cps.toList) = true := h
        rw [h] at et
        exact ⟨_, ev_seqN (ev_guF et) ev_nil, _, rfl⟩
      · have h : decide (c ∈ s.cps.toList) = false := h
        rw [h] at et
        exact ev_seqR (ev_guT et rfl))
  rw [← all_signs z fun c => decide (c ∈ s.cps.toList)]
  cases hb : (L2.signs z).all fun x => decide (sgn x ∈ s.cps.toList) with
  | true =>
    obtain ⟨δ', e, _⟩ := key.1 hb
    exact ev_run rfl (ev_seqN (ev_for rfl e) (ev_seqR (ev_ret rfl)))
  | false => exact ev_run rfl (ev_seqR (ev_for rfl (key.2 hb)))
theorem az_list : ("abcdefghijklmnopqrstuvwxyz" : Str).cps.toList = List.range' 97 26 := by decide +kernel
theorem AZ_list : ("ABCDEFGHIJKLMNOPQRSTUVWXYZ" : Str).cps.toList = List.range' 65 26 := by decide +kernel
theorem a9_list : ("abcdefghijklmnopqrstuvwxyz0123456789" : Str).cps.toList = List.range' 97 26 ++ List.range' 48 10 := by decide +kernel
theorem mem_az (c : Nat) : decide (c ∈ ("abcdefghijklmnopqrstuvwxyz" : Str).cps.toList) = smallC c := by
  rw [az_list]
  unfold smallC
  rw [← Bool.decide_and]
  exact decide_eq_decide.mpr (by rw [List.mem_range'_1]; omega)
theorem mem_AZ (c : Nat) : decide (c ∈ ("ABCDEFGHIJKLMNOPQRSTUVWXYZ" : Str).cps.toList) = bigC c := by
  rw [AZ_list]
  unfold bigC
  rw [← Bool.decide_and]
  exact decide_eq_decide.mpr (by rw [List.mem_range'_1]; omega)
theorem e_named {d : D} (h : okL d) : M__law_named [d] = some (.bl (nameB d)) := by
  cases d with
  | str z =>
    have hz : z.length ≤ 100 := h
    have e0 := len_chain (δ := [some (.sh (.str z))]) (f := fVar 0) hz rfl
    have et : bOr (bNot (fB (fIs "str" (fVar 0)))) (bNot (fB (f3 leD leD (fC (.int 1)) (fCall lenD (fCons (fVar 0) fNil)) (fC (.int 8))))) [some (.sh (.str z))] = some (!shortB z) := by
      simp only [bOr, bNot, fB, e0]
      rfl
    have e2 : fB (f2 (inD false) (fVar 0) (fTup (fCons (fC (.str "not")) (fCons (fC (.str "if")) (fCons (fC (.str "under")) (fCons (fC (.str "unlike")) (fCons (fC (.str "sum")) (fCons (fC (.str "least")) (fCons (fC (.str "count")) fNil))))))))) [some (.sh (.str z))] = some (inV (.str z) wordsV) := rfl
    have e3 := e_has z "abcdefghijklmnopqrstuvwxyz"
    simp only [mem_az] at e3
    have e3' : fCall M__law_has (fCons (fVar 0) (fCons (fC (.str "abcdefghijklmnopqrstuvwxyz")) fNil)) [some (.sh (.str z))] = some (.bl (z.cps.toList.all smallC)) := e3
    cases hs : shortB z with
    | false =>
      rw [hs] at et
      have : nameB (.str z) = false := by rw [nameB_eq, hs]; rfl
      rw [this]
      exact ev_run rfl (ev_seqR (ev_guT et rfl))
    | true =>
      rw [hs] at et
      cases hi : inV (.str z) wordsV with
      | true =>
        rw [hi] at e2
        have : nameB (.str z) = false := by rw [nameB_eq, hs, hi]; rfl
        rw [this]
        exact ev_run rfl (ev_seqN (ev_guF et) (ev_seqR (ev_guT e2 rfl)))
      | false =>
        rw [hi] at e2
        have : nameB (.str z) = z.cps.toList.all smallC := by rw [nameB_eq, hs, hi]; rfl
        rw [this]
        exact ev_run rfl (ev_seqN (ev_guF et) (ev_seqN (ev_guF e2) (ev_seqR (ev_ret e3'))))
  | _ => rfl
theorem e_lconst {d : D} (h : okL d) : M__law_constant [d] = some (.bl (constB d)) := by
  refine run1.trans ?_
  have e2 := e_named h
  have e2' : fCall M__law_named (fCons (fVar 0) fNil) [some (.sh d)] = some (.bl (nameB d)) := e2
  have e1 : fAnd (fIs "int" (fVar 0)) (fNot (fIs "bool" (fVar 0))) [some (.sh d)] = some (.bl (wholeB d)) := by cases d <;> rfl
  simp only [fOr, e1, e2', constB]
  cases wholeB d <;> rfl
theorem add_str {a b : Str} (h : a.length + b.length ≤ sizeLine) : addD (.str a) (.str b) = some (.str (a ++ b)) := by
  unfold addD sAdd iAdd
  simp only [Option.none_or, if_pos h]
  rfl
theorem e_lvar {d : D} (h : okL d) : M__law_variable [d] = some (.bl (varB d)) := by
  cases d with
  | str z =>
    have hz : z.length ≤ 100 := h
    have e0 := len_chain (δ := [some (.sh (.str z)), some (.sh (.str "ABCDEFGHIJKLMNOPQRSTUVWXYZ"))]) (f := fVar 0) hz rfl
    have et : bOr (bNot (fB (fIs "str" (fVar 0)))) (bOr (bNot (fB (f3 leD leD (fC (.int 1)) (fCall lenD (fCons (fVar 0) fNil)) (fC (.int 8))))) (fB (f2 (inD true) (f2 ixD (fVar 0) (fC (.int 0))) (fVar 1)))) [some (.sh (.str z)), some (.sh (.str "ABCDEFGHIJKLMNOPQRSTUVWXYZ"))] = some (!(shortB z && headB z)) := by
      have e1 : fIs "str" (fVar 0) [some (.sh (.str z)), some (.sh (.str "ABCDEFGHIJKLMNOPQRSTUVWXYZ"))] = some (.bl true) := rfl
      simp only [bOr, bNot, fB, e0, e1]
      cases hs : shortB z with
      | false => rfl
      | true =>
        obtain ⟨c, cs, ec⟩ := short_pos hs
        simp [ix_zero hz ec, notin_one, headB, ec]
        simpa using mem_AZ c
    have e3 : fCall M__law_has (fCons (fVar 0) (fCons (f2 addD (fC (.str "abcdefghijklmnopqrstuvwxyz0123456789")) (fVar 1)) fNil)) [some (.sh (.str z)), some (.sh (.str "ABCDEFGHIJKLMNOPQRSTUVWXYZ"))] = some (.bl (z.cps.toList.all fun c => smallC c || (bigC c || figC c))) := by
      have ea : f2 addD (fC (.str "abcdefghijklmnopqrstuvwxyz0123456789")) (fVar 1) [some (.sh (.str z)), some (.sh (.str "ABCDEFGHIJKLMNOPQRSTUVWXYZ"))] = some (.str ("abcdefghijklmnopqrstuvwxyz0123456789" ++ "ABCDEFGHIJKLMNOPQRSTUVWXYZ")) := by
        exact add_str (a := "abcdefghijklmnopqrstuvwxyz0123456789") (b := "ABCDEFGHIJKLMNOPQRSTUVWXYZ") (by decide +kernel)
      have := e_has z ("abcdefghijklmnopqrstuvwxyz0123456789" ++ "ABCDEFGHIJKLMNOPQRSTUVWXYZ")
      simp only [fCall, fCons, fNil, ea, fVar, List.getElem?_cons_zero, Option.bind_some, this]
      congr 3
      funext c
      have hl : (("abcdefghijklmnopqrstuvwxyz0123456789" ++ "ABCDEFGHIJKLMNOPQRSTUVWXYZ" : Str)).cps.toList = List.range' 97 26 ++ List.range' 48 10 ++ List.range' 65 26 := by decide +kernel
      rw [hl]
      unfold smallC bigC figC
      simp only [← Bool.decide_and, ← Bool.decide_or]
      exact decide_eq_decide.mpr (by simp only [List.mem_append, List.mem_range'_1]; omega)
    cases hb : (shortB z && headB z) with
    | false =>
      rw [hb] at et
      have : varB (.str z) = false := by rw [varB_eq, hb]; rfl
      rw [this]
      exact ev_run rfl (ev_seqN (ev_set rfl) (ev_seqR (ev_guT et rfl)))
    | true =>
      rw [hb] at et
      have : varB (.str z) = z.cps.toList.all fun c => smallC c || (bigC c || figC c) := by rw [varB_eq, hb]; rfl
      rw [this]
      exact ev_run rfl (ev_seqN (ev_set rfl) (ev_seqN (ev_guF et) (ev_seqR (ev_ret e3))))
  | _ => rfl
theorem e_told {d : D} (h : okL d) : M__law_told [d] = some (.bl true) := by
  have a1 : fLst (fCons (fCall M_is_name (fCons (fVar 0) fNil)) (fCons (fCall M_is_constant (fCons (fVar 0) fNil)) (fCons (fCall M_is_variable (fCons (fVar 0) fNil)) fNil))) [some (.sh d), none, none] = some (.lst [.bl (nameB d), .bl (constB d), .bl (varB d)]) := by
    simp only [fLst, fCall, fCons, fNil, fVar, List.getElem?_cons_zero, Option.bind_some, e_name h, e_const h, e_var h]
    rfl
  have a2 : fLst (fCons (fCall M__law_named (fCons (fVar 0) fNil)) (fCons (fCall M__law_constant (fCons (fVar 0) fNil)) (fCons (fCall M__law_variable (fCons (fVar 0) fNil)) fNil))) [some (.sh d), some (.sh (.lst [.bl (nameB d), .bl (constB d), .bl (varB d)])), none] = some (.lst [.bl (nameB d), .bl (constB d), .bl (varB d)]) := by
    simp only [fLst, fCall, fCons, fNil, fVar, List.getElem?_cons_zero, Option.bind_some, e_named h, e_lconst h, e_lvar h]
    rfl
  refine ev_run rfl (ev_seqN (ev_set a1) (ev_seqN (ev_set a2) (ev_seqR (ev_ret ?_))))
  cases nameB d <;> cases constB d <;> cases varB d <;> rfl

/-! facts -/
def factB : D → Bool
  | .tup [x, .tup ps] => nameB x && decide (ps.length ≤ 4) && ps.all constB
  | _ => false
def okT : D → Prop
  | .tup [x, .tup ps] => okL x ∧ (∀ p ∈ ps, okL p) ∧ ps.length ≤ 100
  | .tup [x, _] => okL x
  | .tup xs => xs.length ≤ 100
  | _ => True
theorem ix_at {ds : List D} {d : D} (k : Nat) (e : ds[k]? = some d) : ixD (.tup ds) (.int k) = some d := atI_nat e
theorem comp_const {ps : List D} {δ : En} {f : FE} (hl : ps.length ≤ 100) (h : ∀ p ∈ ps, okL p) (hf : f δ = some (.tup ps)) :
    fCall allD (fCons (fComp 1 [] 0 (oSeq f) bYes (fCall M_is_constant (fCons (fVar 0) fNil))) fNil) δ = some (.bl (ps.all constB)) := by
  have e : fComp 1 [] 0 (oSeq f) bYes (fCall M_is_constant (fCons (fVar 0) fNil)) δ = some (.lst (ps.map fun c => .bl (constB c))) := by
    simp only [fComp, oSeq, hf, Option.bind_some, if_pos (sl_big (show ps.length ≤ 1000 by omega)), bYes]
    rw [compL_yes (h := fun c => .bl (constB c)) fun c hc => by simpa [csD] using e_const (h c hc)]
    rfl
  simp only [fCall, fCons, fNil, e, Option.bind_some, all_map]
theorem fact_no {x y : D} (h1 : okL x) (hy : ∀ ps, y ≠ .tup ps) : M_is_fact [.tup [x, y]] = some (.bl false) := by
  have e1 : M_is_name [x] = some (.bl (nameB x)) := e_name h1
  have et : bOr (bNot (fB (fIs "tuple" (fVar 0)))) (fB (f2 neD (fCall lenD (fCons (fVar 0) fNil)) (fC (.int 2)))) [some (.sh (.tup [x, y])), none] = some false := rfl
  have es : f2 ixD (fVar 0) (fC (.int 1)) [some (.sh (.tup [x, y])), none] = some y := rfl
  have e0 : f2 ixD (fVar 0) (fC (.int 0)) [some (.sh (.tup [x, y])), some (.sh y)] = some x := rfl
  have et2 : bOr (bNot (fB (fCall M_is_name (fCons (f2 ixD (fVar 0) (fC (.int 0))) fNil)))) (bOr (bNot (fB (fIs "tuple" (fVar 1)))) (fB (f2 gtD (fCall lenD (fCons (fVar 1) fNil)) (fC g_MOST_PLACES)))) [some (.sh (.tup [x, y])), some (.sh y)] = some true := by
    have e2 : fIs "tuple" (fVar 1) [some (.sh (.tup [x, y])), some (.sh y)] = some (.bl false) := by
      cases y with
      | tup ps => exact absurd rfl (hy ps)
      | _ => rfl
    simp only [bOr, bNot, fB, fCall, fCons, fNil, e0, e1, Option.bind_some, Option.map_some, e2]
    cases nameB x <;> rfl
  exact ev_run rfl (ev_seqN (ev_guF et) (ev_seqN (ev_set es) (ev_seqR (ev_guT et2 rfl))))
theorem e_fact {t : D} (h : okT t) : M_is_fact [t] = some (.bl (factB t)) := by
  have other : ∀ t : D, (∀ xs, t ≠ .tup xs) → M_is_fact [t] = some (.bl false) := fun t ht => by
    cases t with
    | tup xs => exact absurd rfl (ht xs)
    | _ => rfl
  cases t with
  | tup xs =>
    match xs, h with
    | [], _ => rfl
    | [_], _ => rfl
    | [x, .tup ps], h =>
      obtain ⟨h1, h2, h3⟩ := h
      have e1 : M_is_name [x] = some (.bl (nameB x)) := e_name h1
      have et : bOr (bNot (fB (fIs "tuple" (fVar 0)))) (fB (f2 neD (fCall lenD (fCons (fVar 0) fNil)) (fC (.int 2)))) [some (.sh (.tup [x, .tup ps])), none] = some false := rfl
      have es : f2 ixD (fVar 0) (fC (.int 1)) [some (.sh (.tup [x, .tup ps])), none] = some (.tup ps) := rfl
      have e0 : f2 ixD (fVar 0) (fC (.int 0)) [some (.sh (.tup [x, .tup ps])), some (.sh (.tup ps))] = some x := rfl
      have et2 : bOr (bNot (fB (fCall M_is_name (fCons (f2 ixD (fVar 0) (fC (.int 0))) fNil)))) (bOr (bNot (fB (fIs "tuple" (fVar 1)))) (fB (f2 gtD (fCall lenD (fCons (fVar 1) fNil)) (fC g_MOST_PLACES)))) [some (.sh (.tup [x, .tup ps])), some (.sh (.tup ps))] = some (!(nameB x && decide (ps.length ≤ 4))) := by
        have e2 : fIs "tuple" (fVar 1) [some (.sh (.tup [x, .tup ps])), some (.sh (.tup ps))] = some (.bl true) := rfl
        have e3 : f2 gtD (fCall lenD (fCons (fVar 1) fNil)) (fC g_MOST_PLACES) [some (.sh (.tup [x, .tup ps])), some (.sh (.tup ps))] = some (.bl (decide ((4 : Int) < (ps.length : Int)))) := rfl
        simp only [bOr, bNot, fB, fCall, fCons, fNil, e0, e1, Option.bind_some, Option.map_some, e2]
        cases nameB x with
        | false => rfl
        | true =>
          have e4 : decide ((4 : Int) < (ps.length : Int)) = !decide (ps.length ≤ 4) := by
            by_cases hq : ps.length ≤ 4
            · rw [decide_eq_true hq, decide_eq_false (by omega)]; rfl
            · rw [decide_eq_false hq, decide_eq_true (by omega)]; rfl
          simp only [e3, e4]
          cases decide (ps.length ≤ 4) <;> rfl
      have e5 := comp_const (δ := [some (.sh (.tup [x, .tup ps])), some (.sh (.tup ps))]) (f := fVar 1) h3 h2 rfl
      have ef : factB (.tup [x, .tup ps]) = (nameB x && decide (ps.length ≤ 4) && ps.all constB) := rfl
      rw [ef]
      cases hb : (nameB x && decide (ps.length ≤ 4)) with
      | false =>
        rw [hb] at et2
        exact ev_run rfl (ev_seqN (ev_guF et) (ev_seqN (ev_set es) (ev_seqR (ev_guT et2 rfl))))
      | true =>
        rw [hb] at et2
        rw [Bool.true_and]
        exact ev_run rfl (ev_seqN (ev_guF et) (ev_seqN (ev_set es) (ev_seqN (ev_guF et2) (ev_seqR (ev_ret e5)))))
    | x :: y :: z :: r, h =>
      have et : bOr (bNot (fB (fIs "tuple" (fVar 0)))) (fB (f2 neD (fCall lenD (fCons (fVar 0) fNil)) (fC (.int 2)))) [some (.sh (.tup (x :: y :: z :: r))), none] = some true := by
        have e3 : f2 neD (fCall lenD (fCons (fVar 0) fNil)) (fC (.int 2)) [some (.sh (.tup (x :: y :: z :: r))), none] = some (.bl (!decide (V.int ((x :: y :: z :: r).length : Int) = V.int 2))) := rfl
        have e4 : decide (V.int ((x :: y :: z :: r).length : Int) = V.int 2) = false := decide_eq_false (by
          intro q
          have q' := V.int.inj q
          simp only [List.length_cons] at q'
          omega)
        rw [e4] at e3
        simp only [bOr, bNot, fB, e3]
        rfl
      have ef : factB (.tup (x :: y :: z :: r)) = false := by cases y <;> rfl
      rw [ef]
      exact ev_run rfl (ev_seqR (ev_guT et rfl))
    | [x, .non], h => exact fact_no h (fun ps q => nomatch q)
    | [x, .bl _], h => exact fact_no h (fun ps q => nomatch q)
    | [x, .int _], h => exact fact_no h (fun ps q => nomatch q)
    | [x, .str _], h => exact fact_no h (fun ps q => nomatch q)
    | [x, .lst _], h => exact fact_no h (fun ps q => nomatch q)
  | _ => rfl

theorem forL_const {ps : List D} {δ0 : Option Sl} {t : D} (h : ∀ p ∈ ps, okL p) :
    let F := sSeq (sIf (bNot (fB (fCall M__law_constant (fCons (fVar 1) fNil)))) (sSeq (sRet (fC (.bl false))) sNil) sNil) sNil
    (ps.all constB = true → ∃ y, forL 1 F ps [some (.sh t), δ0] = some (.nx [some (.sh t), y])) ∧ (ps.all constB = false → forL 1 F ps [some (.sh t), δ0] = some (.rt (.bl false))) := by
  intro F
  have key := forL_test (i := 1) (F := F) (fun δ => ∃ y, δ = [some (.sh t), y]) constB (.bl false) ps [some (.sh t), δ0] ⟨_, rfl⟩ (by
    rintro x hx δ ⟨y, rfl⟩
    have e1 : fCall M__law_constant (fCons (fVar 1) fNil) [some (.sh t), some (.sh x)] = some (.bl (constB x)) := e_lconst (h x hx)
    have et : bNot (fB (fCall M__law_constant (fCons (fVar 1) fNil))) [some (.sh t), some (.sh x)] = some (!constB x) := by
      simp only [bNot, fB, e1, Option.map_some]
    refine ⟨fun q => ?_, fun q => ?_⟩
    · rw [q] at et
      exact ⟨_, ev_seqN (ev_guF et) ev_nil, _, rfl⟩
    · rw [q] at et
      exact ev_seqR (ev_guT et rfl))
  refine ⟨fun q => ?_, key.2⟩
  obtain ⟨δ', e, y, rfl⟩ := key.1 q
  exact ⟨y, e⟩
theorem lfact_no {x y : D} (hy : ∀ ps, y ≠ .tup ps) : M__law_is_fact [.tup [x, y]] = some (.bl false) := by
  have e2 : fIs "tuple" (f2 ixD (fVar 0) (fC (.int 1))) [some (.sh (.tup [x, y])), none] = some (.bl false) := by
    cases y with
    | tup ps => exact absurd rfl (hy ps)
    | _ => rfl
  have et : bOr (bNot (fB (fIs "tuple" (fVar 0)))) (bOr (fB (f2 neD (fCall lenD (fCons (fVar 0) fNil)) (fC (.int 2)))) (bNot (fB (fIs "tuple" (f2 ixD (fVar 0) (fC (.int 1))))))) [some (.sh (.tup [x, y])), none] = some true := by
    simp only [bOr, bNot, fB, e2]
    rfl
  exact ev_run rfl (ev_seqR (ev_guT et rfl))
theorem e_lfact {t : D} (h : okT t) : M__law_is_fact [t] = some (.bl (factB t)) := by
  cases t with
  | tup xs =>
    match xs, h with
    | [], _ => rfl
    | [_], _ => rfl
    | [x, .tup ps], h =>
      obtain ⟨h1, h2, h3⟩ := h
      have et : bOr (bNot (fB (fIs "tuple" (fVar 0)))) (bOr (fB (f2 neD (fCall lenD (fCons (fVar 0) fNil)) (fC (.int 2)))) (bNot (fB (fIs "tuple" (f2 ixD (fVar 0) (fC (.int 1))))))) [some (.sh (.tup [x, .tup ps])), none] = some false := rfl
      have eit : oSeq (f2 ixD (fVar 0) (fC (.int 1))) [some (.sh (.tup [x, .tup ps])), none] = some ps := rfl
      have key := forL_const (ps := ps) (δ0 := none) (t := .tup [x, .tup ps]) h2
      have ef : factB (.tup [x, .tup ps]) = (nameB x && decide (ps.length ≤ 4) && ps.all constB) := rfl
      cases hc : ps.all constB with
      | false =>
        rw [ef, hc, Bool.and_false]
        exact ev_run rfl (ev_seqN (ev_guF et) (ev_seqR (ev_for eit (key.2 hc))))
      | true =>
        obtain ⟨y, ey⟩ := key.1 hc
        rw [ef, hc, Bool.and_true]
        refine ev_run rfl (ev_seqN (ev_guF et) (ev_seqN (ev_for eit ey) (ev_seqR (ev_ret ?_))))
        have e1 : fCall M__law_named (fCons (f2 ixD (fVar 0) (fC (.int 0))) fNil) [some (.sh (.tup [x, .tup ps])), y] = some (.bl (nameB x)) := e_named h1
        have e3 : f2 leD (fCall lenD (fCons (f2 ixD (fVar 0) (fC (.int 1))) fNil)) (fC (.int 4)) [some (.sh (.tup [x, .tup ps])), y] = some (.bl (decide ((ps.length : Int) ≤ 4))) := rfl
        have e4 : decide ((ps.length : Int) ≤ 4) = decide (ps.length ≤ 4) := decide_eq_decide.mpr (by omega)
        simp only [fAnd, e1, e3, e4]
        cases nameB x <;> rfl
    | x :: y :: z :: r, h =>
      have et : bOr (bNot (fB (fIs "tuple" (fVar 0)))) (bOr (fB (f2 neD (fCall lenD (fCons (fVar 0) fNil)) (fC (.int 2)))) (bNot (fB (fIs "tuple" (f2 ixD (fVar 0) (fC (.int 1))))))) [some (.sh (.tup (x :: y :: z :: r))), none] = some true := by
        have e3 : f2 neD (fCall lenD (fCons (fVar 0) fNil)) (fC (.int 2)) [some (.sh (.tup (x :: y :: z :: r))), none] = some (.bl (!decide (V.int ((x :: y :: z :: r).length : Int) = V.int 2))) := rfl
        have e4 : decide (V.int ((x :: y :: z :: r).length : Int) = V.int 2) = false := decide_eq_false (by
          intro q
          have q' := V.int.inj q
          simp only [List.length_cons] at q'
          omega)
        rw [e4] at e3
        simp only [bOr, bNot, fB, e3]
        rfl
      have ef : factB (.tup (x :: y :: z :: r)) = false := by cases y <;> rfl
      rw [ef]
      exact ev_run rfl (ev_seqR (ev_guT et rfl))
    | [x, .non], h => exact lfact_no (fun ps q => nomatch q)
    | [x, .bl _], h => exact lfact_no (fun ps q => nomatch q)
    | [x, .int _], h => exact lfact_no (fun ps q => nomatch q)
    | [x, .str _], h => exact lfact_no (fun ps q => nomatch q)
    | [x, .lst _], h => exact lfact_no (fun ps q => nomatch q)
  | _ => rfl

/-! what the script makes -/
theorem mod_int (i : Int) {j : Int} (h : 0 < j) : modD (.int i) (.int j) = some (.int (i % j)) := by
  show (if 0 < j then some (D.int (i % j)) else none) = _
  rw [if_pos h]
theorem div_int (i : Int) {j : Int} (h : 0 < j) (h2 : j < 1073741824) : fdivD (.int i) (.int j) = some (.int (i / j)) := by
  show (if CDiv i j then some (D.int (i / j)) else none) = _
  rw [if_pos ⟨h, h2⟩]
theorem ix_lst {ds : List D} {i : Int} (h0 : 0 ≤ i) (h1 : i < ds.length) : ∃ d ∈ ds, ixD (.lst ds) (.int i) = some d := atI_mem ds i h0 h1
theorem ix_sign {z : Str} {i : Int} (hz : z.length ≤ 100) (h0 : 0 ≤ i) (h1 : i < z.length) : ∃ c, ixD (.str z) (.int i) = some (.str ⟨#[c]⟩) := by
  obtain ⟨c, _, e⟩ := atI_mem z.cps.toList i h0 (by rw [Array.length_toList]; exact h1)
  refine ⟨c, ?_⟩
  show (if z.length ≤ sizeLine then (atI z.cps.toList i).map (fun c => D.str ⟨#[c]⟩) else none) = _
  rw [if_pos (sl_big (by omega)), e]
  rfl

theorem str_len_append (a b : Str) : (a ++ b).length = a.length + b.length := by
  show (a.cps ++ b.cps).size = a.cps.size + b.cps.size
  exact Array.size_append
abbrev wordsL : List D := [.str "not", .str "if", .str "under", .str "unlike", .str "sum", .str "least", .str "count"]
theorem words_ok : ∀ d ∈ wordsL, ∃ w : Str, d = .str w ∧ w.length ≤ 10 := by
  intro d hd
  simp only [wordsL, List.mem_cons, List.not_mem_nil, or_false] at hd
  rcases hd with rfl | rfl | rfl | rfl | rfl | rfl | rfl <;> exact ⟨_, rfl, by decide +kernel⟩
theorem tails_ok : ∀ d ∈ ([.str "", .str "", .str "s"] : List D), ∃ w : Str, d = .str w ∧ w.length ≤ 10 := by
  intro d hd
  simp only [List.mem_cons, List.not_mem_nil, or_false] at hd
  rcases hd with rfl | rfl | rfl <;> exact ⟨_, rfl, by decide +kernel⟩
theorem sizes_ok : ∀ d ∈ ([.int 1, .int 2, .int 3, .int 8, .int 9, .int 0, .int 4, .int 5, .int 7, .int 1] : List D), ∃ k : Nat, d = .int k ∧ k ≤ 10 := by
  intro d hd
  simp only [List.mem_cons, List.not_mem_nil, or_false] at hd
  rcases hd with rfl | rfl | rfl | rfl | rfl | rfl | rfl | rfl | rfl | rfl
  · exact ⟨1, rfl, by decide⟩
  · exact ⟨2, rfl, by decide⟩
  · exact ⟨3, rfl, by decide⟩
  · exact ⟨8, rfl, by decide⟩
  · exact ⟨9, rfl, by decide⟩
  · exact ⟨0, rfl, by decide⟩
  · exact ⟨4, rfl, by decide⟩
  · exact ⟨5, rfl, by decide⟩
  · exact ⟨7, rfl, by decide⟩
  · exact ⟨1, rfl, by decide⟩
theorem shapes_ok : ∀ d ∈ ([.str "abmyz", .str "AZabz09", .str "abyzABYZ0189_ -"] : List D), ∃ w : Str, d = .str w ∧ 1 ≤ w.length ∧ w.length ≤ 20 := by
  intro d hd
  simp only [List.mem_cons, List.not_mem_nil, or_false] at hd
  rcases hd with rfl | rfl | rfl <;> exact ⟨_, rfl, by decide +kernel, by decide +kernel⟩
theorem eq_int (i j : Int) : eqD (.int i) (.int j) = some (.bl (decide (i = j))) := by
  show (some (D.bl (decide (V.int i = V.int j)))).or _ = _
  have : decide (V.int i = V.int j) = decide (i = j) := decide_eq_decide.mpr ⟨V.int.inj, fun h => by rw [h]⟩
  rw [this]
  rfl
theorem rng_ok {f : FE} {δ : En} {k : Nat} (hf : f δ = some (.int k)) (hk : k ≤ 1000) : oRng f δ = some (rngD 0 k) := by
  simp only [oRng, hf]
  rw [if_pos ⟨by omega, by omega⟩, Int.toNat_natCast]
theorem e_text (n : Int) : ∃ z : Str, M__law_text [.int n] = some (.str z) ∧ z.length ≤ 100 := by
  have t1 : fB (f2 eqD (f2 modD (fVar 0) (fC (.int 12))) (fC (.int 11))) [some (.sh (.int n)), some (.sh (.lst wordsL)), none, none, none, none] = some (decide (n % 12 = 11)) := by
    simp [mod_int, eq_int]
  by_cases hq : n % 12 = 11
  · rw [decide_eq_true hq] at t1
    obtain ⟨d1, m1, x1⟩ := ix_lst (ds := wordsL) (i := n / 12 % 7) (Int.emod_nonneg _ (by decide)) (Int.emod_lt_of_pos _ (by decide))
    obtain ⟨d2, m2, x2⟩ := ix_lst (ds := [.str "", .str "", .str "s"]) (i := n / 84 % 3) (Int.emod_nonneg _ (by decide)) (Int.emod_lt_of_pos _ (by decide))
    obtain ⟨w1, rfl, l1⟩ := words_ok d1 m1
    obtain ⟨w2, rfl, l2⟩ := tails_ok d2 m2
    have e2 : f2 addD (f2 ixD (fVar 1) (f2 modD (f2 fdivD (fVar 0) (fC (.int 12))) (fC (.int 7)))) (f2 ixD (fLst (fCons (fC (.str "")) (fCons (fC (.str "")) (fCons (fC (.str "s")) fNil)))) (f2 modD (f2 fdivD (fVar 0) (fC (.int 84))) (fC (.int 3)))) [some (.sh (.int n)), some (.sh (.lst wordsL)), none, none, none, none] = some (.str (w1 ++ w2)) := by
      have a1 : f2 ixD (fVar 1) (f2 modD (f2 fdivD (fVar 0) (fC (.int 12))) (fC (.int 7))) [some (.sh (.int n)), some (.sh (.lst wordsL)), none, none, none, none] = some (.str w1) := by
        simp only [f2, fVar, fC, List.getElem?_cons_zero, List.getElem?_cons_succ, Option.bind_some, div_int n (j := 12) (by decide) (by decide), mod_int _ (j := 7) (by decide)]
        exact x1
      have a2 : f2 ixD (fLst (fCons (fC (.str "")) (fCons (fC (.str "")) (fCons (fC (.str "s")) fNil)))) (f2 modD (f2 fdivD (fVar 0) (fC (.int 84))) (fC (.int 3))) [some (.sh (.int n)), some (.sh (.lst wordsL)), none, none, none, none] = some (.str w2) := by
        have a0 : fLst (fCons (fC (.str "")) (fCons (fC (.str "")) (fCons (fC (.str "s")) fNil))) [some (.sh (.int n)), some (.sh (.lst wordsL)), none, none, none, none] = some (.lst [.str "", .str "", .str "s"]) := rfl
        have b1 : f2 modD (f2 fdivD (fVar 0) (fC (.int 84))) (fC (.int 3)) [some (.sh (.int n)), some (.sh (.lst wordsL)), none, none, none, none] = some (.int (n / 84 % 3)) := by simp [div_int, mod_int]
        show (fLst _ _).bind _ = _
        rw [a0, Option.bind_some, b1, Option.bind_some]
        exact x2
      show (f2 ixD _ _ _).bind _ = _
      rw [a1, Option.bind_some, a2, Option.bind_some]
      exact add_str (sl_big (by omega))
    refine ⟨w1 ++ w2, ev_run rfl (ev_seqN (ev_set rfl) (ev_seqR (ev_guT t1 e2))), ?_⟩
    rw [str_len_append]
    omega
  · rw [decide_eq_false hq] at t1
    obtain ⟨d1, m1, x1⟩ := ix_lst (ds := [.int 1, .int 2, .int 3, .int 8, .int 9, .int 0, .int 4, .int 5, .int 7, .int 1]) (i := n / 12 % 10) (Int.emod_nonneg _ (by decide)) (Int.emod_lt_of_pos _ (by decide))
    obtain ⟨d2, m2, x2⟩ := ix_lst (ds := [.str "abmyz", .str "AZabz09", .str "abyzABYZ0189_ -"]) (i := n / 120 % 3) (Int.emod_nonneg _ (by decide)) (Int.emod_lt_of_pos _ (by decide))
    obtain ⟨k, rfl, l1⟩ := sizes_ok d1 m1
    obtain ⟨s, rfl, l2, l3⟩ := shapes_ok d2 m2
    have a1 : f2 ixD (fLst (fCons (fC (.int 1)) (fCons (fC (.int 2)) (fCons (fC (.int 3)) (fCons (fC (.int 8)) (fCons (fC (.int 9)) (fCons (fC (.int 0)) (fCons (fC (.int 4)) (fCons (fC (.int 5)) (fCons (fC (.int 7)) (fCons (fC (.int 1)) fNil))))))))))) (f2 modD (f2 fdivD (fVar 0) (fC (.int 12))) (fC (.int 10))) [some (.sh (.int n)), some (.sh (.lst wordsL)), none, none, none, none] = some (.int k) := by
      have b1 : f2 modD (f2 fdivD (fVar 0) (fC (.int 12))) (fC (.int 10)) [some (.sh (.int n)), some (.sh (.lst wordsL)), none, none, none, none] = some (.int (n / 12 % 10)) := by
        simp [div_int, mod_int]
      show (fLst _ _).bind _ = _
      rw [show fLst (fCons (fC (.int 1)) (fCons (fC (.int 2)) (fCons (fC (.int 3)) (fCons (fC (.int 8)) (fCons (fC (.int 9)) (fCons (fC (.int 0)) (fCons (fC (.int 4)) (fCons (fC (.int 5)) (fCons (fC (.int 7)) (fCons (fC (.int 1)) fNil)))))))))) [some (.sh (.int n)), some (.sh (.lst wordsL)), none, none, none, none] = some (.lst [.int 1, .int 2, .int 3, .int 8, .int 9, .int 0, .int 4, .int 5, .int 7, .int 1]) from rfl, Option.bind_some, b1, Option.bind_some]
      exact x1
    have a2 : f2 fdivD (fVar 0) (fC (.int 120)) [some (.sh (.int n)), some (.sh (.lst wordsL)), some (.sh (.int k)), none, none, none] = some (.int (n / 120)) := by simp [div_int]
    have a3 : f2 ixD (fLst (fCons (fC (.str "abmyz")) (fCons (fC (.str "AZabz09")) (fCons (fC (.str "abyzABYZ0189_ -")) fNil)))) (f2 modD (fVar 0) (fC (.int 3))) [some (.sh (.int (n / 120))), some (.sh (.lst wordsL)), some (.sh (.int k)), none, none, none] = some (.str s) := by
      have b1 : f2 modD (fVar 0) (fC (.int 3)) [some (.sh (.int (n / 120))), some (.sh (.lst wordsL)), some (.sh (.int k)), none, none, none] = some (.int (n / 120 % 3)) := by simp [mod_int]
      show (fLst _ _).bind _ = _
      rw [show fLst (fCons (fC (.str "abmyz")) (fCons (fC (.str "AZabz09")) (fCons (fC (.str "abyzABYZ0189_ -")) fNil))) [some (.sh (.int (n / 120))), some (.sh (.lst wordsL)), some (.sh (.int k)), none, none, none] = some (.lst [.str "abmyz", .str "AZabz09", .str "abyzABYZ0189_ -"]) from rfl, Option.bind_some, b1, Option.bind_some]
      exact x2
    have a4 : f2 fdivD (fVar 0) (fC (.int 3)) [some (.sh (.int (n / 120))), some (.sh (.lst wordsL)), some (.sh (.int k)), some (.sh (.str s)), none, none] = some (.int (n / 120 / 3)) := by simp [div_int]
    have a5 : oRng (fVar 2) [some (.sh (.int (n / 120 / 3))), some (.sh (.lst wordsL)), some (.sh (.int k)), some (.sh (.str s)), some (.sh (.str "")), none] = some (rngD 0 k) := by
      exact rng_ok rfl (by omega)
    have hlen : lenD [.str s] = some (.int s.length) := len_str (by omega)
    obtain ⟨δ', eF, m, z, y, rfl, hz⟩ := forL_ix (i := 5) (F := sSeq (sSet 4 (f2 addD (fVar 4) (f2 ixD (fVar 3) (f2 modD (fVar 0) (fCall lenD (fCons (fVar 3) fNil)))))) (sSeq (sSet 0 (f2 fdivD (fVar 0) (fCall lenD (fCons (fVar 3) fNil)))) sNil))
      (fun j δ => ∃ (m : Int) (z : Str) (y : Option Sl), δ = [some (.sh (.int m)), some (.sh (.lst wordsL)), some (.sh (.int k)), some (.sh (.str s)), some (.sh (.str z)), y] ∧ z.length ≤ j)
      (rngD 0 k) [some (.sh (.int (n / 120 / 3))), some (.sh (.lst wordsL)), some (.sh (.int k)), some (.sh (.str s)), some (.sh (.str "")), none] 0 ⟨_, _, _, rfl, by decide +kernel⟩ (by
        rintro j x hx δ ⟨m, z, y, rfl, hz⟩
        have hj : j < k := by
          have := (List.getElem?_eq_some_iff.mp hx).1
          simpa [rngD] using this
        obtain ⟨c, ec⟩ := ix_sign (z := s) (i := m % s.length) (by omega) (Int.emod_nonneg _ (by omega)) (Int.emod_lt_of_pos _ (by omega))
        have b1 : f2 addD (fVar 4) (f2 ixD (fVar 3) (f2 modD (fVar 0) (fCall lenD (fCons (fVar 3) fNil)))) [some (.sh (.int m)), some (.sh (.lst wordsL)), some (.sh (.int k)), some (.sh (.str s)), some (.sh (.str z)), some (.sh x)] = some (.str (z ++ ⟨#[c]⟩)) := by
          simp only [f2, fVar, fCall, fCons, fNil, List.getElem?_cons_zero, List.getElem?_cons_succ, Option.bind_some, hlen, mod_int m (j := (s.length : Int)) (by omega), ec]
          exact add_str (sl_big (by show z.length + 1 ≤ 1000; omega))
        have b2 : f2 fdivD (fVar 0) (fCall lenD (fCons (fVar 3) fNil)) [some (.sh (.int m)), some (.sh (.lst wordsL)), some (.sh (.int k)), some (.sh (.str s)), some (.sh (.str (z ++ ⟨#[c]⟩))), some (.sh x)] = some (.int (m / s.length)) := by
          simp only [f2, fVar, fCall, fCons, fNil, List.getElem?_cons_zero, List.getElem?_cons_succ, Option.bind_some, hlen, div_int m (j := (s.length : Int)) (by omega) (by omega)]
        refine ⟨_, ev_seqN (ev_set b1) (ev_seqN (ev_set b2) ev_nil), _, _, _, rfl, ?_⟩
        rw [str_len_append]
        show z.length + 1 ≤ _
        omega)
    refine ⟨z, ev_run rfl (ev_seqN (ev_set rfl) (ev_seqN (ev_guF t1) (ev_seqN (ev_set a1) (ev_seqN (ev_set a2) (ev_seqN (ev_set a3) (ev_seqN (ev_set a4) (ev_seqN (ev_set rfl) (ev_seqN (ev_for a5 eF) (ev_seqR (ev_ret rfl)))))))))), ?_⟩
    simp [rngD] at hz
    omega
theorem lt_int (i j : Int) : ltD (.int i) (.int j) = some (.bl (decide (i < j))) := rfl
theorem e_thing (n : Int) : ∃ d : D, M__law_thing [.int n] = some d ∧ okL d ∧ okT d := by
  have t1 : fB (f2 ltD (f2 modD (fVar 0) (fC (.int 8))) (fC (.int 5))) [some (.sh (.int n))] = some (decide (n % 8 < 5)) := by simp [mod_int, lt_int]
  have t2 : fB (f2 eqD (f2 modD (fVar 0) (fC (.int 8))) (fC (.int 5))) [some (.sh (.int n))] = some (decide (n % 8 = 5)) := by simp [mod_int, eq_int]
  have t3 : fB (f2 eqD (f2 modD (fVar 0) (fC (.int 8))) (fC (.int 6))) [some (.sh (.int n))] = some (decide (n % 8 = 6)) := by simp [mod_int, eq_int]
  by_cases h1 : n % 8 < 5
  · rw [decide_eq_true h1] at t1
    obtain ⟨z, ez, lz⟩ := e_text (n / 8)
    have e : fCall M__law_text (fCons (f2 fdivD (fVar 0) (fC (.int 8))) fNil) [some (.sh (.int n))] = some (.str z) := by
      simp only [fCall, fCons, fNil, f2, fVar, fC, List.getElem?_cons_zero, Option.bind_some, div_int n (j := 8) (by decide) (by decide), ez]
    exact ⟨_, ev_run rfl (ev_seqR (ev_guT t1 e)), lz, True.intro⟩
  · rw [decide_eq_false h1] at t1
    by_cases h2 : n % 8 = 5
    · rw [decide_eq_true h2] at t2
      have hp : powD (.int 10) (.int 29) = some (.int (10 ^ 29)) := rfl
      have hm : mulD (.int 2) (.int (10 ^ 29)) = some (.int (2 * 10 ^ 29)) := rfl
      have e : f2 subD (f2 modD (f2 fdivD (fVar 0) (fC (.int 8))) (f2 mulD (fC (.int 2)) (f2 powD (fC (.int 10)) (fC (.int 29))))) (f2 powD (fC (.int 10)) (fC (.int 29))) [some (.sh (.int n))] = some (.int (n / 8 % (2 * 10 ^ 29) - 10 ^ 29)) := by
        simp only [f2, fVar, fC, List.getElem?_cons_zero, Option.bind_some, div_int n (j := 8) (by decide) (by decide), hp, hm, mod_int _ (j := (2 * 10 ^ 29 : Int)) (by decide)]
        rfl
      exact ⟨_, ev_run rfl (ev_seqN (ev_guF t1) (ev_seqR (ev_guT t2 e))), True.intro, True.intro⟩
    · rw [decide_eq_false h2] at t2
      by_cases h3 : n % 8 = 6
      · rw [decide_eq_true h3] at t3
        have e : f2 subD (f2 modD (f2 fdivD (fVar 0) (fC (.int 8))) (fC (.int 7))) (fC (.int 3)) [some (.sh (.int n))] = some (.int (n / 8 % 7 - 3)) := by
          simp only [f2, fVar, fC, List.getElem?_cons_zero, Option.bind_some, div_int n (j := 8) (by decide) (by decide), mod_int _ (j := 7) (by decide)]
          rfl
        exact ⟨_, ev_run rfl (ev_seqN (ev_guF t1) (ev_seqN (ev_guF t2) (ev_seqR (ev_guT t3 e)))), True.intro, True.intro⟩
      · rw [decide_eq_false h3] at t3
        obtain ⟨d, md, xd⟩ := ix_lst (ds := [.non, .bl true, .bl false, .lst [], .tup [.str "a"], .lst [.str "a"], .tup []]) (i := n / 8 % 7) (Int.emod_nonneg _ (by decide)) (Int.emod_lt_of_pos _ (by decide))
        have b1 : f2 modD (f2 fdivD (fVar 0) (fC (.int 8))) (fC (.int 7)) [some (.sh (.int n))] = some (.int (n / 8 % 7)) := by simp [div_int, mod_int]
        have e : f2 ixD (fLst (fCons (fC .non) (fCons (fC (.bl true)) (fCons (fC (.bl false)) (fCons (fLst fNil) (fCons (fTup (fCons (fC (.str "a")) fNil)) (fCons (fLst (fCons (fC (.str "a")) fNil)) (fCons (fTup fNil) fNil)))))))) (f2 modD (f2 fdivD (fVar 0) (fC (.int 8))) (fC (.int 7))) [some (.sh (.int n))] = some d := by
          show (fLst _ _).bind _ = _
          rw [show fLst (fCons (fC .non) (fCons (fC (.bl true)) (fCons (fC (.bl false)) (fCons (fLst fNil) (fCons (fTup (fCons (fC (.str "a")) fNil)) (fCons (fLst (fCons (fC (.str "a")) fNil)) (fCons (fTup fNil) fNil))))))) [some (.sh (.int n))] = some (.lst [.non, .bl true, .bl false, .lst [], .tup [.str "a"], .lst [.str "a"], .tup []]) from rfl, Option.bind_some, b1, Option.bind_some]
          exact xd
        refine ⟨d, ev_run rfl (ev_seqN (ev_guF t1) (ev_seqN (ev_guF t2) (ev_seqN (ev_guF t3) (ev_seqR (ev_ret e))))), ?_⟩
        simp only [List.mem_cons, List.not_mem_nil, or_false] at md
        rcases md with rfl | rfl | rfl | rfl | rfl | rfl | rfl
        · exact ⟨True.intro, True.intro⟩
        · exact ⟨True.intro, True.intro⟩
        · exact ⟨True.intro, True.intro⟩
        · exact ⟨True.intro, True.intro⟩
        · exact ⟨True.intro, show [D.str "a"].length ≤ 100 by decide⟩
        · exact ⟨True.intro, True.intro⟩
        · exact ⟨True.intro, show ([] : List D).length ≤ 100 by decide⟩

theorem compL_ex {g : D → Option D} {R : D → Prop} : ∀ {xs : List D}, (∀ x ∈ xs, ∃ y, g x = some y ∧ R y) → ∃ ys, compL (fun _ => some true) g xs = some ys ∧ (∀ y ∈ ys, R y) ∧ ys.length = xs.length
  | [], _ => ⟨[], rfl, fun y h => (by cases h), rfl⟩
  | x :: xs, hg => by
    obtain ⟨y, e1, r1⟩ := hg x List.mem_cons_self
    obtain ⟨ys, e2, r2, l2⟩ := compL_ex (xs := xs) fun z hz => hg z (List.mem_cons_of_mem _ hz)
    refine ⟨y :: ys, ?_, fun z hz => ?_, by simp [l2]⟩
    · unfold compL
      rw [e1, e2]
      rfl
    · rcases List.mem_cons.mp hz with rfl | hz
      · exact r1
      · exact r2 z hz
theorem cut_ints (ns : List Int) (lo hi : Option Int) : ∃ ms : List Int, cutD (ns.map D.int) lo hi = ms.map D.int ∧ ms.length ≤ ns.length := by
  refine ⟨(ns.drop (HT.sIx ns.length 0 lo)).take (HT.sIx ns.length ns.length hi - HT.sIx ns.length 0 lo), ?_, ?_⟩
  · unfold L2.cutD
    rw [List.length_map, ← List.map_drop, ← List.map_take]
  · rw [List.length_take, List.length_drop]; omega
theorem cut_len (ds : List D) (lo hi : Option Int) : (cutD ds lo hi).length ≤ ds.length := by
  unfold L2.cutD
  rw [List.length_take, List.length_drop]; omega
theorem okT_of {x : D} {y : D} (hx : okL x) (hy : ∀ ps, y = .tup ps → (∀ p ∈ ps, okL p) ∧ ps.length ≤ 100) : okT (.tup [x, y]) := by
  cases y with
  | tup ps => exact ⟨hx, (hy ps rfl).1, (hy ps rfl).2⟩
  | _ => exact hx
theorem e_mkfact (ms : List Int) (n : Int) (hl : ms.length ≤ 63) : ∃ t : D, M__law_fact [.lst (ms.map D.int), .int n] = some t ∧ okT t := by
  obtain ⟨ks, ek, lk⟩ := cut_ints ms none (some (n % 6))
  obtain ⟨ps, ep, rp, lp⟩ := compL_ex (g := fun x => fCall M__law_thing (fCons (fVar 0) fNil) ((csD 1 [] [some (.sh (.lst (ms.map D.int))), some (.sh (.int n)), none, none, none]).set 0 (some (.sh x)))) (R := okL) (xs := ks.map D.int) (fun x hx => by
    obtain ⟨m, _, rfl⟩ := List.mem_map.mp hx
    obtain ⟨d, e, o, _⟩ := e_thing m
    exact ⟨d, by simpa [csD] using e, o⟩)
  rw [List.length_map] at lp
  have s1 : fSl (fVar 0) (fun _ => some none) (oInt (f2 modD (fVar 1) (fC (.int 6)))) [some (.sh (.lst (ms.map D.int))), some (.sh (.int n)), none, none, none] = some (.lst (ks.map D.int)) := by
    have b1 : f2 modD (fVar 1) (fC (.int 6)) [some (.sh (.lst (ms.map D.int))), some (.sh (.int n)), none, none, none] = some (.int (n % 6)) := by simp [mod_int]
    simp only [fSl, fVar, oInt, b1, List.getElem?_cons_zero, Option.bind_some]
    rw [← ek]
    rfl
  have c1 : fComp 1 [] 0 (oSeq (fSl (fVar 0) (fun _ => some none) (oInt (f2 modD (fVar 1) (fC (.int 6)))))) bYes (fCall M__law_thing (fCons (fVar 0) fNil)) [some (.sh (.lst (ms.map D.int))), some (.sh (.int n)), none, none, none] = some (.lst ps) := by
    exact ev_comp (ev_lstI s1) (sl_big (by rw [List.length_map]; omega)) ep
  have a1 : fCall tupD (fCons (fComp 1 [] 0 (oSeq (fSl (fVar 0) (fun _ => some none) (oInt (f2 modD (fVar 1) (fC (.int 6)))))) bYes (fCall M__law_thing (fCons (fVar 0) fNil))) fNil) [some (.sh (.lst (ms.map D.int))), some (.sh (.int n)), none, none, none] = some (.tup ps) := by
    exact (ev_call (ev_cons c1 rfl)).trans rfl
  obtain ⟨d0, e0, o0, q0⟩ := e_thing (n / 6)
  obtain ⟨h, mh, xh⟩ := ix_lst (ds := [.str "edge", d0]) (i := n / 48 % 3 / 2) (by have := Int.emod_nonneg (n / 48) (show (3 : Int) ≠ 0 by decide); omega) (by have := Int.emod_lt_of_pos (n / 48) (show (0 : Int) < 3 by decide); show _ < (2 : Int); omega)
  have oh : okL h ∧ okT h := by
    simp only [List.mem_cons, List.not_mem_nil, or_false] at mh
    rcases mh with rfl | rfl
    · exact ⟨show ("edge" : Str).length ≤ 100 by decide +kernel, True.intro⟩
    · exact ⟨o0, q0⟩
  have a2 : f2 ixD (fLst (fCons (fC (.str "edge")) (fCons (fCall M__law_thing (fCons (f2 fdivD (fVar 1) (fC (.int 6))) fNil)) fNil))) (f2 fdivD (f2 modD (f2 fdivD (fVar 1) (fC (.int 48))) (fC (.int 3))) (fC (.int 2))) [some (.sh (.lst (ms.map D.int))), some (.sh (.int n)), some (.sh (.tup ps)), none, none] = some h := by
    have b1 : f2 fdivD (f2 modD (f2 fdivD (fVar 1) (fC (.int 48))) (fC (.int 3))) (fC (.int 2)) [some (.sh (.lst (ms.map D.int))), some (.sh (.int n)), some (.sh (.tup ps)), none, none] = some (.int (n / 48 % 3 / 2)) := by simp [div_int, mod_int]
    have b2 : fLst (fCons (fC (.str "edge")) (fCons (fCall M__law_thing (fCons (f2 fdivD (fVar 1) (fC (.int 6))) fNil)) fNil)) [some (.sh (.lst (ms.map D.int))), some (.sh (.int n)), some (.sh (.tup ps)), none, none] = some (.lst [.str "edge", d0]) := by
      simp only [fLst, fCons, fNil, fCall, f2, fC, fVar, List.getElem?_cons_zero, List.getElem?_cons_succ, Option.bind_some, div_int n (j := 6) (by decide) (by decide), e0]
      rfl
    show (fLst _ _).bind _ = _
    rw [b2, Option.bind_some, b1, Option.bind_some]
    exact xh
  have a3 : f2 modD (f2 fdivD (fVar 1) (fC (.int 144))) (fC (.int 12)) [some (.sh (.lst (ms.map D.int))), some (.sh (.int n)), some (.sh (.tup ps)), some (.sh h), none] = some (.int (n / 144 % 12)) := by simp [div_int, mod_int]
  have hp : ps.length ≤ 100 := by omega
  have t : ∀ j : Int, fB (f2 eqD (fVar 4) (fC (.int j))) [some (.sh (.lst (ms.map D.int))), some (.sh (.int n)), some (.sh (.tup ps)), some (.sh h), some (.sh (.int (n / 144 % 12)))] = some (decide (n / 144 % 12 = j)) := fun j => by simp [eq_int]
  have t9 := t 9
  have t10 := t 10
  have t11 := t 11
  by_cases h9 : n / 144 % 12 = 9
  · rw [decide_eq_true h9] at t9
    exact ⟨_, ev_run rfl (ev_seqN (ev_set a1) (ev_seqN (ev_set a2) (ev_seqN (ev_set a3) (ev_seqR (ev_guT t9 rfl))))), okT_of oh.1 fun ps q => nomatch q⟩
  · rw [decide_eq_false h9] at t9
    by_cases h10 : n / 144 % 12 = 10
    · rw [decide_eq_true h10] at t10
      exact ⟨_, ev_run rfl (ev_seqN (ev_set a1) (ev_seqN (ev_set a2) (ev_seqN (ev_set a3) (ev_seqN (ev_guF t9) (ev_seqR (ev_guT t10 rfl)))))), show [h, D.tup ps, D.tup []].length ≤ 100 by simp⟩
    · rw [decide_eq_false h10] at t10
      by_cases h11 : n / 144 % 12 = 11
      · rw [decide_eq_true h11] at t11
        obtain ⟨r, mr, xr⟩ := ix_lst (ds := [.tup [h], .lst [h, .tup ps], h]) (i := n / 1728 % 3) (Int.emod_nonneg _ (by decide)) (Int.emod_lt_of_pos _ (by decide))
        have e : f2 ixD (fLst (fCons (fTup (fCons (fVar 3) fNil)) (fCons (fLst (fCons (fVar 3) (fCons (fVar 2) fNil))) (fCons (fVar 3) fNil)))) (f2 modD (f2 fdivD (fVar 1) (fC (.int 1728))) (fC (.int 3))) [some (.sh (.lst (ms.map D.int))), some (.sh (.int n)), some (.sh (.tup ps)), some (.sh h), some (.sh (.int (n / 144 % 12)))] = some r := by
          have b1 : f2 modD (f2 fdivD (fVar 1) (fC (.int 1728))) (fC (.int 3)) [some (.sh (.lst (ms.map D.int))), some (.sh (.int n)), some (.sh (.tup ps)), some (.sh h), some (.sh (.int (n / 144 % 12)))] = some (.int (n / 1728 % 3)) := by simp [div_int, mod_int]
          show (fLst _ _).bind _ = _
          rw [show fLst (fCons (fTup (fCons (fVar 3) fNil)) (fCons (fLst (fCons (fVar 3) (fCons (fVar 2) fNil))) (fCons (fVar 3) fNil))) [some (.sh (.lst (ms.map D.int))), some (.sh (.int n)), some (.sh (.tup ps)), some (.sh h), some (.sh (.int (n / 144 % 12)))] = some (.lst [.tup [h], .lst [h, .tup ps], h]) from rfl, Option.bind_some, b1, Option.bind_some]
          exact xr
        refine ⟨r, ev_run rfl (ev_seqN (ev_set a1) (ev_seqN (ev_set a2) (ev_seqN (ev_set a3) (ev_seqN (ev_guF t9) (ev_seqN (ev_guF t10) (ev_seqR (ev_guT t11 e))))))), ?_⟩
        simp only [List.mem_cons, List.not_mem_nil, or_false] at mr
        rcases mr with rfl | rfl | rfl
        · exact show [h].length ≤ 100 by simp
        · exact True.intro
        · exact oh.2
      · rw [decide_eq_false h11] at t11
        exact ⟨_, ev_run rfl (ev_seqN (ev_set a1) (ev_seqN (ev_set a2) (ev_seqN (ev_set a3) (ev_seqN (ev_guF t9) (ev_seqN (ev_guF t10) (ev_seqN (ev_guF t11) (ev_seqR (ev_ret rfl)))))))), oh.1, rp, hp⟩
theorem add_lst {a b : List D} (h : a.length + b.length ≤ sizeLine) : addD (.lst a) (.lst b) = some (.lst (a ++ b)) := by
  unfold addD sAdd iAdd tupAdd lAdd
  simp only [Option.none_or, if_pos h]
theorem const_name {d : D} (h : nameB d = true) : constB d = true := by unfold constB; rw [h, Bool.or_true]
theorem named_edge : nameB (.str "edge") = true := by decide +kernel
theorem law_true (ns : List Int) (hn : ns.length ≤ 63) : M_law [.lst (ns.map D.int)] = some (.bl true) := by
  obtain ⟨ms, em, lm⟩ := cut_ints ns none (some 30)
  have a1 : fSl (fVar 0) (fun _ => some none) (oInt (fC (.int 30))) [some (.sh (.lst (ns.map D.int))), none, none, none, none, none, none, none] = some (.lst (ms.map D.int)) := by
    rw [← em]
    rfl
  have hml : ms.length ≤ 63 := by omega
  -- each cell's thing
  have i1 : oSeq (f2 addD (fVar 1) (fLst (fCons (fC (.int 11)) (fCons (fC (.int 95)) fNil)))) [some (.sh (.lst (ns.map D.int))), some (.sh (.lst (ms.map D.int))), none, none, none, none, none, none] = some ((ms ++ [11, 95]).map D.int) := by
    have b1 : f2 addD (fVar 1) (fLst (fCons (fC (.int 11)) (fCons (fC (.int 95)) fNil))) [some (.sh (.lst (ns.map D.int))), some (.sh (.lst (ms.map D.int))), none, none, none, none, none, none] = some (.lst (ms.map D.int ++ [.int 11, .int 95])) := by
      show (some (D.lst (ms.map D.int))).bind (fun x => (some (D.lst [.int 11, .int 95])).bind fun y => addD x y) = _
      rw [Option.bind_some, Option.bind_some]
      exact add_lst (sl_big (by simp; omega))
    simp only [oSeq, b1]
    rw [List.map_append]
    rfl
  obtain ⟨δ1, f1, y2, rfl⟩ := forL_each (i := 2) (F := sSeq (sIf (bNot (fB (fCall M__law_told (fCons (fCall M__law_thing (fCons (fVar 2) fNil)) fNil)))) (sSeq (sRet (fC (.bl false))) sNil) sNil) sNil)
    (fun δ => ∃ y2, δ = [some (.sh (.lst (ns.map D.int))), some (.sh (.lst (ms.map D.int))), y2, none, none, none, none, none]) ((ms ++ [11, 95]).map D.int) [some (.sh (.lst (ns.map D.int))), some (.sh (.lst (ms.map D.int))), none, none, none, none, none, none] ⟨_, rfl⟩ (by
      rintro x hx δ ⟨y2, rfl⟩
      obtain ⟨m, _, rfl⟩ := List.mem_map.mp hx
      obtain ⟨d, ed, od, _⟩ := e_thing m
      have et : bNot (fB (fCall M__law_told (fCons (fCall M__law_thing (fCons (fVar 2) fNil)) fNil))) [some (.sh (.lst (ns.map D.int))), some (.sh (.lst (ms.map D.int))), some (.sh (.int m)), none, none, none, none, none] = some false := by
        simp only [bNot, fB, fCall, fCons, fNil, fVar, List.getElem?_cons_zero, List.getElem?_cons_succ, Option.bind_some, ed, e_told od]
        rfl
      exact ⟨_, ev_seqN (ev_guF et) ev_nil, _, rfl⟩)
  -- each cell's fact
  have i2 : oRng (fCall lenD (fCons (fVar 1) fNil)) [some (.sh (.lst (ns.map D.int))), some (.sh (.lst (ms.map D.int))), y2, none, none, none, none, none] = some (rngD 0 ms.length) := by
    refine rng_ok ?_ (by omega)
    show some (D.int ((ms.map D.int).length : Int)) = _
    rw [List.length_map]
  obtain ⟨δ2, f2', y3, y4, y5, y6, rfl⟩ := forL_each (i := 3) (F := sSeq (sSet 4 (fCall M__law_fact (fCons (f2 addD (fSl (fVar 1) (oInt (f2 addD (fVar 3) (fC (.int 1)))) (fun _ => some none)) (fSl (fVar 1) (fun _ => some none) (oInt (fVar 3)))) (fCons (f2 ixD (fVar 1) (fVar 3)) fNil)))) (sSeq (sFor 5 (oRng (fC (.int 2))) (sSeq (sSet 6 (fCall M_is_fact (fCons (fVar 4) fNil))) (sSeq (sIf (bOr (bNot (fB (fIs "bool" (fVar 6)))) (fB (f2 neD (fVar 6) (fCall M__law_is_fact (fCons (fVar 4) fNil))))) (sSeq (sRet (fC (.bl false))) sNil) sNil) sNil))) sNil))
    (fun δ => ∃ y3 y4 y5 y6, δ = [some (.sh (.lst (ns.map D.int))), some (.sh (.lst (ms.map D.int))), y2, y3, y4, y5, y6, none]) (rngD 0 ms.length) _ ⟨_, _, _, _, rfl⟩ (by
      rintro x hx δ ⟨y3, y4, y5, y6, rfl⟩
      unfold rngD at hx
      obtain ⟨k, hk, rfl⟩ := List.mem_map.mp hx
      rw [List.mem_range] at hk
      obtain ⟨us, eu, lu⟩ := cut_ints ms (some (0 + (k : Int) + 1)) none
      obtain ⟨vs, ev, lv⟩ := cut_ints ms none (some (0 + (k : Int)))
      obtain ⟨c, mc, xc⟩ := ix_lst (ds := ms.map D.int) (i := 0 + (k : Int)) (by omega) (by rw [List.length_map]; omega)
      obtain ⟨m, _, rfl⟩ := List.mem_map.mp mc
      have hlen : us.length + vs.length ≤ 63 := by
        have h1 : us.length = (L2.cutD (ms.map D.int) (some (0 + (k : Int) + 1)) none).length := by rw [eu, List.length_map]
        have h2 : vs.length = (L2.cutD (ms.map D.int) none (some (0 + (k : Int)))).length := by rw [ev, List.length_map]
        unfold L2.cutD at h1 h2
        rw [List.length_take, List.length_drop, List.length_map] at h1 h2
        have s1 : HT.sIx ms.length 0 (some (0 + (k : Int) + 1)) = min (k + 1) ms.length := by
          have : (0 + (k : Int) + 1) = ((k + 1 : Nat) : Int) := by omega
          rw [this, HT.sIx_nat]
        have s2 : HT.sIx ms.length ms.length (some (0 + (k : Int))) = min k ms.length := by
          have : (0 + (k : Int)) = ((k : Nat) : Int) := by omega
          rw [this, HT.sIx_nat]
        rw [s1] at h1
        rw [s2] at h2
        simp only [HT.sIx_none] at h1 h2
        omega
      obtain ⟨t, et, ot⟩ := e_mkfact (us ++ vs) m (by rw [List.length_append]; exact hlen)
      have b1 : fCall M__law_fact (fCons (f2 addD (fSl (fVar 1) (oInt (f2 addD (fVar 3) (fC (.int 1)))) (fun _ => some none)) (fSl (fVar 1) (fun _ => some none) (oInt (fVar 3)))) (fCons (f2 ixD (fVar 1) (fVar 3)) fNil)) [some (.sh (.lst (ns.map D.int))), some (.sh (.lst (ms.map D.int))), y2, some (.sh (.int (0 + (k : Int)))), y4, y5, y6, none] = some t := by
        have c1 : fSl (fVar 1) (oInt (f2 addD (fVar 3) (fC (.int 1)))) (fun _ => some none) [some (.sh (.lst (ns.map D.int))), some (.sh (.lst (ms.map D.int))), y2, some (.sh (.int (0 + (k : Int)))), y4, y5, y6, none] = some (.lst (us.map D.int)) := by rw [← eu]; rfl
        have c2 : fSl (fVar 1) (fun _ => some none) (oInt (fVar 3)) [some (.sh (.lst (ns.map D.int))), some (.sh (.lst (ms.map D.int))), y2, some (.sh (.int (0 + (k : Int)))), y4, y5, y6, none] = some (.lst (vs.map D.int)) := by rw [← ev]; rfl
        have c3 : f2 ixD (fVar 1) (fVar 3) [some (.sh (.lst (ns.map D.int))), some (.sh (.lst (ms.map D.int))), y2, some (.sh (.int (0 + (k : Int)))), y4, y5, y6, none] = some (.int m) := xc
        have c4 : f2 addD (fSl (fVar 1) (oInt (f2 addD (fVar 3) (fC (.int 1)))) (fun _ => some none)) (fSl (fVar 1) (fun _ => some none) (oInt (fVar 3))) [some (.sh (.lst (ns.map D.int))), some (.sh (.lst (ms.map D.int))), y2, some (.sh (.int (0 + (k : Int)))), y4, y5, y6, none] = some (.lst ((us ++ vs).map D.int)) := by
          show (fSl _ _ _ _).bind _ = _
          rw [c1, Option.bind_some, c2, Option.bind_some, List.map_append]
          exact add_lst (sl_big (by rw [List.length_map, List.length_map]; omega))
        exact (ev_call (ev_cons c4 (ev_cons c3 rfl))).trans et
      obtain ⟨δ3, f3', z5, z6, rfl⟩ := forL_each (i := 5) (F := sSeq (sSet 6 (fCall M_is_fact (fCons (fVar 4) fNil))) (sSeq (sIf (bOr (bNot (fB (fIs "bool" (fVar 6)))) (fB (f2 neD (fVar 6) (fCall M__law_is_fact (fCons (fVar 4) fNil))))) (sSeq (sRet (fC (.bl false))) sNil) sNil) sNil))
        (fun δ => ∃ z5 z6, δ = [some (.sh (.lst (ns.map D.int))), some (.sh (.lst (ms.map D.int))), y2, some (.sh (.int (0 + (k : Int)))), some (.sh t), z5, z6, none]) (rngD 0 2) [some (.sh (.lst (ns.map D.int))), some (.sh (.lst (ms.map D.int))), y2, some (.sh (.int (0 + (k : Int)))), some (.sh t), y5, y6, none] ⟨_, _, rfl⟩ (by
          rintro x hx δ ⟨z5, z6, rfl⟩
          have d1 : fCall M_is_fact (fCons (fVar 4) fNil) [some (.sh (.lst (ns.map D.int))), some (.sh (.lst (ms.map D.int))), y2, some (.sh (.int (0 + (k : Int)))), some (.sh t), some (.sh x), z6, none] = some (.bl (factB t)) := e_fact ot
          have d2 : bOr (bNot (fB (fIs "bool" (fVar 6)))) (fB (f2 neD (fVar 6) (fCall M__law_is_fact (fCons (fVar 4) fNil)))) [some (.sh (.lst (ns.map D.int))), some (.sh (.lst (ms.map D.int))), y2, some (.sh (.int (0 + (k : Int)))), some (.sh t), some (.sh x), some (.sh (.bl (factB t))), none] = some false := by
            have d3 : fCall M__law_is_fact (fCons (fVar 4) fNil) [some (.sh (.lst (ns.map D.int))), some (.sh (.lst (ms.map D.int))), y2, some (.sh (.int (0 + (k : Int)))), some (.sh t), some (.sh x), some (.sh (.bl (factB t))), none] = some (.bl (factB t)) := e_lfact ot
            have d4 : f2 neD (fVar 6) (fCall M__law_is_fact (fCons (fVar 4) fNil)) [some (.sh (.lst (ns.map D.int))), some (.sh (.lst (ms.map D.int))), y2, some (.sh (.int (0 + (k : Int)))), some (.sh t), some (.sh x), some (.sh (.bl (factB t))), none] = some (.bl false) := by
              show (some (D.bl (factB t))).bind (fun a => (fCall M__law_is_fact (fCons (fVar 4) fNil) _).bind fun b => neD a b) = _
              rw [d3, Option.bind_some, Option.bind_some]
              cases factB t <;> rfl
            simp only [bOr, bNot, fB, d4]
            rfl
          exact ⟨_, ev_seqN (ev_set d1) (ev_seqN (ev_guF d2) ev_nil), _, _, rfl⟩)
      exact ⟨_, ev_seqN (ev_set b1) (ev_seqN (ev_for rfl f3') ev_nil), _, _, _, _, rfl⟩)
  -- the small fact
  have k1 : fComp 1 [] 0 (oSeq (fVar 1)) bYes (fCall M__law_text (fCons (fVar 0) fNil)) [some (.sh (.lst (ns.map D.int))), some (.sh (.lst (ms.map D.int))), y2, y3, y4, y5, y6, none] = fComp 1 [] 0 (oSeq (fVar 1)) bYes (fCall M__law_text (fCons (fVar 0) fNil)) [some (.sh (.lst (ns.map D.int))), some (.sh (.lst (ms.map D.int))), y2, y3, y4, y5, y6, none] := rfl
  obtain ⟨ts, ets, rts, lts⟩ := compL_ex (g := fun x => fCall M__law_text (fCons (fVar 0) fNil) ((csD 1 [] [some (.sh (.lst (ns.map D.int))), some (.sh (.lst (ms.map D.int))), y2, y3, y4, y5, y6, none]).set 0 (some (.sh x)))) (R := okL) (xs := ms.map D.int) (fun x hx => by
    obtain ⟨m, _, rfl⟩ := List.mem_map.mp hx
    obtain ⟨z, e, lz⟩ := e_text m
    exact ⟨.str z, by simpa [csD] using e, lz⟩)
  rw [List.length_map] at lts
  have c1 : fComp 1 [] 0 (oSeq (fVar 1)) bYes (fCall M__law_text (fCons (fVar 0) fNil)) [some (.sh (.lst (ns.map D.int))), some (.sh (.lst (ms.map D.int))), y2, y3, y4, y5, y6, none] = some (.lst ts) := by
    exact ev_comp (ev_lstI rfl) (sl_big (by rw [List.length_map]; omega)) ets
  have c2 : fComp 1 [] 0 (oSeq (fComp 1 [] 0 (oSeq (fVar 1)) bYes (fCall M__law_text (fCons (fVar 0) fNil)))) (fB (fCall M__law_named (fCons (fVar 0) fNil))) (fVar 0) [some (.sh (.lst (ns.map D.int))), some (.sh (.lst (ms.map D.int))), y2, y3, y4, y5, y6, none] = some (.lst (ts.filter nameB)) := by
    refine ev_comp (ev_lstI c1) (sl_big (by omega)) ?_
    rw [compL_if (p := nameB) (h := fun x => x) (fun x hx => by simp [csD, e_named (rts x hx)]) (fun x hx _ => by simp [csD])]
    simp
  have c3 : fTup (fCons (fC (.str "edge")) (fCons (fCall tupD (fCons (fSl (fComp 1 [] 0 (oSeq (fComp 1 [] 0 (oSeq (fVar 1)) bYes (fCall M__law_text (fCons (fVar 0) fNil)))) (fB (fCall M__law_named (fCons (fVar 0) fNil))) (fVar 0)) (fun _ => some none) (oInt (fC (.int 4)))) fNil)) fNil)) [some (.sh (.lst (ns.map D.int))), some (.sh (.lst (ms.map D.int))), y2, y3, y4, y5, y6, none] = some (.tup [.str "edge", .tup (L2.cutD (ts.filter nameB) none (some 4))]) := by
    have s1 : fSl (fComp 1 [] 0 (oSeq (fComp 1 [] 0 (oSeq (fVar 1)) bYes (fCall M__law_text (fCons (fVar 0) fNil)))) (fB (fCall M__law_named (fCons (fVar 0) fNil))) (fVar 0)) (fun _ => some none) (oInt (fC (.int 4))) [some (.sh (.lst (ns.map D.int))), some (.sh (.lst (ms.map D.int))), y2, y3, y4, y5, y6, none] = some (.lst (L2.cutD (ts.filter nameB) none (some 4))) := by
      show (fComp _ _ _ _ _ _ _).bind _ = _
      rw [c2, Option.bind_some]
      rfl
    exact ev_tup (ev_cons rfl (ev_cons ((ev_call (ev_cons s1 rfl)).trans rfl) rfl)) (sl_big (by simp))
  have hcl : (L2.cutD (ts.filter nameB) none (some 4)).length ≤ 4 := by
    unfold L2.cutD
    rw [List.length_take, List.length_drop]
    have : HT.sIx (ts.filter nameB).length (ts.filter nameB).length (some 4) = min 4 (ts.filter nameB).length := HT.sIx_nat _ _ 4
    rw [this]
    omega
  have hmem : ∀ p ∈ L2.cutD (ts.filter nameB) none (some 4), p ∈ ts ∧ nameB p = true := fun p hp => by
    unfold L2.cutD at hp
    exact List.mem_filter.mp (List.mem_of_mem_drop (List.mem_of_mem_take hp))
  have okS : okT (.tup [.str "edge", .tup (L2.cutD (ts.filter nameB) none (some 4))]) := ⟨show ("edge" : Str).length ≤ 100 by decide +kernel, fun p hp => rts p (hmem p hp).1, by omega⟩
  have fS : factB (.tup [.str "edge", .tup (L2.cutD (ts.filter nameB) none (some 4))]) = true := by
    show (nameB (.str "edge") && decide ((L2.cutD (ts.filter nameB) none (some 4)).length ≤ 4) && (L2.cutD (ts.filter nameB) none (some 4)).all constB) = true
    rw [named_edge, decide_eq_true hcl, List.all_eq_true.mpr fun p hp => const_name (hmem p hp).2]
    rfl
  have m1 := e_fact okS
  rw [fS] at m1
  have m2 : M_is_fact [.tup [.str "edge", .tup []]] = some (.bl true) := by
    have := e_fact (t := .tup [.str "edge", .tup []]) ⟨show ("edge" : Str).length ≤ 100 by decide +kernel, fun p hp => (by cases hp), by decide⟩
    rw [this]
    show some (D.bl (nameB (.str "edge") && true && true)) = _
    rw [named_edge]
    rfl
  have m3 : M_is_fact [.str "edge"] = some (.bl false) := rfl
  refine ev_run rfl (ev_seqN (ev_set a1) (ev_seqN (ev_for i1 f1) (ev_seqN (ev_for i2 f2') (ev_seqN (ev_set c3) (ev_seqR (ev_ret ?_))))))
  have r1 : f2 (isO false) (fCall M_is_fact (fCons (fVar 7) fNil)) (fC (.bl true)) [some (.sh (.lst (ns.map D.int))), some (.sh (.lst (ms.map D.int))), y2, y3, y4, y5, y6, some (.sh (.tup [.str "edge", .tup (L2.cutD (ts.filter nameB) none (some 4))]))] = some (.bl true) := by
    show (M_is_fact [_]).bind _ = _
    rw [m1]
    rfl
  have r2 : f2 (isO false) (fCall M_is_fact (fCons (fTup (fCons (fC (.str "edge")) (fCons (fTup fNil) fNil))) fNil)) (fC (.bl true)) [some (.sh (.lst (ns.map D.int))), some (.sh (.lst (ms.map D.int))), y2, y3, y4, y5, y6, some (.sh (.tup [.str "edge", .tup (L2.cutD (ts.filter nameB) none (some 4))]))] = some (.bl true) := by
    show (M_is_fact [.tup [.str "edge", .tup []]]).bind _ = _
    rw [m2]
    rfl
  have r3 : f2 (isO false) (fCall M_is_fact (fCons (fC (.str "edge")) fNil)) (fC (.bl false)) [some (.sh (.lst (ns.map D.int))), some (.sh (.lst (ms.map D.int))), y2, y3, y4, y5, y6, some (.sh (.tup [.str "edge", .tup (L2.cutD (ts.filter nameB) none (some 4))]))] = some (.bl true) := by
    show (M_is_fact [.str "edge"]).bind _ = _
    rw [m3]
    rfl
  show fAnd _ (fAnd _ _) _ = _
  unfold fAnd
  dsimp only [List.set]
  rw [r1]
  dsimp only
  rw [r2]
  exact r3
end K01

-- part K01c
set_option Elab.async false
set_option linter.all false
set_option maxRecDepth 100000
set_option maxHeartbeats 4000000
namespace K01
open PySem PySem.Spec PyProof.Rows L2
theorem all_ok {P : Program} {w : World} {K : PySem.W.Frag} {mg : Str → Option Value} {base : Heap} (T : Txt K mg) {f : Addr} {fd : FuncData} (F : Fun K "law" "law" (top 25) f fd) : FnOk P w K mg base CX0 5 f fd ["_law_script"] (spD K M_law) := by
  have ok_is_whole := mk_is_whole (P := P) (w := w) (base := base) T 
  have ok_is_small := mk_is_small (P := P) (w := w) (base := base) T 
  have ok_is_big := mk_is_big (P := P) (w := w) (base := base) T 
  have ok_is_figure := mk_is_figure (P := P) (w := w) (base := base) T 
  have ok_is_short_text := mk_is_short_text (P := P) (w := w) (base := base) T 
  have ok_is_name := mk_is_name (P := P) (w := w) (base := base) T ok_is_short_text ok_is_small
  have ok_is_constant := mk_is_constant (P := P) (w := w) (base := base) T ok_is_name ok_is_whole
  have ok_is_variable := mk_is_variable (P := P) (w := w) (base := base) T ok_is_big ok_is_figure ok_is_short_text ok_is_small
  have ok_is_fact := mk_is_fact (P := P) (w := w) (base := base) T ok_is_constant ok_is_name
  have ok__law_text := mk__law_text (P := P) (w := w) (base := base) T 
  have ok__law_thing := mk__law_thing (P := P) (w := w) (base := base) T ok__law_text
  have ok__law_has := mk__law_has (P := P) (w := w) (base := base) T 
  have ok__law_named := mk__law_named (P := P) (w := w) (base := base) T ok__law_has
  have ok__law_constant := mk__law_constant (P := P) (w := w) (base := base) T ok__law_named
  have ok__law_variable := mk__law_variable (P := P) (w := w) (base := base) T ok__law_has
  have ok__law_truths := mk__law_truths (P := P) (w := w) (base := base) T 
  have ok__law_told := mk__law_told (P := P) (w := w) (base := base) T ok__law_constant ok__law_named ok__law_truths ok__law_variable ok_is_constant ok_is_name ok_is_variable
  have ok__law_fact := mk__law_fact (P := P) (w := w) (base := base) T ok__law_thing
  have ok__law_is_fact := mk__law_is_fact (P := P) (w := w) (base := base) T ok__law_constant ok__law_named
  exact mk_law T F ok__law_fact ok__law_is_fact ok__law_named ok__law_text ok__law_thing ok__law_told ok_is_fact
theorem walk {l : PySem.W.OpenLaw} {q : Program} {loose : List Str} {XP : (Str → Option Value) → Heap → Prop} {YP : World → Heap → Prop} {d : DefRec} {K : Params → PySem.W.Frag} (hn : l.most = some 63) (hdf : d.params.defaults = []) (hnm : d.name = "law")
    (hY : ∀ (w : World) (h : Heap), YP w h → (K w.params).In h)
    (F : ∀ (w : World) (mg : Str → Option Value) (h : Heap), (K w.params).In h → h.Ns mainGlobals mg → Txt (K w.params) mg) :
    PySem.W.WalkO q loose XP YP l.row.toRowW d [] (fun f vs => PySem.call f vs) :=
  L2.walk_ofK (n := 63) (k := 5) (x := "_law_script") (CX := CX0) (sp := fun K => spD K M_law) hn (by decide) hdf ⟨rfl, by decide, by decide⟩ hY
    (fun w mg fa h KX G hm => law_at (by rw [← hnm]; exact hm) (F w mg h KX G).d_law (fun _ _ _ _ _ _ _ => rfl) fun f fd base Fn => all_ok (F w mg h KX G) Fn)
    (fun K H a ns hl _ hS => law_sp hS (law_true ns hl)) fun _ _ _ _ z => z
end K01

-- part K01z
open PySem PySem.W PyProof.Rows L2
set_option maxRecDepth 100000 in
set_option maxHeartbeats 0 in
theorem PySem.Challenge.cw_reason_k01_names_and_terms_holds : PySem.Challenge.rw_reason_k01_names_and_terms.Holds := by
  w_on; o_law; k_head; (case hw => w_witness2)
  k_fill
  refine K01.walk (l := PySem.Challenge.rw_reason_k01_names_and_terms) rfl rfl rfl (fun w h Y => PySem.W.kIn_of Y) ?F
  case F =>
    intro w mg h KX G
    refine' K01.Txt.mk (defAt_mk KX G ?a1 ?l1 ?c1 ?k1) (defAt_mk KX G ?a2 ?l2 ?c2 ?k2) (defAt_mk KX G ?a3 ?l3 ?c3 ?k3) (defAt_mk KX G ?a4 ?l4 ?c4 ?k4) (defAt_mk KX G ?a5 ?l5 ?c5 ?k5) (defAt_mk KX G ?a6 ?l6 ?c6 ?k6) (defAt_mk KX G ?a7 ?l7 ?c7 ?k7) (defAt_mk KX G ?a8 ?l8 ?c8 ?k8) (defAt_mk KX G ?a9 ?l9 ?c9 ?k9) (defAt_mk KX G ?a10 ?l10 ?c10 ?k10) (defAt_mk KX G ?a11 ?l11 ?c11 ?k11) (defAt_mk KX G ?a12 ?l12 ?c12 ?k12) (defAt_mk KX G ?a13 ?l13 ?c13 ?k13) (defAt_mk KX G ?a14 ?l14 ?c14 ?k14) (defAt_mk KX G ?a15 ?l15 ?c15 ?k15) (defAt_mk KX G ?a16 ?l16 ?c16 ?k16) (defAt_mk KX G ?a17 ?l17 ?c17 ?k17) (defAt_mk KX G ?a18 ?l18 ?c18 ?k18) (defAt_mk KX G ?a19 ?l19 ?c19 ?k19) (defAt_mk KX G ?a20 ?l20 ?c20 ?k20) (PySem.W.mg_none_of KX G ?z21) (PySem.W.mg_none_of KX G ?z22) (PySem.W.mg_none_of KX G ?z23) (PySem.W.mg_none_of KX G ?z24) (PySem.W.mg_none_of KX G ?z25) (PySem.W.mg_none_of KX G ?z26) (PySem.W.mg_none_of KX G ?z27) (PySem.W.mg_none_of KX G ?z28) (PySem.W.mg_none_of KX G ?z29) tyOk_bool tyOk_int tyOk_list tyOk_str tyOk_tuple (globAt_int KX G ?g30) (globAt_int KX G ?g31) (globAt_strs (ws := ["not", "if", "under", "unlike", "sum", "least", "count"]) KX G ?g32 ?h32 ?i32 ?j32)
    (case a1 => k_is); (case l1 => k_is); (case c1 => k_is); (case k1 => k_is)
    (case a2 => k_is); (case l2 => k_is); (case c2 => k_is); (case k2 => k_is)
    (case a3 => k_is); (case l3 => k_is); (case c3 => k_is); (case k3 => k_is)
    (case a4 => k_is); (case l4 => k_is); (case c4 => k_is); (case k4 => k_is)
    (case a5 => k_is); (case l5 => k_is); (case c5 => k_is); (case k5 => k_is)
    (case a6 => k_is); (case l6 => k_is); (case c6 => k_is); (case k6 => k_is)
    (case a7 => k_is); (case l7 => k_is); (case c7 => k_is); (case k7 => k_is)
    (case a8 => k_is); (case l8 => k_is); (case c8 => k_is); (case k8 => k_is)
    (case a9 => k_is); (case l9 => k_is); (case c9 => k_is); (case k9 => k_is)
    (case a10 => k_is); (case l10 => k_is); (case c10 => k_is); (case k10 => k_is)
    (case a11 => k_is); (case l11 => k_is); (case c11 => k_is); (case k11 => k_is)
    (case a12 => k_is); (case l12 => k_is); (case c12 => k_is); (case k12 => k_is)
    (case a13 => k_is); (case l13 => k_is); (case c13 => k_is); (case k13 => k_is)
    (case a14 => k_is); (case l14 => k_is); (case c14 => k_is); (case k14 => k_is)
    (case a15 => k_is); (case l15 => k_is); (case c15 => k_is); (case k15 => k_is)
    (case a16 => k_is); (case l16 => k_is); (case c16 => k_is); (case k16 => k_is)
    (case a17 => k_is); (case l17 => k_is); (case c17 => k_is); (case k17 => k_is)
    (case a18 => k_is); (case l18 => k_is); (case c18 => k_is); (case k18 => k_is)
    (case a19 => k_is); (case l19 => k_is); (case c19 => k_is); (case k19 => k_is)
    (case a20 => k_is); (case l20 => k_is); (case c20 => k_is); (case k20 => k_is)
    (case z21 => k_is)
    (case z22 => k_is)
    (case z23 => k_is)
    (case z24 => k_is)
    (case z25 => k_is)
    (case z26 => k_is)
    (case z27 => k_is)
    (case z28 => k_is)
    (case z29 => k_is)
    (case g30 => k_is)
    (case g31 => k_is)
    (case g32 => k_is); (case h32 => k_is); (case i32 => decide); (case j32 => exact .cons ⟨_, rfl⟩ (.cons ⟨_, rfl⟩ (.cons ⟨_, rfl⟩ (.cons ⟨_, rfl⟩ (.cons ⟨_, rfl⟩ (.cons ⟨_, rfl⟩ (.cons ⟨_, rfl⟩ (.nil))))))))
