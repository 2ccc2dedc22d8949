import PyProof.Rows.All
import Wide.All
import OpenK.AllK
import Wide.FinOn
import Lean
import PyProof.EqAt
import PyProof.EqKinds
import PyProof.TupleCall
import PyProof.NeKinds
import KE.KEqDict
import KE.KDictLaws
import PyProof.JoinWalk
import PyProof.ZipIter
import PySem.Challenge.RW_reason_k11_replaced_and_met
set_option Elab.async false
set_option linter.all false
set_option maxRecDepth 100000
/-! THE HAND LAYER, for ints, bools, texts, own classes, LISTS and tuples (index, slices, in, append, pop ..), calls, loops. Paste it whole ahead of your own text; what your proof does not reach may be deleted. -/
namespace L2
open PySem PySem.Spec PyProof.Rows

/-- a key: an int or a str -/
abbrev Key := Sum Int Str
def keyIs : Key → Value → Bool
  | .inl k, v => Value.isInt k v
  | .inr x, v => Value.isStrOf x v
def keyH (w : World) : Key → Int
  | .inl k => hashInt k
  | .inr x => hashStr w x
theorem keyIs_shape : ∀ {k : Key} {v : Value}, keyIs k v = true → (∃ i t, k = Sum.inl i ∧ v = Value.int i t) ∨ (∃ x t, k = Sum.inr x ∧ v = Value.str x t)
  | .inl i, v, h => by
    obtain ⟨t, e⟩ := Value.isInt_shape (k := i) (v := v) h
    exact .inl ⟨i, t, rfl, e⟩
  | .inr x, v, h => by
    obtain ⟨t, e⟩ := Value.isStrOf_shape (x := x) (v := v) h
    exact .inr ⟨x, t, rfl, e⟩
theorem keyIs_int (i : Int) (t : Tok) : keyIs (.inl i) (.int i t) = true := by simp [keyIs, Value.isInt]
theorem keyIs_str (x : Str) (t : Tok) : keyIs (.inr x) (.str x t) = true := by simp [keyIs, Value.isStrOf]
theorem key_ll (a b : Int) : decide ((Sum.inl a : Key) = Sum.inl b) = (a == b) := by
  by_cases e : a = b
  · subst e; simp
  · have h : ¬ (Sum.inl a : Key) = Sum.inl b := fun q => e (Sum.inl.inj q)
    rw [decide_eq_false h]
    exact (beq_eq_false_iff_ne.mpr e).symm
theorem key_rr (a b : Str) : decide ((Sum.inr a : Key) = Sum.inr b) = decide (a = b) := by
  by_cases e : a = b
  · subst e; simp
  · have h : ¬ (Sum.inr a : Key) = Sum.inr b := fun q => e (Sum.inr.inj q)
    rw [decide_eq_false h, decide_eq_false e]
theorem key_lr (a : Int) (b : Str) : decide ((Sum.inl a : Key) = Sum.inr b) = false := decide_eq_false (fun q => nomatch q)
theorem key_rl (a : Str) (b : Int) : decide ((Sum.inr a : Key) = Sum.inl b) = false := decide_eq_false (fun q => nomatch q)

def mixKind (prog : Program) (w : World) : PySem.KeyKind prog w Key where
  is := keyIs
  hash := keyH w
  inj := fun v a b ha hb => by
    rcases keyIs_shape ha with ⟨i, t, rfl, rfl⟩ | ⟨x, t, rfl, rfl⟩
    · rcases keyIs_shape hb with ⟨j, u, rfl, e⟩ | ⟨y, u, rfl, e⟩
      · injection e with e1 _; rw [e1]
      · exact nomatch e
    · rcases keyIs_shape hb with ⟨j, u, rfl, e⟩ | ⟨y, u, rfl, e⟩
      · exact nomatch e
      · injection e with e1 _; rw [e1]
  byValue := fun k v h => by
    rcases keyIs_shape h with ⟨i, t, rfl, rfl⟩ | ⟨x, t, rfl, rfl⟩ <;> rfl
  pyHash := fun hv h => by
    rcases keyIs_shape hv with ⟨i, t, rfl, rfl⟩ | ⟨x, t, rfl, rfl⟩
    · exact wpAny_pyHash_int h
    · exact wpAny_pyHash_str h
  eqBool := fun hu hv h => by
    rcases keyIs_shape hu with ⟨i, t, rfl, rfl⟩ | ⟨x, t, rfl, rfl⟩
    · rcases keyIs_shape hv with ⟨j, u, rfl, rfl⟩ | ⟨y, u, rfl, rfl⟩
      · rw [key_ll] at h; exact wpAny_eqBool_int h
      · rw [key_lr] at h; exact SeqAt.EqAt.int_str i t y u _ _ _ _ h
    · rcases keyIs_shape hv with ⟨j, u, rfl, rfl⟩ | ⟨y, u, rfl, rfl⟩
      · rw [key_rl] at h; exact SeqAt.EqAt.str_int x t j u _ _ _ _ h
      · rw [key_rr] at h; exact wpAny_eqBool_str h
  «strs» := fun k x t v h => by
    rcases keyIs_shape h with ⟨i, u, rfl, e⟩ | ⟨y, u, rfl, e⟩
    · exact nomatch e
    · injection e with e1 _
      subst e1
      cases v <;> rfl

theorem mixKind_is (prog : Program) (w : World) (k : Key) (v : Value) : (mixKind prog w).is k v = keyIs k v := rfl
theorem mixKind_int (prog : Program) (w : World) (i : Int) (t : Tok) : (mixKind prog w).is (.inl i) (.int i t) = true := keyIs_int i t
theorem mixKind_str (prog : Program) (w : World) (x : Str) (t : Tok) : (mixKind prog w).is (.inr x) (.str x t) = true := keyIs_str x t
end L2

namespace L2
open PySem PySem.Spec PyProof.Rows

/-- a value, without the heap -/
inductive V where
  | non | bl (b : Bool) | int (i : Int) | str (x : Str) | byt (b : Array UInt8) | flt (b : UInt64) | ref (a : Addr) | ty (n : String)
  deriving DecidableEq

def RelV : V → Value → Prop
  | .non, u => u = Value.none
  | .bl b, u => u = Value.bool b
  | .int i, u => ∃ t, u = Value.int i t
  | .str x, u => ∃ t, u = Value.str x t
  | .byt b, u => ∃ t, u = Value.bytes b t
  | .flt b, u => ∃ t, u = Value.float b t
  | .ref a, u => u = Value.ref a
  | .ty n, u => u = Value.type n

abbrev Vals : List V → List Value → Prop := Paired RelV
theorem Vals.length {xs : List V} {us : List Value} (r : Vals xs us) : xs.length = us.length := Paired.length r
theorem Vals.get : ∀ {xs : List V} {us : List Value} {i : Nat} {x : V}, Vals xs us → xs[i]? = some x → ∃ u, us[i]? = some u ∧ RelV x u
  | _, _, _, _, .nil, e => by simp at e
  | _, _, 0, _, .cons r _, e => by simp at e; subst e; exact ⟨_, rfl, r⟩
  | _, _, i + 1, x, .cons _ t, e => by
    obtain ⟨u, h1, h2⟩ := Vals.get (i := i) (x := x) t (by simpa using e)
    exact ⟨u, by simpa using h1, h2⟩
theorem Vals.set {x : V} {u : Value} (r : RelV x u) : ∀ {xs : List V} {us : List Value} (i : Nat), Vals xs us → Vals (xs.set i x) (us.set i u)
  | _, _, _, .nil => .nil
  | _, _, 0, .cons _ t => .cons r t
  | _, _, i + 1, .cons q t => .cons q (Vals.set r i t)
theorem Vals.append : ∀ {xs ys : List V} {us ws : List Value}, Vals xs us → Vals ys ws → Vals (xs ++ ys) (us ++ ws)
  | _, _, _, _, .nil, s => s
  | _, _, _, _, .cons r t, s => .cons r (Vals.append t s)
theorem Vals.take : ∀ {xs : List V} {us : List Value} (n : Nat), Vals xs us → Vals (xs.take n) (us.take n)
  | _, _, 0, _ => .nil
  | _, _, _ + 1, .nil => .nil
  | _, _, n + 1, .cons r t => .cons r (Vals.take n t)
theorem Vals.drop : ∀ {xs : List V} {us : List Value} (n : Nat), Vals xs us → Vals (xs.drop n) (us.drop n)
  | _, _, 0, r => r
  | _, _, _ + 1, .nil => .nil
  | _, _, n + 1, .cons _ t => Vals.drop n t
theorem Vals.none_of : ∀ {xs : List V} {us : List Value} {i : Nat}, Vals xs us → xs[i]? = none → us[i]? = none := fun {xs us i} r e => by
  have h1 := r.length
  have h2 : xs.length ≤ i := List.getElem?_eq_none_iff.mp e
  exact List.getElem?_eq_none_iff.mpr (by omega)

def RelO : Option V → Option Value → Prop
  | some v, some u => RelV v u
  | none, none => True
  | _, _ => False
def KV {κ : Type} : List (κ × V) → List (κ × Value) → Prop := Paired fun (p : κ × V) (q : κ × Value) => p.1 = q.1 ∧ RelV p.2 q.2

/-- a key of a dict (00_mix): an int or a text -/
def kV : Key → V
  | .inl i => .int i
  | .inr x => .str x

/-- what stands at a tracked address -/
inductive HO where
  /-- a list -/
  | lst (xs : List V)
  /-- a tuple (never changes) -/
  | tup (xs : List V)
  /-- a dict whose keys are ints and texts; one whose keys are tuples of ints and texts (the empty one is both) -/
  | dK (kvs : List (Key × V)) | dT (kvs : List (List Key × V))
  /-- a set of ints: its members, its size -/
  | set (S : Int → Bool) (n : Nat)
  /-- an instance of the class at C, its dict at dx, its attributes -/
  | ins (C dx : Addr) (fs : List (Str × V))
  /-- the dict of the instance at x -/
  | own (x : Addr)
  /-- the dict of an exception -/
  | xd (fs : List (Str × V))
  /-- a bound method, f of x -/
  | met (f x : Addr)
  /-- a range object lo, lo + 1, .. below hi -/
  | rng (lo hi : Int)
  /-- a thing that is known to the object (the script; a dict while a loop walks it): read, never written while it is so -/
  | frz (o : Obj) (u : HO)
  /-- a code object's table -/
  | tbl (ps : Array Value)
  /-- any other thing, by what is true of its one object (a def of one's own: SetO a S n := HO.ext fun h => ..) -/
  | ext (φ : Heap → Prop)

abbrev Hp := Addr → Option HO
def upd (H : Hp) (a : Addr) (o : HO) : Hp := fun b => if b = a then some o else H b
theorem upd_same {H : Hp} {a : Addr} {o : HO} : upd H a o a = some o := by unfold upd; rw [if_pos rfl]
theorem upd_ne {H : Hp} {a b : Addr} {o : HO} (h : b ≠ a) : upd H a o b = H b := by unfold upd; rw [if_neg h]
theorem upd_upd {H : Hp} {a : Addr} {o u : HO} : upd (upd H a o) a u = upd H a u := by
  funext b; unfold upd; split <;> rfl
/-- two objects of different content stand apart -/
theorem ne_of {H : Hp} {a b : Addr} {o u : HO} (h : H a = some o) (h' : H b = some u) (d : o ≠ u) : a ≠ b := by
  intro e; subst e; rw [h] at h'; exact d (Option.some.inj h')
theorem ne_of_none {H : Hp} {a b : Addr} {o : HO} (h : H a = some o) (h' : H b = none) : a ≠ b := by
  intro e; subst e; rw [h] at h'; cases h'

section
variable (P : Program) (w : World)
def ObjOk (H : Hp) (h : Heap) (a : Addr) : HO → Prop
  | .lst xs => xs.length ≤ sizeLine ∧ ∃ (its : List Value) (n : Nat), Vals xs its ∧ h.get? a = some { cls := .type "list", data := .seq its.toArray n }
  | .tup xs => xs.length ≤ sizeLine ∧ ∃ its : List Value, Vals xs its ∧ IsTup h a its.toArray
  | .dK kvs => kvs.length ≤ sizeLine ∧ (a == sysModules) = false ∧ ∃ vs, KV kvs vs ∧ h.DictOf (mixKind P w) a vs
  | .dT kvs => kvs.length ≤ sizeLine ∧ (a == sysModules) = false ∧ ∃ xs : List (List Key × Addr × Value),
      Paired (fun (p : List Key × V) (q : List Key × Addr × Value) => p.1 = q.1 ∧ H q.2.1 = some (.tup (p.1.map kV)) ∧ RelV p.2 q.2.2) kvs xs ∧
      ∃ o es ep, h.get? a = some o ∧ o.ExactDict ∧ o.data = .dict es ep ∧ es.toList = xs.map (entryOfKey (tupleKind (mixKind P w))) ∧ (xs.map (·.1)).Nodup
  | .set S n => h.SetOf (intKind P w) a S n
  | .ins C dx fs => H dx = some (.own a) ∧ fs.length ≤ 1000 ∧ dx ≠ a ∧ h.get? a = some (PySem.W.instObj C dx) ∧
      ∃ mA, h.Ns1 dx mA ∧ (∀ f, RelO (fs.lookup f) (mA f)) ∧ PySem.Within mA (fs.map (·.1))
  | .own _ => ∃ o, h.get? a = some o
  | .xd fs => ∃ mA, h.Ns1 a mA ∧ ∀ f, RelO (fs.lookup f) (mA f)
  | .rng lo hi => ∃ t u v, h.get? a = some { cls := .type "range", data := .fields #[.int lo t, .int hi u, .int 1 v] }
  | .frz o u => h.get? a = some o ∧ ObjOk H h a u
  | .tbl ps => h.get? a = some { cls := .none, data := .fields ps }
  | .met f x => h.get? a = some (PySem.W.methodObj (.ref f) (.ref x))
  | .ext φ => φ h ∧ (∃ o, h.get? a = some o) ∧ ∀ h1 h2 : Heap, φ h1 → (∀ o, h1.get? a = some o → h2.get? a = some o) → φ h2
/-- the abstract heap is held -/
def HOk (H : Hp) (h : Heap) : Prop := ∀ a o, H a = some o → ObjOk P w H h a o
end

section
variable {P : Program} {w : World} {H H' : Hp} {h h' : Heap} {a : Addr} {o : HO}
theorem ObjOk.lt (x : ObjOk P w H h a o) : a < h.objs.size := by
  cases o with
  | lst xs => obtain ⟨_, _, _, _, e⟩ := x; exact Heap.lt_size e
  | tup xs => obtain ⟨_, _, _, p⟩ := x; exact p.lt
  | dK kvs => obtain ⟨_, _, _, _, o, _, _, e, _⟩ := x; exact Heap.lt_size e
  | dT kvs => obtain ⟨_, _, _, _, o, _, _, e, _⟩ := x; exact Heap.lt_size e
  | set S n => obtain ⟨o, _, _, _, e, _⟩ := x; exact Heap.lt_size e
  | ins C dx fs => obtain ⟨_, _, _, e, _⟩ := x; exact Heap.lt_size e
  | own y => obtain ⟨_, e⟩ := x; exact Heap.lt_size e
  | xd fs => obtain ⟨_, ⟨_, _, _, e, _⟩, _⟩ := x; exact Heap.lt_size e
  | rng lo hi => obtain ⟨_, _, _, e⟩ := x; exact Heap.lt_size e
  | frz ob u => obtain ⟨e, _⟩ := x; exact Heap.lt_size e
  | tbl ps => exact Heap.lt_size (show h.get? a = some _ from x)
  | met f y => exact Heap.lt_size (show h.get? a = some _ from x)
  | ext φ => obtain ⟨_, ⟨_, e⟩, _⟩ := x; exact Heap.lt_size e
theorem Paired.mapP {α β : Type} {F G : α → β → Prop} : ∀ {l₁ : List α} {l₂ : List β}, Paired F l₁ l₂ → (∀ a b, F a b → G a b) → Paired G l₁ l₂
  | _, _, .nil, _ => .nil
  | _, _, .cons r t, f => .cons (f _ _ r) (Paired.mapP t f)
theorem Paired.imp' {α β : Type} {F G : α → β → Prop} (f : ∀ a b, F a b → G a b) {l₁ : List α} {l₂ : List β} (r : Paired F l₁ l₂) : Paired G l₁ l₂ := Paired.mapP r f
/-- what an object's description leans on: its own object, its own dict, the tuples -/
theorem ObjOk.stay (x : ObjOk P w H h a o) (k : ∀ b u, (b = a ∨ H b = some (.own a)) → h.get? b = some u → h'.get? b = some u)
    (ho : ∀ b, H b = some (.own a) → H' b = some (.own a)) (ht : ∀ b xs, H b = some (.tup xs) → H' b = some (.tup xs)) : ObjOk P w H' h' a o := by
  induction o with
  | lst xs => obtain ⟨z, its, n, r, e⟩ := x; exact ⟨z, its, n, r, k _ _ (.inl rfl) e⟩
  | tup xs => obtain ⟨z, its, r, ob, e, c⟩ := x; exact ⟨z, its, r, ob, k _ _ (.inl rfl) e, c⟩
  | dK kvs => obtain ⟨z, y, vs, r, ob, es, ep, e, c⟩ := x; exact ⟨z, y, vs, r, ob, es, ep, k _ _ (.inl rfl) e, c⟩
  | dT kvs =>
    obtain ⟨z, y, xs, r, ob, es, ep, e, c⟩ := x
    exact ⟨z, y, xs, Paired.mapP r fun p q z => ⟨z.1, ht _ _ z.2.1, z.2.2⟩, ob, es, ep, k _ _ (.inl rfl) e, c⟩
  | set S n => obtain ⟨ob, es, ep, t, e, c⟩ := x; exact ⟨ob, es, ep, t, k _ _ (.inl rfl) e, c⟩
  | ins C dx fs =>
    obtain ⟨d, z, ne, e, mA, ⟨od, es, ep, e2, c⟩, r⟩ := x
    exact ⟨ho _ d, z, ne, k _ _ (.inl rfl) e, mA, ⟨od, es, ep, k _ _ (.inr d) e2, c⟩, r⟩
  | own y => obtain ⟨ob, e⟩ := x; exact ⟨ob, k _ _ (.inl rfl) e⟩
  | xd fs => obtain ⟨mA, ⟨od, es, ep, e, c⟩, r⟩ := x; exact ⟨mA, ⟨od, es, ep, k _ _ (.inl rfl) e, c⟩, r⟩
  | rng lo hi => obtain ⟨t, u, v, e⟩ := x; exact ⟨t, u, v, k _ _ (.inl rfl) e⟩
  | frz ob u ih => obtain ⟨e, q⟩ := x; exact ⟨k _ _ (.inl rfl) e, ih q⟩
  | tbl ps =>
    have e : h.get? a = some { cls := .none, data := .fields ps } := x
    show h'.get? a = some { cls := .none, data := .fields ps }
    exact k a _ (.inl rfl) e
  | met f y =>
    have e : h.get? a = some (PySem.W.methodObj (.ref f) (.ref y)) := x
    show h'.get? a = some (PySem.W.methodObj (.ref f) (.ref y))
    exact k a _ (.inl rfl) e
  | ext φ => obtain ⟨p, ⟨o, e⟩, st⟩ := x; exact ⟨st _ _ p fun o q => k _ _ (.inl rfl) q, ⟨o, k _ _ (.inl rfl) e⟩, st⟩
theorem HOk.lt (x : HOk P w H h) (e : H a = some o) : a < h.objs.size := (x a o e).lt
theorem HOk.fresh (x : HOk P w H h) (e : h.objs.size ≤ a) : H a = none := by
  cases q : H a with
  | none => rfl
  | some u => exact absurd (Nat.lt_of_lt_of_le (x.lt q) e) (Nat.lt_irrefl _)
/-- every object of the heap is kept -/
theorem HOk.kept (x : HOk P w H h) (k : ∀ b u, h.get? b = some u → h'.get? b = some u) : HOk P w H h' := fun a o e =>
  (x a o e).stay (fun b u _ q => k b u q) (fun _ q => q) fun _ _ q => q
/-- a new object is laid and tracked -/
theorem HOk.laid (x : HOk P w H h) (k : ∀ b u, h.get? b = some u → h'.get? b = some u) (hp : h.objs.size ≤ a) (new : ObjOk P w (upd H a o) h' a o) : HOk P w (upd H a o) h' := fun b u e => by
  have hn := x.fresh hp
  by_cases hb : b = a
  · subst hb; rw [upd_same] at e; cases e; exact new
  · rw [upd_ne hb] at e
    exact (x b u e).stay (fun c v _ q => k c v q) (fun c q => by rw [upd_ne (ne_of_none q hn)]; exact q) fun c xs q => by rw [upd_ne (ne_of_none q hn)]; exact q
end

/-- what may be read as u: it is u, or a known u -/
def Rd (H : Hp) (a : Addr) (u : HO) : Prop := H a = some u ∨ ∃ o, H a = some (.frz o u)
theorem Rd.of {H : Hp} {a : Addr} {u : HO} (h : H a = some u) : Rd H a u := .inl h
theorem Rd.ok {P : Program} {w : World} {H : Hp} {h : Heap} {a : Addr} {u : HO} (r : Rd H a u) (x : HOk P w H h) : ObjOk P w H h a u := by
  rcases r with r | ⟨o, r⟩
  · exact x a u r
  · obtain ⟨_, q⟩ := x a _ r
    exact q
/-- what may be written -/
def Mut : Option HO → Prop
  | some (.lst _) => True
  | some (.dK _) => True
  | some (.dT _) => True
  | some (.set _ _) => True
  | some (.ins _ _ _) => True
  | some (.ext _) => True
  | _ => False
section
variable {P : Program} {w : World} {H : Hp} {h h' : Heap} {x e : Addr} {o' : HO}
/-- the object at e is changed: x itself, or the dict of the instance x -/
theorem HOk.write (ok : HOk P w H h) (mu : Mut (H x)) (he : e = x ∨ H e = some (.own x)) (k : ∀ b u, b ≠ e → h.get? b = some u → h'.get? b = some u) (heo : ∃ u, h'.get? e = some u)
    (new : ObjOk P w (upd H x o') h' x o') : HOk P w (upd H x o') h' := fun b u q => by
  have nown : ∀ c y, H c = some (.own y) → c ≠ x := fun c y r z => by subst z; rw [r] at mu; exact mu
  have ntup : ∀ c xs, H c = some (.tup xs) → c ≠ x := fun c xs r z => by subst z; rw [r] at mu; exact mu
  by_cases hb : b = x
  · subst hb; rw [upd_same] at q; cases q; exact new
  · rw [upd_ne hb] at q
    by_cases hbe : b = e
    · have q' : H b = some (.own x) := by
        rcases he with z | z
        · exact absurd (hbe.trans z) hb
        · rw [hbe]; exact z
      rw [q] at q'; cases q'
      obtain ⟨v, hv⟩ := heo
      exact ⟨v, by rw [hbe]; exact hv⟩
    · refine (ok b u q).stay (fun c v hc r => k c v ?_ r) (fun c r => by rw [upd_ne (nown c b r)]; exact r) fun c xs r => by rw [upd_ne (ntup c xs r)]; exact r
      rcases hc with rfl | hc
      · exact hbe
      · rintro rfl
        rcases he with z | z
        · exact nown c b hc z
        · rw [hc] at z; cases z; exact hb rfl
end

/-! ### kept unless tracked; of the frames at fs (the callers') the slots may change (an exception that passes writes there); of the records at ex (iterators) nothing is said -/
structure Un (fs ex : List Addr) (H H' : Hp) (h h' : Heap) : Prop where
  keep : ∀ b o, h.get? b = some o → H b = none → b ∉ fs → b ∉ ex → h'.get? b = some o
  slot : ∀ b o, h.get? b = some o → H b = none → b ∈ fs → b ∉ ex → ∃ sl, h'.get? b = some { o with slots := sl }
  free : ∀ b o, h.get? b = some o → H b = none → b ∉ ex → H' b = none
  there : ∀ b o, h.get? b = some o → b ∉ ex → ∃ o', h'.get? b = some o'
  tups : ∀ b xs, H b = some (.tup xs) → H' b = some (.tup xs)
  frzs : ∀ b o u, H b = some (.frz o u) → H' b = some (.frz o u)
  tbls : ∀ b ps, H b = some (.tbl ps) → ∃ more, H' b = some (.tbl (ps ++ more))
section
variable {fs fs' ex ex' : List Addr} {H H1 H2 : Hp} {h h1 h2 h' : Heap} {a x e : Addr} {o : HO}
theorem Un.any (u : Un fs ex H H1 h h1) {b : Addr} {ob : Obj} (q : h.get? b = some ob) (n : H b = none) (hx : b ∉ ex) : ∃ sl, h1.get? b = some { ob with slots := sl } := by
  by_cases hb : b ∈ fs
  · exact u.slot b ob q n hb hx
  · exact ⟨ob.slots, u.keep b ob q n hb hx⟩
theorem Un.trans (a : Un fs ex H H1 h h1) (b : Un fs ex H1 H2 h1 h2) : Un fs ex H H2 h h2 where
  keep := fun c ob q n hc hx => b.keep c ob (a.keep c ob q n hc hx) (a.free c ob q n hx) hc hx
  slot := fun c ob q n hc hx => by
    obtain ⟨sl, e1⟩ := a.slot c ob q n hc hx
    obtain ⟨sl', e2⟩ := b.slot c _ e1 (a.free c ob q n hx) hc hx
    exact ⟨sl', e2⟩
  free := fun c ob q n hx => by
    obtain ⟨o', e1⟩ := a.there c ob q hx
    exact b.free c o' e1 (a.free c ob q n hx) hx
  there := fun c ob q hx => by
    obtain ⟨o', e1⟩ := a.there c ob q hx
    exact b.there c o' e1 hx
  tups := fun c xs q => b.tups c xs (a.tups c xs q)
  frzs := fun c ob xs q => b.frzs c ob xs (a.frzs c ob xs q)
  tbls := fun c ps q => by
    obtain ⟨m1, e1⟩ := a.tbls c ps q
    obtain ⟨m2, e2⟩ := b.tbls c _ e1
    exact ⟨m1 ++ m2, by rw [e2, Array.append_assoc]⟩
theorem Un.kept (k : ∀ b u, h.get? b = some u → h'.get? b = some u) : Un fs ex H H h h' :=
  ⟨fun b ob q _ _ _ => k b ob q, fun b ob q _ _ _ => ⟨ob.slots, k b ob q⟩, fun _ _ _ n _ => n, fun b ob q _ => ⟨ob, k b ob q⟩, fun _ _ q => q, fun _ _ _ q => q, fun _ ps q => ⟨#[], by rw [q]; simp⟩⟩
theorem Un.refl : Un fs ex H H h h := Un.kept fun _ _ q => q
theorem Un.laid (k : ∀ b u, h.get? b = some u → h'.get? b = some u) (hp : h.objs.size ≤ a) (hn : H a = none) : Un fs ex H (upd H a o) h h' where
  keep := fun b u q _ _ _ => k b u q
  slot := fun b u q _ _ _ => ⟨u.slots, k b u q⟩
  free := fun b u q n _ => by rw [upd_ne (Nat.ne_of_lt (Nat.lt_of_lt_of_le (Heap.lt_size q) hp))]; exact n
  there := fun b u q _ => ⟨u, k b u q⟩
  tups := fun b xs q => by rw [upd_ne (ne_of_none q hn)]; exact q
  frzs := fun b u xs q => by rw [upd_ne (ne_of_none q hn)]; exact q
  tbls := fun b ps q => ⟨#[], by rw [upd_ne (ne_of_none q hn), q]; simp⟩
theorem Un.write (mu : Mut (H x)) (he : e = x ∨ H e = some (.own x)) (k : ∀ b u, b ≠ e → h.get? b = some u → h'.get? b = some u) (heo : ∃ u, h'.get? e = some u) : Un fs ex H (upd H x o) h h' := by
  have hx : ∀ b, H b = none → b ≠ x := fun b n z => by subst z; rw [n] at mu; exact mu
  have hb : ∀ b, H b = none → b ≠ e := fun b n z => by
    subst z
    rcases he with r | r
    · exact hx b n r
    · rw [n] at r; cases r
  have hm : ∀ b u, H b = some u → ¬ Mut (some u) → b ≠ x := fun b u q nm z => by subst z; rw [q] at mu; exact nm mu
  refine ⟨fun b u q n _ _ => k b u (hb b n) q, fun b u q n _ _ => ⟨u.slots, k b u (hb b n) q⟩, fun b u q n _ => by rw [upd_ne (hx b n)]; exact n, fun b u q _ => ?_,
    fun b xs q => by rw [upd_ne (hm b _ q fun z => z)]; exact q, fun b u xs q => by rw [upd_ne (hm b _ q fun z => z)]; exact q, fun b ps q => ⟨#[], by rw [upd_ne (hm b _ q fun z => z), q]; simp⟩⟩
  by_cases hbe : b = e
  · subst hbe; exact heo
  · exact ⟨u, k b u hbe q⟩
theorem Un.mono (u : Un fs ex H H1 h h1) (hs : ∀ b ∈ fs, b ∈ fs') (hx : ∀ b ∈ ex, b ∈ ex') : Un fs' ex' H H1 h h1 :=
  ⟨fun b ob q n hb he => u.keep b ob q n (fun z => hb (hs b z)) fun z => he (hx b z), fun _ _ q n _ he => u.any q n fun z => he (hx _ z), fun b ob q n he => u.free b ob q n fun z => he (hx b z), fun b ob q he => u.there b ob q fun z => he (hx b z), u.tups, u.frzs, u.tbls⟩
end

/-! ### the heap without what is tracked -/
def trk (h : Heap) (H : Hp) : List Addr := (List.range h.objs.size).filter fun a => (H a).isSome
def hidT (h : Heap) (H : Hp) : Heap := PySem.W.hideAll h (trk h H)
theorem hidT_size (h : Heap) (H : Hp) : (hidT h H).objs.size = h.objs.size := PySem.W.hideAll_size _ _
theorem hidT_get {h : Heap} {H : Hp} {b : Addr} {o : Obj} (e : h.get? b = some o) (n : H b = none) : (hidT h H).get? b = some o :=
  PySem.W.hideAll_get _ e fun hm => by
    have q : (H b).isSome = true := (List.mem_filter.mp hm).2
    rw [n] at q; simp at q
theorem of_hidT {h : Heap} {H : Hp} {b : Addr} {o : Obj} (e : (hidT h H).get? b = some o) : h.get? b = some o ∧ H b = none := by
  have e' : h.get? b = some o := PySem.W.of_hideAll (trk h H) e
  refine ⟨e', ?_⟩
  cases q : H b with
  | none => rfl
  | some x =>
    have hm : b ∈ trk h H := List.mem_filter.mpr ⟨List.mem_range.mpr (Heap.lt_size e'), by simp [q]⟩
    have z : (hidT h H).get? b = none := PySem.W.hideAll_none (trk h H) hm
    rw [z] at e; cases e

/-! ### OpenK's ledger, filled with every new object but one -/
def allNews (g h : Heap) (L : Addr) : List (Addr × Obj) := (List.range h.objs.size).filterMap fun a => if a = L ∨ (g.get? a).isSome = true then none else (h.get? a).map fun o => (a, o)
theorem mem_allNews {g h : Heap} {L a : Addr} {o : Obj} (h1 : a ≠ L) (h2 : g.get? a = none) (h3 : h.get? a = some o) : (a, o) ∈ allNews g h L :=
  List.mem_filterMap.mpr ⟨a, List.mem_range.mpr (Heap.lt_size h3), by simp [h1, h2, h3]⟩
theorem of_mem_allNews {g h : Heap} {L : Addr} {p : Addr × Obj} (hp : p ∈ allNews g h L) : p.1 ≠ L ∧ g.get? p.1 = none ∧ h.get? p.1 = some p.2 := by
  obtain ⟨b, _, e⟩ := List.mem_filterMap.mp hp
  split at e
  · cases e
  · rename_i hn
    cases q : h.get? b with
    | none => rw [q] at e; simp at e
    | some u =>
      rw [q] at e
      simp only [Option.map_some, Option.some.injEq] at e
      subst e
      refine ⟨fun z => hn (.inl z), ?_, q⟩
      show g.get? b = none
      cases r : g.get? b with
      | none => rfl
      | some v => exact (hn (.inr (by simp [r]))).elim
def rest (g h : Heap) (L d : Addr) : List (Addr × Obj) := (allNews g h L).filter fun p => decide (p.1 ≠ d)
theorem rest_ne {g h : Heap} {L d : Addr} : ∀ p ∈ rest g h L d, p.1 ≠ d := fun p hp => of_decide_eq_true (List.mem_filter.mp hp).2
theorem mem_rest {g h : Heap} {L d a : Addr} {o : Obj} (h1 : a ≠ L) (h2 : g.get? a = none) (h3 : h.get? a = some o) (h4 : a ≠ d) : (a, o) ∈ rest g h L d :=
  List.mem_filter.mpr ⟨mem_allNews h1 h2 h3, decide_eq_true h4⟩
theorem news_all {g h : Heap} {L : Addr} : News g L h (allNews g h L) := fun p hp => let ⟨a, b, c⟩ := of_mem_allNews hp; ⟨c, a, b⟩
theorem news_at {g h : Heap} {L d : Addr} {o : Obj} (h1 : d ≠ L) (h2 : g.get? d = none) (h3 : h.get? d = some o) : News g L h ((d, o) :: rest g h L d) := fun p hp => by
  rcases List.mem_cons.mp hp with rfl | hp
  · exact ⟨h3, h1, h2⟩
  · exact news_all p (List.mem_filter.mp hp).1
/-- behind a rule that changed d alone: all else but the frame is kept -/
theorem kept_of_news {g h h' : Heap} {L d : Addr} {m : Str → Option Value} (k : ∀ b o, g.get? b = some o → h.get? b = some o) (F : Fr g L h' m) (N : News g L h' (rest g h L d)) :
    ∀ b o, b ≠ L → b ≠ d → h.get? b = some o → h'.get? b = some o := fun b o h1 h2 e => by
  cases q : g.get? b with
  | some u =>
    have := k b u q
    rw [e] at this; cases this
    exact F.keep b _ q
  | none => exact (N (b, o) (mem_rest h1 q e h2)).1
end L2

namespace L2
open PySem PySem.Spec PyProof.Rows

/-- the module's facts, over the base: the heap at the law's entry without what is tracked there -/
structure Mod (K : PySem.W.Frag) (mg : Str → Option Value) (base : Heap) : Prop where
  kin : K.In base
  glob : base.Ns mainGlobals mg
  blt : ∃ mb, base.Ns builtinsNs mb ∧ ∀ x : Str, x ≠ "__name__" → mb x = bootBuiltins x
  nolimit : base.NoLimit

/-- the context: a def's body (or a comprehension's block) running. base: fixed through the whole law; s₀, H₀: the entry; outer: the frames whose slots others may change (a def's callers); stack: all frames that run;
   ex: iterators that were made ahead of the entry and are walked here (a comprehension's); fn: the names whose cells were made at the entry (a def: all; a comprehension's block: its own); calm: not within an except suite; pn: pins that every state bears; xe: what is wanted of an exception that leaves the code -/
structure Cx where
  prog : Program
  w : World
  K : PySem.W.Frag
  mg : Str → Option Value
  base : Heap
  A : Around
  N : List Str
  s₀ : Shared
  H₀ : Hp
  env : Env
  outer : List Env
  stack : List Env
  ex : List Addr
  fn : Str → Bool
  calm : Bool
  pn : List (Addr × Obj)
  xe : Value → Shared → Prop
/-- the callers' frames -/
def frs (l : List Env) : List Addr := l.filterMap (·.frame)
abbrev Cx.fs (X : Cx) : List Addr := frs X.outer

def Vis (sc : Scope) (x : Str) : Prop := sc.names.lookup x = some .local ∨ sc.names.lookup x = some .cell ∨ sc.names.lookup x = some .free
def Loc (sc : Scope) (x : Str) : Prop := sc.names.lookup x = some .local ∨ sc.names.lookup x = some .cell
def Look (env : Env) (h : Heap) (m : Str → Option Value) (x : Str) (u : Value) : Prop :=
  (env.kindOf x = some .local ∧ m x = some u) ∨ ((env.kindOf x = some .cell ∨ env.kindOf x = some .free) ∧ ∃ c, env.cells.lookup x = some c ∧ h.IsCell c (some u))

structure Cx.Ok (X : Cx) : Prop where
  mod : Mod X.K X.mg X.base
  kind : X.env.scope.kind = .function
  glob : X.env.globals = mainGlobals
  blt : X.env.builtins = builtinsNs
  above : X.s₀.heap.objs.size ≤ X.env.locals
  inj : ∀ x y c, X.env.cells.lookup x = some c → X.env.cells.lookup y = some c → x = y
  has : ∀ x, (X.env.kindOf x = some .cell ∨ X.env.kindOf x = some .free) → ∃ c, X.env.cells.lookup x = some c
  cab : ∀ x c, X.fn x = true → X.env.cells.lookup x = some c → X.s₀.heap.objs.size ≤ c
  hd : X.calm = true → X.A.handled = none
  frames : X.A.frames = some X.stack
  stk : X.stack = X.outer ∨ (X.stack = X.env :: X.outer ∧ X.env.frame = some X.env.locals)
  exf : ∀ b ∈ X.ex, b ≠ X.env.locals ∧ ∀ x c, X.env.cells.lookup x = some c → c ≠ b
  bs : ∀ b o, X.base.get? b = some o → X.s₀.heap.get? b = some o ∧ X.H₀ b = none
  bsz : X.base.objs.size ≤ X.s₀.heap.objs.size
  noex : ∀ b o, X.base.get? b = some o → b ∉ X.ex
  exfs : ∀ b ∈ X.ex, b ∉ X.fs
  funs : X.s₀.heap.FunFrames X.base X.outer
  frf : ∀ b ∈ X.fs, X.H₀ b = none

structure Inv (X : Cx) (pins : List (Addr × Obj)) (σ : List (Option V)) (H : Hp) (s : Shared) : Prop where
  ok : X.Ok
  os : s.os = X.s₀.os
  bare : AllBare s.gens
  base : Un X.fs X.ex X.H₀ H X.s₀.heap s.heap
  loc : ∃ m, s.heap.Ns X.env.locals m ∧ ∀ (i : Nat) (x : Str) (v : V), X.N[i]? = some x → σ[i]? = some (some v) → Vis X.env.scope x → ∃ u, RelV v u ∧ Look X.env s.heap m x u
  cell : ∀ x c, X.env.cells.lookup x = some c → ∃ v, s.heap.IsCell c v
  free : H X.env.locals = none
  freeC : ∀ x c, X.env.cells.lookup x = some c → H c = none
  pin : ∀ p ∈ X.pn ++ pins, s.heap.get? p.1 = some p.2 ∧ H p.1 = none ∧ p.1 ≠ X.env.locals ∧ p.1 ∉ X.fs ∧ ∀ v, p.2.data ≠ .cell v
  hok : HOk X.prog X.w H s.heap
  len : σ.length = X.N.length

section
variable {X : Cx} {pins : List (Addr × Obj)} {σ : List (Option V)} {H H' : Hp} {s : Shared} {h' : Heap}

theorem Cx.Ok.nofr (ok : X.Ok) {b : Addr} {o : Obj} (e : X.base.get? b = some o) : b ∉ X.fs := fun hb => by
  have := (ok.funs.mem hb).1
  rw [e] at this; cases this
theorem Inv.bs (I : Inv X pins σ H s) : ∀ b o, X.base.get? b = some o → s.heap.get? b = some o ∧ H b = none := fun b o e =>
  ⟨I.base.keep b o (I.ok.bs b o e).1 (I.ok.bs b o e).2 (I.ok.nofr e) (I.ok.noex b o e), I.base.free b o (I.ok.bs b o e).1 (I.ok.bs b o e).2 (I.ok.noex b o e)⟩
theorem Inv.bk (I : Inv X pins σ H s) : ∀ b o, X.base.get? b = some o → s.heap.get? b = some o := fun b o e => (I.bs b o e).1
theorem Inv.mod (I : Inv X pins σ H s) : Mod X.K X.mg X.base := I.ok.mod
theorem Inv.kIn (I : Inv X pins σ H s) : X.K.In s.heap := I.ok.mod.kin.keeps I.bk
theorem Inv.nolimit (I : Inv X pins σ H s) : s.heap.NoLimit := I.ok.mod.nolimit.keeps I.bk
/-- the frame over the base: for OpenK's rules (K.In X.base is I.mod.kin) -/
theorem Inv.fr (I : Inv X pins σ H s) : ∃ m, Fr X.base X.env.locals s.heap m :=
  let ⟨m, hn, _⟩ := I.loc
  ⟨m, hn, I.bk, Nat.le_trans I.ok.bsz I.ok.above⟩
theorem Inv.lt (I : Inv X pins σ H s) : X.env.locals < s.heap.objs.size := let ⟨_, hn, _⟩ := I.loc; hn.lt
theorem Inv.sz (I : Inv X pins σ H s) : X.s₀.heap.objs.size ≤ s.heap.objs.size := Nat.le_trans I.ok.above (Nat.le_of_lt I.lt)
theorem Inv.nofs (I : Inv X pins σ H s) {a : Addr} (h : s.heap.objs.size ≤ a) : a ∉ X.fs := fun hb => by
  obtain ⟨_, o, ho, _⟩ := I.ok.funs.mem hb
  exact absurd (Nat.lt_of_lt_of_le (Heap.lt_size ho) (Nat.le_trans I.sz h)) (Nat.lt_irrefl _)
theorem Inv.cne (I : Inv X pins σ H s) : ∀ x c, X.env.cells.lookup x = some c → c ≠ X.env.locals := fun x c e z => by
  obtain ⟨v, o, ho, hd⟩ := I.cell x c e
  obtain ⟨m, ⟨o', es, ep, ho', hd', _⟩, _⟩ := I.loc
  rw [z, ho'] at ho; cases ho; rw [hd'] at hd; cases hd
theorem Inv.funs (I : Inv X pins σ H s) : s.heap.FunFrames X.base X.outer := by
  have all : ∀ (l : List Env), (∀ b ∈ frs l, b ∈ X.fs) → X.s₀.heap.FunFrames X.base l → s.heap.FunFrames X.base l := by
    intro l
    induction l with
    | nil => intro _ _; trivial
    | cons env r ih =>
      intro hs hl
      obtain ⟨hk, ⟨L, o, hf, hn, ho, hd⟩, hr⟩ := hl
      have hL : L ∈ X.fs := hs L (by unfold frs; rw [List.filterMap_cons, hf]; exact List.mem_cons_self)
      obtain ⟨sl, e⟩ := I.base.slot L o ho (I.ok.frf L hL) hL fun z => I.ok.exfs L z hL
      exact ⟨hk, ⟨L, _, hf, hn, e, hd⟩, ih (fun b hb => hs b (by unfold frs; rw [List.filterMap_cons, hf]; exact List.mem_cons_of_mem _ hb)) hr⟩
  exact all X.outer (fun _ hb => hb) I.ok.funs

/-- the frames that run, for a call -/
theorem Inv.stack (I : Inv X pins σ H s) : s.heap.FunFrames X.base X.stack := by
  rcases I.ok.stk with e | ⟨e, hf⟩
  · rw [e]; exact I.funs
  · rw [e]
    obtain ⟨m, hn, _⟩ := I.loc
    refine .cons (by rw [I.ok.kind]; decide) hf hn ?_ I.funs
    exact Heap.get?_none_of_le (Nat.le_trans I.ok.bsz I.ok.above)
theorem Inv.stkSub (I : Inv X pins σ H s) : ∀ b ∈ frs X.stack, b ∈ X.env.locals :: X.fs := fun b hb => by
  rcases I.ok.stk with e | ⟨e, hf⟩
  · rw [e] at hb; exact List.mem_cons_of_mem _ hb
  · rw [e] at hb
    unfold frs at hb
    rw [List.filterMap_cons, hf] at hb
    exact hb
theorem Inv.stkFree (I : Inv X pins σ H s) : ∀ b ∈ frs X.stack, H b = none := fun b hb => by
  rcases List.mem_cons.mp (I.stkSub b hb) with e | hb
  · rw [e]; exact I.free
  · obtain ⟨_, o, ho, _⟩ := I.ok.funs.mem hb
    exact I.base.free b o ho (I.ok.frf b hb) fun z => I.ok.exfs b z hb

/-- THE STEP: the untracked objects but the frame and the records at ch are kept (the callers' frames up to slots), the frame's map is kept, the new abstract heap is held -/
theorem Inv.step {g' : Array GenState} {t' : Nat} {d' : Drawn} {ch : List Addr} (I : Inv X pins σ H s)
    (hch : ∀ b ∈ ch, (b ∈ X.ex ∨ X.s₀.heap.objs.size ≤ b) ∧ b ≠ X.env.locals ∧ (∀ x c, X.env.cells.lookup x = some c → c ≠ b) ∧ ∀ p ∈ X.pn ++ pins, p.1 ≠ b)
    (keep : ∀ b o, b ≠ X.env.locals → b ∉ X.fs → b ∉ ch → s.heap.get? b = some o → H b = none → h'.get? b = some o)
    (slot : ∀ b o, b ≠ X.env.locals → b ∈ X.fs → b ∉ ch → s.heap.get? b = some o → H b = none → ∃ sl, h'.get? b = some { o with slots := sl }) (free : ∀ b o, b ∉ ch → s.heap.get? b = some o → H b = none → H' b = none)
    (there : ∀ b o, b ∉ ch → s.heap.get? b = some o → ∃ o', h'.get? b = some o')
    (tups : ∀ b xs, H b = some (.tup xs) → H' b = some (.tup xs)) (frzs : ∀ b o u, H b = some (.frz o u) → H' b = some (.frz o u)) (tbls : ∀ b ps, H b = some (.tbl ps) → ∃ more, H' b = some (.tbl (ps ++ more)))
    (ns : ∀ m, s.heap.Ns X.env.locals m → h'.Ns X.env.locals m) (hok : HOk X.prog X.w H' h') (hg : AllBare g') :
    Inv X pins σ H' { s with heap := h', gens := g', drawn := d', toks := t' } := by
  have neL : ∀ b o, X.s₀.heap.get? b = some o → b ≠ X.env.locals := fun b o e => Nat.ne_of_lt (Nat.lt_of_lt_of_le (Heap.lt_size e) I.ok.above)
  have neC : ∀ b o, X.s₀.heap.get? b = some o → b ∉ X.ex → b ∉ ch := fun b o e hx hb => by
    rcases (hch b hb).1 with z | z
    · exact hx z
    · exact absurd (Nat.lt_of_lt_of_le (Heap.lt_size e) z) (Nat.lt_irrefl _)
  have cellK : ∀ x c, X.env.cells.lookup x = some c → ∀ v, s.heap.IsCell c v → h'.IsCell c v := fun x c e v ⟨o, ho, hd⟩ => by
    have nch : c ∉ ch := fun z => (hch c z).2.2.1 x c e rfl
    by_cases hc : c ∈ X.fs
    · obtain ⟨sl, q⟩ := slot c o (I.cne x c e) hc nch ho (I.freeC x c e)
      exact ⟨_, q, hd⟩
    · exact ⟨o, keep c o (I.cne x c e) hc nch ho (I.freeC x c e), hd⟩
  refine ⟨I.ok, I.os, hg, ⟨fun b o e n hb hx => ?_, fun b o e n hb hx => ?_, fun b o e n hx => ?_, fun b o e hx => ?_, fun b xs e => tups b xs (I.base.tups b xs e), fun b o xs e => frzs b o xs (I.base.frzs b o xs e), fun b ps e => ?_⟩, ?_, fun x c e => ?_, ?_, fun x c e => ?_, fun p hp => ?_, hok, I.len⟩
  · exact keep b o (neL b o e) hb (neC b o e hx) (I.base.keep b o e n hb hx) (I.base.free b o e n hx)
  · obtain ⟨sl, e1⟩ := I.base.slot b o e n hb hx
    obtain ⟨sl', e2⟩ := slot b _ (neL b o e) hb (neC b o e hx) e1 (I.base.free b o e n hx)
    exact ⟨sl', e2⟩
  · obtain ⟨o', e1⟩ := I.base.there b o e hx
    exact free b o' (neC b o e hx) e1 (I.base.free b o e n hx)
  · obtain ⟨o', e1⟩ := I.base.there b o e hx
    exact there b o' (neC b o e hx) e1
  · obtain ⟨m1, e1⟩ := I.base.tbls b ps e
    obtain ⟨m2, e2⟩ := tbls b _ e1
    exact ⟨m1 ++ m2, by rw [e2, Array.append_assoc]⟩
  · obtain ⟨m, hn, hl⟩ := I.loc
    refine ⟨m, ns m hn, fun i x v e1 e2 e3 => ?_⟩
    obtain ⟨u, r, l⟩ := hl i x v e1 e2 e3
    refine ⟨u, r, ?_⟩
    rcases l with l | ⟨k, c, e, z⟩
    · exact .inl l
    · exact .inr ⟨k, c, e, cellK x c e _ z⟩
  · obtain ⟨v, z⟩ := I.cell x c e
    exact ⟨v, cellK x c e v z⟩
  · obtain ⟨m, ⟨o, _, _, ho, _⟩, _⟩ := I.loc
    exact free _ o (fun z => (hch _ z).2.1 rfl) ho I.free
  · obtain ⟨v, o, ho, hd⟩ := I.cell x c e
    exact free c o (fun z => (hch c z).2.2.1 x c e rfl) ho (I.freeC x c e)
  · obtain ⟨e, n, ne, nf, d⟩ := I.pin p hp
    have nch : p.1 ∉ ch := fun z => (hch p.1 z).2.2.2 p hp rfl
    exact ⟨keep p.1 p.2 ne nf nch e n, free p.1 p.2 nch e n, ne, nf, d⟩
/-- .. where the frame's own object is kept too -/
theorem Inv.un {t' : Nat} (I : Inv X pins σ H s) (u : Un X.fs [] H H' s.heap h') (hok : HOk X.prog X.w H' h') : Inv X pins σ H' { s with heap := h', toks := t' } := by
  obtain ⟨m, ⟨o, es, ep, ho, r⟩, _⟩ := id I.loc
  obtain ⟨sl, hL⟩ := u.any ho I.free (by simp)
  exact I.step (g' := s.gens) (d' := s.drawn) (ch := []) (fun _ z => nomatch z) (fun b o _ hb _ e n => u.keep b o e n hb (by simp)) (fun b o _ hb _ e n => u.slot b o e n hb (by simp)) (fun b o _ e n => u.free b o e n (by simp)) (fun b o _ e => u.there b o e (by simp)) u.tups u.frzs u.tbls (fun m' hm => by
    obtain ⟨o', es', ep', ho', r'⟩ := hm
    rw [ho] at ho'; cases ho'
    exact ⟨_, es', ep', hL, r'⟩) hok I.bare
/-- behind a call (or a comprehension's block): the slots of this frame may have changed too, the records at ch may have turned -/
theorem Inv.call {g' : Array GenState} {t' : Nat} {d' : Drawn} {ch : List Addr} (I : Inv X pins σ H s) (u : Un (frs X.stack) ch H H' s.heap h') (hok : HOk X.prog X.w H' h') (hg : AllBare g')
    (hch : ∀ b ∈ ch, (b ∈ X.ex ∨ X.s₀.heap.objs.size ≤ b) ∧ b ≠ X.env.locals ∧ (∀ x c, X.env.cells.lookup x = some c → c ≠ b) ∧ ∀ p ∈ X.pn ++ pins, p.1 ≠ b) :
    Inv X pins σ H' { s with heap := h', gens := g', drawn := d', toks := t' } := by
  obtain ⟨m, ⟨o, es, ep, ho, r⟩, _⟩ := id I.loc
  obtain ⟨sl, hL⟩ := u.any ho I.free fun z => (hch _ z).2.1 rfl
  exact I.step (ch := ch) hch (fun b o hL hb hc e n => u.keep b o e n (fun z => (List.mem_cons.mp (I.stkSub b z)).elim hL hb) hc) (fun b o _ _ hc e n => u.any e n hc) (fun b o hc e n => u.free b o e n hc) (fun b o hc e => u.there b o e hc) u.tups u.frzs u.tbls (fun m' hm => by
    obtain ⟨o', es', ep', ho', r'⟩ := hm
    rw [ho] at ho'; cases ho'
    exact ⟨_, es', ep', hL, r'⟩) hok hg
/-- an untracked record of ours (an iterator) has turned -/
theorem Inv.turned {t' : Nat} {it : Addr} (I : Inv X pins σ H s) (k : ∀ b o, b ≠ it → s.heap.get? b = some o → h'.get? b = some o) (hn : H it = none) (hL : it ≠ X.env.locals)
    (h1 : it ∈ X.ex ∨ X.s₀.heap.objs.size ≤ it) (h2 : ∀ x c, X.env.cells.lookup x = some c → c ≠ it) (h3 : ∀ p ∈ X.pn ++ pins, p.1 ≠ it) : Inv X pins σ H { s with heap := h', toks := t' } := by
  have nit : ∀ b u, H b = some u → b ≠ it := fun b u e z => by rw [z, hn] at e; cases e
  refine I.step (g' := s.gens) (d' := s.drawn) (ch := [it]) (fun b hb => ?_) (fun b o _ _ hc e _ => k b o (fun z => hc (by simp [z])) e) (fun b o _ _ hc e _ => ⟨o.slots, k b o (fun z => hc (by simp [z])) e⟩) (fun _ _ _ _ n => n)
    (fun b o hc e => ⟨o, k b o (fun z => hc (by simp [z])) e⟩) (fun _ _ e => e) (fun _ _ _ e => e) (fun b ps e => ⟨#[], by rw [e]; simp⟩) (fun m hm => ?_) (fun b u e => ?_) I.bare
  · have e : b = it := by simpa using hb
    subst e
    exact ⟨h1, hL, h2, h3⟩
  · obtain ⟨o, es, ep, ho, r⟩ := hm
    exact ⟨o, es, ep, k _ o (Ne.symm hL) ho, r⟩
  · refine (I.hok b u e).stay (fun c v hc q => k c v ?_ q) (fun _ q => q) fun _ _ q => q
    rcases hc with z | z
    · rw [z]; exact nit b u e
    · exact nit c _ z
theorem Inv.tok (I : Inv X pins σ H s) (t : Nat) : Inv X pins σ H { s with toks := t } := I.un (h' := s.heap) (t' := t) Un.refl I.hok
/-- all objects kept -/
theorem Inv.kept {t' : Nat} (I : Inv X pins σ H s) (k : ∀ b u, s.heap.get? b = some u → h'.get? b = some u) : Inv X pins σ H { s with heap := h', toks := t' } := I.un (Un.kept k) (I.hok.kept k)
/-- a new object laid and tracked -/
theorem Inv.laid {a : Addr} {o : HO} {t' : Nat} (I : Inv X pins σ H s) (k : ∀ b u, s.heap.get? b = some u → h'.get? b = some u) (hp : s.heap.objs.size ≤ a) (new : ObjOk X.prog X.w (upd H a o) h' a o) :
    Inv X pins σ (upd H a o) { s with heap := h', toks := t' } := I.un (Un.laid k hp (I.hok.fresh hp)) (I.hok.laid k hp new)
/-- an object written -/
theorem Inv.write {x e : Addr} {o : HO} {t' : Nat} (I : Inv X pins σ H s) (mu : Mut (H x)) (he : e = x ∨ H e = some (.own x)) (k : ∀ b u, b ≠ e → s.heap.get? b = some u → h'.get? b = some u) (heo : ∃ u, h'.get? e = some u)
    (new : ObjOk X.prog X.w (upd H x o) h' x o) : Inv X pins σ (upd H x o) { s with heap := h', toks := t' } := I.un (Un.write mu he k heo) (I.hok.write mu he k heo new)
/-- forgetting slots, pins -/
theorem Inv.weak {σ' : List (Option V)} (I : Inv X pins σ H s) (hl : σ'.length = σ.length) (w : ∀ (i : Nat) v, σ'[i]? = some (some v) → σ[i]? = some (some v)) : Inv X pins σ' H s :=
  ⟨I.ok, I.os, I.bare, I.base, let ⟨m, hn, hl'⟩ := I.loc; ⟨m, hn, fun i x v e1 e2 e3 => hl' i x v e1 (w i v e2) e3⟩, I.cell, I.free, I.freeC, I.pin, I.hok, hl.trans I.len⟩
theorem Inv.pins_of {pins' : List (Addr × Obj)} (I : Inv X pins σ H s) (h : ∀ p ∈ pins', s.heap.get? p.1 = some p.2 ∧ H p.1 = none ∧ p.1 ≠ X.env.locals ∧ p.1 ∉ X.fs ∧ ∀ v, p.2.data ≠ .cell v) : Inv X pins' σ H s :=
  ⟨I.ok, I.os, I.bare, I.base, I.loc, I.cell, I.free, I.freeC, fun p hp => (List.mem_append.mp hp).elim (fun z => I.pin p (List.mem_append_left _ z)) (h p), I.hok, I.len⟩

theorem nodup_ix {N : List Str} (hN : N.Nodup) {i j : Nat} {x : Str} (a : N[i]? = some x) (b : N[j]? = some x) : i = j := by
  obtain ⟨h1, e1⟩ := List.getElem?_eq_some_iff.mp a
  obtain ⟨h2, e2⟩ := List.getElem?_eq_some_iff.mp b
  exact (List.getElem_inj hN).mp (e1.trans e2.symm)

/-- a name is stored; what changed -/
theorem store_ok2 {M : Model} {A : Around} {E : Value → Shared → Prop} {i : Nat} {x : Str} {v : V} {u : Value} {Q : Unit → Shared → Prop} (I : Inv X pins σ H s) (hN : X.N.Nodup) (hi : X.N[i]? = some x) (hx : Loc X.env.scope x) (r : RelV v u)
    (h : ∀ s', Inv X pins (σ.set i (some v)) H s' → (∃ a, Heap.SameBut a s.heap s'.heap ∧ (a = X.env.locals ∨ X.env.cells.lookup x = some a)) → Q () s') (hf : X.fn x = true ∨ X.env.scope.names.lookup x = some .local := by first | exact .inl rfl | exact .inr rfl | assumption) : wpAny M A (storeName X.env x u) Q E s := by
  obtain ⟨m, hn, hl⟩ := id I.loc
  have hcls : (X.env.scope.kind == .class || (X.env.scope.kind == .module && X.env.locals != X.env.globals)) = false := by rw [I.ok.kind]; rfl
  have hiσ : i < σ.length := by rw [I.len]; exact (List.getElem?_eq_some_iff.mp hi).1
  have cne := I.cne
  have tracked : ∀ {a : Addr} {h' : Heap}, (∃ o, s.heap.get? a = some o ∧ H a = none) → Heap.SameBut a s.heap h' → HOk X.prog X.w H h' := fun {a h'} ha hs b ob e => by
    obtain ⟨_, _, hfree⟩ := ha
    refine (I.hok b ob e).stay (fun c w' hc q => (hs.2 c ?_).trans q) (fun _ q => q) fun _ _ q => q
    rintro rfl
    rcases hc with rfl | hc
    · rw [hfree] at e; cases e
    · rw [hfree] at hc; cases hc
  rcases hx with hk | hk
  · refine wpAny_storeName_local hk hn (fun h' hn' hs => ?_) hcls
    obtain ⟨oL, _, _, hoL, _⟩ := id hn
    refine h _ ⟨I.ok, I.os, I.bare, ⟨fun b o e n hb hx => ?_, fun b o e n hb hx => ?_, I.base.free, fun b o e hx => ?_, I.base.tups, I.base.frzs, I.base.tbls⟩, ⟨_, hn', fun j y v' e1 e2 e3 => ?_⟩, fun y c e => ?_, I.free, I.freeC, fun p hp => ?_, tracked ⟨oL, hoL, I.free⟩ hs, by simpa using I.len⟩ ⟨_, hs, .inl rfl⟩
    · exact (hs.2 b (Nat.ne_of_lt (Nat.lt_of_lt_of_le (Heap.lt_size e) I.ok.above))).trans (I.base.keep b o e n hb hx)
    · obtain ⟨sl, e1⟩ := I.base.slot b o e n hb hx
      exact ⟨sl, (hs.2 b (Nat.ne_of_lt (Nat.lt_of_lt_of_le (Heap.lt_size e) I.ok.above))).trans e1⟩
    · obtain ⟨o', e1⟩ := I.base.there b o e hx
      exact ⟨o', (hs.2 b (Nat.ne_of_lt (Nat.lt_of_lt_of_le (Heap.lt_size e) I.ok.above))).trans e1⟩
    · by_cases hj : j = i
      · subst hj
        rw [hi] at e1; cases e1
        rw [List.getElem?_set_self hiσ] at e2
        cases e2
        exact ⟨u, r, .inl ⟨hk, by simp⟩⟩
      · rw [List.getElem?_set_ne (Ne.symm hj)] at e2
        obtain ⟨u', r', q⟩ := hl j y v' e1 e2 e3
        refine ⟨u', r', ?_⟩
        rcases q with ⟨k, e⟩ | ⟨k, c, e, z⟩
        · refine .inl ⟨k, ?_⟩
          have : y ≠ x := fun e => hj (nodup_ix hN e1 (e ▸ hi))
          simp [this, e]
        · exact .inr ⟨k, c, e, z.sameBut hs (cne y c e)⟩
    · obtain ⟨w', z⟩ := I.cell y c e
      exact ⟨w', z.sameBut hs (cne y c e)⟩
    · obtain ⟨e, n, ne, nf, d⟩ := I.pin p hp
      exact ⟨(hs.2 p.1 ne).trans e, n, ne, nf, d⟩
  · have hfn : X.fn x = true := by
      rcases hf with z | z
      · exact z
      · rw [z] at hk; cases hk
    obtain ⟨c, hc⟩ := I.ok.has x (.inl hk)
    obtain ⟨w', z⟩ := I.cell x c hc
    refine wpAny_storeName_cell I.ok.kind hk hc z (fun h' hc' hs => ?_)
    obtain ⟨oc, hoc, hocd⟩ := id z
    refine h { s with heap := h' } ⟨I.ok, I.os, I.bare, ⟨fun b o e n hb hx => ?_, fun b o e n hb hx => ?_, I.base.free, fun b o e hx => ?_, I.base.tups, I.base.frzs, I.base.tbls⟩, ⟨m, hn.sameBut hs (Ne.symm (cne x c hc)), fun j y v' e1 e2 e3 => ?_⟩, fun y c' e => ?_, I.free, I.freeC, fun p hp => ?_, tracked ⟨oc, hoc, I.freeC x c hc⟩ hs, by simpa using I.len⟩ ⟨c, hs, .inr hc⟩
    · exact (hs.2 b (Nat.ne_of_lt (Nat.lt_of_lt_of_le (Heap.lt_size e) (I.ok.cab x c hfn hc)))).trans (I.base.keep b o e n hb hx)
    · obtain ⟨sl, e1⟩ := I.base.slot b o e n hb hx
      exact ⟨sl, (hs.2 b (Nat.ne_of_lt (Nat.lt_of_lt_of_le (Heap.lt_size e) (I.ok.cab x c hfn hc)))).trans e1⟩
    · obtain ⟨o', e1⟩ := I.base.there b o e hx
      exact ⟨o', (hs.2 b (Nat.ne_of_lt (Nat.lt_of_lt_of_le (Heap.lt_size e) (I.ok.cab x c hfn hc)))).trans e1⟩
    · by_cases hj : j = i
      · subst hj
        rw [hi] at e1; cases e1
        rw [List.getElem?_set_self hiσ] at e2
        cases e2
        exact ⟨u, r, .inr ⟨.inl hk, c, hc, hc'⟩⟩
      · rw [List.getElem?_set_ne (Ne.symm hj)] at e2
        obtain ⟨u', r', q⟩ := hl j y v' e1 e2 e3
        refine ⟨u', r', ?_⟩
        rcases q with q | ⟨k, c', e, z'⟩
        · exact .inl q
        · refine .inr ⟨k, c', e, z'.sameBut hs ?_⟩
          rintro rfl
          exact hj (nodup_ix hN e1 (I.ok.inj _ _ _ e hc ▸ hi))
    · by_cases hcc : c' = c
      · subst hcc; exact ⟨_, hc'⟩
      · obtain ⟨w2, z2⟩ := I.cell y c' e
        exact ⟨w2, z2.sameBut hs hcc⟩
    · obtain ⟨e, n, ne, nf, d⟩ := I.pin p hp
      refine ⟨(hs.2 p.1 ?_).trans e, n, ne, nf, d⟩
      intro q
      rw [q, hoc] at e
      have q' : oc = p.2 := Option.some.inj e
      exact d w' (by rw [← q']; exact hocd)
theorem store_ok {M : Model} {A : Around} {E : Value → Shared → Prop} {i : Nat} {x : Str} {v : V} {u : Value} {Q : Unit → Shared → Prop} (I : Inv X pins σ H s) (hN : X.N.Nodup) (hi : X.N[i]? = some x) (hx : Loc X.env.scope x) (r : RelV v u)
    (h : ∀ s', Inv X pins (σ.set i (some v)) H s' → Q () s') (hf : X.fn x = true ∨ X.env.scope.names.lookup x = some .local := by first | exact .inl rfl | exact .inr rfl | assumption) : wpAny M A (storeName X.env x u) Q E s :=
  store_ok2 I hN hi hx r (fun s' I' _ => h s' I') hf
/-- behind a call or a block, the state as it is -/
theorem Inv.call' {s' : Shared} {ch : List Addr} (I : Inv X pins σ H s) (ho : s'.os = s.os) (u : Un (frs X.stack) ch H H' s.heap s'.heap) (hok : HOk X.prog X.w H' s'.heap) (hg : AllBare s'.gens)
    (hch : ∀ b ∈ ch, (b ∈ X.ex ∨ X.s₀.heap.objs.size ≤ b) ∧ b ≠ X.env.locals ∧ (∀ x c, X.env.cells.lookup x = some c → c ≠ b) ∧ ∀ p ∈ X.pn ++ pins, p.1 ≠ b) : Inv X pins σ H' s' := by
  obtain ⟨h', g', d', t', o'⟩ := s'
  have e : o' = s.os := ho
  subst e
  exact I.call (g' := g') (t' := t') (d' := d') u hok hg hch
end

/-! ### the judgements -/
/-- an exception: its class, its own dict's address (where it has one), the abstract heap behind it -/
abbrev XK := Value → Option Addr → Hp → Prop
abbrev St := List (Option V)
abbrev VK := V → Hp → Prop
/-- an expression's reading; a test's; an argument list's -/
abbrev TE := St → Hp → VK → Prop
abbrev TT := St → Hp → (Bool → Hp → Prop) → Prop
abbrev TA := St → Hp → (List V → Hp → Prop) → Prop
/-- what is wanted behind a statement -/
structure Ends where
  nx : St → Hp → Prop
  rt : VK
  bk : St → Hp → Prop := fun _ _ => False
  ct : St → Hp → Prop := fun _ _ => False
abbrev TS := Ends → St → Hp → Prop

def EP (X : Cx) (pins : List (Addr × Obj)) (σ : St) (Q : VK) (u : Value) (s' : Shared) : Prop := ∃ v H', Inv X pins σ H' s' ∧ RelV v u ∧ Q v H'
def TP (X : Cx) (pins : List (Addr × Obj)) (σ : St) (Q : Bool → Hp → Prop) (b : Bool) (s' : Shared) : Prop := ∃ H', Inv X pins σ H' s' ∧ Q b H'
def AP (X : Cx) (pins : List (Addr × Obj)) (σ : St) (Q : List V → Hp → Prop) (us : List Value) (s' : Shared) : Prop := ∃ vs H', Inv X pins σ H' s' ∧ Vals vs us ∧ Q vs H'
def SP (X : Cx) (pins : List (Addr × Obj)) (D : Ends) (f : Flow) (s' : Shared) : Prop :=
  match f with
  | .next => ∃ σ' H', Inv X pins σ' H' s' ∧ D.nx σ' H'
  | .brk => ∃ σ' H', Inv X pins σ' H' s' ∧ D.bk σ' H'
  | .cont => ∃ σ' H', Inv X pins σ' H' s' ∧ D.ct σ' H'
  | .ret u => ∃ v σ' H', Inv X pins σ' H' s' ∧ RelV v u ∧ D.rt v H'

def PE (X : Cx) (e : Expr) (t : TE) : Prop :=
  ∀ (pins : List (Addr × Obj)) (s : Shared) (σ : St) (H : Hp) (Q : VK), Inv X pins σ H s → t σ H Q → wpAny (model X.prog X.w) X.A (eval e X.env) (EP X pins σ Q) X.xe s
def PT (X : Cx) (e : Expr) (t : TT) : Prop :=
  ∀ (pins : List (Addr × Obj)) (s : Shared) (σ : St) (H : Hp) (Q : Bool → Hp → Prop), Inv X pins σ H s → t σ H Q → wpAny (model X.prog X.w) X.A (isTrue e X.env (eval e X.env)) (TP X pins σ Q) X.xe s
/-- a test whatever its 'whole' is (and, or) -/
def PW (X : Cx) (e : Expr) (t : TT) : Prop :=
  ∀ (whole : Sem Value) (pins : List (Addr × Obj)) (s : Shared) (σ : St) (H : Hp) (Q : Bool → Hp → Prop), Inv X pins σ H s → t σ H Q → wpAny (model X.prog X.w) X.A (isTrue e X.env whole) (TP X pins σ Q) X.xe s
theorem PW.pt {X : Cx} {e : Expr} {t : TT} (h : PW X e t) : PT X e t := h _
/-- an argument list (no star), from the left -/
def PA (X : Cx) (es : List Expr) (t : TA) : Prop :=
  ∀ (pos : Pos) (pins : List (Addr × Obj)) (s : Shared) (σ : St) (H : Hp) (Q : List V → Hp → Prop), Inv X pins σ H s → t σ H Q → wpAny (model X.prog X.w) X.A (spliced (backTo pos (starEach es X.env))) (AP X pins σ Q) X.xe s
def PS (X : Cx) (st : Stmt) (t : TS) : Prop :=
  ∀ (pins : List (Addr × Obj)) (s : Shared) (σ : St) (H : Hp) (D : Ends), Inv X pins σ H s → t D σ H → wpAny (model X.prog X.w) X.A (exec st X.env) (SP X pins D) X.xe s
def PSs (X : Cx) (st : List Stmt) (t : TS) : Prop :=
  ∀ (pins : List (Addr × Obj)) (s : Shared) (σ : St) (H : Hp) (D : Ends), Inv X pins σ H s → t D σ H → wpAny (model X.prog X.w) X.A (execs st X.env) (SP X pins D) X.xe s
/-- weaken the end -/
theorem thn {α : Type} {t : Sem α} {Q Q' : α → Shared → Prop} {M : Model} {A : Around} {E : Value → Shared → Prop} {s : Shared} (h : wpAny M A t Q E s) (hQ : ∀ a s, Q a s → Q' a s) : wpAny M A t Q' E s := wpAny_mono h hQ fun _ _ x => x
end L2

namespace L2
open PySem PySem.Spec PyProof.Rows
section
variable {X : Cx}

/-- two expressions in a row -/
theorem bin {a b : Expr} {ta tb : TE} (ha : PE X a ta) (hb : PE X b tb) {pins : List (Addr × Obj)} {s : Shared} {σ : St} {H : Hp} {R : V → V → Hp → Prop} (I : Inv X pins σ H s) (h : ta σ H fun x H1 => tb σ H1 fun y H2 => R x y H2)
    {α : Type} {Q : α → Shared → Prop} {f : Value → Value → Sem α}
    (hf : ∀ v u s2 x y H2, Inv X pins σ H2 s2 → RelV x v → RelV y u → R x y H2 → wpAny (model X.prog X.w) X.A (f v u) Q X.xe s2) :
    wpAny (model X.prog X.w) X.A (eval a X.env) (fun v s₁ => wpAny (model X.prog X.w) X.A (eval b X.env) (fun u s₂ => wpAny (model X.prog X.w) X.A (f v u) Q X.xe s₂) X.xe s₁) X.xe s := by
  refine thn (ha pins s σ H _ I h) fun v s1 ⟨x, H1, I1, r1, q1⟩ => ?_
  refine thn (hb pins s1 σ H1 _ I1 q1) fun u s2 ⟨y, H2, I2, r2, q2⟩ => ?_
  exact hf v u s2 x y H2 I2 r1 r2 q2

/-! ### names and constants -/
def tVar (i : Nat) : TE := fun σ H Q => ∃ v, σ[i]? = some (some v) ∧ Q v H
def tC (v : V) : TE := fun _ H Q => Q v H
theorem pe_var {i : Nat} {x : Str} {pos : Pos} (hN : X.N[i]? = some x) (hv : Vis X.env.scope x) (hd : (x == ("__debug__" : Str)) = false := by decide) (hcd : (x == ("__classdict__" : Str)) = false := by decide) : PE X (.Name x pos) (tVar i) := by
  intro pins s σ H Q I h
  obtain ⟨v, e, h⟩ := h
  obtain ⟨m, hn, hl⟩ := I.loc
  obtain ⟨u, r, l⟩ := hl i x v hN e hv
  have fin : EP X pins σ Q u s := ⟨v, H, I, r, h⟩
  rcases l with ⟨hk, hm⟩ | ⟨hk, c, hc, hcell⟩
  · exact wpAny_Name (wpAny_loadName_local I.ok.kind hk hn hm fin) hd
  · rcases hk with hk | hk
    · exact wpAny_Name (wpAny_loadName_cell I.ok.kind hk hc hcell fin) hd
    · exact wpAny_Name (wpAny_loadName_free I.ok.kind hk hc hcell fin hcd) hd
theorem pe_int {i j pos} : PE X (.Constant (.int i) j pos) (tC (.int i)) := fun _ _ _ H _ I h => wpAny_Constant_int ⟨.int i, H, I.tok _, ⟨_, rfl⟩, h⟩
theorem pe_bl {b j pos} : PE X (.Constant (.bool b) j pos) (tC (.bl b)) := fun _ _ _ H _ I h => Constant_bool ⟨.bl b, H, I, rfl, h⟩
theorem pe_non {j pos} : PE X (.Constant .none j pos) (tC .non) := fun _ _ _ H _ I h => Constant_none ⟨.non, H, I, rfl, h⟩
theorem pe_str {x j pos} : PE X (.Constant (.str x) j pos) (tC (.str x)) := fun _ _ _ H _ I h => Calls.Constant_str ⟨.str x, H, I.tok _, ⟨_, rfl⟩, h⟩

/-- a global name of the def -/
def Gl (X : Cx) (x : Str) : Prop := X.env.kindOf x = some .globalImplicit
theorem ld_glob {E : Value → Shared → Prop} {pins : List (Addr × Obj)} {s : Shared} {σ : St} {H : Hp} {x : Str} {u : Value} {pos : Pos} {Q : Value → Shared → Prop} (I : Inv X pins σ H s) (hg : Gl X x) (hm : X.mg x = some u) (h : Q u s)
    (hd : (x == ("__debug__" : Str)) = false := by decide) : wpAny (model X.prog X.w) X.A (eval (.Name x pos) X.env) Q E s :=
  Calls.Name_function_global I.ok.kind hg (Calls.loadGlobal_global (by rw [I.ok.glob]; exact I.mod.glob.keeps I.bk) hm h) hd
theorem ld_blt {E : Value → Shared → Prop} {pins : List (Addr × Obj)} {s : Shared} {σ : St} {H : Hp} {x : Str} {u : Value} {pos : Pos} {Q : Value → Shared → Prop} (I : Inv X pins σ H s) (hg : Gl X x) (hm : X.mg x = none) (hv : bootBuiltins x = some u) (h : Q u s)
    (hn : x ≠ "__name__" := by decide) (hd : (x == ("__debug__" : Str)) = false := by decide) : wpAny (model X.prog X.w) X.A (eval (.Name x pos) X.env) Q E s := by
  obtain ⟨mb, h1, h2⟩ := I.mod.blt
  exact Calls.Name_function_global I.ok.kind hg (Calls.loadGlobal_builtin (by rw [I.ok.glob]; exact I.mod.glob.keeps I.bk) hm (by rw [I.ok.blt]; exact h1.keeps I.bk) ((h2 x hn).trans hv) h) hd
/-- a module's constant, a class, a function, as a value -/
theorem pe_glob {x : Str} {v : V} {u : Value} {pos : Pos} (hg : Gl X x) (hm : X.mg x = some u) (r : RelV v u) (hd : (x == ("__debug__" : Str)) = false := by decide) : PE X (.Name x pos) (tC v) :=
  fun _ _ _ H _ I h => ld_glob I hg hm ⟨v, H, I, r, h⟩ hd
theorem pe_bltn {x : Str} {v : V} {u : Value} {pos : Pos} (hg : Gl X x) (hm : X.mg x = none) (hv : bootBuiltins x = some u) (r : RelV v u) (hn : x ≠ "__name__" := by decide) (hd : (x == ("__debug__" : Str)) = false := by decide) : PE X (.Name x pos) (tC v) :=
  fun _ _ _ H _ I h => ld_blt I hg hm hv ⟨v, H, I, r, h⟩ hn hd

/-! ### arithmetic -/
/-- two ints -/
def t2I (ta tb : TE) (k : Int → Int → Hp → Prop) : St → Hp → Prop := fun σ H => ta σ H fun x H1 => tb σ H1 fun y H2 => ∃ i j, x = .int i ∧ y = .int j ∧ k i j H2
def tAdd (ta tb : TE) : TE := fun σ H Q => t2I ta tb (fun i j H2 => Q (.int (i + j)) H2) σ H
def tSub (ta tb : TE) : TE := fun σ H Q => t2I ta tb (fun i j H2 => Q (.int (i - j)) H2) σ H
/-- the left factor below 2^64 -/
def tMul (ta tb : TE) : TE := fun σ H Q => t2I ta tb (fun i j H2 => (-(2 ^ 64) < i ∧ i < 2 ^ 64) ∧ Q (.int (i * j)) H2) σ H
variable {a b : Expr} {ta tb : TE} {pos : Pos}
theorem pe_add (ha : PE X a ta) (hb : PE X b tb) : PE X (.BinOp a .Add b pos) (tAdd ta tb) := by
  intro pins s σ H Q I h
  refine wpAny_BinOp (bin ha hb I h fun v u s2 x y H2 I2 rx ry q => ?_)
  obtain ⟨i, j, rfl, rfl, q⟩ := q
  obtain ⟨t, rfl⟩ := rx
  obtain ⟨t', rfl⟩ := ry
  exact add_int ⟨.int _, H2, I2.tok _, ⟨_, rfl⟩, q⟩
theorem pe_sub (ha : PE X a ta) (hb : PE X b tb) : PE X (.BinOp a .Sub b pos) (tSub ta tb) := by
  intro pins s σ H Q I h
  refine wpAny_BinOp (bin ha hb I h fun v u s2 x y H2 I2 rx ry q => ?_)
  obtain ⟨i, j, rfl, rfl, q⟩ := q
  obtain ⟨t, rfl⟩ := rx
  obtain ⟨t', rfl⟩ := ry
  exact sub_int ⟨.int _, H2, I2.tok _, ⟨_, rfl⟩, q⟩
theorem pe_mul (ha : PE X a ta) (hb : PE X b tb) : PE X (.BinOp a .Mult b pos) (tMul ta tb) := by
  intro pins s σ H Q I h
  refine wpAny_BinOp (bin ha hb I h fun v u s2 x y H2 I2 rx ry q => ?_)
  obtain ⟨i, j, rfl, rfl, ⟨q1, q2⟩, q⟩ := q
  obtain ⟨t, rfl⟩ := rx
  obtain ⟨t', rfl⟩ := ry
  exact mul_int ⟨.int _, H2, I2.tok _, ⟨_, rfl⟩, q⟩ (.of_left (intBits_le_64 q1 q2))

/-! ### comparisons -/
def PC (X : Cx) (op : CmpOp) (a b : Expr) (t : TE) : Prop :=
  ∀ (pins : List (Addr × Obj)) (s : Shared) (σ : St) (H : Hp) (Q : VK), Inv X pins σ H s → t σ H Q →
    wpAny (model X.prog X.w) X.A (eval a X.env) (fun v s₁ => wpAny (model X.prog X.w) X.A (eval b X.env) (fun u s₂ => wpAny (model X.prog X.w) X.A (compareOp op v u) (EP X pins σ Q) X.xe s₂) X.xe s₁) X.xe s
theorem nobehind (b : Expr) {op : CmpOp} (h : op ≠ .In) (h2 : op ≠ .NotIn) : behindInMarks op b = false := by
  have e1 : (op == CmpOp.In) = false := by cases op <;> first | rfl | exact absurd rfl h
  have e2 : (op == CmpOp.NotIn) = false := by cases op <;> first | rfl | exact absurd rfl h2
  cases b <;> simp [behindInMarks, e1, e2]
def tCmp (p : Int → Int → Bool) (ta tb : TE) : TE := fun σ H Q => t2I ta tb (fun i j H2 => Q (.bl (p i j)) H2) σ H
abbrev tLt : TE → TE → TE := tCmp fun i j => decide (i < j)
abbrev tLe : TE → TE → TE := tCmp fun i j => decide (i ≤ j)
abbrev tGt : TE → TE → TE := tCmp fun i j => decide (j < i)
abbrev tGe : TE → TE → TE := tCmp fun i j => decide (j ≤ i)
abbrev tEqI : TE → TE → TE := tCmp fun i j => decide (i = j)
abbrev tNeI : TE → TE → TE := tCmp fun i j => !decide (i = j)
/-- a comparison of two ints, by its rule -/
theorem pc_int {op : CmpOp} {p : Int → Int → Bool} (ha : PE X a ta) (hb : PE X b tb)
    (rule : ∀ (i j : Int) (t u : Tok) (Q : Value → Shared → Prop) (s : Shared), Q (.bool (p i j)) s → wpAny (model X.prog X.w) X.A (compareOp op (.int i t) (.int j u)) Q X.xe s) : PC X op a b (tCmp p ta tb) := by
  intro pins s σ H Q I h
  refine bin ha hb I h fun v u s2 x y H2 I2 rx ry q => ?_
  obtain ⟨i, j, rfl, rfl, q⟩ := q
  obtain ⟨t, rfl⟩ := rx
  obtain ⟨t', rfl⟩ := ry
  exact rule i j t t' _ s2 ⟨.bl _, H2, I2, rfl, q⟩
theorem pc_lt (ha : PE X a ta) (hb : PE X b tb) : PC X .Lt a b (tLt ta tb) := pc_int ha hb fun _ _ _ _ _ _ h => lt_int h
theorem pc_le (ha : PE X a ta) (hb : PE X b tb) : PC X .LtE a b (tLe ta tb) := pc_int ha hb fun _ _ _ _ _ _ h => le_int h
theorem pc_gt (ha : PE X a ta) (hb : PE X b tb) : PC X .Gt a b (tGt ta tb) := pc_int ha hb fun _ _ _ _ _ _ h => gt_int h
theorem pc_ge (ha : PE X a ta) (hb : PE X b tb) : PC X .GtE a b (tGe ta tb) := pc_int ha hb fun _ _ _ _ _ _ h => ge_int h
theorem pc_eqI (ha : PE X a ta) (hb : PE X b tb) : PC X .Eq a b (tEqI ta tb) := pc_int ha hb fun _ _ _ _ _ _ h => eq_int (by rw [Bool.beq_eq_decide_eq]; exact h)
theorem pc_neI (ha : PE X a ta) (hb : PE X b tb) : PC X .NotEq a b (tNeI ta tb) := pc_int ha hb fun _ _ _ _ _ _ h => ne_int (by rw [bne, Bool.beq_eq_decide_eq]; exact h)
/-- is None -/
def tIsN (ta : TE) : TE := fun σ H Q => ta σ H fun x H1 => Q (.bl (decide (x = .non))) H1
def tNotN (ta : TE) : TE := fun σ H Q => ta σ H fun x H1 => Q (.bl (!decide (x = .non))) H1
theorem RelV.none_iff {x : V} {v : Value} (r : RelV x v) : (v == Value.none) = decide (x = .non) := by
  cases x with
  | non => cases r; rfl
  | bl _ => cases r; rfl
  | int _ => obtain ⟨t, rfl⟩ := r; rfl
  | str _ => obtain ⟨t, rfl⟩ := r; rfl
  | byt _ => obtain ⟨t, rfl⟩ := r; rfl
  | flt _ => obtain ⟨t, rfl⟩ := r; rfl
  | ref _ => cases r; rfl
  | ty _ => cases r; rfl
theorem pc_isN {j pos'} (ha : PE X a ta) : PC X .Is a (.Constant .none j pos') (tIsN ta) := by
  intro pins s σ H Q I h
  refine thn (ha pins s σ H _ I h) fun v s1 ⟨x, H1, I1, r1, q1⟩ => ?_
  exact Constant_none (is_none_gen ⟨.bl _, H1, I1, by rw [r1.none_iff]; rfl, q1⟩)
theorem pc_notN {j pos'} (ha : PE X a ta) : PC X .IsNot a (.Constant .none j pos') (tNotN ta) := by
  intro pins s σ H Q I h
  refine thn (ha pins s σ H _ I h) fun v s1 ⟨x, H1, I1, r1, q1⟩ => ?_
  exact Constant_none (isnot_none_gen ⟨.bl _, H1, I1, by rw [r1.none_iff]; rfl, q1⟩)
/-- a comparison as a value, as a test -/
def tB (t : TE) : TT := fun σ H Q => t σ H fun x H1 => ∃ c, x = .bl c ∧ Q c H1
theorem pe_cmp {op : CmpOp} {t : TE} (h : PC X op a b t) (h1 : behindInMarks op b = false := by first | exact nobehind _ (by decide) (by decide) | rfl) : PE X (.Compare a [op] [b] pos) t := fun pins s σ H Q I hw => wpAny_Compare1 (h pins s σ H Q I hw) h1
theorem pt_cmp {op : CmpOp} {t : TE} (h : PC X op a b t) (h1 : behindInMarks op b = false := by first | exact nobehind _ (by decide) (by decide) | rfl) : PT X (.Compare a [op] [b] pos) (tB t) := by
  intro pins s σ H Q I hw
  refine wpAny_isTrue_Compare1 (thn (h pins s σ H _ I hw) fun v s1 h1 => thn h1 fun u s2 h2 => thn h2 fun c s3 ⟨x, H1, I1, r1, q1⟩ => ?_) h1
  obtain ⟨d, rfl, q⟩ := q1
  cases r1
  exact wpAny_truthy_bool ⟨H1, I1, q⟩
/-- an expression whose value is a bool, as a test -/
theorem pt_val {e : Expr} {t : TE} (h : PE X e t) (he : ∀ whole, isTrue e X.env whole = (do let v ← whole; standAt e.pos; holding [v] (truthy v)) := by intro _; rfl) : PT X e (tB t) := by
  intro pins s σ H Q I hw
  refine isTrue_plain (thn (h pins s σ H _ I hw) fun v s1 ⟨x, H1, I1, r1, q1⟩ => ?_) (he _)
  obtain ⟨d, rfl, q⟩ := q1
  cases r1
  exact wpAny_truthy_bool ⟨H1, I1, q⟩

/-! ### and, or, not -/
variable {tA tB' : TT} {rest : List Expr}
def tAnd (t u : TT) : TT := fun σ H Q => t σ H fun c H1 => if c = true then u σ H1 Q else Q false H1
def tOr (t u : TT) : TT := fun σ H Q => t σ H fun c H1 => if c = true then Q true H1 else u σ H1 Q
def tNot (t : TT) : TT := fun σ H Q => t σ H fun c H1 => Q (!c) H1
theorem pw_and1 (ha : PT X a tA) : PW X (.BoolOp .And [a] pos) tA := by
  intro wh pins s σ H Q I h
  refine isTrue_and (thn (ha pins s σ H Q I h) fun c s1 e => ?_)
  cases c with
  | true => exact isTrue_and_nil e
  | false => exact e
theorem pw_or1 (ha : PT X a tA) : PW X (.BoolOp .Or [a] pos) tA := by
  intro wh pins s σ H Q I h
  refine isTrue_or (thn (ha pins s σ H Q I h) fun c s1 e => ?_)
  cases c with
  | false => exact isTrue_or_nil e
  | true => exact e
theorem pw_and (ha : PT X a tA) (hb : PW X (.BoolOp .And (b :: rest) pos) tB') : PW X (.BoolOp .And (a :: b :: rest) pos) (tAnd tA tB') := by
  intro wh pins s σ H Q I h
  refine isTrue_and (thn (ha pins s σ H _ I h) fun c s1 ⟨H1, I1, q1⟩ => ?_)
  cases c with
  | true => exact hb wh pins s1 σ H1 Q I1 q1
  | false => exact ⟨H1, I1, q1⟩
theorem pw_or (ha : PT X a tA) (hb : PW X (.BoolOp .Or (b :: rest) pos) tB') : PW X (.BoolOp .Or (a :: b :: rest) pos) (tOr tA tB') := by
  intro wh pins s σ H Q I h
  refine isTrue_or (thn (ha pins s σ H _ I h) fun c s1 ⟨H1, I1, q1⟩ => ?_)
  cases c with
  | true => exact ⟨H1, I1, q1⟩
  | false => exact hb wh pins s1 σ H1 Q I1 q1
theorem pt_not (ha : PT X a tA) : PT X (.UnaryOp .Not a pos) (tNot tA) := by
  intro pins s σ H Q I h
  exact isTrue_not (ha pins s σ H (fun c H1 => Q (!c) H1) I h)
/-- .. as values (bools) -/
def tAndV (ta tb : TE) : TE := fun σ H Q => ta σ H fun x H1 => ∃ c, x = .bl c ∧ if c = true then tb σ H1 Q else Q (.bl false) H1
def tOrV (ta tb : TE) : TE := fun σ H Q => ta σ H fun x H1 => ∃ c, x = .bl c ∧ if c = true then Q (.bl true) H1 else tb σ H1 Q
def tNotV (ta : TE) : TE := fun σ H Q => ta σ H fun x H1 => ∃ c, x = .bl c ∧ Q (.bl (!c)) H1
theorem pe_one {op} {t : TE} (h : PE X a t) : PE X (.BoolOp op [a] pos) t := fun pins s σ H Q I hw => BoolOp_one (h pins s σ H Q I hw)
theorem pe_and (ha : PE X a ta) (hb : PE X (.BoolOp .And (b :: rest) pos) tb) : PE X (.BoolOp .And (a :: b :: rest) pos) (tAndV ta tb) := by
  intro pins s σ H Q I h
  refine BoolOp_and (thn (ha pins s σ H _ I h) fun v s1 ⟨x, H1, I1, r1, q1⟩ => ?_)
  obtain ⟨c, rfl, q1⟩ := q1
  cases r1
  refine wpAny_truthy_bool ?_
  cases c with
  | true => exact hb pins s1 σ H1 Q I1 q1
  | false => exact ⟨.bl false, H1, I1, rfl, q1⟩
theorem pe_or (ha : PE X a ta) (hb : PE X (.BoolOp .Or (b :: rest) pos) tb) : PE X (.BoolOp .Or (a :: b :: rest) pos) (tOrV ta tb) := by
  intro pins s σ H Q I h
  refine BoolOp_or (thn (ha pins s σ H _ I h) fun v s1 ⟨x, H1, I1, r1, q1⟩ => ?_)
  obtain ⟨c, rfl, q1⟩ := q1
  cases r1
  refine wpAny_truthy_bool ?_
  cases c with
  | false => exact hb pins s1 σ H1 Q I1 q1
  | true => exact ⟨.bl true, H1, I1, rfl, q1⟩
theorem pe_not (ha : PE X a ta) : PE X (.UnaryOp .Not a pos) (tNotV ta) := by
  intro pins s σ H Q I h
  refine UnaryOp_ (thn (ha pins s σ H _ I h) fun v s1 ⟨x, H1, I1, r1, q1⟩ => ?_)
  obtain ⟨c, rfl, q1⟩ := q1
  cases r1
  exact not_of (wpAny_truthy_bool ⟨.bl (!c), H1, I1, rfl, q1⟩)
/-- a if t else b -/
def tIf (t : TT) (ta tb : TE) : TE := fun σ H Q => t σ H fun c H1 => if c = true then ta σ H1 Q else tb σ H1 Q
theorem pe_ifExp {c : Expr} (hc : PT X c tA) (ha : PE X a ta) (hb : PE X b tb) : PE X (.IfExp c a b pos) (tIf tA ta tb) := by
  intro pins s σ H Q I h
  refine wpAny_IfExp (thn (hc pins s σ H _ I h) fun d s1 ⟨H1, I1, q1⟩ => ?_)
  cases d with
  | true => exact ha pins s1 σ H1 Q I1 q1
  | false => exact hb pins s1 σ H1 Q I1 q1
end
end L2

namespace L2
open PySem PySem.Spec PyProof.Rows

/-! ### a list, a tuple that is read: tracked, frozen, or an object of the module -/
def SqL (K : PySem.W.Frag) (H : Hp) (a : Addr) (xs : List V) : Prop :=
  Rd H a (.lst xs) ∨
    ∃ (o : Obj) (its : Array Value) (n : Nat), K.lookup a = some o ∧ o.cls = .type "list" ∧ o.dict = none ∧ o.data = .seq its n ∧ its.size ≤ sizeLine ∧ Vals xs its.toList
def SqT (K : PySem.W.Frag) (H : Hp) (a : Addr) (xs : List V) : Prop :=
  Rd H a (.tup xs) ∨
    ∃ (o : Obj) (its : Array Value) (n : Nat), K.lookup a = some o ∧ o.cls = .type "tuple" ∧ o.data = .seq its n ∧ its.size ≤ sizeLine ∧ Vals xs its.toList
def absV : Value → Option V
  | .none => some .non
  | .bool b => some (.bl b)
  | .int i _ => some (.int i)
  | .str x _ => some (.str x)
  | .bytes b _ => some (.byt b)
  | .float b _ => some (.flt b)
  | .ref a => some (.ref a)
  | .type n => some (.ty n)
  | _ => none
theorem RelV.abs {x : V} {u : Value} (r : RelV x u) : absV u = some x := by
  cases x with
  | non => cases r; rfl
  | bl _ => cases r; rfl
  | int _ => obtain ⟨t, rfl⟩ := r; rfl
  | str _ => obtain ⟨t, rfl⟩ := r; rfl
  | byt _ => obtain ⟨t, rfl⟩ := r; rfl
  | flt _ => obtain ⟨t, rfl⟩ := r; rfl
  | ref _ => cases r; rfl
  | ty _ => cases r; rfl
theorem RelV.inj {x y : V} {u : Value} (r : RelV x u) (q : RelV y u) : x = y := Option.some.inj (r.abs.symm.trans q.abs)
theorem Vals.inj : ∀ {xs ys : List V} {us : List Value}, Vals xs us → Vals ys us → xs = ys
  | _, _, _, .nil, .nil => rfl
  | _, _, _, .cons r t, .cons r' t' => by rw [r.inj r', Vals.inj t t']
section
variable {X : Cx} {pins : List (Addr × Obj)} {σ : St} {H : Hp} {s : Shared} {a : Addr} {xs ys : List V}
theorem SqL.of {K : PySem.W.Frag} (h : H a = some (.lst xs)) : SqL K H a xs := .inl (.inl h)
theorem SqT.of {K : PySem.W.Frag} (h : H a = some (.tup xs)) : SqT K H a xs := .inl (.inl h)
theorem Inv.list (I : Inv X pins σ H s) (h : SqL X.K H a xs) : ∃ its : List Value, Vals xs its ∧ PlainL s.heap a its.toArray ∧ xs.length ≤ sizeLine := by
  rcases h with h | ⟨o, its, n, hk, hc, hd, hs, hz, r⟩
  · obtain ⟨z, its, n, r, e⟩ := h.ok I.hok
    exact ⟨its, r, ⟨_, n, e, rfl, rfl, rfl⟩, z⟩
  · refine ⟨its.toList, r, ⟨o, n, I.kIn a o hk, hc, hd, by simpa using hs⟩, ?_⟩
    have e := r.length
    simp only [Array.length_toList] at e
    omega
theorem Inv.tuple (I : Inv X pins σ H s) (h : SqT X.K H a xs) : ∃ its : List Value, Vals xs its ∧ IsTup s.heap a its.toArray ∧ xs.length ≤ sizeLine := by
  rcases h with h | ⟨o, its, n, hk, hc, hs, hz, r⟩
  · obtain ⟨z, its, r, p⟩ := h.ok I.hok
    exact ⟨its, r, p, z⟩
  · refine ⟨its.toList, r, ⟨o, I.kIn a o hk, hc, n, by simpa using hs⟩, ?_⟩
    have e := r.length
    simp only [Array.length_toList] at e
    omega
theorem Inv.list_inj (I : Inv X pins σ H s) (h : SqL X.K H a xs) (h' : SqL X.K H a ys) : xs = ys := by
  obtain ⟨its, r, ⟨o, n, e, _, _, d⟩, _⟩ := I.list h
  obtain ⟨its', r', ⟨o', n', e', _, _, d'⟩, _⟩ := I.list h'
  rw [e] at e'; cases e'
  rw [d] at d'
  injection d' with d1 _
  have : its = its' := by simpa using congrArg Array.toList d1
  subst this
  exact r.inj r'
theorem Inv.tuple_inj (I : Inv X pins σ H s) (h : SqT X.K H a xs) (h' : SqT X.K H a ys) : xs = ys := by
  obtain ⟨its, r, ⟨o, e, _, n, d⟩, _⟩ := I.tuple h
  obtain ⟨its', r', ⟨o', e', _, n', d'⟩, _⟩ := I.tuple h'
  rw [e] at e'; cases e'
  rw [d] at d'
  injection d' with d1 _
  have : its = its' := by simpa using congrArg Array.toList d1
  subst this
  exact r.inj r'
end

/-! ### another wish about exceptions -/
abbrev Cx.wish (X : Cx) (E : Value → Shared → Prop) : Cx := { X with xe := E }
/-- no exception leaves -/
abbrev Cx.nox (X : Cx) : Cx := X.wish fun _ _ => False
theorem Cx.Ok.wish {X : Cx} (ok : X.Ok) (E : Value → Shared → Prop) : (X.wish E).Ok :=
  ⟨ok.mod, ok.kind, ok.glob, ok.blt, ok.above, ok.inj, ok.has, ok.cab, ok.hd, ok.frames, ok.stk, ok.exf, ok.bs, ok.bsz, ok.noex, ok.exfs, ok.funs, ok.frf⟩
theorem Cx.Ok.unwish {X : Cx} {E : Value → Shared → Prop} (ok : (X.wish E).Ok) : X.Ok :=
  ⟨ok.mod, ok.kind, ok.glob, ok.blt, ok.above, ok.inj, ok.has, ok.cab, ok.hd, ok.frames, ok.stk, ok.exf, ok.bs, ok.bsz, ok.noex, ok.exfs, ok.funs, ok.frf⟩
section
variable {X : Cx} {pins : List (Addr × Obj)} {σ : St} {H : Hp} {s : Shared} {E : Value → Shared → Prop}
theorem Inv.wish (I : Inv X pins σ H s) (E : Value → Shared → Prop) : Inv (X.wish E) pins σ H s := ⟨I.ok.wish E, I.os, I.bare, I.base, I.loc, I.cell, I.free, I.freeC, I.pin, I.hok, I.len⟩
theorem Inv.unwish (I : Inv (X.wish E) pins σ H s) : Inv X pins σ H s := ⟨I.ok.unwish, I.os, I.bare, I.base, I.loc, I.cell, I.free, I.freeC, I.pin, I.hok, I.len⟩
theorem SP.unwish {D : Ends} {f : Flow} {s' : Shared} (h : SP (X.wish E) pins D f s') : SP X pins D f s' := by
  cases f with
  | next => obtain ⟨σ', H', I, q⟩ := h; exact ⟨σ', H', I.unwish, q⟩
  | brk => obtain ⟨σ', H', I, q⟩ := h; exact ⟨σ', H', I.unwish, q⟩
  | cont => obtain ⟨σ', H', I, q⟩ := h; exact ⟨σ', H', I.unwish, q⟩
  | ret u => obtain ⟨v, σ', H', I, r, q⟩ := h; exact ⟨v, σ', H', I.unwish, r, q⟩
theorem PE.nox {e : Expr} {t : TE} (h : PE X.nox e t) : PE X e t := fun pins s σ H Q I hw =>
  wpAny_mono (h pins s σ H Q (I.wish _) hw) (fun _ _ ⟨v, H', I', r, q⟩ => ⟨v, H', I'.unwish, r, q⟩) fun _ _ z => False.elim z
theorem PT.nox {e : Expr} {t : TT} (h : PT X.nox e t) : PT X e t := fun pins s σ H Q I hw =>
  wpAny_mono (h pins s σ H Q (I.wish _) hw) (fun _ _ ⟨H', I', q⟩ => ⟨H', I'.unwish, q⟩) fun _ _ z => False.elim z
theorem PSs.nox {st : List Stmt} {t : TS} (h : PSs X.nox st t) : PSs X st t := fun pins s σ H D I hw =>
  wpAny_mono (h pins s σ H D (I.wish _) hw) (fun _ _ q => q.unwish) fun _ _ z => False.elim z
end

/-! ### blocks and small statements -/
section
variable {X : Cx} {st : Stmt} {rest : List Stmt} {t u : TS} {e : Expr} {te : TE} {pos : Pos}
def tNext : TS := fun D σ H => D.nx σ H
def tSeq (t u : TS) : TS := fun D σ H => t { D with nx := u D } σ H
theorem pss_nil : PSs X [] tNext := fun _ _ σ H _ I h => wpAny_execs_nil ⟨σ, H, I, h⟩
theorem pss_cons (h1 : PS X st t) (h2 : PSs X rest u) : PSs X (st :: rest) (tSeq t u) := by
  intro pins s σ H D I h
  refine wpAny_execs_cons (thn (h1 pins s σ H { D with nx := u D } I h) fun f s1 q => ?_)
  cases f with
  | next =>
    obtain ⟨σ', H', I', q⟩ := q
    exact h2 pins s1 σ' H' D I' q
  | ret v => exact q
  | brk => exact q
  | cont => exact q
theorem pss_one (h1 : PS X st t) : PSs X [st] t := by
  intro pins s σ H D I h
  refine wpAny_execs_cons (thn (h1 pins s σ H D I h) fun f s1 q => ?_)
  cases f with
  | next => exact wpAny_execs_nil q
  | ret v => exact q
  | brk => exact q
  | cont => exact q
def tBreak : TS := fun D σ H => D.bk σ H
def tCont : TS := fun D σ H => D.ct σ H
theorem ps_pass : PS X (.Pass pos) tNext := fun _ _ σ H _ I h => wpAny_Pass ⟨σ, H, I, h⟩
theorem ps_break : PS X (.Break pos) tBreak := fun _ _ σ H _ I h => wpAny_Break ⟨σ, H, I, h⟩
theorem ps_continue : PS X (.Continue pos) tCont := fun _ _ σ H _ I h => wpAny_Continue ⟨σ, H, I, h⟩
/-- in a def's body nothing is shown -/
theorem Inv.quiet {pins : List (Addr × Obj)} {σ : St} {H : Hp} {s : Shared} (I : Inv X pins σ H s) : interactive X.env = false := by simp [interactive, I.ok.kind]
/-- a docstring -/
theorem ps_doc {x j pos pos'} : PS X (.Expr (.Constant (.str x) j pos) pos') tNext := fun _ s σ H _ I h => wpAny_Expr (Calls.Constant_str (show SP X _ _ .next { s with toks := s.toks + 1 } from ⟨σ, H, I.tok _, h⟩)) I.quiet
/-- an expression whose value is dropped -/
def tDrop (te : TE) : TS := fun D σ H => te σ H fun _ H1 => D.nx σ H1
theorem ps_expr (he : PE X e te) (hs : swapsWith e none pos.line X.env = pure false := by rfl) : PS X (.Expr e pos) (tDrop te) := by
  intro pins s σ H D I h
  exact wpAny_Expr_any (thn (he pins s σ H _ I h) fun v s1 ⟨x, H1, I1, r1, q1⟩ => ⟨σ, H1, I1, q1⟩) I.quiet hs
def tRet (te : TE) : TS := fun D σ H => te σ H D.rt
theorem ps_ret (he : PE X e te) : PS X (.Return (some e) pos) (tRet te) := by
  intro pins s σ H D I h
  exact wpAny_Return_some (thn (he pins s σ H _ I h) fun v s1 ⟨x, H1, I1, r1, q1⟩ => ⟨x, σ, H1, I1, r1, q1⟩)
def tRetN : TS := fun D _ H => D.rt .non H
theorem ps_retN : PS X (.Return none pos) tRetN := fun _ _ σ H _ I h => wpAny_Return_none ⟨.non, σ, H, I, rfl, h⟩
def tIfS (c : TT) (t u : TS) : TS := fun D σ H => c σ H fun b H1 => if b = true then t D σ H1 else u D σ H1
theorem ps_if {c : Expr} {a b : List Stmt} {tc : TT} (hc : PT X c tc) (ha : PSs X a t) (hb : PSs X b u) : PS X (.If c a b pos) (tIfS tc t u) := by
  intro pins s σ H D I h
  refine wpAny_If (thn (hc pins s σ H _ I h) fun d s1 ⟨H1, I1, q1⟩ => ?_)
  cases d with
  | true => exact ha pins s1 σ H1 D I1 q1
  | false => exact hb pins s1 σ H1 D I1 q1
/-- code that the proof never comes to -/
def tNever : TS := fun _ _ _ => False
theorem ps_never : PS X st tNever := fun _ _ _ _ _ _ h => h.elim
theorem pss_never {sts : List Stmt} : PSs X sts tNever := fun _ _ _ _ _ _ h => h.elim
end

/-! ### targets -/
abbrev TG := V → St → Hp → (St → Hp → Prop) → Prop
abbrev TGs := List V → St → Hp → (St → Hp → Prop) → Prop
def PG (X : Cx) (target : Expr) (t : TG) : Prop :=
  ∀ (pins : List (Addr × Obj)) (s : Shared) (σ : St) (H : Hp) (v : V) (u : Value) (Q : St → Hp → Prop), Inv X pins σ H s → RelV v u → t v σ H Q →
    wpAny (model X.prog X.w) X.A (assign target X.env u) (fun _ s' => ∃ σ' H', Inv X pins σ' H' s' ∧ Q σ' H') X.xe s
/-- several targets, one after another -/
def PGs (X : Cx) (ts : List Expr) (t : TGs) : Prop :=
  ∀ (pins : List (Addr × Obj)) (s : Shared) (σ : St) (H : Hp) (vs : List V) (us : List Value) (Q : St → Hp → Prop), Inv X pins σ H s → Vals vs us → t vs σ H Q →
    wpAny (model X.prog X.w) X.A (assignInOrder ((assignEach ts X.env).map (·.2)) us) (fun _ s' => ∃ σ' H', Inv X pins σ' H' s' ∧ Q σ' H') X.xe s
/-- o[i] = v, by values -/
abbrev TSet := V → V → V → Hp → (Hp → Prop) → Prop
def PSet (X : Cx) (t : TSet) : Prop :=
  ∀ (pins : List (Addr × Obj)) (s : Shared) (σ : St) (H : Hp) (o i v : V) (ov iv u : Value) (Q : Hp → Prop), Inv X pins σ H s → RelV o ov → RelV i iv → RelV v u → t o i v H Q →
    wpAny (model X.prog X.w) X.A (setItem ov iv u) (fun _ s' => ∃ H', Inv X pins σ H' s' ∧ Q H') X.xe s
/-- a op= b, by values -/
abbrev TIp := V → V → Hp → VK → Prop
def PIp (X : Cx) (op : Operator) (t : TIp) : Prop :=
  ∀ (pins : List (Addr × Obj)) (s : Shared) (σ : St) (H : Hp) (x y : V) (v u : Value) (Q : VK), Inv X pins σ H s → RelV x v → RelV y u → t x y H Q →
    wpAny (model X.prog X.w) X.A (inplaceOp op v u) (EP X pins σ Q) X.xe s
section
variable {X : Cx} {pos : Pos}
def gName (i : Nat) : TG := fun v σ H Q => Q (σ.set i (some v)) H
theorem pg_name {i : Nat} {x : Str} (hN : X.N.Nodup) (hi : X.N[i]? = some x) (hx : Loc X.env.scope x) (hf : X.fn x = true ∨ X.env.scope.names.lookup x = some .local := by first | exact .inl rfl | exact .inr rfl | assumption) : PG X (.Name x pos) (gName i) := by
  intro pins s σ H v u Q I r h
  exact wpAny_assign_Name (store_ok I hN hi hx r (fun s' I' => ⟨_, H, I', h⟩) hf)
def gNil : TGs := fun vs σ H Q => vs = [] ∧ Q σ H
def gCons (t : TG) (u : TGs) : TGs := fun vs σ H Q => ∃ v r, vs = v :: r ∧ t v σ H fun σ' H' => u r σ' H' Q
theorem pgs_nil : PGs X [] gNil := by
  intro pins s σ H vs us Q I r h
  obtain ⟨e, h⟩ := h
  subst e
  cases r
  exact assignInOrder_nil ⟨σ, H, I, h⟩
theorem pgs_cons {e : Expr} {es : List Expr} {t : TG} {u : TGs} (h1 : PG X e t) (h2 : PGs X es u)
    (hs : (assignEach (e :: es) X.env).map (·.2) = assign e X.env :: (assignEach es X.env).map (·.2) := by rfl) : PGs X (e :: es) (gCons t u) := by
  intro pins s σ H vs us Q I r h
  obtain ⟨v, vr, e1, h⟩ := h
  subst e1
  cases r with
  | cons r rr =>
    rw [hs]
    refine assignInOrder_cons (thn (h1 pins s σ H _ _ _ I r h) fun _ s1 ⟨σ1, H1, I1, q1⟩ => ?_)
    exact h2 pins s1 σ1 H1 _ _ Q I1 rr q1
/-- (a, b, ..) = a tuple of that length -/
def gTup (K : PySem.W.Frag) (n : Nat) (t : TGs) : TG := fun v σ H Q => ∃ a xs, v = .ref a ∧ SqT K H a xs ∧ xs.length = n ∧ t xs σ H Q
theorem pg_tup {es : List Expr} {k : Nat} {t : TGs} {n : Nat} (hc : X.calm = true) (h : PGs X es t)
    (hn : (assignEach es X.env).length = n := by rfl) (hst : (assignEach es X.env).findIdx? (·.1) = none := by rfl) : PG X (.Tuple es k pos) (gTup X.K n t) := by
  intro pins s σ H v u Q I r hw
  obtain ⟨a, xs, e1, hq, hl, hw⟩ := hw
  subst e1
  cases r
  obtain ⟨its, rv, ht, hz⟩ := I.tuple hq
  refine assign_Tuple_tuple (I.ok.hd hc) ht (by simp [hn, ← hl, rv.length]) hst fun h' hx => ?_
  have I1 : Inv X pins σ H { s with heap := h' } := I.kept (t' := s.toks) fun b o e => hx b o (Nat.ne_of_lt (Heap.lt_size e)) e
  exact h pins _ σ H xs _ Q I1 (by simpa using rv) hw
/-- o[i] = .. -/
def gSub (to ti : TE) (t : TSet) : TG := fun v σ H Q => to σ H fun o H1 => ti σ H1 fun i H2 => t o i v H2 fun H3 => Q σ H3
theorem pg_sub {o i : Expr} {to ti : TE} {t : TSet} (ho : PE X o to) (hi : PE X i ti) (hs : PSet X t)
    (ha : ∀ v, assign (.Subscript o i pos) X.env v = (do
      let ov ← holding [v] (eval o X.env)
      let iv ← holding [v, ov] (eval i X.env)
      standAt pos
      holding [v, ov, iv] (setItem ov iv v)
      release [v, ov, iv] []) := by intro _; rfl) : PG X (.Subscript o i pos) (gSub to ti t) := by
  intro pins s σ H v u Q I r h
  rw [ha]
  refine wpAny_bind (wpAny_holding (thn (ho pins s σ H _ I h) fun ov s1 ⟨x, H1, I1, r1, q1⟩ => ?_))
  refine wpAny_bind (wpAny_holding (thn (hi pins s1 σ H1 _ I1 q1) fun iv s2 ⟨y, H2, I2, r2, q2⟩ => ?_))
  refine wpAny_bind (wpAny_standAt (wpAny_bind (wpAny_holding (thn (hs pins s2 σ H2 x y v ov iv u _ I2 r1 r2 r q2) fun _ s3 ⟨H3, I3, q3⟩ => ?_))))
  exact wpAny_release ⟨σ, H3, I3, q3⟩
/-- target = value -/
def tAsg (te : TE) (g : TG) : TS := fun D σ H => te σ H fun x H1 => g x σ H1 D.nx
theorem ps_asg {tg e : Expr} {te : TE} {g : TG} (he : PE X e te) (hg : PG X tg g) (hs : swapsWithSole [tg] e pos.line X.env = pure false := by rfl) (hw : swappedStores [tg] e X.env = pure none := by rfl)
    (h1 : (assignEach [tg] X.env).map (·.2) = [assign tg X.env] := by rfl) : PS X (.Assign [tg] e pos) (tAsg te g) := by
  intro pins s σ H D I h
  refine wpAny_Assign_stores (thn (he pins s σ H _ I h) fun v s1 ⟨x, H1, I1, r1, q1⟩ => ?_) hs hw
  rw [h1]
  exact thn (hg pins s1 σ H1 x v _ I1 r1 q1) fun _ s2 q => q
/-- name = value -/
theorem ps_set {i : Nat} {x : Str} {e : Expr} {te : TE} {pos' : Pos} (hN : X.N.Nodup) (hi : X.N[i]? = some x) (hx : Loc X.env.scope x) (he : PE X e te) (hs : swapsWith e (some (.Name x pos')) pos.line X.env = pure false := by rfl) (hf : X.fn x = true ∨ X.env.scope.names.lookup x = some .local := by first | exact .inl rfl | exact .inr rfl | assumption) :
    PS X (.Assign [.Name x pos'] e pos) (tAsg te (gName i)) := by
  intro pins s σ H D I h
  refine wpAny_Assign_Name (thn (he pins s σ H _ I h) fun v s1 ⟨y, H1, I1, r1, q1⟩ => ?_) hs
  exact store_ok I1 hN hi hx r1 (fun s2 I2 => ⟨_, H1, I2, q1⟩) hf
/-- a, b = x, y with plain local names: stored from the right; the pair itself is not tracked (the opening rows as in PyProof/Rows/TupAssign.lean:23) -/
def tPar (i j : Nat) (ta : TA) : TS := fun D σ H => ta σ H fun vs H1 => ∃ v w, vs = [v, w] ∧ D.nx ((σ.set i (some v)).set j (some w)) H1
theorem ps_par {i j : Nat} {x y : Str} {a b : Expr} {ta : TA} {px py pt : Pos} {kt k2 pt2} (hc : X.calm = true) (hN : X.N.Nodup) (hi : X.N[i]? = some x) (hj : X.N[j]? = some y) (hij : i ≠ j)
    (hx : X.env.scope.names.lookup x = some .local) (hy : X.env.scope.names.lookup y = some .local) (ha : PA X [a, b] ta)
    (hw : swappedStores [.Tuple [.Name x px, .Name y py] kt pt] (.Tuple [a, b] k2 pt2) X.env = pure (some [x, y]))
    (hs : swapsWithSole [.Tuple [.Name x px, .Name y py] kt pt] (.Tuple [a, b] k2 pt2) pos.line X.env = pure false := by rfl) :
    PS X (.Assign [.Tuple [.Name x px, .Name y py] kt pt] (.Tuple [a, b] k2 pt2) pos) (tPar i j ta) := by
  intro pins s σ H D I h
  rw [exec_Assign_arm]
  refine wpAny_bind (wpAny_standAt ?_)
  rw [hs]
  refine wpAny_bind (wpAny_pure ?_)
  rw [if_neg (by decide)]
  refine wpAny_bind (Tuple_ (thn (ha _ pins s σ H _ I h) fun us s1 ⟨vs, H1, I1, r1, q1⟩ => ?_))
  obtain ⟨v, w, e1, q1⟩ := q1
  subst e1
  obtain ⟨u1, u2, rfl, rv, rw'⟩ : ∃ u1 u2, us = [u1, u2] ∧ RelV v u1 ∧ RelV w u2 := by
    cases r1 with
    | cons p q =>
      cases q with
      | cons p' q' =>
        cases q'
        exact ⟨_, _, rfl, p, p'⟩
  refine wpAny_newObj_type ?_ (by show 2 ≤ sizeLine; decide)
  have I2 : Inv X pins σ H1 { s1 with heap := s1.heap.push { cls := .type "tuple", data := .seq [u1, u2].toArray } } := I1.kept (t' := s1.toks) fun b o e => Heap.get?_push_of_some _ e
  rw [hw]
  refine wpAny_bind (wpAny_pure ?_)
  show wpAny (model X.prog X.w) X.A (do rule "assign.swapped-stores"; let items ← unpackItems (.ref s1.heap.objs.size) 2 none; assignInOrder [fun v => bindName X.env y v, fun v => bindName X.env x v] items.reverse; pure Flow.next) _ _ _
  refine wpAny_bind (wpAny_rule (wpAny_bind (unpackItems_tuple (items := #[u1, u2]) (I.ok.hd hc) (IsTup.new s1.heap _) fun h' hx' => ?_)))
  have I3 := I2.kept (h' := h') (t' := s1.toks) fun b o e => hx' b o (Nat.ne_of_lt (Heap.lt_size e)) e
  show wpAny _ _ (assignInOrder [fun v => bindName X.env y v, fun v => bindName X.env x v] [u2, u1] >>= fun _ => pure Flow.next) _ _ _
  refine wpAny_bind (assignInOrder_cons (wpAny_bindName (store_ok I3 hN hj (.inl hy) rw' (fun s2 I4 => ?_) (.inr hy))))
  refine assignInOrder_cons (wpAny_bindName (store_ok I4 hN hi (.inl hx) rv (fun s3 I5 => assignInOrder_nil (wpAny_pure ?_)) (.inr hx)))
  rw [List.set_comm _ _ (Ne.symm hij)] at I5
  exact ⟨_, H1, I5, q1⟩
/-- name op= e -/
def tAug (i : Nat) (te : TE) (ti : TIp) : TS := fun D σ H => ∃ x, σ[i]? = some (some x) ∧ te σ H fun y H1 => ti x y H1 fun z H2 => D.nx (σ.set i (some z)) H2
theorem ps_aug {i : Nat} {x : Str} {e : Expr} {te : TE} {op : Operator} {ti : TIp} {pos' : Pos} (hN : X.N.Nodup) (hi : X.N[i]? = some x) (hx : Loc X.env.scope x) (he : PE X e te) (ho : PIp X op ti) (hf : X.fn x = true ∨ X.env.scope.names.lookup x = some .local := by first | exact .inl rfl | exact .inr rfl | assumption) :
    PS X (.AugAssign (.Name x pos') op e pos) (tAug i te ti) := by
  intro pins s σ H D I h
  obtain ⟨v, e1, h⟩ := h
  obtain ⟨m, hn, hl⟩ := I.loc
  have vis : Vis X.env.scope x := by rcases hx with k | k; exact .inl k; exact .inr (.inl k)
  obtain ⟨u, r, l⟩ := hl i x v hi e1 vis
  refine wpAny_AugAssign_Name ?_
  have go : wpAny (model X.prog X.w) X.A (eval e X.env) (fun w s₂ => wpAny (model X.prog X.w) X.A (inplaceOp op u w) (fun r s₃ => wpAny (model X.prog X.w) X.A (storeName X.env x r) (fun _ => SP X pins D .next) X.xe s₃) X.xe s₂) X.xe s := by
    refine thn (he pins s σ H _ I h) fun w s1 ⟨y, H1, I1, r1, q1⟩ => ?_
    refine thn (ho pins s1 σ H1 v y u w _ I1 r r1 q1) fun z s2 ⟨zv, H2, I2, r2, q2⟩ => ?_
    exact store_ok I2 hN hi hx r2 (fun s3 I3 => ⟨_, H2, I3, q2⟩) hf
  rcases l with ⟨hk, hm⟩ | ⟨hk, c, hc, hcell⟩
  · exact wpAny_loadName_local I.ok.kind hk hn hm go
  · rcases hk with hk | hk
    · exact wpAny_loadName_cell I.ok.kind hk hc hcell go
    · rcases hx with k | k
      · have : X.env.scope.names.lookup x = some .free := hk
        rw [k] at this; cases this
      · have : X.env.scope.names.lookup x = some .free := hk
        rw [k] at this; cases this
/-- o[i] op= e -/
def tAugS (to ti te : TE) (tget : V → V → Hp → VK → Prop) (tip : TIp) (tset : TSet) : TS := fun D σ H => to σ H fun o H1 => ti σ H1 fun i H2 => tget o i H2 fun x H3 => te σ H3 fun y H4 => tip x y H4 fun z H5 => tset o i z H5 fun H6 => D.nx σ H6
/-- o[i], by values -/
def PGet (X : Cx) (t : V → V → Hp → VK → Prop) : Prop :=
  ∀ (pins : List (Addr × Obj)) (s : Shared) (σ : St) (H : Hp) (o i : V) (ov iv : Value) (Q : VK), Inv X pins σ H s → RelV o ov → RelV i iv → t o i H Q →
    wpAny (model X.prog X.w) X.A (getItem ov iv) (EP X pins σ Q) X.xe s
theorem ps_augS {o i e : Expr} {to ti te : TE} {tget : V → V → Hp → VK → Prop} {tip : TIp} {tset : TSet} {op : Operator} {tpos : Pos} (ho : PE X o to) (hi : PE X i ti) (hg : PGet X tget) (he : PE X e te) (hp : PIp X op tip) (hs : PSet X tset)
    (ha : ∀ ov iv new, augStore i ov iv new = (do holding [new, ov, iv] (setItem ov iv new); release [new, ov, iv] []; pure .next) := by intros; rfl) : PS X (.AugAssign (.Subscript o i tpos) op e pos) (tAugS to ti te tget tip tset) := by
  intro pins s σ H D I h
  refine wpAny_AugAssign_SubscriptAny (thn (ho pins s σ H _ I h) fun ov s1 ⟨x1, H1, I1, r1, q1⟩ => ?_) ha
  refine thn (hi pins s1 σ H1 _ I1 q1) fun iv s2 ⟨x2, H2, I2, r2, q2⟩ => ?_
  refine thn (hg pins s2 σ H2 x1 x2 ov iv _ I2 r1 r2 q2) fun old s3 ⟨x3, H3, I3, r3, q3⟩ => ?_
  refine thn (he pins s3 σ H3 _ I3 q3) fun v s4 ⟨x4, H4, I4, r4, q4⟩ => ?_
  refine thn (hp pins s4 σ H4 x3 x4 old v _ I4 r3 r4 q4) fun new s5 ⟨x5, H5, I5, r5, q5⟩ => ?_
  exact thn (hs pins s5 σ H5 x1 x2 x5 ov iv new _ I5 r1 r2 r5 q5) fun _ s6 ⟨H6, I6, q6⟩ => ⟨σ, H6, I6, q6⟩
/-- ints -/
def ipI (f : Int → Int → Int) : TIp := fun x y H Q => ∃ i j, x = .int i ∧ y = .int j ∧ Q (.int (f i j)) H
theorem ip_add : PIp X .Add (ipI fun i j => i + j) := by
  intro pins s σ H x y v u Q I r1 r2 h
  obtain ⟨i, j, e1, e2, q⟩ := h
  subst e1; subst e2
  obtain ⟨t, rfl⟩ := r1
  obtain ⟨t', rfl⟩ := r2
  exact iadd_int ⟨.int _, H, I.tok _, ⟨_, rfl⟩, q⟩
theorem ip_sub : PIp X .Sub (ipI fun i j => i - j) := by
  intro pins s σ H x y v u Q I r1 r2 h
  obtain ⟨i, j, e1, e2, q⟩ := h
  subst e1; subst e2
  obtain ⟨t, rfl⟩ := r1
  obtain ⟨t', rfl⟩ := r2
  exact isub_int ⟨.int _, H, I.tok _, ⟨_, rfl⟩, q⟩
end

/-! ### while -/
section
variable {X : Cx} {pos : Pos}
/-- the invariant W with its measure -/
def tWhile (c : TT) (tb : TS) : TS := fun D σ H => ∃ W : Nat → St → Hp → Prop, (∃ m, W m σ H) ∧ ∀ m σ H, W m σ H →
  c σ H fun b H1 => if b = true then ∃ N : St → Hp → Prop, (∀ σ' H', N σ' H' → ∃ m', m' < m ∧ W m' σ' H') ∧ tb { D with nx := N, ct := N, bk := D.nx } σ H1 else D.nx σ H1
theorem ps_while {c : Expr} {body : List Stmt} {tc : TT} {tb : TS} (hp : PassesOwn (model X.prog X.w) X.A X.env X.xe) (hc : PT X c tc) (hb : PSs X body tb) : PS X (.While c body [] pos) (tWhile tc tb) := by
  intro pins s σ H D I h
  obtain ⟨W, ⟨m0, w0⟩, turn⟩ := h
  refine wpAny_While (codeAny_whileLoop (fun n s' => ∃ σ' H', Inv X pins σ' H' s' ∧ W n σ' H') ?_ m0 ⟨σ, H, I, w0⟩)
  rintro n s1 ⟨σ1, H1, I1, w1⟩
  refine wpAny_passesOwn hp (thn (hc pins s1 σ1 H1 _ I1 (turn n σ1 H1 w1)) fun b s2 ⟨H2, I2, q2⟩ => ?_)
  cases b with
  | true =>
    obtain ⟨N, hN, q2⟩ := q2
    rw [if_pos rfl]
    refine wpAny_passesOwn hp (thn (hb pins s2 σ1 H2 _ I2 q2) fun f s3 q3 => ?_)
    cases f with
    | next =>
      obtain ⟨σ3, H3, I3, n3⟩ := q3
      obtain ⟨m', hm, w3⟩ := hN σ3 H3 n3
      exact ⟨m', hm, σ3, H3, I3, w3⟩
    | cont =>
      obtain ⟨σ3, H3, I3, n3⟩ := q3
      obtain ⟨m', hm, w3⟩ := hN σ3 H3 n3
      exact ⟨m', hm, σ3, H3, I3, w3⟩
    | brk => exact q3
    | ret v => exact q3
  | false =>
    rw [if_neg Bool.false_ne_true]
    exact wpAny_execs_nil ⟨σ1, H2, I2, q2⟩
end

/-! ### what a loop or a comprehension walks -/
/-- at turn i: it yields x (the heap may grow), or it stops -/
structure It where
  go : Nat → Hp → Prop
  yld : Nat → Hp → V → Hp → Prop
  stop : Nat → Hp → Prop
/-- the iterator's own objects may turn: they are not the frame's, not pinned, younger than the entry (or a comprehension's own) -/
def FpOk (X : Cx) (pins : List (Addr × Obj)) (H : Hp) (b : Addr) : Prop :=
  H b = none ∧ b ≠ X.env.locals ∧ b ∉ X.fs ∧ (b ∈ X.ex ∨ X.s₀.heap.objs.size ≤ b) ∧ (∀ x c, X.env.cells.lookup x = some c → c ≠ b) ∧ ∀ p ∈ X.pn ++ pins, p.1 ≠ b
theorem Inv.fpOk {X : Cx} {pins : List (Addr × Obj)} {σ : St} {H H' : Hp} {s : Shared} {b : Addr} (I : Inv X pins σ H s) (hb : s.heap.objs.size ≤ b) (hn : H' b = none) : FpOk X pins H' b := by
  refine ⟨hn, Nat.ne_of_gt (Nat.lt_of_lt_of_le I.lt hb), I.nofs hb, .inr (Nat.le_trans I.sz hb), fun x c e z => ?_, fun p hp z => ?_⟩
  · obtain ⟨v, q⟩ := I.cell x c e
    exact absurd (Nat.lt_of_lt_of_le q.lt (by rw [z]; exact hb)) (Nat.lt_irrefl _)
  · exact absurd (Nat.lt_of_lt_of_le (Heap.lt_size (I.pin p hp).1) (by rw [z]; exact hb)) (Nat.lt_irrefl _)
structure Turn (P : Program) (w : World) (K : PySem.W.Frag) (tg : Expr) (J : It) (fp : List Addr) (it : Addr) (tn : Nat → Heap → Prop) : Prop where
  mem : it ∈ fp
  obj : ∀ i h, tn i h → ∀ b ∈ fp, ∃ o, h.get? b = some o ∧ ∀ v, o.data ≠ .cell v
  keep : ∀ i h h', tn i h → (∀ b ∈ fp, ∀ o, h.get? b = some o → h'.get? b = some o) → tn i h'
  item : ∀ (X : Cx), X.prog = P → X.w = w → X.K = K → X.calm = true → ∀ (i : Nat) (pins : List (Addr × Obj)) (s : Shared) (σ : St) (H : Hp) (E : Value → Shared → Prop), Inv X pins σ H s → (∀ b ∈ fp, FpOk X pins H b) → tn i s.heap → J.go i H →
    wpAny (model P w) X.A (pyNext (.ref it)) (fun r s1 => ∃ u, r = some u ∧
      wpAny (model P w) X.A (letOwnedTupleGo tg (.ref it) u) (fun _ s2 => ∃ x H', Inv X pins σ H' s2 ∧ RelV x u ∧ J.yld i H x H' ∧ tn (i + 1) s2.heap ∧ ∀ b ∈ fp, H' b = none) E s1) E s
  done : ∀ (X : Cx), X.prog = P → X.w = w → X.K = K → X.calm = true → ∀ (i : Nat) (pins : List (Addr × Obj)) (s : Shared) (σ : St) (H : Hp) (E : Value → Shared → Prop), Inv X pins σ H s → (∀ b ∈ fp, FpOk X pins H b) → tn i s.heap → J.stop i H →
    wpAny (model P w) X.A (pyNext (.ref it)) (fun r s1 => r = none ∧ Inv X pins σ H s1) E s
  self : ∀ (A : Around) (i : Nat) (s : Shared) (Q : Value → Shared → Prop) (E : Value → Shared → Prop), tn i s.heap → Q (.ref it) s → wpAny (model P w) A (pyIter (.ref it)) Q E s
abbrev TI := St → Hp → (It → Hp → Prop) → Prop
/-- an iterator has come -/
def PIE (X : Cx) (pins : List (Addr × Obj)) (σ : St) (tg : Expr) (R : It → Hp → Prop) (itv : Value) (s2 : Shared) : Prop :=
  ∃ (it : Addr) (fp : List Addr) (tn : Nat → Heap → Prop) (J : It) (H' : Hp), itv = .ref it ∧ Inv X pins σ H' s2 ∧ Turn X.prog X.w X.K tg J fp it tn ∧ tn 0 s2.heap ∧ (∀ b ∈ fp, FpOk X pins H' b) ∧ R J H'
def PI (X : Cx) (tg iter : Expr) (wi : TI) : Prop :=
  ∀ (pins : List (Addr × Obj)) (s : Shared) (σ : St) (H : Hp) (R : It → Hp → Prop), Inv X pins σ H s → wi σ H R →
    wpAny (model X.prog X.w) X.A (eval iter X.env) (fun v s1 => wpAny (model X.prog X.w) X.A (pyIter v) (PIE X pins σ tg R) X.xe s1) X.xe s

/-- the step ahead of the store is nothing for an iterator that keeps no tuple -/
theorem go_of {M : Model} {A : Around} {E : Value → Shared → Prop} {s : Shared} {tg : Expr} {it : Addr} {u : Value} {o : Obj} {n : String} {vs : Array Value} {Q : Unit → Shared → Prop} (ho : s.heap.get? it = some o) (hc : o.cls = .type n) (hd : o.data = .fields vs)
    (hn : ["enumerate", "zip", "dict_itemiterator", "dict_reverseitemiterator", "odict_iterator", "itertools.zip_longest", "itertools.pairwise"].contains n = false) (hQ : Q () s) : wpAny M A (letOwnedTupleGo tg (.ref it) u) Q E s := by
  unfold letOwnedTupleGo
  cases tg <;> first
    | exact wpAny_pure hQ
    | (cases u <;> first
        | exact wpAny_pure hQ
        | (refine wpAny_bind (wpAny_load ho ?_)
           rw [hc, hd]
           show wpAny M A (if (["enumerate", "zip", "dict_itemiterator", "dict_reverseitemiterator", "odict_iterator", "itertools.zip_longest", "itertools.pairwise"].contains n && vs[0]? == some (rawInt _)) = true then _ else _) Q E s
           rw [if_neg (by intro h; rw [hn, Bool.false_and] at h; cases h)]
           exact wpAny_pure hQ))

/-- the list at a, as it stands at each turn (a loop may append to it) -/
def Itl (K : PySem.W.Frag) (a : Addr) : It :=
  ⟨fun i H => ∃ xs x, SqL K H a xs ∧ xs[i]? = some x, fun i H x H' => H' = H ∧ ∀ xs, SqL K H a xs → xs[i]? = some x, fun i H => ∃ xs, SqL K H a xs ∧ xs.length ≤ i⟩
def Itt (K : PySem.W.Frag) (a : Addr) : It :=
  ⟨fun i H => ∃ xs x, SqT K H a xs ∧ xs[i]? = some x, fun i H x H' => H' = H ∧ ∀ xs, SqT K H a xs → xs[i]? = some x, fun i H => ∃ xs, SqT K H a xs ∧ xs.length ≤ i⟩
/-- lo, lo + 1, .. (n of them) -/
def Itr (lo : Int) (n : Nat) : It := ⟨fun i _ => i < n, fun i H x H' => H' = H ∧ x = .int (lo + i), fun i _ => n ≤ i⟩
theorem turn_list {P : Program} {w : World} {K : PySem.W.Frag} {tg : Expr} (a it : Addr) : Turn P w K tg (Itl K a) [it] it (fun i h => h.IsListIter it a i) where
  mem := by simp
  obj := fun i h st b hb => by
    have e : b = it := by simpa using hb
    subst e
    obtain ⟨o, e, c, d⟩ := st
    exact ⟨o, e, fun v z => by rw [d] at z; cases z⟩
  keep := fun i h h' st k => st.at fun o e => k it (by simp) o e
  item := by
    intro X hP hw hK hc i pins s σ H E I hf st hg
    subst hP hw hK
    obtain ⟨xs, x, hq, hx⟩ := hg
    obtain ⟨its, rv, p, hz⟩ := I.list hq
    obtain ⟨u, hu, ru⟩ := rv.get hx
    obtain ⟨f0, f1, f2, f3, f4, f5⟩ := hf it (by simp)
    refine wpAny_pyNext_list_item st p.isList (x := u) (by simpa using hu) fun h' st' sb => ?_
    have I1 : Inv X pins σ H { s with heap := h' } := I.turned (t' := s.toks) (fun b o hb e => (sb.2 b hb).trans e) f0 f1 f3 f4 f5
    obtain ⟨o, e, c, d⟩ := id st'
    exact ⟨u, rfl, go_of (s := { s with heap := h' }) e c d (by decide) ⟨x, H, I1, ru, ⟨rfl, fun ys hy => by rw [I.list_inj hy hq]; exact hx⟩, st', fun b hb => (hf b hb).1⟩⟩
  done := by
    intro X hP hw hK hc i pins s σ H E I hf st hg
    subst hP hw hK
    obtain ⟨xs, hq, hx⟩ := hg
    obtain ⟨its, rv, p, hz⟩ := I.list hq
    obtain ⟨f0, f1, f2, f3, f4, f5⟩ := hf it (by simp)
    have hl := rv.length
    exact wpAny_pyNext_list_end (I.ok.hd hc) st p.isList (by simp; omega) fun h' eb => ⟨rfl, I.turned (t' := s.toks) (fun b o hb e => eb b o hb e) f0 f1 f3 f4 f5⟩
  self := fun _ _ _ _ _ st h => wpAny_pyIter_listiter st h
theorem turn_tuple {P : Program} {w : World} {K : PySem.W.Frag} {tg : Expr} (a it : Addr) : Turn P w K tg (Itt K a) [it] it (fun i h => h.IsTupleIter it a i) where
  mem := by simp
  obj := fun i h st b hb => by
    have e : b = it := by simpa using hb
    subst e
    obtain ⟨o, e, c, d⟩ := st
    exact ⟨o, e, fun v z => by rw [d] at z; cases z⟩
  keep := fun i h h' st k => st.at fun o e => k it (by simp) o e
  item := by
    intro X hP hw hK hc i pins s σ H E I hf st hg
    subst hP hw hK
    obtain ⟨xs, x, hq, hx⟩ := hg
    obtain ⟨its, rv, p, hz⟩ := I.tuple hq
    obtain ⟨u, hu, ru⟩ := rv.get hx
    obtain ⟨f0, f1, f2, f3, f4, f5⟩ := hf it (by simp)
    refine wpAny_pyNext_tuple_item st (show s.heap.IsTuple a its.toArray from p) (x := u) (by simpa using hu) fun h' st' sb => ?_
    have I1 : Inv X pins σ H { s with heap := h' } := I.turned (t' := s.toks) (fun b o hb e => (sb.2 b hb).trans e) f0 f1 f3 f4 f5
    obtain ⟨o, e, c, d⟩ := id st'
    exact ⟨u, rfl, go_of (s := { s with heap := h' }) e c d (by decide) ⟨x, H, I1, ru, ⟨rfl, fun ys hy => by rw [I.tuple_inj hy hq]; exact hx⟩, st', fun b hb => (hf b hb).1⟩⟩
  done := by
    intro X hP hw hK hc i pins s σ H E I hf st hg
    subst hP hw hK
    obtain ⟨xs, hq, hx⟩ := hg
    obtain ⟨its, rv, p, hz⟩ := I.tuple hq
    obtain ⟨f0, f1, f2, f3, f4, f5⟩ := hf it (by simp)
    have hl := rv.length
    exact wpAny_pyNext_tuple_end (I.ok.hd hc) st (show s.heap.IsTuple a its.toArray from p) (by simp; omega) fun h' eb => ⟨rfl, I.turned (t' := s.toks) (fun b o hb e => eb b o hb e) f0 f1 f3 f4 f5⟩
  self := fun _ _ _ _ _ st h => wpAny_pyIter_tupleiter st h
theorem turn_range {P : Program} {w : World} {K : PySem.W.Frag} {tg : Expr} (it : Addr) (lo : Int) (n : Nat) : Turn P w K tg (Itr lo n) [it] it (fun i h => IsRangeIter h it (lo + (i : Nat) * 1) ((n : Int) - (i : Nat)) 1) where
  mem := by simp
  obj := fun i h st b hb => by
    have e : b = it := by simpa using hb
    subst e
    exact ⟨_, st, fun v z => by
      have z' : Data.fields _ = Data.cell v := z
      cases z'⟩
  keep := fun i h h' st k => k it (by simp) _ st
  item := by
    intro X hP hw hK hc i pins s σ H E I hf st hg
    subst hP hw hK
    obtain ⟨f0, f1, f2, f3, f4, f5⟩ := hf it (by simp)
    have W := Walks.range (prog := X.prog) (w := X.w) (I.ok.hd hc) it lo 1 n
    refine W.item i s _ _ hg st fun v h' tk hv st' kk => ?_
    obtain ⟨t, rfl⟩ := hv
    have I1 : Inv X pins σ H { s with heap := h', toks := tk } := I.turned (fun b o hb e => kk b o (by simpa using hb) e) f0 f1 f3 f4 f5
    refine ⟨_, rfl, go_of (s := { s with heap := h', toks := tk }) (n := "range_iterator") st' rfl rfl (by decide) ⟨.int (lo + i), H, I1, ⟨t, ?_⟩, ⟨rfl, rfl⟩, st', fun b hb => (hf b hb).1⟩⟩
    rw [Int.mul_one]
  done := by
    intro X hP hw hK hc i pins s σ H E I hf st hg
    subst hP hw hK
    obtain ⟨f0, f1, f2, f3, f4, f5⟩ := hf it (by simp)
    exact wpAny_pyNext_range_end (I.ok.hd hc) st (by have : n ≤ i := hg; omega) fun h' eb => ⟨rfl, I.turned (t' := s.toks) (fun b o hb e => eb b o hb e) f0 f1 f3 f4 f5⟩
  self := fun _ _ _ _ _ st h => wpAny_pyIter_rangeiter st h
end L2

namespace L2
open PySem PySem.Spec PyProof.Rows
section
variable {X : Cx} {tg : Expr}
def iList (K : PySem.W.Frag) (tl : TE) : TI := fun σ H R => tl σ H fun x H1 => ∃ a, x = .ref a ∧ (∃ xs, SqL K H1 a xs) ∧ R (Itl K a) H1
def iTup (K : PySem.W.Frag) (tl : TE) : TI := fun σ H R => tl σ H fun x H1 => ∃ a, x = .ref a ∧ (∃ xs, SqT K H1 a xs) ∧ R (Itt K a) H1
theorem pi_list {l : Expr} {tl : TE} (hl : PE X l tl) : PI X tg l (iList X.K tl) := by
  intro pins s σ H R I h
  refine thn (hl pins s σ H _ I h) fun v s1 ⟨x, H1, I1, r1, q1⟩ => ?_
  obtain ⟨a, e, ⟨xs, hq⟩, q⟩ := q1
  subst e
  cases r1
  obtain ⟨its, rv, p, hz⟩ := I1.list hq
  refine wpAny_pyIter_list p.isList ?_
  refine ⟨s1.heap.objs.size, [s1.heap.objs.size], _, _, H1, rfl, I1.kept (t' := s1.toks) fun b o e => Heap.get?_push_of_some _ e, turn_list a _, ⟨_, Heap.get?_push_size _ rfl, rfl, rfl⟩, fun b hb => ?_, q⟩
  have e : b = s1.heap.objs.size := by simpa using hb
  subst e
  exact I1.fpOk (Nat.le_refl _) (I1.hok.fresh (Nat.le_refl _))
theorem pi_tup {l : Expr} {tl : TE} (hl : PE X l tl) : PI X tg l (iTup X.K tl) := by
  intro pins s σ H R I h
  refine thn (hl pins s σ H _ I h) fun v s1 ⟨x, H1, I1, r1, q1⟩ => ?_
  obtain ⟨a, e, ⟨xs, hq⟩, q⟩ := q1
  subst e
  cases r1
  obtain ⟨its, rv, p, hz⟩ := I1.tuple hq
  refine wpAny_pyIter_tuple (show s1.heap.IsTuple a its.toArray from p) ?_
  refine ⟨s1.heap.objs.size, [s1.heap.objs.size], _, _, H1, rfl, I1.kept (t' := s1.toks) fun b o e => Heap.get?_push_of_some _ e, turn_tuple a _, ⟨_, Heap.get?_push_size _ rfl, rfl, rfl⟩, fun b hb => ?_, q⟩
  have e : b = s1.heap.objs.size := by simpa using hb
  subst e
  exact I1.fpOk (Nat.le_refl _) (I1.hok.fresh (Nat.le_refl _))
/-- a range object just made, walked -/
theorem range_it {pins : List (Addr × Obj)} {σ : St} {H : Hp} {s : Shared} {R : It → Hp → Prop} {E : Value → Shared → Prop} {lo hi : Int} {t u v : Tok} {tk : Nat} (I : Inv X pins σ H s) (h1 : -(2 ^ 62) ≤ lo) (h2 : lo < 2 ^ 62) (h3 : -(2 ^ 62) ≤ hi) (h4 : hi < 2 ^ 62)
    (q : R (Itr lo (hi - lo).toNat) H) : wpAny (model X.prog X.w) X.A (pyIter (.ref s.heap.objs.size)) (PIE X pins σ tg R) E { s with heap := s.heap.push { cls := .type "range", data := .fields #[.int lo t, .int hi u, .int 1 v] }, toks := tk } := by
  refine wpAny_pyIter_range (IsRange.new ..) (small_one h1 h2 h3 h4) ?_
  have I1 : Inv X pins σ H { s with heap := s.heap.push { cls := .type "range", data := .fields #[.int lo t, .int hi u, .int 1 v] }, toks := tk } := I.kept fun b o e => Heap.get?_push_of_some _ e
  refine ⟨(s.heap.push { cls := .type "range", data := .fields #[.int lo t, .int hi u, .int 1 v] }).objs.size, [(s.heap.push { cls := .type "range", data := .fields #[.int lo t, .int hi u, .int 1 v] }).objs.size], _, _, H, rfl,
    I1.kept (t' := tk) fun b o e => Heap.get?_push_of_some _ e, turn_range _ lo (hi - lo).toNat, ?_, fun b hb => ?_, q⟩
  · have e1 : lo + ((0 : Nat) : Int) * 1 = lo := by simp
    have e2 : (((hi - lo).toNat : Nat) : Int) - ((0 : Nat) : Int) = Builtin.Range.rangeSize lo hi 1 := by rw [rangeSize_one]; split <;> omega
    show IsRangeIter _ _ (lo + ((0 : Nat) : Int) * 1) ((((hi - lo).toNat : Nat) : Int) - ((0 : Nat) : Int)) 1
    rw [e1, e2]
    exact Heap.get?_push_size _ rfl
  · have e : b = (s.heap.push { cls := .type "range", data := .fields #[.int lo t, .int hi u, .int 1 v] }).objs.size := by simpa using hb
    subst e
    exact I1.fpOk (Nat.le_refl _) (I1.hok.fresh (Nat.le_refl _))
def iRng1 (ta : TA) : TI := fun σ H R => ta σ H fun vs H1 => ∃ j : Int, vs = [.int j] ∧ -(2 ^ 62) ≤ j ∧ j < 2 ^ 62 ∧ R (Itr 0 j.toNat) H1
def iRng2 (ta : TA) : TI := fun σ H R => ta σ H fun vs H1 => ∃ i j : Int, vs = [.int i, .int j] ∧ (-(2 ^ 62) ≤ i ∧ i < 2 ^ 62 ∧ -(2 ^ 62) ≤ j ∧ j < 2 ^ 62) ∧ R (Itr i (j - i).toNat) H1
theorem pi_range1 {a : Expr} {ta : TA} {p pos : Pos} (hg : Gl X "range") (hm : X.mg "range" = none) (ha : PA X [a] ta) (hs : starEach [a] X.env = [(false, eval a X.env)] := by rfl) : PI X tg (.Call (.Name "range" p) [a] [] pos) (iRng1 ta) := by
  intro pins s σ H R I h
  refine Call_ (ld_blt I hg hm boot_range (PyProof.Rows.callWith_type1 (thn (ha pos pins s σ H _ I h) fun us s1 ⟨vs, H1, I1, r1, q1⟩ => ?_) hs rfl))
  obtain ⟨j, e, q1, q2, q⟩ := q1
  subst e
  cases r1 with
  | cons r rr =>
    cases rr
    obtain ⟨t, rfl⟩ := r
    exact call_range_1 (range_it I1 (by omega) (by omega) q1 q2 (by simpa using q))
theorem pi_range2 {a b : Expr} {ta : TA} {p pos : Pos} (hg : Gl X "range") (hm : X.mg "range" = none) (ha : PA X [a, b] ta) (hs : starEach [a, b] X.env = [(false, eval a X.env), (false, eval b X.env)] := by rfl) (hs2 : starEach [b] X.env = [(false, eval b X.env)] := by rfl) :
    PI X tg (.Call (.Name "range" p) [a, b] [] pos) (iRng2 ta) := by
  intro pins s σ H R I h
  refine Call_ (ld_blt I hg hm boot_range (PyProof.Rows.callWith_type1 (thn (ha pos pins s σ H _ I h) fun us s1 ⟨vs, H1, I1, r1, q1⟩ => ?_) (by rw [hs, hs2]) (by rw [hs2]; rfl)))
  obtain ⟨i, j, e, ⟨q1, q2, q3, q4⟩, q⟩ := q1
  subst e
  cases r1 with
  | cons r rr =>
    cases rr with
    | cons r' rr =>
      cases rr
      obtain ⟨t, rfl⟩ := r
      obtain ⟨t', rfl⟩ := r'
      exact call_range_2 (range_it I1 q1 q2 q3 q4 q)

/-! ### for -/
/-- W: the invariant by the turn and a measure; N: what the body is to reach -/
def tFor (wi : TI) (g : TG) (tb : TS) : TS := fun D σ H => wi σ H fun J H1 => ∃ W : Nat → Nat → St → Hp → Prop, (∃ m, W 0 m σ H1) ∧ ∀ i m σ H, W i m σ H →
  (J.stop i H ∧ D.nx σ H) ∨ (J.go i H ∧ ∃ N : St → Hp → Prop, (∀ σ' H', N σ' H' → ∃ m', m' < m ∧ W (i + 1) m' σ' H') ∧ ∀ x H', J.yld i H x H' → g x σ H' fun σ2 H2 => tb { D with nx := N, ct := N, bk := D.nx } σ2 H2)
/-- the records at fp as they stand -/
def pinsAt (fp : List Addr) (h : Heap) : List (Addr × Obj) := fp.filterMap fun b => (h.get? b).map fun o => (b, o)
theorem mem_pinsAt {fp : List Addr} {h : Heap} {b : Addr} {o : Obj} (hb : b ∈ fp) (e : h.get? b = some o) : (b, o) ∈ pinsAt fp h := List.mem_filterMap.mpr ⟨b, hb, by rw [e]; rfl⟩
theorem of_pinsAt {fp : List Addr} {h : Heap} {p : Addr × Obj} (hp : p ∈ pinsAt fp h) : p.1 ∈ fp ∧ h.get? p.1 = some p.2 := by
  obtain ⟨b, hb, e⟩ := List.mem_filterMap.mp hp
  cases q : h.get? b with
  | none => rw [q] at e; cases e
  | some o =>
    rw [q] at e
    have e' : (b, o) = p := Option.some.inj e
    subst e'
    exact ⟨hb, q⟩
theorem Inv.pinned {pins : List (Addr × Obj)} {σ : St} {H : Hp} {s : Shared} {fp : List Addr} (I : Inv X pins σ H s) (hf : ∀ b ∈ fp, FpOk X pins H b) (ho : ∀ b ∈ fp, ∃ o, s.heap.get? b = some o ∧ ∀ v, o.data ≠ .cell v) : Inv X (pins ++ pinsAt fp s.heap) σ H s :=
  I.pins_of fun p hp => (List.mem_append.mp hp).elim (fun z => I.pin p (List.mem_append_right _ z)) fun z => by
    obtain ⟨hb, e⟩ := of_pinsAt z
    obtain ⟨f0, f1, f2, _⟩ := hf p.1 hb
    obtain ⟨o, e', d⟩ := ho p.1 hb
    rw [e] at e'; cases e'
    exact ⟨e, f0, f1, f2, d⟩
theorem Inv.unpinned {pins pl : List (Addr × Obj)} {σ : St} {H : Hp} {s : Shared} (I : Inv X (pins ++ pl) σ H s) : Inv X pins σ H s := I.pins_of fun p hp => I.pin p (List.mem_append_right _ (List.mem_append_left _ hp))
theorem ps_for {iter : Expr} {body : List Stmt} {wi : TI} {g : TG} {tb : TS} {pos : Pos} (hp : PassesOwn (model X.prog X.w) X.A X.env X.xe) (hc : X.calm = true) (hi : PI X tg iter wi) (hg : PG X tg g) (hb : PSs X body tb)
    (hs : ∀ x, foldedSetIterable iter X.env x = pure x := by intro _; rfl) : PS X (.For tg iter body [] pos) (tFor wi g tb) := by
  intro pins s σ H D I h
  refine wpAny_For (thn (hi pins s σ H _ I h) fun v s1 h1 => thn h1 fun itv s2 h2 => ?_) hs
  obtain ⟨it, fp, tn, J, H2, e, I2, T, st2, f2, W, ⟨m0, w0⟩, turn⟩ := h2
  subst e
  -- what stays true of the iterator's objects through the loop
  have stat : ∀ {H' : Hp}, (∀ b ∈ fp, H' b = none) → ∀ b ∈ fp, FpOk X pins H' b := fun hn b hb => ⟨hn b hb, (f2 b hb).2⟩
  refine codeAny_forLoop_any (fun n s' => ∃ i σ' H', Inv X pins σ' H' s' ∧ tn i s'.heap ∧ (∀ b ∈ fp, H' b = none) ∧ W i n σ' H') ?_ m0 ⟨0, σ, H2, I2, st2, fun b hb => (f2 b hb).1, w0⟩
  rintro n s3 ⟨i, σ3, H3, I3, st3, fr3, w3⟩
  rcases turn i n σ3 H3 w3 with ⟨stop, qn⟩ | ⟨go, N, hN, step⟩
  · refine wpAny_passesOwn hp (thn (T.done X rfl rfl rfl hc i pins s3 σ3 H3 X.xe I3 (stat fr3) st3 stop) fun r s4 ⟨hr, I4⟩ => ?_)
    subst hr
    exact wpAny_execs_nil ⟨σ3, H3, I4, qn⟩
  · refine wpAny_passesOwn hp (thn (T.item X rfl rfl rfl hc i pins s3 σ3 H3 X.xe I3 (stat fr3) st3 go) fun r s4 ⟨u, hr, h4⟩ => ?_)
    subst hr
    refine wpAny_passesOwn hp (thn h4 fun _ s5 ⟨x, H5, I5, r5, y5, st5, fr5⟩ => ?_)
    have I5' := I5.pinned (stat fr5) (T.obj _ _ st5)
    refine wpAny_passesOwn hp (thn (hg _ s5 σ3 H5 x u _ I5' r5 (step x H5 y5)) fun _ s6 ⟨σ6, H6, I6, q6⟩ => ?_)
    refine wpAny_passesOwn hp (thn (hb _ s6 σ6 H6 _ I6 q6) fun f s7 q7 => ?_)
    have again : ∀ {σ7 : St} {H7 : Hp}, Inv X (pins ++ pinsAt fp s5.heap) σ7 H7 s7 → N σ7 H7 → ∃ m, m < n ∧ ∃ i σ' H', Inv X pins σ' H' s7 ∧ tn i s7.heap ∧ (∀ b ∈ fp, H' b = none) ∧ W i m σ' H' := fun {σ7 H7} I7 n7 => by
      obtain ⟨m', hm, w7⟩ := hN σ7 H7 n7
      refine ⟨m', hm, i + 1, σ7, H7, I7.unpinned, T.keep _ _ _ st5 fun b hb o e => (I7.pin (b, o) (List.mem_append_right _ (List.mem_append_right _ (mem_pinsAt hb e)))).1, fun b hb => ?_, w7⟩
      obtain ⟨o, e, d⟩ := T.obj _ _ st5 b hb
      exact (I7.pin (b, o) (List.mem_append_right _ (List.mem_append_right _ (mem_pinsAt hb e)))).2.1
    cases f with
    | next => obtain ⟨σ7, H7, I7, n7⟩ := q7; exact again I7 n7
    | cont => obtain ⟨σ7, H7, I7, n7⟩ := q7; exact again I7 n7
    | brk => obtain ⟨σ7, H7, I7, q7⟩ := q7; exact ⟨σ7, H7, I7.unpinned, q7⟩
    | ret v => obtain ⟨x7, σ7, H7, I7, r7, q7⟩ := q7; exact ⟨x7, σ7, H7, I7.unpinned, r7, q7⟩
end

/-! ### the forms one uses -/
/-- over a list that the body leaves as it is -/
theorem for_list {K : PySem.W.Frag} {a : Addr} {xs : List V} {g : TG} {tb : TS} {D : Ends} {σ : St} {H : Hp} (Pv : Nat → St → Hp → Prop) (h0 : Pv 0 σ H) (hl : ∀ i σ H, i ≤ xs.length → Pv i σ H → SqL K H a xs)
    (hs : ∀ i x σ H, xs[i]? = some x → Pv i σ H → g x σ H fun σ2 H2 => tb { D with nx := Pv (i + 1), ct := Pv (i + 1), bk := D.nx } σ2 H2) (hd : ∀ σ H, Pv xs.length σ H → D.nx σ H) :
    ∃ W : Nat → Nat → St → Hp → Prop, (∃ m, W 0 m σ H) ∧ ∀ i m σ H, W i m σ H →
      ((Itl K a).stop i H ∧ D.nx σ H) ∨ ((Itl K a).go i H ∧ ∃ N : St → Hp → Prop, (∀ σ' H', N σ' H' → ∃ m', m' < m ∧ W (i + 1) m' σ' H') ∧ ∀ x H', (Itl K a).yld i H x H' → g x σ H' fun σ2 H2 => tb { D with nx := N, ct := N, bk := D.nx } σ2 H2) := by
  refine ⟨fun i m σ H => m = xs.length - i ∧ i ≤ xs.length ∧ Pv i σ H, ⟨xs.length, by simp, Nat.zero_le _, h0⟩, ?_⟩
  rintro i m σ H ⟨rfl, hi, p⟩
  have q := hl i σ H hi p
  by_cases hlt : i < xs.length
  · refine .inr ⟨⟨xs, xs[i], q, by simp [hlt]⟩, Pv (i + 1), fun σ' H' p' => ⟨xs.length - (i + 1), by omega, rfl, hlt, p'⟩, fun x H' y => ?_⟩
    obtain ⟨e, y⟩ := y
    subst e
    exact hs i x σ _ (y xs q) p
  · have e : i = xs.length := by omega
    subst e
    exact .inl ⟨⟨xs, q, Nat.le_refl _⟩, hd σ H p⟩
theorem for_tup {K : PySem.W.Frag} {a : Addr} {xs : List V} {g : TG} {tb : TS} {D : Ends} {σ : St} {H : Hp} (Pv : Nat → St → Hp → Prop) (h0 : Pv 0 σ H) (hl : ∀ i σ H, i ≤ xs.length → Pv i σ H → SqT K H a xs)
    (hs : ∀ i x σ H, xs[i]? = some x → Pv i σ H → g x σ H fun σ2 H2 => tb { D with nx := Pv (i + 1), ct := Pv (i + 1), bk := D.nx } σ2 H2) (hd : ∀ σ H, Pv xs.length σ H → D.nx σ H) :
    ∃ W : Nat → Nat → St → Hp → Prop, (∃ m, W 0 m σ H) ∧ ∀ i m σ H, W i m σ H →
      ((Itt K a).stop i H ∧ D.nx σ H) ∨ ((Itt K a).go i H ∧ ∃ N : St → Hp → Prop, (∀ σ' H', N σ' H' → ∃ m', m' < m ∧ W (i + 1) m' σ' H') ∧ ∀ x H', (Itt K a).yld i H x H' → g x σ H' fun σ2 H2 => tb { D with nx := N, ct := N, bk := D.nx } σ2 H2) := by
  refine ⟨fun i m σ H => m = xs.length - i ∧ i ≤ xs.length ∧ Pv i σ H, ⟨xs.length, by simp, Nat.zero_le _, h0⟩, ?_⟩
  rintro i m σ H ⟨rfl, hi, p⟩
  have q := hl i σ H hi p
  by_cases hlt : i < xs.length
  · refine .inr ⟨⟨xs, xs[i], q, by simp [hlt]⟩, Pv (i + 1), fun σ' H' p' => ⟨xs.length - (i + 1), by omega, rfl, hlt, p'⟩, fun x H' y => ?_⟩
    obtain ⟨e, y⟩ := y
    subst e
    exact hs i x σ _ (y xs q) p
  · have e : i = xs.length := by omega
    subst e
    exact .inl ⟨⟨xs, q, Nat.le_refl _⟩, hd σ H p⟩
theorem for_range {lo : Int} {n : Nat} {g : TG} {tb : TS} {D : Ends} {σ : St} {H : Hp} (Pv : Nat → St → Hp → Prop) (h0 : Pv 0 σ H)
    (hs : ∀ i σ H, i < n → Pv i σ H → g (.int (lo + i)) σ H fun σ2 H2 => tb { D with nx := Pv (i + 1), ct := Pv (i + 1), bk := D.nx } σ2 H2) (hd : ∀ σ H, Pv n σ H → D.nx σ H) :
    ∃ W : Nat → Nat → St → Hp → Prop, (∃ m, W 0 m σ H) ∧ ∀ i m σ H, W i m σ H →
      ((Itr lo n).stop i H ∧ D.nx σ H) ∨ ((Itr lo n).go i H ∧ ∃ N : St → Hp → Prop, (∀ σ' H', N σ' H' → ∃ m', m' < m ∧ W (i + 1) m' σ' H') ∧ ∀ x H', (Itr lo n).yld i H x H' → g x σ H' fun σ2 H2 => tb { D with nx := N, ct := N, bk := D.nx } σ2 H2) := by
  refine ⟨fun i m σ H => m = n - i ∧ i ≤ n ∧ Pv i σ H, ⟨n, by simp, Nat.zero_le _, h0⟩, ?_⟩
  rintro i m σ H ⟨rfl, hi, p⟩
  by_cases hlt : i < n
  · refine .inr ⟨hlt, Pv (i + 1), fun σ' H' p' => ⟨n - (i + 1), by omega, rfl, hlt, p'⟩, fun x H' y => ?_⟩
    obtain ⟨e, y⟩ := y
    subst e y
    exact hs i σ _ hlt p
  · have e : i = n := by omega
    subst e
    exact .inl ⟨Nat.le_refl _, hd σ H p⟩
/-- while, by a word and a measure of the state -/
theorem while_by {c : TT} {tb : TS} {D : Ends} {σ : St} {H : Hp} (Pv : St → Hp → Prop) (μ : St → Hp → Nat) (h0 : Pv σ H)
    (hs : ∀ σ H, Pv σ H → c σ H fun b H1 => if b = true then tb { D with nx := fun σ' H' => Pv σ' H' ∧ μ σ' H' < μ σ H, ct := fun σ' H' => Pv σ' H' ∧ μ σ' H' < μ σ H, bk := D.nx } σ H1 else D.nx σ H1)
    (mono : ∀ σ H Q Q', (∀ b H1, Q b H1 → Q' b H1) → c σ H Q → c σ H Q') : tWhile c tb D σ H := by
  refine ⟨fun m σ H => m = μ σ H ∧ Pv σ H, ⟨_, rfl, h0⟩, ?_⟩
  rintro m σ H ⟨rfl, p⟩
  refine mono σ H _ _ (fun b H1 q => ?_) (hs σ H p)
  cases b with
  | true => exact ⟨_, fun σ' H' ⟨p', l⟩ => ⟨_, l, rfl, p'⟩, q⟩
  | false => exact q
end L2

namespace L2
open PySem PySem.Spec PyProof.Rows

abbrev R2 := V → V → Hp → VK → Prop
/-- a two-place operation on values: f is binaryOp op, inplaceOp op or compareOp op -/
def OpR (X : Cx) (f : Value → Value → Sem Value) (r : R2) : Prop :=
  ∀ (pins : List (Addr × Obj)) (s : Shared) (σ : St) (H : Hp) (x y : V) (v u : Value) (Q : VK), Inv X pins σ H s → RelV x v → RelV y u → r x y H Q →
    wpAny (model X.prog X.w) X.A (f v u) (EP X pins σ Q) X.xe s
/-- a one-place operation -/
def UnR (X : Cx) (f : Value → Sem Value) (r : V → Hp → VK → Prop) : Prop :=
  ∀ (pins : List (Addr × Obj)) (s : Shared) (σ : St) (H : Hp) (x : V) (v : Value) (Q : VK), Inv X pins σ H s → RelV x v → r x H Q →
    wpAny (model X.prog X.w) X.A (f v) (EP X pins σ Q) X.xe s
/-- a call of a value that is known (a builtin, a type) with values -/
def CallR (X : Cx) (f : Value) (r : List V → Hp → VK → Prop) : Prop :=
  ∀ (pins : List (Addr × Obj)) (s : Shared) (σ : St) (H : Hp) (xs : List V) (us : List Value) (Q : VK), Inv X pins σ H s → Vals xs us → r xs H Q →
    wpAny (model X.prog X.w) X.A (call f us) (EP X pins σ Q) X.xe s
/-- a value's truth -/
def TruR (X : Cx) (r : V → Hp → (Bool → Hp → Prop) → Prop) : Prop :=
  ∀ (pins : List (Addr × Obj)) (s : Shared) (σ : St) (H : Hp) (x : V) (v : Value) (Q : Bool → Hp → Prop), Inv X pins σ H s → RelV x v → r x H Q →
    wpAny (model X.prog X.w) X.A (truthy v) (TP X pins σ Q) X.xe s

def tOp (r : R2) (ta tb : TE) : TE := fun σ H Q => ta σ H fun x H1 => tb σ H1 fun y H2 => r x y H2 Q
def tUn (r : V → Hp → VK → Prop) (ta : TE) : TE := fun σ H Q => ta σ H fun x H1 => r x H1 Q
/-- ints in, under C, and a value out -/
def rI (C : Int → Int → Prop) (g : Int → Int → V) : R2 := fun x y H Q => ∃ i j, x = .int i ∧ y = .int j ∧ C i j ∧ Q (g i j) H
def rI0 (g : Int → Int → V) : R2 := fun x y H Q => ∃ i j, x = .int i ∧ y = .int j ∧ Q (g i j) H
def rU (g : Int → V) : V → Hp → VK → Prop := fun x H Q => ∃ i, x = .int i ∧ Q (g i) H

section
variable {X : Cx} {a b c : Expr} {ta tb tc : TE} {pos : Pos}

theorem binT (ha : PE X a ta) (hb : PE X b tb) {pins : List (Addr × Obj)} {s : Shared} {σ : St} {H : Hp} {R : V → V → Hp → Prop} (I : Inv X pins σ H s)
    (h : ta σ H fun x H1 => tb σ H1 fun y H2 => R x y H2) {Q : Value → Shared → Prop} {f : Value → Value → Sem Value}
    (hf : ∀ v u s2 x y H2, Inv X pins σ H2 s2 → RelV x v → RelV y u → R x y H2 → wpAny (model X.prog X.w) X.A (f v u) Q X.xe s2) :
    wpAny (model X.prog X.w) X.A (eval a X.env) (fun v s₁ => wpAny (model X.prog X.w) X.A (eval b X.env) (fun u s₂ => wpAny (model X.prog X.w) X.A (f v u) Q X.xe s₂) X.xe s₁) X.xe s := by
  refine thn (ha pins s σ H _ I h) fun v s1 ⟨x, H1, I1, r1, q1⟩ => ?_
  refine thn (hb pins s1 σ H1 _ I1 q1) fun u s2 ⟨y, H2, I2, r2, q2⟩ => ?_
  exact hf v u s2 x y H2 I2 r1 r2 q2

theorem pe_op {op : Operator} {r : R2} (ho : OpR X (binaryOp op) r) (ha : PE X a ta) (hb : PE X b tb) : PE X (.BinOp a op b pos) (tOp r ta tb) := by
  intro pins s σ H Q I h
  exact wpAny_BinOp (binT ha hb I h fun v u s2 x y H2 I2 rx ry q => ho pins s2 σ H2 x y v u Q I2 rx ry q)
theorem pe_un {op : UnaryOp} {r : V → Hp → VK → Prop} (ho : UnR X (unaryOp op) r) (ha : PE X a ta) : PE X (.UnaryOp op a pos) (tUn r ta) := by
  intro pins s σ H Q I h
  exact UnaryOp_ (thn (ha pins s σ H _ I h) fun v s1 ⟨x, H1, I1, r1, q1⟩ => ho pins s1 σ H1 x v Q I1 r1 q1)
/-- a op= e at a name: the name's slot i -/
theorem augR {op : Operator} {r : R2} (ho : OpR X (inplaceOp op) r) {pins : List (Addr × Obj)} {s : Shared} {σ : St} {H : Hp} {x y : V} {v u : Value} {Q : VK} (I : Inv X pins σ H s)
    (rx : RelV x v) (ry : RelV y u) (q : r x y H Q) : wpAny (model X.prog X.w) X.A (inplaceOp op v u) (EP X pins σ Q) X.xe s := ho pins s σ H x y v u Q I rx ry q

/-! ### ints -/
theorem opI {f : Value → Value → Sem Value} {C : Int → Int → Prop} {g : Int → Int → Int}
    (rule : ∀ (i j : Int) (t u : Tok) (s : Shared) (Q : Value → Shared → Prop) (E : Value → Shared → Prop), C i j → Q (.int (g i j) s.toks) { s with toks := s.toks + 1 } → wpAny (model X.prog X.w) X.A (f (.int i t) (.int j u)) Q E s) :
    OpR X f (rI C fun i j => .int (g i j)) := by
  intro pins s σ H x y v u Q I rx ry h
  obtain ⟨i, j, rfl, rfl, hc, q⟩ := h
  obtain ⟨t, rfl⟩ := rx
  obtain ⟨t', rfl⟩ := ry
  exact rule i j t t' s _ _ hc ⟨.int (g i j), H, I.tok _, ⟨_, rfl⟩, q⟩
theorem opI0 {f : Value → Value → Sem Value} {g : Int → Int → Int}
    (rule : ∀ (i j : Int) (t u : Tok) (s : Shared) (Q : Value → Shared → Prop) (E : Value → Shared → Prop), Q (.int (g i j) s.toks) { s with toks := s.toks + 1 } → wpAny (model X.prog X.w) X.A (f (.int i t) (.int j u)) Q E s) :
    OpR X f (rI0 fun i j => .int (g i j)) := by
  intro pins s σ H x y v u Q I rx ry h
  obtain ⟨i, j, rfl, rfl, q⟩ := h
  obtain ⟨t, rfl⟩ := rx
  obtain ⟨t', rfl⟩ := ry
  exact rule i j t t' s _ _ ⟨.int (g i j), H, I.tok _, ⟨_, rfl⟩, q⟩
theorem opB0 {f : Value → Value → Sem Value} {g : Int → Int → Bool}
    (rule : ∀ (i j : Int) (t u : Tok) (s : Shared) (Q : Value → Shared → Prop) (E : Value → Shared → Prop), Q (.bool (g i j)) s → wpAny (model X.prog X.w) X.A (f (.int i t) (.int j u)) Q E s) :
    OpR X f (rI0 fun i j => .bl (g i j)) := by
  intro pins s σ H x y v u Q I rx ry h
  obtain ⟨i, j, rfl, rfl, q⟩ := h
  obtain ⟨t, rfl⟩ := rx
  obtain ⟨t', rfl⟩ := ry
  exact rule i j t t' s _ _ ⟨.bl (g i j), H, I, rfl, q⟩

def CDiv (i j : Int) : Prop := 0 < j ∧ j < 1073741824
def CDivN (i j : Int) : Prop := j ≠ 0 ∧ j.natAbs < 1073741824
def CPow (i j : Int) : Prop := 0 ≤ j ∧ j ≤ 1000000 ∧ i.natAbs < 2 ^ 64
def CMul (i j : Int) : Prop := (-(2 ^ 64) < i ∧ i < 2 ^ 64) ∨ (-(2 ^ 64) < j ∧ j < 2 ^ 64)
theorem CMul.ok {i j : Int} (h : CMul i j) : IntMulOk i j := by
  rcases h with ⟨h1, h2⟩ | ⟨h1, h2⟩
  · exact .of_left (intBits_le_64 h1 h2)
  · exact .of_right (intBits_le_64 h1 h2)
theorem two_pow_nn (k : Nat) : (0 : Int) ≤ 2 ^ k := by
  rw [two_pow_cast]
  exact Int.natCast_nonneg _

theorem op_add : OpR X (binaryOp .Add) (rI0 fun i j => .int (i + j)) := opI0 fun _ _ _ _ _ _ _ q => add_int q
theorem op_sub : OpR X (binaryOp .Sub) (rI0 fun i j => .int (i - j)) := opI0 fun _ _ _ _ _ _ _ q => sub_int q
theorem op_mul : OpR X (binaryOp .Mult) (rI CMul fun i j => .int (i * j)) := opI fun _ _ _ _ _ _ _ hc q => mul_int q hc.ok
/-- // by a positive divisor -/
theorem op_fdiv : OpR X (binaryOp .FloorDiv) (rI CDiv fun i j => .int (i / j)) := opI fun i j _ _ _ _ _ hc q => by
  have h1 : (0 : Int) < j := hc.1
  have h2 : j < 1073741824 := hc.2
  exact floordiv_int (by omega) (by rw [Int.fdiv_eq_ediv_of_nonneg i (by omega)]; exact q) (.inl (PyProof.noPylong_small (by omega)))
theorem op_fdivN : OpR X (binaryOp .FloorDiv) (rI CDivN fun i j => .int (i.fdiv j)) := opI fun _ _ _ _ _ _ _ hc q => floordiv_int hc.1 q (.inl (PyProof.noPylong_small hc.2))
/-- % by a positive divisor of any size -/
theorem op_mod : OpR X (binaryOp .Mod) (rI (fun _ j => 0 < j) fun i j => .int (i % j)) := opI fun i j _ _ _ _ _ hc q => by
  have h1 : (0 : Int) < j := hc
  exact mod_int' (by omega) (by rw [Int.fmod_eq_emod_of_nonneg i (by omega)]; exact q)
theorem op_modN : OpR X (binaryOp .Mod) (rI (fun _ j => j ≠ 0) fun i j => .int (i.fmod j)) := opI fun _ _ _ _ _ _ _ hc q => mod_int' hc q
theorem op_pow : OpR X (binaryOp .Pow) (rI CPow fun i j => .int (i ^ j.toNat)) := opI fun _ _ _ _ _ _ _ hc q => pow_int_small hc.1 hc.2.1 hc.2.2 q
theorem op_shl : OpR X (binaryOp .LShift) (rI CPow fun i j => .int (i * 2 ^ j.toNat)) := opI fun _ _ _ _ _ _ _ hc q => lshift_int_small hc.1 hc.2.1 hc.2.2 q
theorem op_shr : OpR X (binaryOp .RShift) (rI (fun _ j => 0 ≤ j) fun i j => .int (i / 2 ^ j.toNat)) := opI fun i j _ _ _ _ _ hc q =>
  rshift_int hc (by rw [Int.fdiv_eq_ediv_of_nonneg i (two_pow_nn _)]; exact q)
theorem op_and : OpR X (binaryOp .BitAnd) (rI0 fun i j => .int (Builtin.bitAnd i j)) := opI0 fun _ _ _ _ _ _ _ q => and_int q
theorem op_or : OpR X (binaryOp .BitOr) (rI0 fun i j => .int (Builtin.bitOr i j)) := opI0 fun _ _ _ _ _ _ _ q => or_int q
theorem op_xor : OpR X (binaryOp .BitXor) (rI0 fun i j => .int (Builtin.bitXor i j)) := opI0 fun _ _ _ _ _ _ _ q => xor_int q

theorem iop_add : OpR X (inplaceOp .Add) (rI0 fun i j => .int (i + j)) := opI0 fun _ _ _ _ _ _ _ q => iadd_int q
theorem iop_sub : OpR X (inplaceOp .Sub) (rI0 fun i j => .int (i - j)) := opI0 fun _ _ _ _ _ _ _ q => isub_int q
theorem iop_mul : OpR X (inplaceOp .Mult) (rI CMul fun i j => .int (i * j)) := opI fun _ _ _ _ _ _ _ hc q => imul_int q hc.ok
theorem iop_fdiv : OpR X (inplaceOp .FloorDiv) (rI CDiv fun i j => .int (i / j)) := opI fun i j _ _ _ _ _ hc q => by
  have h1 : (0 : Int) < j := hc.1
  have h2 : j < 1073741824 := hc.2
  exact ifloordiv_int (by omega) (by rw [Int.fdiv_eq_ediv_of_nonneg i (by omega)]; exact q) (.inl (PyProof.noPylong_small (by omega)))
theorem iop_mod : OpR X (inplaceOp .Mod) (rI (fun _ j => 0 < j) fun i j => .int (i % j)) := opI fun i j _ _ _ _ _ hc q => by
  have h1 : (0 : Int) < j := hc
  exact imod_int (by omega) (by rw [Int.fmod_eq_emod_of_nonneg i (by omega)]; exact q)
theorem iop_shl : OpR X (inplaceOp .LShift) (rI CPow fun i j => .int (i * 2 ^ j.toNat)) := opI fun _ _ _ _ _ _ _ hc q => ilshift_int_small hc.1 hc.2.1 hc.2.2 q
theorem iop_shr : OpR X (inplaceOp .RShift) (rI (fun _ j => 0 ≤ j) fun i j => .int (i / 2 ^ j.toNat)) := opI fun i j _ _ _ _ _ hc q =>
  irshift_int hc (by rw [Int.fdiv_eq_ediv_of_nonneg i (two_pow_nn _)]; exact q)
theorem iop_and : OpR X (inplaceOp .BitAnd) (rI0 fun i j => .int (Builtin.bitAnd i j)) := opI0 fun _ _ _ _ _ _ _ q => iand_int q
theorem iop_or : OpR X (inplaceOp .BitOr) (rI0 fun i j => .int (Builtin.bitOr i j)) := opI0 fun _ _ _ _ _ _ _ q => ior_int q
theorem iop_xor : OpR X (inplaceOp .BitXor) (rI0 fun i j => .int (Builtin.bitXor i j)) := opI0 fun _ _ _ _ _ _ _ q => ixor_int q

theorem unI {f : Value → Sem Value} {g : Int → Int}
    (rule : ∀ (i : Int) (t : Tok) (s : Shared) (Q : Value → Shared → Prop) (E : Value → Shared → Prop), Q (.int (g i) s.toks) { s with toks := s.toks + 1 } → wpAny (model X.prog X.w) X.A (f (.int i t)) Q E s) :
    UnR X f (rU fun i => .int (g i)) := by
  intro pins s σ H x v Q I rx h
  obtain ⟨i, rfl, q⟩ := h
  obtain ⟨t, rfl⟩ := rx
  exact rule i t s _ _ ⟨.int (g i), H, I.tok _, ⟨_, rfl⟩, q⟩
theorem un_neg : UnR X (unaryOp .USub) (rU fun i => .int (-i)) := unI fun _ _ _ _ _ q => neg_int q
theorem un_inv : UnR X (unaryOp .Invert) (rU fun i => .int (Builtin.bitNot i)) := unI fun _ _ _ _ _ q => invert_int q

/-! ### bools among ints: n += (a < b) -/
theorem op_add_ib : OpR X (binaryOp .Add) (fun x y H Q => ∃ i k, x = .int i ∧ y = .bl k ∧ Q (.int (i + b2i k)) H) := by
  intro pins s σ H x y v u Q I rx ry h
  obtain ⟨i, k, rfl, rfl, q⟩ := h
  obtain ⟨t, rfl⟩ := rx
  cases ry
  exact add_int_bool ⟨.int (i + b2i k), H, I.tok _, ⟨_, rfl⟩, q⟩
end

/-! ### comparisons -/
/-- the scalars that == tells apart as data does -/
def scal : V → V → Bool
  | .non, .non => true | .non, .int _ => true | .int _, .non => true | .non, .bl _ => true | .bl _, .non => true | .non, .str _ => true | .str _, .non => true
  | .int _, .int _ => true | .bl _, .bl _ => true | .str _, .str _ => true | .byt _, .byt _ => true
  | .int _, .str _ => true | .str _, .int _ => true | .bl _, .str _ => true | .str _, .bl _ => true
  | _, _ => false
def rEq : R2 := fun x y H Q => scal x y = true ∧ Q (.bl (decide (x = y))) H
def rNe : R2 := fun x y H Q => scal x y = true ∧ Q (.bl (!decide (x = y))) H

theorem dec_int {i j : Int} : decide (V.int i = V.int j) = (i == j) := by
  rw [Bool.eq_iff_iff]
  simp
theorem dec_bl {i j : Bool} : decide (V.bl i = V.bl j) = (i == j) := by
  rw [Bool.eq_iff_iff]
  simp
theorem dec_str {i j : Str} : decide (V.str i = V.str j) = (i == j) := by
  rw [Bool.eq_iff_iff]
  simp
theorem dec_byt {i j : Array UInt8} : decide (V.byt i = V.byt j) = (i.toList == j.toList) := by
  rw [Bool.eq_iff_iff]
  cases i
  cases j
  simp

section
variable {X : Cx} {a b c : Expr} {ta tb tc : TE} {pos : Pos}
theorem fin_bl {pins : List (Addr × Obj)} {σ : St} {H : Hp} {s : Shared} {Q : VK} {k k' : Bool} (I : Inv X pins σ H s) (q : Q (.bl k) H) (e : k = k') : EP X pins σ Q (.bool k') s := by
  subst e
  exact ⟨.bl k, H, I, rfl, q⟩
theorem op_eq : OpR X (compareOp .Eq) rEq := by
  intro pins s σ H x y v u Q I rx ry h
  obtain ⟨hs, q⟩ := h
  cases x with
  | non =>
    cases rx
    cases y with
    | non => cases ry; exact PySem.EqNone.eq_none_none (fin_bl I q (by simp))
    | bl j => cases ry; exact PySem.EqNone.eq_none_bool (fin_bl I q (by simp))
    | int j => obtain ⟨t', rfl⟩ := ry; exact PySem.EqNone.eq_none_int (fin_bl I q (by simp))
    | str j => obtain ⟨t', rfl⟩ := ry; exact PySem.EqNone.eq_none_str (fin_bl I q (by simp))
    | _ => exact absurd (show false = true from hs) Bool.false_ne_true
  | bl i =>
    cases rx
    cases y with
    | non => cases ry; exact PySem.EqNone.eq_bool_none (fin_bl I q (by simp))
    | bl j => cases ry; exact eq_bool (fin_bl I q dec_bl)
    | str j => obtain ⟨t', rfl⟩ := ry; exact PySem.EqMixed.eq_bool_str (fin_bl I q (by simp))
    | _ => exact absurd (show false = true from hs) Bool.false_ne_true
  | int i =>
    obtain ⟨t, rfl⟩ := rx
    cases y with
    | non => cases ry; exact PySem.EqNone.eq_int_none (fin_bl I q (by simp))
    | int j => obtain ⟨t', rfl⟩ := ry; exact eq_int (fin_bl I q dec_int)
    | str j => obtain ⟨t', rfl⟩ := ry; exact PySem.EqMixed.eq_int_str (fin_bl I q (by simp))
    | _ => exact absurd (show false = true from hs) Bool.false_ne_true
  | str i =>
    obtain ⟨t, rfl⟩ := rx
    cases y with
    | non => cases ry; exact PySem.EqNone.eq_str_none (fin_bl I q (by simp))
    | bl j => cases ry; exact PySem.EqMixed.eq_str_bool (fin_bl I q (by simp))
    | int j => obtain ⟨t', rfl⟩ := ry; exact PySem.EqMixed.eq_str_int (fin_bl I q (by simp))
    | str j => obtain ⟨t', rfl⟩ := ry; exact eq_str (fin_bl I q dec_str)
    | _ => exact absurd (show false = true from hs) Bool.false_ne_true
  | byt i =>
    obtain ⟨t, rfl⟩ := rx
    cases y with
    | byt j => obtain ⟨t', rfl⟩ := ry; exact PySem.W.eq_bytes (fin_bl I q dec_byt)
    | _ => exact absurd (show false = true from hs) Bool.false_ne_true
  | _ => cases y <;> exact absurd (show false = true from hs) Bool.false_ne_true
theorem op_ne : OpR X (compareOp .NotEq) rNe := by
  intro pins s σ H x y v u Q I rx ry h
  obtain ⟨hs, q⟩ := h
  cases x with
  | non =>
    cases rx
    cases y with
    | non => cases ry; exact PySem.EqNone.ne_none_none (fin_bl I q (by simp))
    | bl j => cases ry; exact PySem.EqNone.ne_none_bool (fin_bl I q (by simp))
    | int j => obtain ⟨t', rfl⟩ := ry; exact PySem.EqNone.ne_none_int (fin_bl I q (by simp))
    | str j => obtain ⟨t', rfl⟩ := ry; exact PySem.EqNone.ne_none_str (fin_bl I q (by simp))
    | _ => exact absurd (show false = true from hs) Bool.false_ne_true
  | bl i =>
    cases rx
    cases y with
    | non => cases ry; exact PySem.EqNone.ne_bool_none (fin_bl I q (by simp))
    | bl j => cases ry; exact ne_bool (fin_bl I q (congrArg not dec_bl))
    | str j => obtain ⟨t', rfl⟩ := ry; exact PySem.EqMixed.ne_bool_str (fin_bl I q (by simp))
    | _ => exact absurd (show false = true from hs) Bool.false_ne_true
  | int i =>
    obtain ⟨t, rfl⟩ := rx
    cases y with
    | non => cases ry; exact PySem.EqNone.ne_int_none (fin_bl I q (by simp))
    | int j => obtain ⟨t', rfl⟩ := ry; exact ne_int (fin_bl I q (congrArg not dec_int))
    | str j => obtain ⟨t', rfl⟩ := ry; exact PySem.EqMixed.ne_int_str (fin_bl I q (by simp))
    | _ => exact absurd (show false = true from hs) Bool.false_ne_true
  | str i =>
    obtain ⟨t, rfl⟩ := rx
    cases y with
    | non => cases ry; exact PySem.EqNone.ne_str_none (fin_bl I q (by simp))
    | bl j => cases ry; exact PySem.EqMixed.ne_str_bool (fin_bl I q (by simp))
    | int j => obtain ⟨t', rfl⟩ := ry; exact PySem.EqMixed.ne_str_int (fin_bl I q (by simp))
    | str j => obtain ⟨t', rfl⟩ := ry; exact ne_str (fin_bl I q (congrArg not dec_str))
    | _ => exact absurd (show false = true from hs) Bool.false_ne_true
  | byt i =>
    obtain ⟨t, rfl⟩ := rx
    cases y with
    | byt j => obtain ⟨t', rfl⟩ := ry; exact PySem.W.ne_bytes (fin_bl I q (congrArg not dec_byt))
    | _ => exact absurd (show false = true from hs) Bool.false_ne_true
  | _ => cases y <;> exact absurd (show false = true from hs) Bool.false_ne_true

theorem op_lt : OpR X (compareOp .Lt) (rI0 fun i j => .bl (decide (i < j))) := opB0 fun _ _ _ _ _ _ _ q => lt_int q
theorem op_le : OpR X (compareOp .LtE) (rI0 fun i j => .bl (decide (i ≤ j))) := opB0 fun _ _ _ _ _ _ _ q => le_int q
theorem op_gt : OpR X (compareOp .Gt) (rI0 fun i j => .bl (decide (j < i))) := opB0 fun _ _ _ _ _ _ _ q => gt_int q
theorem op_ge : OpR X (compareOp .GtE) (rI0 fun i j => .bl (decide (j ≤ i))) := opB0 fun _ _ _ _ _ _ _ q => ge_int q
theorem op_lt_str : OpR X (compareOp .Lt) (fun x y H Q => ∃ i j, x = .str i ∧ y = .str j ∧ Q (.bl (decide (i.cps.toList < j.cps.toList))) H) := by
  intro pins s σ H x y v u Q I rx ry h
  obtain ⟨i, j, rfl, rfl, q⟩ := h
  obtain ⟨t, rfl⟩ := rx
  obtain ⟨t', rfl⟩ := ry
  exact lt_str (fin_bl I q rfl)
/-- the one string within the other -/
theorem op_in_str : OpR X (compareOp .In) (fun x y H Q => ∃ i j, x = .str i ∧ y = .str j ∧ Q (.bl (!(Builtin.Str.occurrences j i 0 j.length 1).isEmpty)) H) := by
  intro pins s σ H x y v u Q I rx ry h
  obtain ⟨i, j, rfl, rfl, q⟩ := h
  obtain ⟨t, rfl⟩ := rx
  obtain ⟨t', rfl⟩ := ry
  exact in_str (fin_bl I q rfl)

/-- is None, is not None: the right side a value none -/
theorem op_isN : OpR X (compareOp .Is) (fun x y H Q => y = .non ∧ Q (.bl (decide (x = .non))) H) := by
  intro pins s σ H x y v u Q I rx ry h
  obtain ⟨rfl, q⟩ := h
  cases ry
  refine is_none_gen (fin_bl I q ?_)
  cases x <;> first
    | (cases rx; rfl)
    | (obtain ⟨t, rfl⟩ := rx; rfl)
theorem op_notN : OpR X (compareOp .IsNot) (fun x y H Q => y = .non ∧ Q (.bl (!decide (x = .non))) H) := by
  intro pins s σ H x y v u Q I rx ry h
  obtain ⟨rfl, q⟩ := h
  cases ry
  refine isnot_none_gen (fin_bl I q ?_)
  cases x <;> first
    | (cases rx; rfl)
    | (obtain ⟨t, rfl⟩ := rx; rfl)

theorem op_notin_str : OpR X (compareOp .NotIn) (fun x y H Q => ∃ i j, x = .str i ∧ y = .str j ∧ Q (.bl (!(!(Builtin.Str.occurrences j i 0 j.length 1).isEmpty))) H) := by
  intro pins s σ H x y v u Q I rx ry h
  obtain ⟨i, j, rfl, rfl, q⟩ := h
  obtain ⟨t, rfl⟩ := rx
  obtain ⟨t', rfl⟩ := ry
  exact notIn_str (fin_bl I q rfl)
/-- is, is not of two objects that are tracked lists or instances -/
def isObj : HO → Bool
  | .lst _ => true
  | .ins _ _ _ => true
  | _ => false
theorem obj_there {pins : List (Addr × Obj)} {s : Shared} {σ : St} {H : Hp} {a : Addr} {o : HO} (I : Inv X pins σ H s) (h : H a = some o) (p : isObj o = true) : ∃ ob, s.heap.get? a = some ob ∧ ob.cls ≠ .type "tuple" := by
  cases o with
  | lst xs =>
    obtain ⟨_, its, n, _, e⟩ : xs.length ≤ sizeLine ∧ ∃ (its : List Value) (n : Nat), Vals xs its ∧ s.heap.get? a = some { cls := .type "list", data := .seq its.toArray n } := I.hok a _ h
    exact ⟨_, e, (by show Value.type "list" ≠ .type "tuple"; decide +kernel)⟩
  | ins C dx fs =>
    have x := I.hok a _ h
    obtain ⟨_, _, _, e, _⟩ := x
    exact ⟨_, e, (by show Value.ref C ≠ .type "tuple"; exact fun z => by cases z)⟩
  | _ => exact absurd (show false = true from p) Bool.false_ne_true
theorem op_is_ref : OpR X (compareOp .Is) (fun x y H Q => ∃ a b oa ob, x = .ref a ∧ y = .ref b ∧ H a = some oa ∧ isObj oa = true ∧ H b = some ob ∧ isObj ob = true ∧ Q (.bl (decide (a = b))) H) := by
  intro pins s σ H x y v u Q I rx ry h
  obtain ⟨a, b, oa, ob, rfl, rfl, ha, pa, hb, pb, q⟩ := h
  cases rx
  cases ry
  obtain ⟨o1, e1, n1⟩ := obj_there I ha pa
  obtain ⟨o2, e2, _⟩ := obj_there I hb pb
  by_cases z : a = b
  · subst z
    exact wpAny_is_ref_self (fin_bl I q (by simp))
  · exact wpAny_is_ref_other z e1 e2 n1 (fin_bl I q (by simp [z]))
theorem op_isnot_ref : OpR X (compareOp .IsNot) (fun x y H Q => ∃ a b oa ob, x = .ref a ∧ y = .ref b ∧ H a = some oa ∧ isObj oa = true ∧ H b = some ob ∧ isObj ob = true ∧ Q (.bl (!decide (a = b))) H) := by
  intro pins s σ H x y v u Q I rx ry h
  obtain ⟨a, b, oa, ob, rfl, rfl, ha, pa, hb, pb, q⟩ := h
  cases rx
  cases ry
  obtain ⟨o1, e1, n1⟩ := obj_there I ha pa
  obtain ⟨o2, e2, _⟩ := obj_there I hb pb
  by_cases z : a = b
  · subst z
    exact wpAny_isNot_ref_self (fin_bl I q (by simp))
  · exact wpAny_isNot_ref_other z e1 e2 n1 (fin_bl I q (by simp [z]))

/-- two rules for one operation: by cases -/
theorem OpR.or {f : Value → Value → Sem Value} {r r' : R2} (h : OpR X f r) (h' : OpR X f r') : OpR X f (fun x y H Q => r x y H Q ∨ r' x y H Q) := by
  intro pins s σ H x y v u Q I rx ry q
  rcases q with q | q
  · exact h pins s σ H x y v u Q I rx ry q
  · exact h' pins s σ H x y v u Q I rx ry q

theorem nomark (b : Expr) {op : CmpOp} (h : op ≠ .In := by decide) (h2 : op ≠ .NotIn := by decide) : behindInMarks op b = false := by
  have e1 : (op == CmpOp.In) = false := by cases op <;> first | rfl | exact absurd rfl h
  have e2 : (op == CmpOp.NotIn) = false := by cases op <;> first | rfl | exact absurd rfl h2
  cases b <;> simp [behindInMarks, e1, e2]
/-- a comparison as a value; hm: nomark b, or (for in, not in) by with_unfolding_all rfl -/
theorem pe_cmpR {op : CmpOp} {r : R2} (ho : OpR X (compareOp op) r) (ha : PE X a ta) (hb : PE X b tb) (hm : behindInMarks op b = false) : PE X (.Compare a [op] [b] pos) (tOp r ta tb) := by
  intro pins s σ H Q I h
  exact wpAny_Compare1 (binT ha hb I h fun v u s2 x y H2 I2 rx ry q => ho pins s2 σ H2 x y v u Q I2 rx ry q) hm
/-- a reading of a value as a test -/
def tTest (t : TE) : TT := fun σ H Q => t σ H fun x H' => ∃ k, x = .bl k ∧ Q k H'
theorem pt_cmpR {op : CmpOp} {r : R2} (ho : OpR X (compareOp op) r) (ha : PE X a ta) (hb : PE X b tb) (hm : behindInMarks op b = false) : PT X (.Compare a [op] [b] pos) (tTest (tOp r ta tb)) := by
  intro pins s σ H Q I h
  refine wpAny_isTrue_Compare1 (thn (ha pins s σ H _ I h) fun v s1 ⟨x, H1, I1, r1, q1⟩ => thn (hb pins s1 σ H1 _ I1 q1) fun u s2 ⟨y, H2, I2, r2, q2⟩ =>
    thn (ho pins s2 σ H2 x y v u _ I2 r1 r2 q2) fun c s3 ⟨z, H3, I3, r3, k, e, q3⟩ => ?_) hm
  subst e
  cases r3
  exact wpAny_truthy_bool ⟨H3, I3, q3⟩
/-- a op1 b op2 c -/
def tChain (r r' : R2) (ta tb tc : TE) : TE := fun σ H Q => ta σ H fun x H1 => tb σ H1 fun y H2 => r x y H2 fun z H3 => ∃ k, z = .bl k ∧
  (if k = true then tc σ H3 fun w' H4 => r' y w' H4 Q else Q (.bl false) H3)
theorem pe_chain {op op' : CmpOp} {r r' : R2} (ho : OpR X (compareOp op) r) (ho' : OpR X (compareOp op') r') (ha : PE X a ta) (hb : PE X b tb) (hc : PE X c tc)
    (hm : lastMarks [op, op'] [b, c] = false := by with_unfolding_all rfl) : PE X (.Compare a [op, op'] [b, c] pos) (tChain r r' ta tb tc) := by
  intro pins s σ H Q I h
  refine Compare_chain (thn (ha pins s σ H _ I h) fun v s1 ⟨x, H1, I1, r1, q1⟩ => chain_link (thn (hb pins s1 σ H1 _ I1 q1) fun u s2 ⟨y, H2, I2, r2, q2⟩ =>
    thn (ho pins s2 σ H2 x y v u _ I2 r1 r2 q2) fun d s3 ⟨z, H3, I3, r3, k, e, q3⟩ => ?_)) hm
  subst e
  cases r3
  refine wpAny_truthy_bool ?_
  cases k with
  | false => exact ite_ff ⟨.bl false, H3, I3, rfl, q3⟩
  | true => exact ite_tt (chain_last (thn (hc pins s3 σ H3 _ I3 q3) fun w' s4 ⟨z', H4, I4, r4, q4⟩ => ho' pins s4 σ H4 y z' u w' Q I4 r2 r4 q4))
theorem pt_chain {op op' : CmpOp} {r r' : R2} (ho : OpR X (compareOp op) r) (ho' : OpR X (compareOp op') r') (ha : PE X a ta) (hb : PE X b tb) (hc : PE X c tc)
    (hm : lastMarks [op, op'] [b, c] = false := by with_unfolding_all rfl) : PT X (.Compare a [op, op'] [b, c] pos) (tTest (tChain r r' ta tb tc)) := by
  intro pins s σ H Q I h
  refine isTrue_chain (thn (ha pins s σ H _ I h) fun v s1 ⟨x, H1, I1, r1, q1⟩ => test_link (thn (hb pins s1 σ H1 _ I1 q1) fun u s2 ⟨y, H2, I2, r2, q2⟩ =>
    thn (ho pins s2 σ H2 x y v u _ I2 r1 r2 q2) fun d s3 ⟨z, H3, I3, r3, k, e, q3⟩ => ?_)) hm
  subst e
  cases r3
  refine wpAny_truthy_bool ?_
  cases k with
  | false =>
    obtain ⟨k', e', q'⟩ := q3
    cases e'
    exact ite_ff ⟨H3, I3, q'⟩
  | true =>
    refine ite_tt (test_last (thn (hc pins s3 σ H3 _ I3 q3) fun w' s4 ⟨z', H4, I4, r4, q4⟩ => thn (ho' pins s4 σ H4 y z' u w' _ I4 r2 r4 q4) fun d' s5 ⟨z2, H5, I5, r5, k2, e2, q5⟩ => ?_))
    subst e2
    cases r5
    exact wpAny_truthy_bool ⟨H5, I5, q5⟩

/-! ### truth -/
/-- a value's truth by the abstract heap -/
def TruV (K : PySem.W.Frag) (x : V) (H : Hp) (k : Bool) : Prop :=
  match x with
  | .non => k = false
  | .bl b => k = b
  | .int i => k = (i != 0)
  | .str y => y.length ≤ sizeLine ∧ k = ((y.length : Int) != 0)
  | .byt y => y.size ≤ sizeLine ∧ k = ((y.size : Int) != 0)
  | .ref p => (∃ xs, SqL K H p xs ∧ k = !xs.isEmpty) ∨ (∃ xs, SqT K H p xs ∧ k = !xs.isEmpty) ∨ ∃ kvs, H p = some (.dK kvs) ∧ k = !kvs.isEmpty
  | _ => False
theorem isEmpty_kv {κ : Type} {kvs : List (κ × V)} {vs : List (κ × Value)} (r : KV kvs vs) : (!vs.isEmpty) = !kvs.isEmpty := by
  cases r <;> rfl
theorem isEmpty_of {xs : List V} {its : List Value} (r : Vals xs its) : (!its.toArray.isEmpty) = !xs.isEmpty := by
  cases r <;> simp
theorem line63 : (sizeLine : Nat) < 2 ^ 63 := by rw [sizeLine_eq]; decide
theorem tru_ok : TruR X (fun x H Q => ∃ k, TruV X.K x H k ∧ Q k H) := by
  intro pins s σ H x v Q I rx h
  obtain ⟨k, e, q⟩ := h
  have hl := line63
  have hs : sizeLine = 16777216 := sizeLine_eq
  cases x with
  | non =>
    cases rx
    have e' : k = false := e
    subst e'
    exact truthy_none ⟨H, I, q⟩
  | bl b =>
    cases rx
    have e' : k = b := e
    subst e'
    exact wpAny_truthy_bool ⟨H, I, q⟩
  | int i =>
    obtain ⟨t, rfl⟩ := rx
    have e' : k = (i != 0) := e
    subst e'
    exact PySem.P.truthy_int ⟨H, I, q⟩
  | str y =>
    obtain ⟨t, rfl⟩ := rx
    obtain ⟨hy, e'⟩ : y.length ≤ sizeLine ∧ k = ((y.length : Int) != 0) := e
    subst e'
    exact PySem.P.truthy_str (by omega) ⟨H, I.tok _, q⟩
  | byt y =>
    obtain ⟨t, rfl⟩ := rx
    obtain ⟨hy, e'⟩ : y.size ≤ sizeLine ∧ k = ((y.size : Int) != 0) := e
    subst e'
    exact PySem.W.truthy_bytes (by omega) ⟨H, I.tok _, q⟩
  | ref p =>
    cases rx
    have e' : (∃ xs, SqL X.K H p xs ∧ k = !xs.isEmpty) ∨ (∃ xs, SqT X.K H p xs ∧ k = !xs.isEmpty) ∨ ∃ kvs, H p = some (.dK kvs) ∧ k = !kvs.isEmpty := e
    rcases e' with ⟨xs, hx, e'⟩ | ⟨xs, hx, e'⟩ | ⟨kvs, hx, e'⟩
    · subst e'
      obtain ⟨its, r, pl, hz⟩ := I.list hx
      have hlen := r.length
      exact wpAny_truthy_list pl.isList (by simp only [List.size_toArray]; omega) ⟨H, I.tok _, by rw [isEmpty_of r]; exact q⟩
    · subst e'
      obtain ⟨its, r, pl, hz⟩ := I.tuple hx
      have hlen := r.length
      exact truthy_tuple pl (by simp only [List.size_toArray]; omega) ⟨H, I.tok _, by rw [isEmpty_of r]; exact q⟩
    · subst e'
      obtain ⟨hz, hS, vs, r, m⟩ : kvs.length ≤ sizeLine ∧ (p == sysModules) = false ∧ ∃ vs, KV kvs vs ∧ s.heap.DictOf (mixKind X.prog X.w) p vs := I.hok p _ hx
      have hlen : kvs.length = vs.length := Paired.length r
      exact wpAny_truthy_dict hS m (by omega) ⟨H, I.tok _, by rw [isEmpty_kv r]; exact q⟩
  | _ => exact (show False from e).elim
/-- any expression whose test is its value's truth (a name, a call, a subscript, a field ..: he by fun _ => rfl) -/
theorem pt_truth (ha : PE X a ta) (he : ∀ whole, isTrue a X.env whole = (do let v ← whole; standAt a.pos; holding [v] (truthy v))) :
    PT X a (fun σ H Q => ta σ H fun x H' => ∃ k, TruV X.K x H' k ∧ Q k H') := by
  intro pins s σ H Q I h
  exact isTrue_plain (thn (ha pins s σ H _ I h) fun v s1 ⟨x, H1, I1, r1, q1⟩ => tru_ok pins s1 σ H1 x v Q I1 r1 q1) (he _)

/-! ### strs and bytes -/
theorem pe_byt {x : List UInt8} {k : Nat} : PE X (.Constant (.bytes x) k pos) (fun _ H Q => Q (.byt x.toArray) H) := fun _ _ _ H _ I h => PySem.W.Constant_bytes ⟨.byt x.toArray, H, I.tok _, ⟨_, rfl⟩, h⟩
theorem op_add_str : OpR X (binaryOp .Add) (fun x y H Q => ∃ i j, x = .str i ∧ y = .str j ∧ i.length + j.length ≤ sizeLine ∧ Q (.str (i ++ j)) H) := by
  intro pins s σ H x y v u Q I rx ry h
  obtain ⟨i, j, rfl, rfl, hz, q⟩ := h
  obtain ⟨t, rfl⟩ := rx
  obtain ⟨t', rfl⟩ := ry
  exact add_str (fun t' tk => ⟨.str (i ++ j), H, I.tok _, ⟨_, rfl⟩, q⟩) hz
theorem iop_add_str : OpR X (inplaceOp .Add) (fun x y H Q => ∃ i j, x = .str i ∧ y = .str j ∧ i.length + j.length ≤ sizeLine ∧ Q (.str (i ++ j)) H) := by
  intro pins s σ H x y v u Q I rx ry h
  obtain ⟨i, j, rfl, rfl, hz, q⟩ := h
  obtain ⟨t, rfl⟩ := rx
  obtain ⟨t', rfl⟩ := ry
  exact iadd_str (fun t' tk => ⟨.str (i ++ j), H, I.tok _, ⟨_, rfl⟩, q⟩) hz
theorem op_add_byt : OpR X (binaryOp .Add) (fun x y H Q => ∃ i j, x = .byt i ∧ y = .byt j ∧ i.size + j.size ≤ 16777216 ∧ Q (.byt (i ++ j)) H) := by
  intro pins s σ H x y v u Q I rx ry h
  obtain ⟨i, j, rfl, rfl, hz, q⟩ := h
  obtain ⟨t, rfl⟩ := rx
  obtain ⟨t', rfl⟩ := ry
  exact PySem.W.KBy.add_bytes hz (fun t' tk => ⟨.byt (i ++ j), H, I.tok _, ⟨_, rfl⟩, q⟩)

def PlainIxT (b : Expr) : Prop := ∀ o i, subscripted b false o i = operate [o, i] (getItem o i)
/-- s[i], 0 ≤ i < len -/
theorem pe_item_str (ha : PE X a ta) (hb : PE X b tb) (hs : PlainIxT b) :
    PE X (.Subscript a b pos) (tOp (fun x y H Q => ∃ z i c, x = .str z ∧ y = .int i ∧ 0 ≤ i ∧ i < 2 ^ 63 ∧ i < z.length ∧ z.cps[i.toNat]? = some c ∧ Q (.str ⟨#[c]⟩) H) ta tb) := by
  intro pins s σ H Q I h
  refine Subscript_ (binT ha hb I h fun v u s2 x y H2 I2 rx ry q => ?_)
  obtain ⟨z, i, c, rfl, rfl, h0, h63, h1, hc, q⟩ := q
  obtain ⟨t, rfl⟩ := rx
  obtain ⟨t', rfl⟩ := ry
  have e : seqIndex? i z.length = some i.toNat := PySem.StrLaws.seqIndex_nonneg h0 h1
  exact tail_any (typeIs_str s2 z t) slot_str_getitem.lookup (getItem_str (c := c) (by
    have e1 : decide (i < -(2 ^ 63 : Int)) = false := decide_eq_false (by omega)
    have e2 : decide (i ≥ 2 ^ 63) = false := decide_eq_false (by omega)
    rw [e1, e2] <;> rfl) (by rw [e]; exact hc) ⟨.str ⟨#[c]⟩, H2, I2.tok _, ⟨_, rfl⟩, q⟩) (hs _ _)
/-- b[i], 0 ≤ i < len -/
theorem pe_item_byt (ha : PE X a ta) (hb : PE X b tb) (hs : PlainIxT b) :
    PE X (.Subscript a b pos) (tOp (fun x y H Q => ∃ (z : List UInt8) (i : Int), x = .byt z.toArray ∧ y = .int i ∧ z.length ≤ sizeLine ∧ 0 ≤ i ∧ i < z.length ∧ Q (.int ((z.getD i.toNat 0).toNat : Nat)) H) ta tb) := by
  intro pins s σ H Q I h
  refine Subscript_ (binT ha hb I h fun v u s2 x y H2 I2 rx ry q => ?_)
  obtain ⟨z, i, rfl, rfl, hz, h0, h1, q⟩ := q
  obtain ⟨t, rfl⟩ := rx
  obtain ⟨t', rfl⟩ := ry
  have hl : sizeLine = 16777216 := sizeLine_eq
  exact tail_any (PySem.W.typeIs_bytes s2 z.toArray t) PySem.W.FB.slot_bytes_getitem.lookup (PySem.W.getItem_bytes (by omega) h0 h1 ⟨.int ((z.getD i.toNat 0).toNat : Nat), H2, I2.tok _, ⟨_, rfl⟩, q⟩) (hs _ _)

/-! ### scalar builtins, by CallR -/
theorem vals1 {x : V} {us : List Value} (r : Vals [x] us) : ∃ u, us = [u] ∧ RelV x u := by
  cases r with
  | cons r1 r2 => cases r2; exact ⟨_, rfl, r1⟩
theorem vals2 {x y : V} {us : List Value} (r : Vals [x, y] us) : ∃ u w', us = [u, w'] ∧ RelV x u ∧ RelV y w' := by
  cases r with
  | cons r1 r2 =>
    cases r2 with
    | cons r3 r4 => cases r4; exact ⟨_, _, rfl, r1, r3⟩
theorem call_abs : CallR X (.builtin "abs") (fun xs H Q => ∃ i, xs = [.int i] ∧ Q (.int (if i < 0 then -i else i)) H) := by
  intro pins s σ H xs us Q I r h
  obtain ⟨i, rfl, q⟩ := h
  obtain ⟨u, rfl, t, rfl⟩ := vals1 r
  exact call_abs_int fun u tk => ⟨.int (if i < 0 then -i else i), H, I.tok _, ⟨_, rfl⟩, q⟩
theorem call_max2 (hc : X.calm = true) : CallR X (.builtin "max") (fun xs H Q => ∃ i j, xs = [.int i, .int j] ∧ Q (.int (if j > i then j else i)) H) := by
  intro pins s σ H xs us Q I r h
  obtain ⟨i, j, rfl, q⟩ := h
  obtain ⟨u, w', rfl, ⟨t, rfl⟩, ⟨t', rfl⟩⟩ := vals2 r
  refine max_two_ints (I.ok.hd hc) fun h' tk k => ⟨_, H, I.kept k, ?_, q⟩
  by_cases hj : j > i
  · rw [if_pos hj, if_pos hj]; exact ⟨_, rfl⟩
  · rw [if_neg hj, if_neg hj]; exact ⟨_, rfl⟩
theorem call_min2 (hc : X.calm = true) : CallR X (.builtin "min") (fun xs H Q => ∃ i j, xs = [.int i, .int j] ∧ Q (.int (if j < i then j else i)) H) := by
  intro pins s σ H xs us Q I r h
  obtain ⟨i, j, rfl, q⟩ := h
  obtain ⟨u, w', rfl, ⟨t, rfl⟩, ⟨t', rfl⟩⟩ := vals2 r
  refine min_two_ints (I.ok.hd hc) fun h' tk k => ⟨_, H, I.kept k, ?_, q⟩
  by_cases hj : j < i
  · rw [if_pos hj, if_pos hj]; exact ⟨_, rfl⟩
  · rw [if_neg hj, if_neg hj]; exact ⟨_, rfl⟩
theorem call_int1 : CallR X (.type "int") (fun xs H Q => (∃ i, xs = [.int i] ∧ Q (.int i) H) ∨ ∃ k, xs = [.bl k] ∧ Q (.int (if k then 1 else 0)) H) := by
  intro pins s σ H xs us Q I r h
  rcases h with ⟨i, rfl, q⟩ | ⟨k, rfl, q⟩
  · obtain ⟨u, rfl, t, rfl⟩ := vals1 r
    exact call_int_int ⟨.int i, H, I, ⟨_, rfl⟩, q⟩
  · obtain ⟨u, rfl, r1⟩ := vals1 r
    cases r1
    exact call_int_bool ⟨.int (if k then 1 else 0), H, I.tok _, ⟨_, rfl⟩, q⟩
theorem call_bool1 : CallR X (.type "bool") (fun xs H Q => (∃ i, xs = [.int i] ∧ Q (.bl (i != 0)) H) ∨ ∃ k, xs = [.bl k] ∧ Q (.bl k) H) := by
  intro pins s σ H xs us Q I r h
  rcases h with ⟨i, rfl, q⟩ | ⟨k, rfl, q⟩
  · obtain ⟨u, rfl, t, rfl⟩ := vals1 r
    exact call_bool_int ⟨.bl (i != 0), H, I, rfl, q⟩
  · obtain ⟨u, rfl, r1⟩ := vals1 r
    cases r1
    exact call_bool_bool ⟨.bl k, H, I, rfl, q⟩
theorem call_str_int : CallR X (.type "str") (fun xs H Q => ∃ i, xs = [.int i] ∧ i.natAbs.log2 < 1920 ∧ Q (.str (toString i)) H) := by
  intro pins s σ H xs us Q I r h
  obtain ⟨i, rfl, hz, q⟩ := h
  obtain ⟨u, rfl, t, rfl⟩ := vals1 r
  exact PySem.P.str_of_int hz ⟨.str _, H, I.tok _, ⟨_, rfl⟩, q⟩
theorem call_ord : CallR X (.builtin "ord") (fun xs H Q => ∃ x, xs = [.str x] ∧ x.length = 1 ∧ Q (.int (x.cps.getD 0 0 : Nat)) H) := by
  intro pins s σ H xs us Q I r h
  obtain ⟨x, rfl, hz, q⟩ := h
  obtain ⟨u, rfl, t, rfl⟩ := vals1 r
  exact ord_of_one hz ⟨.int _, H, I.tok _, ⟨_, rfl⟩, q⟩
theorem call_chr : CallR X (.builtin "chr") (fun xs H Q => ∃ i, xs = [.int i] ∧ 0 ≤ i ∧ i ≤ 1114111 ∧ Q (.str ⟨#[i.toNat]⟩) H) := by
  intro pins s σ H xs us Q I r h
  obtain ⟨i, rfl, h0, h1, q⟩ := h
  obtain ⟨u, rfl, t, rfl⟩ := vals1 r
  exact chr_of_range h0 h1 ⟨.str _, H, I.tok _, ⟨_, rfl⟩, q⟩
/-- len of a str, a bytes, a list, a tuple -/
def LenV (K : PySem.W.Frag) (x : V) (H : Hp) (n : Nat) : Prop :=
  match x with
  | .str y => y.length ≤ sizeLine ∧ n = y.length
  | .byt y => y.size ≤ sizeLine ∧ n = y.size
  | .ref p => (∃ xs, SqL K H p xs ∧ n = xs.length) ∨ ∃ xs, SqT K H p xs ∧ n = xs.length
  | _ => False
theorem call_len : CallR X (.builtin "len") (fun xs H Q => ∃ x n, xs = [x] ∧ LenV X.K x H n ∧ Q (.int n) H) := by
  intro pins s σ H xs us Q I r h
  obtain ⟨x, n, rfl, e, q⟩ := h
  obtain ⟨u, rfl, rx⟩ := vals1 r
  have hl := line63
  have hs : sizeLine = 16777216 := sizeLine_eq
  cases x with
  | str y =>
    obtain ⟨t, rfl⟩ := rx
    obtain ⟨hy, e'⟩ : y.length ≤ sizeLine ∧ n = y.length := e
    subst e'
    exact len_str (by omega) ⟨.int _, H, I.tok _, ⟨_, rfl⟩, q⟩
  | byt y =>
    obtain ⟨t, rfl⟩ := rx
    obtain ⟨hy, e'⟩ : y.size ≤ sizeLine ∧ n = y.size := e
    subst e'
    exact PySem.W.len_bytes (by omega) ⟨.int _, H, I.tok _, ⟨_, rfl⟩, q⟩
  | ref p =>
    cases rx
    have e' : (∃ xs, SqL X.K H p xs ∧ n = xs.length) ∨ ∃ xs, SqT X.K H p xs ∧ n = xs.length := e
    rcases e' with ⟨xs, hx, e'⟩ | ⟨xs, hx, e'⟩
    · subst e'
      obtain ⟨its, r', pl, hz⟩ := I.list hx
      have hlen := r'.length
      exact Calls.call_len_list pl.isList (by simp only [List.size_toArray]; omega) ⟨.int xs.length, H, I.tok _, ⟨_, by simp only [List.size_toArray]; rw [hlen]⟩, q⟩
    · subst e'
      obtain ⟨its, r', pl, hz⟩ := I.tuple hx
      have hlen := r'.length
      exact len_tuple pl (by simp only [List.size_toArray]; omega) ⟨.int xs.length, H, I.tok _, ⟨_, by simp only [List.size_toArray]; rw [hlen]⟩, q⟩
  | _ => exact (show False from e).elim
/-- divmod: a new tuple -/
theorem call_divmod : CallR X (.builtin "divmod") (fun xs H Q => ∃ i j, xs = [.int i, .int j] ∧ CDiv i j ∧ ∀ p, H p = none → Q (.ref p) (upd H p (.tup [.int (i / j), .int (i % j)]))) := by
  intro pins s σ H xs us Q I r h
  obtain ⟨i, j, rfl, ⟨h1, h2⟩, q⟩ := h
  obtain ⟨u, w', rfl, ⟨t, rfl⟩, ⟨t', rfl⟩⟩ := vals2 r
  refine divmod_int (by omega) ?_ (.inl (PyProof.noPylong_small (by omega)))
  rw [Int.fdiv_eq_ediv_of_nonneg i (by omega), Int.fmod_eq_emod_of_nonneg i (by omega)]
  have hn : H s.heap.objs.size = none := I.hok.fresh (Nat.le_refl _)
  refine ⟨.ref s.heap.objs.size, _, ?_, rfl, q _ hn⟩
  refine I.laid (fun b o e => Heap.get?_push_of_some _ e) (Nat.le_refl _) ⟨by simp only [List.length_cons, List.length_nil]; rw [sizeLine_eq]; decide, [.int (i / j) s.toks, .int (i % j) (s.toks + 1)], .cons ⟨_, rfl⟩ (.cons ⟨_, rfl⟩ .nil), ?_⟩
  exact ⟨_, Heap.get?_push_size s.heap rfl, rfl, 0, rfl⟩
end
end L2

namespace L2
open PySem PySem.Spec PyProof.Rows

/-! ### an instance, its attributes a map -/
structure ObjM (h : Heap) (x dx C : Addr) (mA : Str → Option Value) : Prop where
  obj : h.get? x = some (PySem.W.instObj C dx)
  ns : h.Ns1 dx mA
  ne : dx ≠ x

theorem lookIn_ns {h : Heap} {dx : Addr} {mA : Str → Option Value} (n : h.Ns1 dx mA) : ∃ od, h.get? dx = some od ∧ ∀ name, PySem.W.lookIn name od = some (mA name) := by
  obtain ⟨o, es, ep, ho, hd, hk, _, hm⟩ := n
  refine ⟨o, ho, fun name => ?_⟩
  have e := hm name
  unfold nsFind findBy at e
  rw [← Array.find?_toList] at e
  unfold PySem.W.lookIn
  rw [hd]
  dsimp only
  split
  · rename_i y q
    rw [q] at e
    exact congrArg some e
  · rename_i q
    rw [q] at e
    have a : es.toList.any (·.refKey) = false := by
      rw [List.any_eq_false]
      intro y hy
      obtain ⟨z, t, hkey⟩ := hk y (Array.mem_toList_iff.mp hy)
      simp [DictEntry.refKey, hkey]
    have a' : ¬ es.toList.any (·.refKey) = true := by rw [a]; exact Bool.false_ne_true
    rw [if_neg a']
    exact congrArg some e

theorem ObjM.look {h : Heap} {x dx C : Addr} {mA : Str → Option Value} (I : ObjM h x dx C mA) : ∃ od, PySem.W.InstAt h x (PySem.W.instObj C dx) C (some od) ∧ ∀ name, PySem.W.lookIn name od = some (mA name) :=
  let ⟨od, ho, hl⟩ := lookIn_ns I.ns
  ⟨od, ⟨I.obj, rfl, rfl, ho⟩, hl⟩

section
variable {prog : Program} {w : World} {A : Around} {E : Value → Shared → Prop} {s : Shared} {K : PySem.W.Frag} {x dx C f : Addr} {mA : Str → Option Value} {name : Str} {v : Value}

theorem get_map {expr : Bool} {Q : Value → Shared → Prop} (X : K.In s.heap) (I : ObjM s.heap x dx C mA) (hg : PySem.W.plainGet K C name = true) (hh : PySem.W.hasDictIn K C = true)
    (ha : PySem.W.findIn K (.ref C) name = some none) (hv : mA name = some v) (hv' : PySem.W.handedIn v = true) (h : Q v { s with toks := s.toks + 1 }) :
    wpAny (model prog w) A (getAttr (.ref x) name expr) Q E s := by
  obtain ⟨od, J, hl⟩ := I.look
  exact PySem.W.get_value X J (PySem.W.plainGet_of hg).1 (PySem.W.findObj_own hh ha rfl (by rw [hl, hv])) hv' h

theorem get_const {expr : Bool} {a : Value} {Q : Value → Shared → Prop} (X : K.In s.heap) (I : ObjM s.heap x dx C mA) (hg : PySem.W.plainGet K C name = true) (hh : PySem.W.hasDictIn K C = true)
    (ha : PySem.W.findIn K (.ref C) name = some (some a)) (hn : PySem.W.specialIn K a "__get__" = some none) (hc : PySem.W.copiedNames.contains name = false) (hv : mA name = none) (hv' : PySem.W.handedIn a = true)
    (h : Q a { s with toks := s.toks + 1 }) : wpAny (model prog w) A (getAttr (.ref x) name expr) Q E s := by
  obtain ⟨od, J, hl⟩ := I.look
  exact PySem.W.get_value X J (PySem.W.plainGet_of hg).1 (PySem.W.findObj_cls hh ha hn hv' hc (by rw [hl, hv])) hv' h

theorem get_meth {pl : Sem Bool} {Q : Value × List Value → Shared → Prop} (X : K.In s.heap) (I : ObjM s.heap x dx C mA) (hg : PySem.W.plainGet K C name = true)
    (hf : PySem.W.findIn K (.ref C) name = some (some (.ref f))) (ht : PySem.W.isFn K (.ref f) = true) (hv : mA name = none) (h : Q (.ref f, [.ref x]) s) :
    wpAny (model prog w) A (getMethod (.ref x) name pl) Q E s := by
  obtain ⟨od, J, hl⟩ := I.look
  exact PySem.W.method_fn X J (PySem.W.plainGet_of hg).1 (PySem.W.plainGet_of hg).2 hf (beq_iff_eq.mp ht) (by show (PySem.W.lookIn name od).map (·.isSome) = some false; rw [hl, hv]; rfl) h

theorem set_map {ns : List Str} {Q : Unit → Shared → Prop} (X : K.In s.heap) (I : ObjM s.heap x dx C mA)
    (hs : PySem.W.findIn K (.ref C) "__setattr__" = some (some (.builtin "object.__setattr__"))) (hp : PySem.W.plainOver K C = true) (ht : PySem.W.takerIn K C name = some none) (hh : PySem.W.hasDictIn K C = true)
    (hw : PySem.Within mA ns) (hsz : ns.length ≤ sizeLine)
    (h : ∀ h', ObjM h' x dx C (fun y => if y = name then some v else mA y) → Heap.SameBut dx s.heap h' → Q () { s with heap := h', toks := s.toks + 2 }) :
    wpAny (model prog w) A (setAttr (.ref x) name v) Q E s := by
  obtain ⟨od, J, hl⟩ := I.look
  refine PySem.W.set_plain X J hs (PySem.W.osa_open (s := { s with toks := s.toks + 1 }) (r := none) X J hp ht fun b => ?_)
  obtain ⟨cd, hc, hd'⟩ := PySem.W.any_some hh
  have hx : s.heap.get? x = some ⟨.ref C, some dx, .plain, #[]⟩ := I.obj
  refine wpAny_bind (wpAny_pure (wpAny_bind (wpAny_bind (wpAny_loadPart hx (wpAny_bind (PySem.W.Looks.here (s := { s with toks := s.toks + 1 }) (PySem.W.looks_clsIn X hc) ?_))))))
  rw [hd']
  refine wpAny_pure (a := some dx) (wpAny_bind (wpAny_pure (wpAny_bind ?_)))
  refine wpAny_nsSet1 (s := { s with toks := s.toks + 1 }) I.ns fun h' hn2 hs2 => ?_
  obtain ⟨oD, esD, epD, hoD, hdD, hcD⟩ := hn2.count (PySem.Within.cons name v hw)
  refine wpAny_bind (wpAny_lookBehind hoD (by rw [hdD]; exact pastItsLine_dict (Nat.le_trans hcD (by rw [List.length_cons]; omega))) ?_)
  exact wpAny_pure (h _ ⟨(hs2.2 _ (Ne.symm I.ne)).trans I.obj, hn2, I.ne⟩ hs2)

/-- C(..): the dict at the heap's end, the instance behind it; then its __init__ -/
theorem make_map {R : Result → Shared → Prop} {vs : List Value} {kw : List (Str × Value)} (X : K.In s.heap) (hm : PySem.W.makesIn K C = true)
    (hi : PySem.W.findIn K (.ref C) "__init__" = some (some (.ref f))) (hf : PySem.W.typeIn K (.ref f) = some (.type "function"))
    (h : codeAny (model prog w) (A.under (.builtin "type.__call__" ⟨.ref C :: vs, kw⟩)) (.call (.ref f) ⟨.ref (s.heap.objs.size + 1) :: vs, kw⟩) (PySem.W.InitBack (s.heap.objs.size + 1) R)
      { s with heap := (s.heap.push PySem.W.emptyDict).push (PySem.W.instObj C s.heap.objs.size) }) :
    codeAny (model prog w) A (.call (.ref C) ⟨vs, kw⟩) R s := by
  obtain ⟨hh, g, d, t, os⟩ := s
  exact PySem.W.make_core (PySem.W.makes_of X hm) (PySem.W.looks_findIn X hi) (fun self => PySem.W.bind_fn X self hf) (.inl rfl) h
/-- C() where there is no __init__ but object's -/
theorem make_map0 {R : Result → Shared → Prop} (X : K.In s.heap) (hm : PySem.W.makesIn K C = true)
    (hi : PySem.W.findIn K (.ref C) "__init__" = some (some (.builtin "object.__init__")))
    (hb : ∀ self, PySem.W.Looks (model prog w) s.heap (bindSpecial (.builtin "object.__init__") self) (.builtin "object.__init__", [self]))
    (h : codeAny (model prog w) (A.under (.builtin "type.__call__" ⟨[.ref C], []⟩)) (.call (.builtin "object.__init__") ⟨[.ref (s.heap.objs.size + 1)], []⟩) (PySem.W.InitBack (s.heap.objs.size + 1) R)
      { s with heap := (s.heap.push PySem.W.emptyDict).push (PySem.W.instObj C s.heap.objs.size) }) :
    codeAny (model prog w) A (.call (.ref C) ⟨[], []⟩) R s := by
  obtain ⟨hh, g, d, t, os⟩ := s
  exact PySem.W.make_core (PySem.W.makes_of X hm) (PySem.W.looks_findIn X hi) hb (.inr ⟨rfl, rfl⟩) h
end

/-! ### the attributes as a list of pairs -/
def putF (f : Str) (v : V) : List (Str × V) → List (Str × V)
  | [] => [(f, v)]
  | (g, x) :: r => if g = f then (g, v) :: r else (g, x) :: putF f v r
theorem lookup_putF (f g : Str) (v : V) : ∀ fs : List (Str × V), (putF f v fs).lookup g = if g = f then some v else fs.lookup g
  | [] => by
    show List.lookup g [(f, v)] = _
    by_cases h : g = f
    · have hb : (g == f) = true := beq_iff_eq.mpr h
      simp only [List.lookup, hb, if_pos h]
    · have hb : (g == f) = false := beq_eq_false_iff_ne.mpr h
      simp only [List.lookup, hb, if_neg h]
  | (k, x) :: r => by
    have ih := lookup_putF f g v r
    rw [show putF f v ((k, x) :: r) = (if k = f then (k, v) :: r else (k, x) :: putF f v r) from rfl]
    by_cases hk : k = f
    · rw [if_pos hk]
      by_cases h : g = k
      · have hb : (g == k) = true := beq_iff_eq.mpr h
        simp only [List.lookup, hb, if_pos (h.trans hk)]
      · have hb : (g == k) = false := beq_eq_false_iff_ne.mpr h
        simp only [List.lookup, hb, if_neg (fun e : g = f => h (e.trans hk.symm))]
    · rw [if_neg hk]
      by_cases h : g = k
      · have hb : (g == k) = true := beq_iff_eq.mpr h
        simp only [List.lookup, hb, if_neg (fun e : g = f => hk (h.symm.trans e))]
      · have hb : (g == k) = false := beq_eq_false_iff_ne.mpr h
        simp only [List.lookup, hb]
        exact ih
theorem keys_putF (f : Str) (v : V) : ∀ fs : List (Str × V), f ∈ (putF f v fs).map (·.1) ∧ ∀ g, g ∈ fs.map (·.1) → g ∈ (putF f v fs).map (·.1)
  | [] => ⟨by simp [putF], fun g h => by simp at h⟩
  | (k, x) :: r => by
    obtain ⟨i1, i2⟩ := keys_putF f v r
    rw [show putF f v ((k, x) :: r) = (if k = f then (k, v) :: r else (k, x) :: putF f v r) from rfl]
    by_cases hk : k = f
    · rw [if_pos hk]
      subst hk
      exact ⟨by simp, fun g h => by simpa using h⟩
    · rw [if_neg hk]
      refine ⟨?_, fun g h => ?_⟩
      · rw [List.map_cons]
        exact List.mem_cons_of_mem _ i1
      · rw [List.map_cons] at h ⊢
        rcases List.mem_cons.mp h with e | e
        · exact List.mem_cons.mpr (.inl e)
        · exact List.mem_cons_of_mem _ (i2 g e)
theorem length_putF (f : Str) (v : V) : ∀ fs : List (Str × V), (putF f v fs).length ≤ fs.length + 1
  | [] => by simp [putF]
  | (k, x) :: r => by
    have ih := length_putF f v r
    rw [show putF f v ((k, x) :: r) = (if k = f then (k, v) :: r else (k, x) :: putF f v r) from rfl]
    by_cases hk : k = f
    · rw [if_pos hk, List.length_cons, List.length_cons]; omega
    · rw [if_neg hk, List.length_cons, List.length_cons]; omega

theorem RelO.some_of {v : V} {o : Option Value} (r : RelO (some v) o) : ∃ u, o = some u ∧ RelV v u := by
  cases o with
  | none => exact (show False from r).elim
  | some u => exact ⟨u, rfl, r⟩
theorem RelO.none_of {o : Option Value} (r : RelO none o) : o = none := by
  cases o with
  | none => rfl
  | some u => exact (show False from r).elim
theorem handed_of {v : V} {u : Value} (r : RelV v u) : PySem.W.handedIn u = true := by
  cases v with
  | non => cases (show u = Value.none from r); rfl
  | bl b => cases (show u = Value.bool b from r); rfl
  | int i => obtain ⟨t, e⟩ := (show ∃ t, u = Value.int i t from r); cases e; rfl
  | str x => obtain ⟨t, e⟩ := (show ∃ t, u = Value.str x t from r); cases e; rfl
  | byt b => obtain ⟨t, e⟩ := (show ∃ t, u = Value.bytes b t from r); cases e; rfl
  | flt b => obtain ⟨t, e⟩ := (show ∃ t, u = Value.float b t from r); cases e; rfl
  | ref a => cases (show u = Value.ref a from r); rfl
  | ty n => cases (show u = Value.type n from r); rfl

section
variable {P : Program} {w : World} {H H' : Hp} {h h' : Heap} {a C dx : Addr} {fs fs' : List (Str × V)}
theorem ins_get (hok : HOk P w H h) (e : H a = some (.ins C dx fs)) : ∃ mA, ObjM h a dx C mA ∧ (∀ f, RelO (fs.lookup f) (mA f)) ∧ PySem.Within mA (fs.map (·.1)) ∧ fs.length ≤ 1000 ∧ H dx = some (.own a) := by
  obtain ⟨d, z, ne, ob, mA, n, r, q⟩ := (show ObjOk P w H h a (.ins C dx fs) from hok a _ e)
  exact ⟨mA, ⟨ob, n, ne⟩, r, q, z, d⟩
end

/-! ### what of the text a class must have -/
structure Cls (K : PySem.W.Frag) (C : Addr) : Prop where
  pg : PySem.W.plainGet K C Str.empty = true
  hd : PySem.W.hasDictIn K C = true
  po : PySem.W.plainOver K C = true
  sa : PySem.W.findIn K (.ref C) "__setattr__" = some (some (.builtin "object.__setattr__"))
theorem Cls.get {K : PySem.W.Frag} {C : Addr} (c : Cls K C) (f : Str) : PySem.W.plainGet K C f = true := c.pg
/-- no class of it has the name -/
def NoAttr (K : PySem.W.Frag) (C : Addr) (f : Str) : Prop := PySem.W.findIn K (.ref C) f = some none
theorem NoAttr.taker {K : PySem.W.Frag} {C : Addr} {f : Str} (n : NoAttr K C f) : PySem.W.takerIn K C f = some none := by
  unfold PySem.W.takerIn
  rw [show PySem.W.findIn K (.ref C) f = some none from n]
  rfl
/-- a constant of the class -/
structure Con (K : PySem.W.Frag) (C : Addr) (f : Str) (v : V) (u : Value) : Prop where
  at_ : PySem.W.findIn K (.ref C) f = some (some u)
  rel : RelV v u
  get : PySem.W.specialIn K u "__get__" = some none
  cp : PySem.W.copiedNames.contains f = false
/-- a method: a plain def of the class or of one above it -/
structure Meth (K : PySem.W.Frag) (C : Addr) (m : Str) (f : Addr) : Prop where
  at_ : PySem.W.findIn K (.ref C) m = some (some (.ref f))
  fn : PySem.W.isFn K (.ref f) = true
  kp : PySem.W.keepIn K (.ref f) = true

section
variable {X : Cx} {pins : List (Addr × Obj)} {σ : St} {H : Hp} {s : Shared} {a C dx : Addr} {fs : List (Str × V)} {f : Str} {v : V} {A : Around} {E : Value → Shared → Prop}

theorem getattr_ok {b : Bool} {Q : Value → Shared → Prop} (I : Inv X pins σ H s) (e : H a = some (.ins C dx fs)) (c : Cls X.K C) (n : NoAttr X.K C f) (l : fs.lookup f = some v)
    (h : ∀ u s', Inv X pins σ H s' → RelV v u → Q u s') : wpAny (model X.prog X.w) A (getAttr (.ref a) f b) Q E s := by
  obtain ⟨mA, O, r, _, _, _⟩ := ins_get I.hok e
  obtain ⟨u, hu, ru⟩ := RelO.some_of (v := v) (o := mA f) (by rw [← l]; exact r f)
  exact get_map I.kIn O (c.get f) c.hd n hu (handed_of ru) (h u _ (I.tok _) ru)

theorem getcon_ok {b : Bool} {u : Value} {Q : Value → Shared → Prop} (I : Inv X pins σ H s) (e : H a = some (.ins C dx fs)) (c : Cls X.K C) (k : Con X.K C f v u) (l : fs.lookup f = none)
    (h : ∀ s', Inv X pins σ H s' → Q u s') : wpAny (model X.prog X.w) A (getAttr (.ref a) f b) Q E s := by
  obtain ⟨mA, O, r, _, _, _⟩ := ins_get I.hok e
  have hn : mA f = none := RelO.none_of (by rw [← l]; exact r f)
  exact get_const I.kIn O (c.get f) c.hd k.at_ k.get k.cp hn (handed_of k.rel) (h _ (I.tok _))

theorem getmeth_ok {m : Str} {g : Addr} {pl : Sem Bool} {Q : Value × List Value → Shared → Prop} (I : Inv X pins σ H s) (e : H a = some (.ins C dx fs)) (c : Cls X.K C) (k : Meth X.K C m g) (l : fs.lookup m = none)
    (h : Q (.ref g, [.ref a]) s) : wpAny (model X.prog X.w) A (getMethod (.ref a) m pl) Q E s := by
  obtain ⟨mA, O, r, _, _, _⟩ := ins_get I.hok e
  have hn : mA m = none := RelO.none_of (by rw [← l]; exact r m)
  exact get_meth I.kIn O (c.get m) k.at_ k.fn hn h

theorem setattr_ok {y : V} {u : Value} {Q : Unit → Shared → Prop} (I : Inv X pins σ H s) (e : H a = some (.ins C dx fs)) (c : Cls X.K C) (n : NoAttr X.K C f) (hl : fs.length < 1000) (ry : RelV y u)
    (h : ∀ s', Inv X pins σ (upd H a (.ins C dx (putF f y fs))) s' → Q () s') : wpAny (model X.prog X.w) A (setAttr (.ref a) f u) Q E s := by
  obtain ⟨mA, O, r, wi, _, ho⟩ := ins_get I.hok e
  have hz : (fs.map (·.1)).length ≤ sizeLine := by rw [List.length_map, sizeLine_eq]; omega
  refine set_map I.kIn O c.sa c.po n.taker c.hd wi hz fun h' O' sb => h _ ?_
  have hd : ∃ o, h'.get? dx = some o := let ⟨o, _, _, e', _⟩ := O'.ns; ⟨o, e'⟩
  refine I.write (x := a) (e := dx) (by rw [e]; exact True.intro) (.inr ho) (fun b q hb z => (sb.2 b hb).trans z) hd ?_
  refine ⟨by rw [upd_ne O.ne]; exact ho, ?_, O.ne, O'.obj, _, O'.ns, fun g => ?_, fun g hg => ?_⟩
  · have := length_putF f y fs; omega
  · show RelO ((putF f y fs).lookup g) (if g = f then some u else mA g)
    rw [lookup_putF]
    by_cases q : g = f
    · rw [if_pos q, if_pos q]; exact ry
    · rw [if_neg q, if_neg q]; exact r g
  · by_cases q : g = f
    · rw [q]; exact (keys_putF f y fs).1
    · refine (keys_putF f y fs).2 g (wi g fun z => hg ?_)
      show (if g = f then some u else mA g) = none
      rw [if_neg q]; exact z

/-- a new instance, tracked, without attributes -/
theorem Inv.made (I : Inv X pins σ H s) : Inv X pins σ (upd (upd H s.heap.objs.size (.own (s.heap.objs.size + 1))) (s.heap.objs.size + 1) (.ins C s.heap.objs.size []))
    { s with heap := (s.heap.push PySem.W.emptyDict).push (PySem.W.instObj C s.heap.objs.size) } := by
  have e1 : (s.heap.push PySem.W.emptyDict).get? s.heap.objs.size = some PySem.W.emptyDict := Heap.get?_push_size s.heap rfl
  have e2 : ((s.heap.push PySem.W.emptyDict).push (PySem.W.instObj C s.heap.objs.size)).get? (s.heap.objs.size + 1) = some (PySem.W.instObj C s.heap.objs.size) := by
    have := Heap.get?_push_size (s.heap.push PySem.W.emptyDict) (o := PySem.W.instObj C s.heap.objs.size) rfl
    rwa [Heap.size_push] at this
  have e3 : (s.heap.push PySem.W.emptyDict).Ns s.heap.objs.size (fun _ => none) := ⟨PySem.W.emptyDict, #[], _, e1, rfl, (fun e he => absurd he (by simp)), fun _ => rfl⟩
  have I1 := I.laid (a := s.heap.objs.size) (o := .own (s.heap.objs.size + 1)) (h' := s.heap.push PySem.W.emptyDict) (t' := s.toks) (fun b u q => Heap.get?_push_of_some _ q) (Nat.le_refl _) ⟨_, e1⟩
  refine I1.laid (a := s.heap.objs.size + 1) (o := .ins C s.heap.objs.size []) (t' := s.toks) (fun b u q => Heap.get?_push_of_some _ q) (Nat.le_of_eq (Heap.size_push _ _)) ?_
  have ne : s.heap.objs.size ≠ s.heap.objs.size + 1 := Nat.ne_of_lt (Nat.lt_succ_self _)
  refine ⟨by rw [upd_ne ne, upd_same], Nat.zero_le _, ne, e2, fun _ => none, (Heap.Ns1.of_empty e3).at fun o q => Heap.get?_push_of_some _ q, fun _ => True.intro, fun y hy => absurd rfl hy⟩

/-- e.f where nothing but the object is asked: through attributeBase (super) and the last hold -/
theorem attr_of {prog : Program} {w : World} {env : Env} {e : Expr} {f : Str} {pos : Pos} {s : Shared} {Q : Value → Shared → Prop} (hb : attributeBase e f env (eval e env) = eval e env)
    (h : wpAny (model prog w) A (eval e env) (fun o s₁ => wpAny (model prog w) A (getAttr o f true) Q E s₁) E s) : wpAny (model prog w) A (eval (.Attribute e f pos) env) Q E s :=
  Attribute_any_ h (by rw [arm_eval_Attribute, hb])
end

/-! ### readings and rules -/
/-- e.f, an attribute of the instance -/
def tFld (K : PySem.W.Frag) (ta : TE) (f : Str) : TE := fun σ H Q => ta σ H fun x H1 => ∃ a C dx fs v, x = .ref a ∧ H1 a = some (.ins C dx fs) ∧ Cls K C ∧ NoAttr K C f ∧ fs.lookup f = some v ∧ Q v H1
/-- e.f, a constant of the class -/
def tCon (K : PySem.W.Frag) (ta : TE) (f : Str) : TE := fun σ H Q => ta σ H fun x H1 => ∃ a C dx fs v u, x = .ref a ∧ H1 a = some (.ins C dx fs) ∧ Cls K C ∧ Con K C f v u ∧ fs.lookup f = none ∧ Q v H1
/-- e.f = value -/
def sFld (K : PySem.W.Frag) (ta tv : TE) (f : Str) : TS := fun D σ H => tv σ H fun y H1 => ta σ H1 fun x H2 => ∃ a C dx fs, x = .ref a ∧ H2 a = some (.ins C dx fs) ∧ Cls K C ∧ NoAttr K C f ∧ fs.length < 1000 ∧
  D.nx σ (upd H2 a (.ins C dx (putF f y fs)))
/-- an augmented operator on two values -/
def InOp (X : Cx) (op : Operator) (rd : V → V → Hp → VK → Prop) : Prop :=
  ∀ (pins : List (Addr × Obj)) (s : Shared) (σ : St) (H : Hp) (x y : V) (u v : Value) (Q : VK), Inv X pins σ H s → RelV x u → RelV y v → rd x y H Q → wpAny (model X.prog X.w) X.A (inplaceOp op u v) (EP X pins σ Q) X.xe s
/-- e.f op= value -/
def sFldAug (K : PySem.W.Frag) (ta tv : TE) (rd : V → V → Hp → VK → Prop) (f : Str) : TS := fun D σ H => ta σ H fun x H1 => ∃ a C dx fs v, x = .ref a ∧ H1 a = some (.ins C dx fs) ∧ Cls K C ∧ NoAttr K C f ∧ fs.lookup f = some v ∧
  tv σ H1 fun y H2 => rd v y H2 fun z H3 => ∃ dx' fs', H3 a = some (.ins C dx' fs') ∧ fs'.length < 1000 ∧ D.nx σ (upd H3 a (.ins C dx' (putF f z fs')))

section
variable {X : Cx} {o e value : Expr} {f : Str} {pos pos' tpos : Pos} {ta tv : TE}
theorem pe_fld (he : PE X e ta) (hb : attributeBase e f X.env (eval e X.env) = eval e X.env) : PE X (.Attribute e f pos) (tFld X.K ta f) := by
  intro pins s σ H Q I h
  refine attr_of hb (thn (he pins s σ H _ I h) fun u s1 ⟨x, H1, I1, rx, a, C, dx, fs, v, ex, ea, c, n, l, q⟩ => ?_)
  subst ex
  obtain rfl : u = Value.ref a := rx
  exact getattr_ok I1 ea c n l fun u' s2 I2 ru => ⟨v, H1, I2, ru, q⟩
theorem pe_con (he : PE X e ta) (hb : attributeBase e f X.env (eval e X.env) = eval e X.env) : PE X (.Attribute e f pos) (tCon X.K ta f) := by
  intro pins s σ H Q I h
  refine attr_of hb (thn (he pins s σ H _ I h) fun u s1 ⟨x, H1, I1, rx, a, C, dx, fs, v, u0, ex, ea, c, k, l, q⟩ => ?_)
  subst ex
  obtain rfl : u = Value.ref a := rx
  exact getcon_ok I1 ea c k l fun s2 I2 => ⟨v, H1, I2, k.rel, q⟩
theorem ps_fld (ha : PE X o ta) (hv : PE X value tv) (hs : swapsWith value (some (.Attribute o f pos')) pos.line X.env = pure false) : PS X (.Assign [.Attribute o f pos'] value pos) (sFld X.K ta tv f) := by
  intro pins s σ H D I h
  refine plainObj_wpAny_Assign_Attribute (thn (hv pins s σ H _ I h) fun u s1 ⟨y, H1, I1, ry, q⟩ => thn (ha pins s1 σ H1 _ I1 q) fun ov s2 ⟨x, H2, I2, rx, a, C, dx, fs, ex, ea, c, n, l, q2⟩ => ?_) hs
  subst ex
  obtain rfl : ov = Value.ref a := rx
  exact setattr_ok I2 ea c n l ry fun s3 I3 => ⟨σ, _, I3, q2⟩
theorem ps_fldaug {op : Operator} {rd : V → V → Hp → VK → Prop} (ha : PE X o ta) (hv : PE X value tv) (hop : InOp X op rd) : PS X (.AugAssign (.Attribute o f tpos) op value pos) (sFldAug X.K ta tv rd f) := by
  intro pins s σ H D I h
  refine wpAny_AugAssign_AttributeAny (thn (ha pins s σ H _ I h) fun ov s1 ⟨x, H1, I1, rx, a, C, dx, fs, v, ex, ea, c, n, l, q⟩ => ?_)
  subst ex
  obtain rfl : ov = Value.ref a := rx
  refine getattr_ok I1 ea c n l fun u s2 I2 ru => thn (hv pins s2 σ H1 _ I2 q) fun w3 s3 ⟨y, H2, I3, ry, q3⟩ => thn (hop pins s3 σ H2 v y u w3 _ I3 ru ry q3) fun w4 s4 ⟨z, H3, I4, rz, dx', fs', ea', l', q4⟩ => ?_
  exact setattr_ok I4 ea' c n l' rz fun s5 I5 => ⟨σ, _, I5, q4⟩
def rAdd : V → V → Hp → VK → Prop := fun x y H Q => ∃ i j, x = .int i ∧ y = .int j ∧ Q (.int (i + j)) H
def rSub : V → V → Hp → VK → Prop := fun x y H Q => ∃ i j, x = .int i ∧ y = .int j ∧ Q (.int (i - j)) H
theorem in_add : InOp X .Add rAdd := by
  rintro pins s σ H x y u v Q I rx ry ⟨i, j, rfl, rfl, q⟩
  obtain ⟨t, rfl⟩ := (show ∃ t, u = Value.int i t from rx)
  obtain ⟨t', rfl⟩ := (show ∃ t', v = Value.int j t' from ry)
  exact PyProof.Rows.iadd_int ⟨.int (i + j), H, I.tok _, ⟨_, rfl⟩, q⟩
theorem in_sub : InOp X .Sub rSub := by
  rintro pins s σ H x y u v Q I rx ry ⟨i, j, rfl, rfl, q⟩
  obtain ⟨t, rfl⟩ := (show ∃ t, u = Value.int i t from rx)
  obtain ⟨t', rfl⟩ := (show ∃ t', v = Value.int j t' from ry)
  exact PyProof.Rows.isub_int ⟨.int (i - j), H, I.tok _, ⟨_, rfl⟩, q⟩

/-- what is between an instance and its method: the tree of a method call -/
theorem methcall_of {pl : Sem Bool} {m : Str} {apos : Pos} {args : List Expr} {pins : List (Addr × Obj)} {s : Shared} {σ : St} {H : Hp} {Q : Value → Shared → Prop} {te : TE} (he : PE X e te) (I : Inv X pins σ H s)
    (h : te σ H fun x H1 => ∃ a C dx fs g, x = .ref a ∧ H1 a = some (.ins C dx fs) ∧ Cls X.K C ∧ Meth X.K C m g ∧ fs.lookup m = none ∧
      ∀ s1, Inv X pins σ H1 s1 → wpAny (model X.prog X.w) X.A (callWith pos (.ref g) [.ref a] (backTo pos (starEach args X.env)) (backToKw pos (keywordEach [] X.env))) Q X.xe s1)
    (ht : eval (.Call (.Attribute e m apos) args [] pos) X.env = (do
      let ov ← eval e X.env
      standAt apos.atName
      let (f, first) ← holding [ov] (getMethod ov m pl)
      callWith pos f first (backTo pos (starEach args X.env)) (backToKw pos (keywordEach [] X.env)))) :
    wpAny (model X.prog X.w) X.A (eval (.Call (.Attribute e m apos) args [] pos) X.env) Q X.xe s := by
  refine PySem.W.methodCall_KW (pl := pl) (thn (he pins s σ H _ I h) fun u s1 ⟨x, H1, I1, rx, a, C, dx, fs, g, ex, ea, c, k, l, q⟩ => ?_) ht
  subst ex
  obtain rfl : u = Value.ref a := rx
  exact getmeth_ok I1 ea c k l (q s1 I1)
end

/-! ### isinstance -/
section
variable {X : Cx} {pins : List (Addr × Obj)} {σ : St} {H : Hp} {s : Shared} {A : Around} {E : Value → Shared → Prop} {Q : Value → Shared → Prop} {c : Value} {b : Bool}
/-- the type of a value, as the fragment's deciders take it; for an instance its class -/
inductive TyOf (K : PySem.W.Frag) (H : Hp) : V → Value → Prop where
  | non : TyOf K H .non (.type "NoneType")
  | bl (x : Bool) : TyOf K H (.bl x) (.type "bool")
  | int (i : Int) : TyOf K H (.int i) (.type "int")
  | str (x : Str) : TyOf K H (.str x) (.type "str")
  | flt (x : UInt64) : TyOf K H (.flt x) (.type "float")
  | lst {a : Addr} {xs : List V} (e : H a = some (.lst xs)) : TyOf K H (.ref a) (.type "list")
  | frz {a : Addr} {o : Obj} {xs : List V} (e : H a = some (.frz o (.lst xs))) : TyOf K H (.ref a) (.type "list")
  | tup {a : Addr} {xs : List V} (e : H a = some (.tup xs)) : TyOf K H (.ref a) (.type "tuple")
  | dK {a : Addr} {kvs : List (Key × V)} (e : H a = some (.dK kvs)) : TyOf K H (.ref a) (.type "dict")
  | dT {a : Addr} {kvs : List (List Key × V)} (e : H a = some (.dT kvs)) : TyOf K H (.ref a) (.type "dict")
  | ins {a C dx : Addr} {fs : List (Str × V)} (e : H a = some (.ins C dx fs)) (cl : Cls K C) (ha : PySem.W.findIn K (.ref C) "__class__" = some (some (.builtin "object.__class__")))
      (hn : PySem.W.specialIn K (.builtin "object.__class__") "__get__" = some (some (.builtin "getset_descriptor.__get__"))) (htk : PySem.W.takesIn K (.builtin "object.__class__") = some true)
      (hm : PySem.W.mroIn K C (.type "object") = some true) : TyOf K H (.ref a) (.ref C)
/-- isinstance(x, c) for one class c, a built-in or an own one: kitOne's answer -/
theorem isinst_ok {x : V} {u t : Value} (I : Inv X pins σ H s) (rx : RelV x u) (ty : TyOf X.K H x t) (e : PySem.W.kitOne X.K t c = some b) (h : ∀ tk, Q (.bool b) { s with toks := tk }) :
    wpAny (model X.prog X.w) A (call (.builtin "isinstance") [u, c]) Q E s := by
  cases ty with
  | non => cases (show u = Value.none from rx); exact PySem.W.kia_one PySem.W.kitx_none I.kIn True.intro e (fun z => nomatch z) h
  | bl y => cases (show u = Value.bool y from rx); exact PySem.W.kia_one PySem.W.kitx_bool I.kIn True.intro e (fun z => nomatch z) h
  | int i => obtain ⟨t, q⟩ := (show ∃ t, u = Value.int i t from rx); cases q; exact PySem.W.kia_one PySem.W.kitx_int I.kIn True.intro e (fun z => nomatch z) h
  | str y => obtain ⟨t, q⟩ := (show ∃ t, u = Value.str y t from rx); cases q; exact PySem.W.kia_one PySem.W.kitx_str I.kIn True.intro e (fun z => nomatch z) h
  | flt y => obtain ⟨t, q⟩ := (show ∃ t, u = Value.float y t from rx); cases q; exact PySem.W.kia_one PySem.W.kitx_float I.kIn True.intro e (fun z => nomatch z) h
  | @lst a xs ea =>
    cases (show u = Value.ref a from rx)
    obtain ⟨_, _, n, _, h1⟩ := (show ObjOk X.prog X.w H s.heap a (.lst xs) from I.hok a _ ea)
    exact PySem.W.kia_one PySem.W.kitx_list I.kIn ⟨_, h1, rfl⟩ e (fun z => nomatch z) h
  | @frz a ob xs ea =>
    cases (show u = Value.ref a from rx)
    obtain ⟨_, _, _, n, _, h1⟩ := (show ObjOk X.prog X.w H s.heap a (.frz ob (.lst xs)) from I.hok a _ ea)
    exact PySem.W.kia_one PySem.W.kitx_list I.kIn ⟨_, h1, rfl⟩ e (fun z => nomatch z) h
  | @tup a xs ea =>
    cases (show u = Value.ref a from rx)
    obtain ⟨_, _, _, p⟩ := (show ObjOk X.prog X.w H s.heap a (.tup xs) from I.hok a _ ea)
    obtain ⟨o, h1, h2, _⟩ := p
    exact PySem.W.kia_one PySem.W.kitx_tuple I.kIn ⟨o, h1, h2⟩ e (fun z => nomatch z) h
  | @dK a kvs ea =>
    cases (show u = Value.ref a from rx)
    obtain ⟨_, _, vs, _, p⟩ := (show ObjOk X.prog X.w H s.heap a (.dK kvs) from I.hok a _ ea)
    obtain ⟨o, es, ep, h1, h2, _⟩ := p
    exact PySem.W.kia_one PySem.W.kitx_dict I.kIn ⟨o, h1, h2.1⟩ e (fun z => nomatch z) h
  | @dT a kvs ea =>
    cases (show u = Value.ref a from rx)
    obtain ⟨_, _, xs, _, o, es, ep, h1, h2, _⟩ := (show ObjOk X.prog X.w H s.heap a (.dT kvs) from I.hok a _ ea)
    exact PySem.W.kia_one PySem.W.kitx_dict I.kIn ⟨o, h1, h2.1⟩ e (fun z => nomatch z) h
  | @ins a C dx fs ea cl ha hn htk hm =>
    cases (show u = Value.ref a from rx)
    obtain ⟨mA, O, _⟩ := ins_get I.hok ea
    obtain ⟨od, J, _⟩ := O.look
    exact PySem.W.kia_one (PySem.W.kitx_own (cl.get _) cl.hd ha hn htk hm) I.kIn J e (fun z => nomatch z) h
end
end L2

namespace L2
open PySem PySem.Spec PyProof.Rows

/-! ### room -/
structure Room (k : Nat) (A : Around) : Prop where
  hd : A.handled = none
  dp : A.depth + 3 * k + 5 < recursionLimit
  un : A.units + 16 * k + 200 < cLine
theorem Room.mono {j k : Nat} {A : Around} (r : Room k A) (h : j ≤ k) : Room j A := ⟨r.hd, by have := r.dp; omega, by have := r.un; omega⟩
theorem Room.deeper {k : Nat} {A : Around} (r : Room (k + 1) A) (env : Env) : Room k (A.deeper env) :=
  ⟨r.hd, by have := r.dp; show A.depth + 1 + 3 * k + 5 < _; omega, by have := r.un; show A.units + 3 + 16 * k + 200 < _; omega⟩
theorem Room.in1 {k : Nat} {A : Around} (r : Room (k + 1) A) : Room k A.in1 :=
  ⟨r.hd, by have := r.dp; show A.depth + 3 * k + 5 < _; omega, by have := r.un; show A.units + 1 + 16 * k + 200 < _; omega⟩
theorem make_depth {A : Around} {C : Addr} {us : List Value} {kw : List (Str × Value)} : (A.under (.builtin "type.__call__" ⟨.ref C :: us, kw⟩)).depth = A.depth + 1 := by
  first | rfl | simp [Around.under, Code.weight, Code.isCreation, Code.isGuard, Code.isCaller, Code.frames, Code.isFrame, guardIds]
theorem make_units {A : Around} {C : Addr} {us : List Value} {kw : List (Str × Value)} : (A.under (.builtin "type.__call__" ⟨.ref C :: us, kw⟩)).units = A.units + 1 := by
  first | rfl | simp [Around.under, Code.cUnits, Code.frames, Code.isFrame]
theorem Room.make {k : Nat} {A : Around} (r : Room (k + 1) A) (C : Addr) (us : List Value) (kw : List (Str × Value)) : Room k (A.under (.builtin "type.__call__" ⟨.ref C :: us, kw⟩)) :=
  ⟨r.hd, by have := r.dp; rw [make_depth]; omega, by have := r.un; rw [make_units]; omega⟩
theorem Room.depth {k : Nat} {A : Around} (r : Room k A) : A.depth < recursionLimit := by have := r.dp; omega
theorem Room.units {k : Nat} {A : Around} (r : Room k A) : A.units + 64 < cLine := by have := r.un; omega
theorem Room.units0 {k : Nat} {A : Around} (r : Room k A) : A.units < cLine := by have := r.un; omega

/-! ### argument lists and displays -/
def tNil : TA := fun _ H Q => Q [] H
def tCons (ta : TE) (tr : TA) : TA := fun σ H Q => ta σ H fun x H1 => tr σ H1 fun xs H2 => Q (x :: xs) H2
section
variable {X : Cx} {e : Expr} {es : List Expr} {te : TE} {t : TA} {pos : Pos}
theorem pa_nil : PA X [] tNil := fun _ _ _ _ H Q I h => Calls.spliced_nil ⟨[], H, I, .nil, h⟩
theorem pa_cons (ha : PE X e te) (hr : PA X es t) (hs : starEach (e :: es) X.env = (false, eval e X.env) :: starEach es X.env := by rfl) : PA X (e :: es) (tCons te t) := by
  intro pos pins s σ H Q I h
  rw [hs]
  show wpAny _ _ (spliced ((false, eval e X.env) :: backTo pos (starEach es X.env))) _ _ s
  refine Calls.spliced_cons (thn (ha pins s σ H _ I h) fun u s1 ⟨x, H1, I1, r1, q1⟩ => ?_)
  exact thn (hr pos pins s1 σ H1 _ I1 q1) fun us s2 ⟨xs, H2, I2, r2, q2⟩ => ⟨x :: xs, H2, I2, .cons r1 r2, q2⟩

/-- a tuple, a list of written items -/
def tTup (t : TA) : TE := fun σ H Q => t σ H fun xs H1 => xs.length ≤ sizeLine ∧ ∀ p, H1 p = none → Q (.ref p) (upd H1 p (.tup xs))
def tLst (t : TA) : TE := fun σ H Q => t σ H fun xs H1 => xs.length ≤ sizeLine ∧ ∀ p, H1 p = none → Q (.ref p) (upd H1 p (.lst xs))
theorem pe_tup {x1} (h : PA X es t) : PE X (.Tuple es x1 pos) (tTup t) := by
  intro pins s σ H Q I hq
  refine wpAny_Tuple_spliced (thn (h pos pins s σ H _ I hq) fun us s1 ⟨xs, H1, I1, r, z, q⟩ => ⟨by rw [← r.length]; exact z, ?_⟩)
  have hf : H1 s1.heap.objs.size = none := I1.hok.fresh (Nat.le_refl _)
  refine ⟨.ref s1.heap.objs.size, upd H1 s1.heap.objs.size (.tup xs), I1.laid (t' := s1.toks) (fun b u e => Heap.get?_push_of_some _ e) (Nat.le_refl _) ?_, rfl, q _ hf⟩
  exact ⟨z, us, r, ⟨_, Heap.get?_push_size _ rfl, rfl, _, rfl⟩⟩
theorem pe_lst (h : PA X es t) : PE X (.List es pos) (tLst t) := by
  intro pins s σ H Q I hq
  refine wpAny_List_spliced (thn (h pos pins s σ H _ I hq) fun us s1 ⟨xs, H1, I1, r, z, q⟩ => ⟨by rw [← r.length]; exact z, ?_⟩)
  have hf : H1 s1.heap.objs.size = none := I1.hok.fresh (Nat.le_refl _)
  refine ⟨.ref s1.heap.objs.size, upd H1 s1.heap.objs.size (.lst xs), I1.laid (t' := s1.toks) (fun b u e => Heap.get?_push_of_some _ e) (Nat.le_refl _) ?_, rfl, q _ hf⟩
  exact ⟨z, us, 0, r, Heap.get?_push_size _ rfl⟩
end

/-! ### what a def promises -/
/-- a def's promise: the bound arguments in the parameters' order, the heap, the wanted end, the wanted exception -/
abbrev Sp := List V → Hp → VK → XK → Prop
/-- how an exception lies behind a call (file 08 gives it): the callers' frames, abstract heap and state ahead of the call, the wish, the exception, the state -/
abbrev CXT := List Env → Hp → Shared → XK → Value → Shared → Prop

/-- the state at a call -/
structure Env0 (P : Program) (w : World) (K : PySem.W.Frag) (mg : Str → Option Value) (base : Heap) (A : Around) (outer : List Env) (s : Shared) (H : Hp) : Prop where
  frames : A.frames = some outer
  mod : Mod K mg base
  bs : ∀ b o, base.get? b = some o → s.heap.get? b = some o ∧ H b = none
  bsz : base.objs.size ≤ s.heap.objs.size
  funs : s.heap.FunFrames base outer
  frf : ∀ b ∈ frs outer, H b = none
  hok : HOk P w H s.heap
  bare : AllBare s.gens
/-- a call's end -/
def CE (outer : List Env) (P : Program) (w : World) (H : Hp) (s : Shared) (Q : VK) (u : Value) (s' : Shared) : Prop :=
  ∃ v H', s'.os = s.os ∧ AllBare s'.gens ∧ Un (frs outer) [] H H' s.heap s'.heap ∧ HOk P w H' s'.heap ∧ RelV v u ∧ Q v H'
def CR (CX : CXT) (outer : List Env) (P : Program) (w : World) (H : Hp) (s : Shared) (Q : VK) (E : XK) (r : Result) (s' : Shared) : Prop :=
  match r with
  | .ok (.ret u) => CE outer P w H s Q u s'
  | .ok _ => False
  | .error e => CX outer H s E e s'
structure FnOk (P : Program) (w : World) (K : PySem.W.Frag) (mg : Str → Option Value) (base : Heap) (CX : CXT) (k : Nat) (f : Addr) (fd : FuncData) (ps : List Str) (sp : Sp) : Prop where
  len : ∀ vs H Q E, sp vs H Q E → vs.length = ps.length
  run : ∀ (A : Around) (outer : List Env) (s : Shared) (H : Hp) (args : Args) (us : List Value) (vs : List V) (Q : VK) (E : XK), Room k A → Env0 P w K mg base A outer s H → BindsTo s fd args (ps.zip us) → Vals vs us → sp vs H Q E →
    codeAny (model P w) A (.call (.ref f) args) (CR CX outer P w H s Q E) s
theorem FnOk.mono {P : Program} {w : World} {K : PySem.W.Frag} {mg : Str → Option Value} {base : Heap} {CX : CXT} {j k : Nat} {f : Addr} {fd : FuncData} {ps : List Str} {sp : Sp} (F : FnOk P w K mg base CX j f fd ps sp) (h : j ≤ k) :
    FnOk P w K mg base CX k f fd ps sp := ⟨F.len, fun A outer s H args us vs Q E hr => F.run A outer s H args us vs Q E (hr.mono h)⟩
/-- a weaker promise -/
theorem FnOk.imp {P : Program} {w : World} {K : PySem.W.Frag} {mg : Str → Option Value} {base : Heap} {CX : CXT} {k : Nat} {f : Addr} {fd : FuncData} {ps : List Str} {sp sp' : Sp} (F : FnOk P w K mg base CX k f fd ps sp)
    (h : ∀ vs H Q E, sp' vs H Q E → sp vs H Q E) : FnOk P w K mg base CX k f fd ps sp' :=
  ⟨fun vs H Q E q => F.len vs H Q E (h _ _ _ _ q), fun A outer s H args us vs Q E hr he hb hv hs => F.run A outer s H args us vs Q E hr he hb hv (h _ _ _ _ hs)⟩

theorem Env0.make {P : Program} {w : World} {K : PySem.W.Frag} {mg : Str → Option Value} {base : Heap} {A : Around} {outer : List Env} {s : Shared} {H : Hp} (e : Env0 P w K mg base A outer s H) (C : Addr) (us : List Value) (kw : List (Str × Value)) :
    Env0 P w K mg base (A.under (.builtin "type.__call__" ⟨.ref C :: us, kw⟩)) outer s H := ⟨by first | exact e.frames | (simpa [Around.under, Code.envs, Code.isFrame, pushEnvs] using e.frames), e.mod, e.bs, e.bsz, e.funs, e.frf, e.hok, e.bare⟩
theorem Env0.in1 {P : Program} {w : World} {K : PySem.W.Frag} {mg : Str → Option Value} {base : Heap} {A : Around} {outer : List Env} {s : Shared} {H : Hp} (e : Env0 P w K mg base A outer s H) :
    Env0 P w K mg base A.in1 outer s H := ⟨e.frames, e.mod, e.bs, e.bsz, e.funs, e.frf, e.hok, e.bare⟩

section
variable {X : Cx} {pins : List (Addr × Obj)} {σ : St} {H : Hp} {s s' : Shared}
/-- from a body: what a callee wants -/
theorem Inv.env0 (I : Inv X pins σ H s) : Env0 X.prog X.w X.K X.mg X.base X.A X.stack s H :=
  ⟨I.ok.frames, I.ok.mod, I.bs, Nat.le_trans I.ok.bsz I.sz, I.stack, I.stkFree, I.hok, I.bare⟩
/-- behind a call -/
theorem Inv.after {Q : VK} {u : Value} (I : Inv X pins σ H s) (h : CE X.stack X.prog X.w H s Q u s') : EP X pins σ Q u s' := by
  obtain ⟨v, H', os, bare, un, hok, r, q⟩ := h
  obtain ⟨hh, g, d, t, os'⟩ := s'
  obtain rfl : os' = s.os := os
  exact ⟨v, H', I.call (h' := hh) (g' := g) (d' := d) (t' := t) (ch := []) un hok bare (fun b z => absurd z (by simp)), r, q⟩
end

/-! ### calls -/
/-- f(..): the written arguments, then the defaults dvs; E: what is wanted of an exception -/
def tCall (sp : Sp) (dvs : List V) (E : XK) (t : TA) : TE := fun σ H Q => t σ H fun vs H1 => sp (vs ++ dvs) H1 Q E
/-- o.m(..) of an instance of the class at C -/
def tMeth (C : Addr) (m : Str) (sp : Sp) (dvs : List V) (E : XK) (ta : TE) (t : TA) : TE := fun σ H Q => ta σ H fun x H1 => ∃ a dx fs, x = .ref a ∧ H1 a = some (.ins C dx fs) ∧ fs.lookup m = none ∧
  t σ H1 fun vs H2 => sp (x :: (vs ++ dvs)) H2 Q E
/-- C(..): a new instance and its dict, then __init__ -/
def tMake (C : Addr) (sp : Sp) (dvs : List V) (E : XK) (t : TA) : TE := fun σ H Q => t σ H fun vs H1 => ∀ x dx, H1 x = none → H1 dx = none → dx ≠ x →
  sp (.ref x :: (vs ++ dvs)) (upd (upd H1 dx (.own x)) x (.ins C dx [])) (fun v H2 => v = .non ∧ Q (.ref x) H2) E

/-- how the parameters are bound: us the positional arguments, kw the keywords' values by name, ds the defaults that fill up -/
def Binds (K : PySem.W.Frag) (fd : FuncData) (ps : List Str) (ds : List Value) : Prop :=
  ∀ (s : Shared) (us : List Value), K.In s.heap → (us ++ ds).length = ps.length → BindsTo s fd ⟨us, []⟩ (ps.zip (us ++ ds))
/-- every parameter is given -/
theorem Binds.all {K : PySem.W.Frag} {fd : FuncData} {ps : List Str} (h : ∀ us : List Value, us.length = ps.length → bindArgs fd ⟨us, []⟩ = pure (ps.zip us)) : Binds K fd ps [] := fun s us _ hl => by
  rw [List.append_nil] at hl ⊢
  exact .of_eq (h us hl)

/-- an exception of a callee reaches what this body wants of exceptions -/
def Passes (CX : CXT) (X : Cx) (E : XK) : Prop := ∀ (pins : List (Addr × Obj)) (σ : St) (H : Hp) (s : Shared) (e : Value) (s' : Shared), Inv X pins σ H s → CX X.stack H s E e s' → X.xe e s'

section
variable {X : Cx} {CX : CXT} {k : Nat} {f C : Addr} {fd : FuncData} {ps : List Str} {sp : Sp} {dvs : List V} {ds : List Value} {E : XK} {x m : Str} {p pos apos : Pos} {e o : Expr} {es : List Expr} {ta : TE} {t : TA}

/-- the callee runs -/
theorem run_fn {pins : List (Addr × Obj)} {σ : St} {H : Hp} {s : Shared} {Q : VK} {us : List Value} {vs : List V} (F : FnOk X.prog X.w X.K X.mg X.base CX k f fd ps sp) (hr : Room k X.A) (hb : Binds X.K fd ps ds) (hd : Vals dvs ds) (hx : Passes CX X E)
    (I : Inv X pins σ H s) (r : Vals vs us) (h : sp (vs ++ dvs) H Q E) : wpAny (model X.prog X.w) X.A (call (.ref f) us) (EP X pins σ Q) X.xe s := by
  have r2 : Vals (vs ++ dvs) (us ++ ds) := r.append hd
  have hl : (us ++ ds).length = ps.length := by rw [← r2.length]; exact F.len _ _ _ _ h
  refine wpAny_call (codeAny_mono (F.run X.A X.stack s H ⟨us, []⟩ (us ++ ds) (vs ++ dvs) Q E hr I.env0 (hb s us I.kIn hl) r2 h) fun r s' hq => ?_)
  cases r with
  | error e => exact hx pins σ H s e s' I hq
  | ok fl =>
    cases fl with
    | ret u => exact I.after hq
    | next => exact False.elim hq
    | brk => exact False.elim hq
    | cont => exact False.elim hq

theorem pe_call (F : FnOk X.prog X.w X.K X.mg X.base CX k f fd ps sp) (hr : Room k X.A) (hg : Gl X x) (hm : X.mg x = some (.ref f)) (hk : PySem.W.keepIn X.K (.ref f) = true) (hb : Binds X.K fd ps ds) (hd : Vals dvs ds) (hx : Passes CX X E)
    (ha : PA X (e :: es) t) (hdb : (x == ("__debug__" : Str)) = false := by decide) (he : starEach (e :: es) X.env = (false, eval e X.env) :: starEach es X.env := by rfl) (hpl : (backTo pos (starEach es X.env)).any (·.1) = false := by rfl) :
    PE X (.Call (.Name x p) (e :: es) [] pos) (tCall sp dvs E t) := by
  intro pins s σ H Q I h
  refine wpAny_Call_Name_kw (ld_glob I hg hm ?_ hdb)
  refine PySem.W.callWith_K (h₀ := X.base) I.ok.mod.kin hk (thn (ha pos pins s σ H _ I h) fun us s1 ⟨vs, H1, I1, r, q⟩ => ⟨I1.kIn, ?_⟩) he hpl
  exact run_fn F hr hb hd hx I1 r q
theorem pe_call0 (F : FnOk X.prog X.w X.K X.mg X.base CX k f fd ps sp) (hr : Room k X.A) (hg : Gl X x) (hm : X.mg x = some (.ref f)) (hk : PySem.W.keepIn X.K (.ref f) = true) (hb : Binds X.K fd ps ds) (hd : Vals dvs ds) (hx : Passes CX X E)
    (hdb : (x == ("__debug__" : Str)) = false := by decide) : PE X (.Call (.Name x p) [] [] pos) (tCall sp dvs E tNil) := by
  intro pins s σ H Q I h
  refine wpAny_Call_Name_kw (ld_glob I hg hm ?_ hdb)
  exact PySem.W.callWith_K0 I.kIn hk (run_fn (us := []) F hr hb hd hx I .nil h)

/-- o.m(e, ..) -/
theorem pe_meth {pl : Sem Bool} (he : PE X o ta) (c : Cls X.K C) (hm : Meth X.K C m f) (F : FnOk X.prog X.w X.K X.mg X.base CX k f fd ps sp) (hr : Room k X.A) (hb : Binds X.K fd ps ds) (hd : Vals dvs ds) (hx : Passes CX X E) (ha : PA X (e :: es) t)
    (hst : starEach (e :: es) X.env = (false, eval e X.env) :: starEach es X.env := by rfl) (hpl : (backTo pos (starEach es X.env)).any (·.1) = false := by rfl)
    (ht : eval (.Call (.Attribute o m apos) (e :: es) [] pos) X.env = (do
      let ov ← eval o X.env
      standAt apos.atName
      let (f, first) ← holding [ov] (getMethod ov m pl)
      callWith pos f first (backTo pos (starEach (e :: es) X.env)) (backToKw pos (keywordEach [] X.env))) := by rfl) :
    PE X (.Call (.Attribute o m apos) (e :: es) [] pos) (tMeth C m sp dvs E ta t) := by
  intro pins s σ H Q I h
  refine PySem.W.methodCall_KW (pl := pl) (thn (he pins s σ H _ I h) fun u s1 ⟨x, H1, I1, rx, a, dx, fs, ex, ea, l, q⟩ => ?_) ht
  subst ex
  obtain rfl : u = Value.ref a := rx
  refine getmeth_ok I1 ea c hm l ?_
  refine PySem.W.callWith_K (first := [.ref a]) (h₀ := X.base) I.ok.mod.kin hm.kp (thn (ha pos pins s1 σ H1 _ I1 q) fun us s2 ⟨vs, H2, I2, r, q2⟩ => ⟨I2.kIn, ?_⟩) hst hpl
  exact run_fn (us := .ref a :: us) (vs := .ref a :: vs) F hr hb hd hx I2 (.cons rfl r) q2
/-- o.m() -/
theorem pe_meth0 {pl : Sem Bool} (he : PE X o ta) (c : Cls X.K C) (hm : Meth X.K C m f) (F : FnOk X.prog X.w X.K X.mg X.base CX k f fd ps sp) (hr : Room k X.A) (hb : Binds X.K fd ps ds) (hd : Vals dvs ds) (hx : Passes CX X E)
    (ht : eval (.Call (.Attribute o m apos) [] [] pos) X.env = (do
      let ov ← eval o X.env
      standAt apos.atName
      let (f, first) ← holding [ov] (getMethod ov m pl)
      callWith pos f first (backTo pos (starEach [] X.env)) (backToKw pos (keywordEach [] X.env))) := by rfl) :
    PE X (.Call (.Attribute o m apos) [] [] pos) (tMeth C m sp dvs E ta tNil) := by
  intro pins s σ H Q I h
  refine PySem.W.methodCall_KW (pl := pl) (thn (he pins s σ H _ I h) fun u s1 ⟨x, H1, I1, rx, a, dx, fs, ex, ea, l, q⟩ => ?_) ht
  subst ex
  obtain rfl : u = Value.ref a := rx
  refine getmeth_ok I1 ea c hm l ?_
  exact PySem.W.callWith_K0 (first := [.ref a]) I1.kIn hm.kp (run_fn (us := [.ref a]) (vs := [.ref a]) F hr hb hd hx I1 (.cons rfl .nil) q)

/-- what a class must have to be made -/
structure Mk (K : PySem.W.Frag) (C f : Addr) : Prop where
  makes : PySem.W.makesIn K C = true
  init : PySem.W.findIn K (.ref C) "__init__" = some (some (.ref f))
  fn : PySem.W.isFn K (.ref f) = true
  kp : PySem.W.keepIn K (.ref C) = true

theorem run_make {pins : List (Addr × Obj)} {σ : St} {H : Hp} {s : Shared} {Q : VK} {us : List Value} {vs : List V} (M : Mk X.K C f) (F : FnOk X.prog X.w X.K X.mg X.base CX k f fd ps sp) (hr : Room (k + 1) X.A) (hb : Binds X.K fd ps ds) (hd : Vals dvs ds)
    (hx : Passes CX X E) (I : Inv X pins σ H s) (r : Vals vs us)
    (h : ∀ x dx, H x = none → H dx = none → dx ≠ x → sp (.ref x :: (vs ++ dvs)) (upd (upd H dx (.own x)) x (.ins C dx [])) (fun v H2 => v = .non ∧ Q (.ref x) H2) E) :
    wpAny (model X.prog X.w) X.A (call (.ref C) us) (EP X pins σ Q) X.xe s := by
  have hq := h (s.heap.objs.size + 1) s.heap.objs.size (I.hok.fresh (Nat.le_succ _)) (I.hok.fresh (Nat.le_refl _)) (Nat.ne_of_lt (Nat.lt_succ_self _))
  have I2 := Inv.made (C := C) I
  have r2 : Vals (V.ref (s.heap.objs.size + 1) :: (vs ++ dvs)) (Value.ref (s.heap.objs.size + 1) :: (us ++ ds)) := .cons rfl (r.append hd)
  have hl : (Value.ref (s.heap.objs.size + 1) :: us ++ ds).length = ps.length := by
    have e := r2.length
    rw [F.len _ _ _ _ hq] at e
    exact e.symm
  refine wpAny_call (make_map (f := f) I.kIn M.makes M.init (beq_iff_eq.mp M.fn) (codeAny_mono (F.run _ X.stack _ _ ⟨Value.ref (s.heap.objs.size + 1) :: us, []⟩ (Value.ref (s.heap.objs.size + 1) :: (us ++ ds)) _ _ E (hr.make C us [])
    (I2.env0.make C us []) (hb _ (Value.ref (s.heap.objs.size + 1) :: us) I2.kIn hl) r2 hq) fun r s' hq' => ?_))
  cases r with
  | error e => exact hx pins σ _ _ e s' I2 hq'
  | ok fl =>
    cases fl with
    | ret u =>
      obtain ⟨v, H', I3, rv, ev, q3⟩ := I2.after hq'
      subst ev
      exact ⟨rv, ⟨V.ref (s.heap.objs.size + 1), H', I3, rfl, q3⟩⟩
    | next => exact False.elim hq'
    | brk => exact False.elim hq'
    | cont => exact False.elim hq'
theorem pe_make (M : Mk X.K C f) (F : FnOk X.prog X.w X.K X.mg X.base CX k f fd ps sp) (hr : Room (k + 1) X.A) (hg : Gl X x) (hm : X.mg x = some (.ref C)) (hb : Binds X.K fd ps ds) (hd : Vals dvs ds) (hx : Passes CX X E)
    (ha : PA X (e :: es) t) (hdb : (x == ("__debug__" : Str)) = false := by decide) (he : starEach (e :: es) X.env = (false, eval e X.env) :: starEach es X.env := by rfl) (hpl : (backTo pos (starEach es X.env)).any (·.1) = false := by rfl) :
    PE X (.Call (.Name x p) (e :: es) [] pos) (tMake C sp dvs E t) := by
  intro pins s σ H Q I h
  refine wpAny_Call_Name_kw (ld_glob I hg hm ?_ hdb)
  refine PySem.W.callWith_K (h₀ := X.base) I.ok.mod.kin M.kp (thn (ha pos pins s σ H _ I h) fun us s1 ⟨vs, H1, I1, r, q⟩ => ⟨I1.kIn, ?_⟩) he hpl
  exact run_make M F hr hb hd hx I1 r q
theorem pe_make0 (M : Mk X.K C f) (F : FnOk X.prog X.w X.K X.mg X.base CX k f fd ps sp) (hr : Room (k + 1) X.A) (hg : Gl X x) (hm : X.mg x = some (.ref C)) (hb : Binds X.K fd ps ds) (hd : Vals dvs ds) (hx : Passes CX X E)
    (hdb : (x == ("__debug__" : Str)) = false := by decide) : PE X (.Call (.Name x p) [] [] pos) (tMake C sp dvs E tNil) := by
  intro pins s σ H Q I h
  refine wpAny_Call_Name_kw (ld_glob I hg hm ?_ hdb)
  exact PySem.W.callWith_K0 I.kIn M.kp (run_make (us := []) M F hr hb hd hx I .nil h)
end

/-! ### keywords -/
/-- the values of the keywords, from the left -/
def PK (X : Cx) (kws : List Keyword) (t : TA) : Prop :=
  ∀ (pos : Pos) (pins : List (Addr × Obj)) (s : Shared) (σ : St) (H : Hp) (Q : List V → Hp → Prop), Inv X pins σ H s → t σ H Q → wpAny (model X.prog X.w) X.A (evalAll ((backToKw pos (keywordEach kws X.env)).map (·.2))) (AP X pins σ Q) X.xe s
section
variable {X : Cx} {CX : CXT} {k : Nat} {f C : Addr} {fd : FuncData} {ps ks : List Str} {sp : Sp} {E : XK} {x m : Str} {p pos apos kpos : Pos} {e o : Expr} {es : List Expr} {kws : List Keyword} {te ta : TE} {t tk : TA} {nm : Option Str}
theorem pk_nil : PK X [] tNil := fun _ _ _ _ H Q I h => wpAny_evalAll_nil ⟨[], H, I, .nil, h⟩
theorem pk_cons (ha : PE X e te) (hr : PK X kws t) : PK X (⟨nm, e, kpos⟩ :: kws) (tCons te t) := by
  intro pos pins s σ H Q I h
  show wpAny _ _ (evalAll ((do let v ← eval e X.env; standAt pos; pure v) :: (backToKw pos (keywordEach kws X.env)).map (·.2))) _ _ s
  refine wpAny_evalAll_cons (wpAny_bind (thn (ha pins s σ H _ I h) fun u s1 ⟨x, H1, I1, r1, q1⟩ => wpAny_bind (wpAny_standAt (wpAny_pure ?_))))
  exact thn (hr pos pins s1 σ H1 _ I1 q1) fun us s2 ⟨xs, H2, I2, r2, q2⟩ => ⟨x :: xs, H2, I2, .cons r1 r2, q2⟩

/-- how a call with keywords binds: g puts the positional values us and the keywords' values ws (names ks) in the parameters' order, defaults among them -/
structure KBinds (K : PySem.W.Frag) (fd : FuncData) (ps ks : List Str) (g : List Value → List Value → List Value) (gV : List V → List V → List V) : Prop where
  to : ∀ (s : Shared) (us ws : List Value), K.In s.heap → (g us ws).length = ps.length → BindsTo s fd ⟨us, ks.zip ws⟩ (ps.zip (g us ws))
  rel : ∀ {vs : List V} {us : List Value} {zs : List V} {ws : List Value}, Vals vs us → Vals zs ws → Vals (gV vs zs) (g us ws)
def tCallK (sp : Sp) (gV : List V → List V → List V) (E : XK) (t tk : TA) : TE := fun σ H Q => t σ H fun vs H1 => tk σ H1 fun zs H2 => sp (gV vs zs) H2 Q E
variable {g : List Value → List Value → List Value} {gV : List V → List V → List V}
theorem run_fnk {pins : List (Addr × Obj)} {σ : St} {H : Hp} {s : Shared} {Q : VK} {us ws : List Value} {vs zs : List V} (F : FnOk X.prog X.w X.K X.mg X.base CX k f fd ps sp) (hr : Room k X.A) (hb : KBinds X.K fd ps ks g gV) (hx : Passes CX X E)
    (I : Inv X pins σ H s) (r : Vals vs us) (rz : Vals zs ws) (h : sp (gV vs zs) H Q E) : wpAny (model X.prog X.w) X.A (call (.ref f) us (ks.zip ws)) (EP X pins σ Q) X.xe s := by
  have r2 := hb.rel r rz
  have hl : (g us ws).length = ps.length := by rw [← r2.length]; exact F.len _ _ _ _ h
  refine wpAny_call (codeAny_mono (F.run X.A X.stack s H ⟨us, ks.zip ws⟩ (g us ws) (gV vs zs) Q E hr I.env0 (hb.to s us ws I.kIn hl) r2 h) fun r s' hq => ?_)
  cases r with
  | error e => exact hx pins σ H s e s' I hq
  | ok fl =>
    cases fl with
    | ret u => exact I.after hq
    | next => exact False.elim hq
    | brk => exact False.elim hq
    | cont => exact False.elim hq
/-- f(e, .., k = v, ..) -/
theorem pe_callK (F : FnOk X.prog X.w X.K X.mg X.base CX k f fd ps sp) (hr : Room k X.A) (hg : Gl X x) (hm : X.mg x = some (.ref f)) (hk : PySem.W.keepIn X.K (.ref f) = true) (hb : KBinds X.K fd ps ks g gV) (hx : Passes CX X E)
    (ha : PA X (e :: es) t) (hkw : PK X kws tk) (hall : (backToKw pos (keywordEach kws X.env)).all (·.1.isSome) = true := by rfl) (hks : (backToKw pos (keywordEach kws X.env)).filterMap (·.1) = ks := by rfl)
    (hdb : (x == ("__debug__" : Str)) = false := by decide) (he : starEach (e :: es) X.env = (false, eval e X.env) :: starEach es X.env := by rfl)
    (hpl : ((backTo pos (starEach (e :: es) X.env)).any (·.1) || (backToKw pos (keywordEach kws X.env)).any (·.1.isNone)) = false := by rfl) :
    PE X (.Call (.Name x p) (e :: es) kws pos) (tCallK sp gV E t tk) := by
  intro pins s σ H Q I h
  refine wpAny_Call_Name_kw (ld_glob I hg hm ?_ hdb)
  refine PySem.W.callWith_KW (h₀ := X.base) I.ok.mod.kin hk hall (thn (ha pos pins s σ H _ I h) fun us s1 ⟨vs, H1, I1, r, q⟩ => ?_) hpl he
  refine thn (hkw pos pins s1 σ H1 _ I1 q) fun ws s2 ⟨zs, H2, I2, rz, q2⟩ => ⟨I2.kIn, ?_⟩
  rw [hks]
  exact run_fnk F hr hb hx I2 r rz q2
end

/-! ### a def's body keeps its promise -/
/-- names: the parameters first -/
structure FnScope (N P : List Str) (sc : Scope) : Prop where
  kind : sc.kind = .function
  co : sc.isCoroutine = false
  gen : sc.isGenerator = false
  nd : N.Nodup
  pre : N.take P.length = P
  par : ∀ x ∈ P, sc.names.lookup x = some .local ∨ sc.names.lookup x = some .cell
  nofree : ∀ y ∈ sc.names, y.2 ≠ .free

theorem bindL_out {kindOf : Str → Option NameKind} {x : Str} : ∀ {binds : List (Str × Value)} {m : Str → Option Value}, (∀ v, (x, v) ∉ binds) → bindL kindOf binds m x = m x
  | [], _, _ => rfl
  | (n, v) :: r, m, h => by
    unfold bindL
    rw [bindL_out fun w hw => h w (List.mem_cons_of_mem _ hw)]
    split
    · have : x ≠ n := by rintro rfl; exact h v List.mem_cons_self
      simp [this]
    · rfl
theorem bindC_out {kindOf : Str → Option NameKind} {x : Str} : ∀ {binds : List (Str × Value)} {m : Str → Option Value}, (∀ v, (x, v) ∉ binds) → bindC kindOf binds m x = m x
  | [], _, _ => rfl
  | (n, v) :: r, m, h => by
    unfold bindC
    rw [bindC_out fun w hw => h w (List.mem_cons_of_mem _ hw)]
    split
    · rfl
    · have : x ≠ n := by rintro rfl; exact h v List.mem_cons_self
      simp [this]
theorem bindL_get {kindOf : Str → Option NameKind} {x : Str} {v : Value} : ∀ {P : List Str} {vs : List Value} {i : Nat} {m : Str → Option Value}, P.Nodup → P[i]? = some x → vs[i]? = some v → kindOf x = some .local →
    bindL kindOf (P.zip vs) m x = some v
  | [], _, _, _, _, h, _, _ => by simp at h
  | _ :: _, [], _, _, _, _, h, _ => by simp at h
  | p :: P, w :: vs, 0, m, nd, h1, h2, hk => by
    simp at h1 h2; subst h1; subst h2
    show bindL kindOf ((p, w) :: P.zip vs) m p = _
    unfold bindL
    rw [bindL_out fun v hv => (List.nodup_cons.mp nd).1 (List.of_mem_zip hv).1, if_pos hk]
    simp
  | p :: P, w :: vs, i + 1, m, nd, h1, h2, hk => by
    show bindL kindOf ((p, w) :: P.zip vs) m x = _
    unfold bindL
    exact bindL_get (i := i) (List.nodup_cons.mp nd).2 (by simpa using h1) (by simpa using h2) hk
theorem bindC_get {kindOf : Str → Option NameKind} {x : Str} {v : Value} : ∀ {P : List Str} {vs : List Value} {i : Nat} {m : Str → Option Value}, P.Nodup → P[i]? = some x → vs[i]? = some v → kindOf x ≠ some .local →
    bindC kindOf (P.zip vs) m x = some v
  | [], _, _, _, _, h, _, _ => by simp at h
  | _ :: _, [], _, _, _, _, h, _ => by simp at h
  | p :: P, w :: vs, 0, m, nd, h1, h2, hk => by
    simp at h1 h2; subst h1; subst h2
    show bindC kindOf ((p, w) :: P.zip vs) m p = _
    unfold bindC
    rw [bindC_out fun v hv => (List.nodup_cons.mp nd).1 (List.of_mem_zip hv).1, if_neg hk]
    simp
  | p :: P, w :: vs, i + 1, m, nd, h1, h2, hk => by
    show bindC kindOf ((p, w) :: P.zip vs) m x = _
    unfold bindC
    exact bindC_get (i := i) (List.nodup_cons.mp nd).2 (by simpa using h1) (by simpa using h2) hk

/-- the names' values at the entry -/
def start (N : List Str) (vs : List V) : St := vs.map some ++ List.replicate (N.length - vs.length) none

/-- the context of a def's body, at its entry; an exception leaves the frame, then lies as CX says -/
def cxOf (CX : CXT) (P : Program) (w : World) (K : PySem.W.Frag) (mg : Str → Option Value) (base : Heap) (N : List Str) (qual : Str) (scope : Scope) (f : Addr) (cd : Value) (A : Around) (outer : List Env) (s : Shared) (H : Hp) (E : XK) : Cx where
  prog := P
  w := w
  K := K
  mg := mg
  base := base
  A := A.deeper (envOfC qual scope s.heap.objs.size f cd)
  N := N
  s₀ := s
  H₀ := H
  env := envOfC qual scope s.heap.objs.size f cd
  outer := outer
  stack := envOfC qual scope s.heap.objs.size f cd :: outer
  ex := []
  calm := true
  fn := fun _ => true
  pn := []
  xe := fun e s' => wpAny (model P w) (A.deeper (envOfC qual scope s.heap.objs.size f cd)) (leaving (envOfC qual scope s.heap.objs.size f cd) e) (fun _ s'' => CX outer H s E e s'') (fun e' s'' => CX outer H s E e' s'') s'

theorem cell_has {sc : Scope} {n : Nat} {x : Str} (h : sc.names.lookup x = some .cell) : ∃ c, (cellsFrom n sc.names []).lookup x = some c := by
  have q := PySem.W.cellsFrom_some sc.names n [] (.inl h)
  exact Option.isSome_iff_exists.mp q

theorem inv_start {CX : CXT} {P : Program} {w : World} {K : PySem.W.Frag} {mg : Str → Option Value} {base : Heap} {N ps : List Str} {qual : Str} {scope : Scope} {f : Addr} {cd : Value} {A : Around} {outer : List Env} {s s1 : Shared} {H : Hp} {E : XK} {us : List Value} {vs : List V}
    (S : FnScope N ps scope) (hd : A.handled = none) (e0 : Env0 P w K mg base A outer s H) (hl : vs.length = ps.length) (r : Vals vs us)
    (x : InCallC s s.heap.objs.size (bindL (envOfC qual scope s.heap.objs.size f cd).kindOf (ps.zip us) fun _ => none) (cellsFrom (s.heap.objs.size + 1) scope.names []) (bindC (envOfC qual scope s.heap.objs.size f cd).kindOf (ps.zip us) fun _ => none) s1) :
    Inv (cxOf CX P w K mg base N qual scope f cd A outer s H E) [] (start N vs) H s1 := by
  have hpl : ps.length ≤ N.length := by have := congrArg List.length S.pre; rw [List.length_take] at this; omega
  obtain ⟨h1, tk, rfl, hk⟩ := x.done
  have noA : ∀ b : Addr, b ∉ (cxOf CX P w K mg base N qual scope f cd A outer s H E).ex := fun b z => absurd (show b ∈ ([] : List Addr) from z) (by simp)
  refine ⟨⟨e0.mod, S.kind, rfl, rfl, Nat.le_refl _, fun y z c h1 h2 => ?_, fun y hy => ?_, fun y c _ h => ?_, fun _ => hd, Around.frames_deeper e0.frames, .inr ⟨rfl, rfl⟩, fun b z => absurd z (noA b), e0.bs, e0.bsz, fun b _ _ => noA b, fun b z => absurd z (noA b), e0.funs, e0.frf⟩,
    rfl, e0.bare, Un.kept hk, ⟨_, x.toInCall.ns, fun i y v h1 h2 h3 => ?_⟩, fun y c h => ⟨_, x.cell y c h⟩, e0.hok.fresh (Nat.le_refl _), fun y c h => ?_, fun p hp => absurd (show p ∈ ([] : List (Addr × Obj)) from hp) (by simp), e0.hok.kept hk, ?_⟩
  · exact name_of_addr x.apart (PySem.mem_of_lookup h1) (PySem.mem_of_lookup h2)
  · have hy : scope.names.lookup y = some .cell ∨ scope.names.lookup y = some .free := hy
    rcases hy with hy | hy
    · exact cell_has hy
    · exact absurd rfl (S.nofree _ (PySem.mem_of_lookup hy))
  · exact Nat.le_of_lt (x.above y c (PySem.mem_of_lookup h))
  · have hi : i < vs.length := by
      unfold start at h2
      by_cases hi : i < vs.length
      · exact hi
      · rw [List.getElem?_append_right (by simpa using hi)] at h2
        rw [List.getElem?_replicate] at h2
        split at h2 <;> cases h2
    have ha : vs[i]? = some v := by
      unfold start at h2
      rw [List.getElem?_append_left (by simpa using hi), List.getElem?_map] at h2
      cases e : vs[i]? with
      | none => rw [e] at h2; cases h2
      | some a => rw [e] at h2; cases h2; rfl
    obtain ⟨u, hu, rv⟩ := r.get ha
    have hp : ps[i]? = some y := by
      rw [← S.pre, List.getElem?_take_of_lt (by omega)]; exact h1
    have ndP : ps.Nodup := by rw [← S.pre]; exact S.nd.sublist (List.take_sublist _ _)
    refine ⟨u, rv, ?_⟩
    rcases S.par y (List.mem_of_getElem? hp) with k | k
    · exact .inl ⟨k, bindL_get ndP hp hu k⟩
    · obtain ⟨c, e⟩ := cell_has (n := s.heap.objs.size + 1) k
      refine .inr ⟨.inl k, c, e, ?_⟩
      have q := x.cell y c e
      rw [bindC_get ndP hp hu (by show scope.names.lookup y ≠ _; rw [k]; decide)] at q
      exact q
  · exact e0.hok.fresh (Nat.le_of_lt (x.above y c (PySem.mem_of_lookup h)))
  · unfold start
    show _ = N.length
    rw [List.length_append, List.length_map, List.length_replicate]
    omega

/-- THE RULE: a def (or a method) of the text, by its body. The body's reading t is chosen for each entry; it is run at the parameters' values -/
theorem fn_of {CX : CXT} {P : Program} {w : World} {K : PySem.W.Frag} {mg : Str → Option Value} {base : Heap} {k : Nat} {f : Addr} {name qual : Str} {params : Arguments} {body : List Stmt} {scope : Scope} {dV kV doc pm cdv ct oc : Value} {an od : Option Addr}
    {osl : Array (Option Value)} {N ps : List Str} {sp : Sp} (lk : K.lookup f = some ⟨oc, od, .func (PySem.W.fnOf name qual params body scope dV kV doc pm an cdv ct), osl⟩) (hcd : PySem.W.codeIn K cdv qual = true) (S : FnScope N ps scope)
    (len : ∀ vs H Q E, sp vs H Q E → vs.length = ps.length)
    (hbody : ∀ (A : Around) (outer : List Env) (s : Shared) (H : Hp) (vs : List V) (Q : VK) (E : XK), Room k (A.deeper (envOfC qual scope s.heap.objs.size f cdv)) → sp vs H Q E →
      ∃ t, PSs (cxOf CX P w K mg base N qual scope f cdv A outer s H E) body t ∧ t { nx := fun _ H' => Q .non H', rt := Q } (start N vs) H) :
    FnOk P w K mg base CX (k + 1) f (PySem.W.fnOf name qual params body scope dV kV doc pm an cdv ct) ps sp := by
  refine ⟨len, fun A outer s H args us vs Q E hr e0 hb r hsp => ?_⟩
  have hl := len _ _ _ _ hsp
  have KX : K.In s.heap := e0.mod.kin.keeps fun b o e => (e0.bs b o e).1
  have lim : s.heap.NoLimit := e0.mod.nolimit.keeps fun b o e => (e0.bs b o e).1
  have hkind : ∀ y ∈ ps.zip us, scope.names.lookup y.1 = some .local ∨ (scope.names.lookup y.1 = some .cell ∧ ((cellsFrom (s.heap.objs.size + 1) scope.names []).lookup y.1).isSome = true) := fun ⟨n, v⟩ hy => by
    rcases S.par n (List.of_mem_zip hy).1 with q | q
    · exact .inl q
    · exact .inr ⟨q, PySem.W.cellsFrom_some _ _ _ (.inl q)⟩
  refine codeAny_call_function hr.depth (KX _ _ lk) rfl S.co S.gen rfl (PySem.W.codeRec_of KX hcd) (hb _ _ _ _ ?_)
  refine wpAny_newFunctionEnv_cells S.kind hkind fun env he s1 x => ?_
  subst he
  refine ⟨lim.keeps x.toInCall.keep, codeAny_func ?_⟩
  obtain ⟨t, ht, hq⟩ := hbody A outer s H vs Q E (hr.deeper _) hsp
  have I : Inv (cxOf CX P w K mg base N qual scope f cdv A outer s H E) [] (start N vs) H s1 := inv_start S hr.hd e0 hl r x
  refine wpAny_mono (ht [] s1 (start N vs) H _ I hq) (fun fl s' hs => ?_) fun e s' hs => hs
  have fin : ∀ {σ' : St} {H' : Hp} {v : V} {u : Value}, Inv (cxOf CX P w K mg base N qual scope f cdv A outer s H E) [] σ' H' s' → RelV v u → Q v H' → CE outer P w H s Q u s' :=
    fun {σ' H' v u} J rv q => ⟨v, H', J.os, J.bare, J.base, J.hok, rv, q⟩
  cases fl with
  | ret u =>
    obtain ⟨v, σ', H', J, rv, q⟩ := hs
    exact fin J rv q
  | next =>
    obtain ⟨σ', H', J, q⟩ := hs
    exact fin (v := V.non) (u := Value.none) J rfl q
  | brk =>
    obtain ⟨_, _, _, q⟩ := hs
    exact False.elim q
  | cont =>
    obtain ⟨_, _, _, q⟩ := hs
    exact False.elim q
end L2

namespace L2
open PySem PySem.Spec PyProof.Rows
section
variable {X : Cx} {x : Str} {p pos : Pos} {e : Expr} {es : List Expr} {t : TA} {id T : String} {r : List V → Hp → VK → Prop}

def tCB (r : List V → Hp → VK → Prop) (t : TA) : TE := fun σ H Q => t σ H fun vs H1 => r vs H1 Q
/-- f(e, ..), f a built-in function -/
theorem pe_callB (hc : CallR X (.builtin id) r) (hg : Gl X x) (hm : X.mg x = none) (hv : bootBuiltins x = some (.builtin id)) (ha : PA X (e :: es) t) (hn : x ≠ "__name__" := by decide) (hdb : (x == ("__debug__" : Str)) = false := by decide)
    (he : starEach (e :: es) X.env = (false, eval e X.env) :: starEach es X.env := by rfl) (hpl : (backTo pos (starEach es X.env)).any (·.1) = false := by rfl) : PE X (.Call (.Name x p) (e :: es) [] pos) (tCB r t) := by
  intro pins s σ H Q I h
  refine wpAny_Call_Name_kw (ld_blt I hg hm hv ?_ hn hdb)
  exact PyProof.Rows.callWith_builtin1 (thn (ha pos pins s σ H _ I h) fun us s1 ⟨vs, H1, I1, r1, q1⟩ => hc pins s1 σ H1 vs us Q I1 r1 q1) he hpl
/-- T(e, ..), T a built-in type -/
theorem pe_callTy (hc : CallR X (.type T) r) (hg : Gl X x) (hm : X.mg x = none) (hv : bootBuiltins x = some (.type T)) (ha : PA X (e :: es) t) (hn : x ≠ "__name__" := by decide) (hdb : (x == ("__debug__" : Str)) = false := by decide)
    (he : starEach (e :: es) X.env = (false, eval e X.env) :: starEach es X.env := by rfl) (hpl : (backTo pos (starEach es X.env)).any (·.1) = false := by rfl) : PE X (.Call (.Name x p) (e :: es) [] pos) (tCB r t) := by
  intro pins s σ H Q I h
  refine wpAny_Call_Name_kw (ld_blt I hg hm hv ?_ hn hdb)
  exact PyProof.Rows.callWith_type1 (thn (ha pos pins s σ H _ I h) fun us s1 ⟨vs, H1, I1, r1, q1⟩ => hc pins s1 σ H1 vs us Q I1 r1 q1) he hpl
/-- T() -/
theorem pe_callTy0 (hc : CallR X (.type T) r) (hg : Gl X x) (hm : X.mg x = none) (hv : bootBuiltins x = some (.type T)) (hn : x ≠ "__name__" := by decide) (hdb : (x == ("__debug__" : Str)) = false := by decide) :
    PE X (.Call (.Name x p) [] [] pos) (tCB r tNil) := by
  intro pins s σ H Q I h
  refine wpAny_Call_Name_kw (ld_blt I hg hm hv ?_ hn hdb)
  exact PyProof.Rows.callWith_type0 (hc pins s σ H [] [] Q I .nil h)
end
end L2

namespace HT
open PySem PyProof.Rows

/-- t < u of tuples of ints -/
def lexLt : List Int → List Int → Bool
  | [], [] => false
  | [], _ :: _ => true
  | _ :: _, [] => false
  | x :: xs, y :: ys => if x = y then lexLt xs ys else decide (x < y)
theorem lexLt_cons (x y : Int) (xs ys : List Int) : lexLt (x :: xs) (y :: ys) = if x = y then lexLt xs ys else decide (x < y) := rfl
theorem lexLt_nil_nil : lexLt [] [] = false := rfl
theorem lexLt_nil_cons (y : Int) (ys : List Int) : lexLt [] (y :: ys) = true := rfl
theorem lexLt_cons_nil (x : Int) (xs : List Int) : lexLt (x :: xs) [] = false := rfl

theorem eqAt_int (A : Around) (s : Shared) (a : Int) (t : Tok) (c : Int) (u : Tok) : ∃ e, SeqAt.EqAt A s (.int a t) (.int c u) e ∧ (e = true ↔ a = c) :=
  ⟨(a == c), SeqAt.EqAt.int_int a t c u, by simp⟩
theorem rcLt_int (A : Around) (s : Shared) (a : Int) (t : Tok) (c : Int) (u : Tok) (prog : Program) (w : World) (E : Value → Shared → Prop) (Q : Value → Shared → Prop) (h : Q (.bool (decide (a < c))) s) :
    wpAny (model prog w) A (richCompare .Lt (.int a t) (.int c u)) Q E s :=
  (PyProof.Rows.lt_int h : wpAny (model prog w) A (compareOp .Lt (.int a t) (.int c u)) Q E s)

section
open PySem.SeqAt
open PySem.AutoSeq1 (wpAny_loadPart')
open PySem.MeetsSeq PySem.MeetsSeq2 PySem.MeetsSeq3

theorem tuple_lt_ints (l b : Addr) (items items2 : Array Value) (n n2 : Nat) (dd dd2 : Option Addr) (sl sl2 : Array (Option Value)) (ns ms : List Int) (hi : IntsAre items.toList ns) (hj : IntsAre items2.toList ms) :
    Meets (Builtin.«tuple.__lt__» ⟨[.ref l, .ref b], []⟩)
      (fun _ R s => s.heap.get? l = some { cls := .type "tuple", dict := dd, data := .seq items n, slots := sl } ∧ s.heap.get? b = some { cls := .type "tuple", dict := dd2, data := .seq items2 n2, slots := sl2 } ∧
        R (.ok (.ret (.bool (lexLt ns ms)))) s) :=
  .of_wp fun prog w A R s h => by
    obtain ⟨hp, g, d, tk, os⟩ := s; obtain ⟨hl, hb, h⟩ := h
    have f2 := AutoSeq1.sub_tuple_tuple
    have z1 : items.size = ns.length := by rw [← hi.length]; simp
    have z2 : items2.size = ms.length := by rw [← hj.length]; simp
    wp_walk using wpAny_loadPart' hl, wpAny_loadPart' hb, wpAny_forIn_list _ (fun rest b s' => b.1 = none ∧ s' = ⟨hp, g, d, tk, os⟩ ∧ ∃ (vs ws : List Value) (ns' ms' : List Int), rest = vs.zip ws ∧
      IntsAre vs ns' ∧ IntsAre ws ms' ∧ ns'.length + items2.size = ms'.length + items.size ∧ R (.ok (.ret (.bool (lexLt ns' ms')))) ⟨hp, g, d, tk, os⟩) _
    case turn =>
      rintro ⟨y, x⟩ rest b s' ⟨hb', rfl, vs, ws, ns', ms', hz, hvi, hwi, hlen, hR⟩
      cases hvi with
      | nil => rw [List.zip_nil_left] at hz; cases hz
      | cons a t hvi' =>
        cases hwi with
        | nil => rw [List.zip_nil_right] at hz; cases hz
        | cons c u hwi' =>
          rw [List.zip_cons_cons] at hz
          injection hz with hyx hrest
          injection hyx with hy hx
          subst hy hx
          rw [lexLt_cons] at hR
          simp only [List.length_cons] at hlen
          obtain ⟨e, he, hiff⟩ := eqAt_int A.in1 ⟨hp, g, d, tk, os⟩ a t c u
          refine wpAny_bind (he prog w _ _ ?_)
          cases e with
          | true =>
            rw [if_pos (hiff.mp rfl)] at hR
            wp_walk
            exact ⟨rfl, rfl, _, _, _, _, hrest, hvi', hwi', by omega, hR⟩
          | false =>
            rw [if_neg (fun q => absurd (hiff.mpr q) Bool.false_ne_true)] at hR
            have hri := rcLt_int A.in1 ⟨hp, g, d, tk, os⟩ a t c u prog w
            wp_walk using hri
            exact ⟨_, rfl, by simpa using hR⟩
    case fin =>
      rintro ⟨b1, b2⟩ s' ⟨hb', rfl, vs, ws, ns', ms', hz, hvi, hwi, hlen, hR⟩
      simp only at hb'
      subst hb'
      have hv : lexLt ns' ms' = decide (items.size < items2.size) := by
        cases hvi with
        | nil =>
          cases hwi with
          | nil =>
            simp only [List.length_nil] at hlen
            rw [lexLt_nil_nil]
            exact (decide_eq_false (by omega)).symm
          | cons c u hw =>
            simp only [List.length_nil, List.length_cons] at hlen
            rw [lexLt_nil_cons]
            exact (decide_eq_true (by omega)).symm
        | cons a t hv =>
          cases hwi with
          | nil =>
            simp only [List.length_nil, List.length_cons] at hlen
            rw [lexLt_cons_nil]
            exact (decide_eq_false (by omega)).symm
          | cons c u hw =>
            rw [List.zip_cons_cons] at hz
            cases hz
      rw [hv] at hR
      wp_walk
      exact ⟨_, rfl, by simpa [Builtin.Tuple.tupleCompareSizes] using hR⟩
    case h =>
      exact ⟨rfl, rfl, items.toList, items2.toList, ns, ms, rfl, hi, hj, by omega, h⟩
end

section
variable {prog : Program} {w : World} {A : Around} {E : Value → Shared → Prop} {s : Shared}

theorem lt_tupInts {l b : Addr} {items items2 : Array Value} {ns ms : List Int} {Q : Value → Shared → Prop} (hl : IsTup s.heap l items) (hb : IsTup s.heap b items2) (hi : IntsAre items.toList ns) (hj : IntsAre items2.toList ms)
    (hu : A.units < cLine) (h : Q (.bool (lexLt ns ms)) s) : wpAny (model prog w) A (compareOp .Lt (.ref l) (.ref b)) Q E s := by
  obtain ⟨⟨cls, dd, data, sl⟩, ho, hc, n, hd⟩ := id hl
  obtain ⟨⟨cls2, dd2, data2, sl2⟩, ho2, hc2, n2, hd2⟩ := id hb
  simp only at hc hd hc2 hd2
  subst hc hd hc2 hd2
  exact richCompare_meets_room (op := .Lt) ⟨_, ho, rfl⟩ ⟨_, ho2, rfl⟩ PySem.F.slot_tuple_lt PySem.F.entry_tuple_lt (PySem.F.args_tuple_lt_2 _ _) (tuple_lt_ints l b items items2 n n2 dd dd2 sl sl2 ns ms hi hj)
    ⟨ho, ho2, show Value.bool (lexLt ns ms) ≠ Value.notImplemented ∧ Q (.bool (lexLt ns ms)) s from ⟨(fun x => nomatch x), h⟩⟩ hu

/-- t + u, t not empty -/
theorem cat_tup {t b : Addr} {vs ws : List Value} {Q : Value → Shared → Prop} (ht : IsTup s.heap t vs.toArray) (hb : IsTup s.heap b ws.toArray) (hv : vs ≠ [])
    (h1 : ws = [] → Q (.ref t) s) (h2 : ws ≠ [] → Q (.ref s.heap.objs.size) { s with heap := s.heap.push { cls := .type "tuple", data := .seq (vs ++ ws).toArray } })
    (hsz : vs.length + ws.length ≤ sizeLine) : wpAny (model prog w) A (binaryOp .Add (.ref t) (.ref b)) Q E s := by
  obtain ⟨⟨cls, dd, data, sl⟩, ho, hc, n, hd⟩ := id ht
  obtain ⟨⟨cls2, dd2, data2, sl2⟩, ho2, hc2, n2, hd2⟩ := id hb
  simp only at hc hd hc2 hd2
  subst hc hd hc2 hd2
  have e : vs.toArray ++ ws.toArray = (vs ++ ws).toArray := by simp
  by_cases hw : ws = []
  · exact concat_meets ⟨_, ho, rfl⟩ ⟨_, ho2, rfl⟩ noFill_tuple_add seq_tuple_add PySem.F.slot_tuple_add PySem.F.entry_tuple_add (PySem.F.args_tuple_add_2 _ _)
      (tuple_addW1 t b vs.toArray ws.toArray n n2 dd dd2 sl sl2 (by simpa using hv) (by simp [hw])) ⟨ho, ho2, h1 hw⟩
  · refine concat_meets ⟨_, ho, rfl⟩ ⟨_, ho2, rfl⟩ noFill_tuple_add seq_tuple_add PySem.F.slot_tuple_add PySem.F.entry_tuple_add (PySem.F.args_tuple_add_2 _ _)
      (tuple_addW2 t b vs.toArray ws.toArray n n2 dd dd2 sl sl2 (by simpa using hv) (by simpa using hw) (by rw [List.size_toArray, List.size_toArray]; exact hsz)) ⟨ho, ho2, ?_⟩
    rw [e]
    exact h2 hw

/-! ### t[a:b], not the whole -/
/-- a slice's bound as a place among n (d where it is left out) -/
def sIx (n d : Nat) : Option Int → Nat
  | none => d
  | some v => if v < 0 then (v + (n : Int)).toNat else min v.toNat n
theorem sIx_none (n d : Nat) : sIx n d none = d := rfl
theorem sIx_nat (n d k : Nat) : sIx n d (some (k : Int)) = min k n := by
  show (if (k : Int) < 0 then ((k : Int) + (n : Int)).toNat else min (k : Int).toNat n) = min k n
  rw [if_neg (by omega), Int.toNat_natCast]
theorem sIx_le (n d : Nat) (hd : d ≤ n) (o : Option Int) : sIx n d o ≤ n := by
  cases o with
  | none => exact hd
  | some v =>
    show (if v < 0 then (v + (n : Int)).toNat else min v.toNat n) ≤ n
    by_cases hv : v < 0
    · rw [if_pos hv]; omega
    · rw [if_neg hv]; exact Nat.min_le_right _ _
theorem clip_eq (v : Int) (n d : Nat) : (if v < 0 then max (v + (n : Int)) 0 else min v (n : Int)) = ((sIx n d (some v) : Nat) : Int) := by
  show (if v < 0 then max (v + (n : Int)) 0 else min v (n : Int)) = (((if v < 0 then (v + (n : Int)).toNat else min v.toNat n) : Nat) : Int)
  by_cases hv : v < 0
  · simp only [if_pos hv]; omega
  · simp only [if_neg hv]; omega
theorem adjust_gen (lo hi : Option Int) (n : Nat) : Builtin.Slice.sliceAdjust lo hi 1 (n : Int) = (((sIx n 0 lo : Nat) : Int), ((sIx n n hi : Nat) : Int)) := by
  have h1 : ¬ ((1 : Int) < 0) := by omega
  unfold Builtin.Slice.sliceAdjust
  simp only [h1, if_false]
  refine Prod.ext ?_ ?_
  · cases lo with
    | none => rfl
    | some v => exact clip_eq v n 0
  · cases hi with
    | none => rfl
    | some v => exact clip_eq v n n
theorem places_gen (i j : Nat) : Builtin.Slice.slicePlaces (i : Int) (j : Int) 1 = j - i := by
  unfold Builtin.Slice.slicePlaces
  have h1 : (1 : Int) > 0 := by omega
  simp only [h1, if_true, Int.ediv_one]
  split <;> omega
theorem slicePart_ {v : Value} {o : Option Int} {Q : Option Int → Shared → Prop} (p : IsPart v o) (h : Q o s) : wpAny (model prog w) A (Builtin.Slice.slicePartIndex v) Q E s := by
  cases p with
  | none => exact slicePart_none h
  | int i t => exact slicePart_int h
theorem sliceApplied_gen {sl : Addr} {vl vu : Value} {lo hi : Option Int} {n : Nat} {Q : Int × Int × Nat → Shared → Prop} (hs : s.heap.IsSliceOf sl vl vu .none) (pl : IsPart vl lo) (pu : IsPart vu hi)
    (h : Q (((sIx n 0 lo : Nat) : Int), 1, sIx n n hi - sIx n 0 lo) s) : wpAny (model prog w) A (Builtin.Slice.sliceApplied (.ref sl) (pure (n : Int))) Q E s := by
  obtain ⟨os, hos, hcs, hds⟩ := id hs
  unfold Builtin.Slice.sliceApplied Builtin.Slice.sliceFields
  refine wpAny_bind (wpAny_bind (wpAny_field hos hds (x := vl) rfl (wpAny_bind (wpAny_field hos hds (x := vu) rfl (wpAny_bind (wpAny_field hos hds (x := .none) rfl (wpAny_pure ?_)))))))
  refine wpAny_bind (slicePart_none ?_)
  show wpAny _ _ (if ((1 : Int) == 0) = true then _ else _) _ _ s
  rw [if_neg (by decide)]
  refine wpAny_bind (slicePart_ pl (wpAny_bind (slicePart_ pu (wpAny_bind (wpAny_pure ?_)))))
  show wpAny _ _ (match Builtin.Slice.sliceAdjust lo hi 1 (n : Int) with | (lo, hi) => pure (lo, (1 : Int), Builtin.Slice.slicePlaces lo hi 1)) _ _ s
  rw [adjust_gen lo hi n]
  show wpAny _ _ (pure (((sIx n 0 lo : Nat) : Int), (1 : Int), Builtin.Slice.slicePlaces ((sIx n 0 lo : Nat) : Int) ((sIx n n hi : Nat) : Int) 1)) _ _ s
  rw [places_gen]
  exact wpAny_pure h
theorem pick_gen (xs : Array Value) (i k : Nat) : ((List.range k).filterMap fun (m : Nat) => xs[((i : Int) + (m : Int) * 1).toNat]?).toArray = ((xs.toList.drop i).take k).toArray := by
  have e : (fun (m : Nat) => xs[((i : Int) + (m : Int) * 1).toNat]?) = fun m => xs[i + m]? := by
    funext m
    have : ((i : Int) + (m : Int) * 1).toNat = i + m := by omega
    rw [this]
  rw [e]
  have := pick_run xs i k
  rw [List.filterMap_map] at this
  have e2 : ((fun x => xs[x]?) ∘ fun x => i + x) = fun m => xs[i + m]? := rfl
  rw [e2] at this
  rw [this]

theorem getItem_tuple_cut {t sl : Addr} {items : Array Value} {vl vu : Value} {lo hi : Option Int} {Q : Value → Shared → Prop} (ht : IsTup s.heap t items) (hs : s.heap.IsSliceOf sl vl vu .none) (pl : IsPart vl lo) (pu : IsPart vu hi)
    (hw : ¬ (sIx items.size 0 lo = 0 ∧ sIx items.size items.size hi = items.size))
    (h : Q (.ref s.heap.objs.size) { s with heap := s.heap.push { cls := .type "tuple", data := .seq ((items.toList.drop (sIx items.size 0 lo)).take (sIx items.size items.size hi - sIx items.size 0 lo)).toArray } })
    (hsz : items.size ≤ sizeLine) : wpAny (model prog w) A (getItem (.ref t) (.ref sl)) Q E s := by
  have htake : sizeOk (.seq ((items.toList.drop (sIx items.size 0 lo)).take (sIx items.size items.size hi - sIx items.size 0 lo)).toArray) := by
    show ((items.toList.drop (sIx items.size 0 lo)).take (sIx items.size items.size hi - sIx items.size 0 lo)).toArray.size ≤ sizeLine
    rw [List.size_toArray, List.length_take, List.length_drop, Array.length_toList]
    omega
  have hj : sIx items.size items.size hi ≤ items.size := sIx_le _ _ (Nat.le_refl _) hi
  obtain ⟨os, hos, hcs, hds⟩ := id hs
  have hTs : s.TypeIs (.ref sl) "slice" := ⟨os, hos, hcs⟩
  unfold getItem
  try with_reducible refine wpAny_holding ?_
  first | refine wpAny_bind (wpAny_pure ?_) | skip
  refine wpAny_bind (wpAny_sequenceKey ht.typeIs (by decide) ?_)
  refine wpAny_bind (wpAny_callSpecial?_slot (name := Str.ofString "__getitem__") ht.typeIs PyProof.Rows.slot_tuple_getitem
    (wpAny_call_entry PyProof.Rows.slot_tuple_getitem ht.typeIs entry_tuple_getitem ?_ (args_tuple_getitem _ _)))
  show wpAny _ _ (Builtin.Tuple.tupleItemsOf (.ref t) >>= _) _ _ s
  refine wpAny_bind (tupleItemsOf_ ht ?_)
  refine wpAny_bind (wpAny_typeOf hTs ?_)
  rw [if_pos (by decide)]
  refine wpAny_bind (sliceApplied_gen hs pl pu ?_)
  have hno : ¬ ((((sIx items.size 0 lo : Nat) : Int) == 0 && (1 : Int) == 1 && (sIx items.size items.size hi - sIx items.size 0 lo) == items.size) = true) := by
    intro q
    rw [Bool.and_eq_true, Bool.and_eq_true] at q
    have q1 : ((sIx items.size 0 lo : Nat) : Int) = 0 := eq_of_beq q.1.1
    have q2 : sIx items.size items.size hi - sIx items.size 0 lo = items.size := eq_of_beq q.2
    exact hw ⟨by omega, by omega⟩
  show wpAny _ _ (if (((sIx items.size 0 lo : Nat) : Int) == 0 && (1 : Int) == 1 && (sIx items.size items.size hi - sIx items.size 0 lo) == items.size) = true then _ else _) _ _ s
  rw [if_neg hno, pick_gen]
  first
    | exact wpAny_bind (m := Builtin.Tuple.tupleExact _) (wpAny_newObj_type (wpAny_pure ⟨_, rfl, wpAny_pure h⟩) htake)
    | exact wpAny_bind (m := Builtin.Tuple.tupleExact _) (wpAny_newObj_type (wpAny_bind (wpAny_pure (wpAny_pure ⟨_, rfl, wpAny_pure h⟩))) htake)
    | exact wpAny_bind (wpAny_bind (m := Builtin.Tuple.tupleExact _) (wpAny_newObj_type (wpAny_pure (wpAny_pure ⟨_, rfl, wpAny_pure h⟩)) htake))
    | exact wpAny_bind (wpAny_bind (m := Builtin.Tuple.tupleExact _) (wpAny_newObj_type (wpAny_pure ⟨_, rfl, wpAny_pure h⟩) htake))
end
end HT

namespace L2
open PySem PySem.Spec PyProof.Rows

/-! ### the parts of a slice -/
abbrev TO := St → Hp → (Option Int → Hp → Prop) → Prop
/-- a slice's part (left out, or an int) -/
def PO (X : Cx) (e : Option Expr) (t : TO) : Prop :=
  ∀ (pins : List (Addr × Obj)) (s : Shared) (σ : St) (H : Hp) (Q : Option Int → Hp → Prop), Inv X pins σ H s → t σ H Q →
    wpAny (model X.prog X.w) X.A (evalPart e X.env) (fun u s' => ∃ o H', Inv X pins σ H' s' ∧ IsPart u o ∧ Q o H') X.xe s
def tNoPart : TO := fun _ H Q => Q none H
def tPart (t : TE) : TO := fun σ H Q => t σ H fun x H1 => ∃ i, x = .int i ∧ Q (some i) H1

theorem intsAre_of {ns : List Int} : ∀ {us : List Value}, Vals (ns.map V.int) us → IntsAre us ns := by
  induction ns with
  | nil => intro us r; rw [List.map_nil] at r; cases r; exact .nil
  | cons n ns ih =>
    intro us r
    rw [List.map_cons] at r
    cases r with
    | cons r1 r2 =>
      obtain ⟨t, e⟩ := r1
      subst e
      exact .cons n t (ih r2)

section
variable {X : Cx} {e : Expr} {te : TE} {lo hi : Option Expr} {tl th : TO} {pos p2 : Pos}

theorem po_none : PO X none tNoPart := by
  intro pins s σ H Q I h
  rw [evalPart_none]
  exact wpAny_pure ⟨none, H, I, .none, h⟩
theorem po_some (h : PE X e te) : PO X (some e) (tPart te) := by
  intro pins s σ H Q I hw
  rw [evalPart_some]
  refine thn (h pins s σ H _ I hw) fun u s1 ⟨x, H1, I1, r1, q1⟩ => ?_
  obtain ⟨i, rfl, q⟩ := q1
  obtain ⟨t, rfl⟩ := r1
  exact ⟨some i, H1, I1, .int i t, q⟩

/-- what a slice of a value is, by values: the slice object stands at sl -/
def SlR (X : Cx) (r : V → Option Int → Option Int → Hp → VK → Prop) : Prop :=
  ∀ (pins : List (Addr × Obj)) (s : Shared) (σ : St) (H : Hp) (x : V) (v vl vu : Value) (lo hi : Option Int) (sl : Addr) (Q : VK), Inv X pins σ H s → RelV x v → s.heap.IsSliceOf sl vl vu .none → IsPart vl lo → IsPart vu hi → r x lo hi H Q →
    ∃ T id, typeLookup (.type T) "__getitem__" = pure (some (.builtin id)) ∧ s.TypeIs v T ∧ wpAny (model X.prog X.w) X.A (getItem v (.ref sl)) (EP X pins σ Q) X.xe s
theorem SlR.or {r r' : V → Option Int → Option Int → Hp → VK → Prop} (h : SlR X r) (h' : SlR X r') : SlR X (fun x lo hi H Q => r x lo hi H Q ∨ r' x lo hi H Q) := by
  intro pins s σ H x v vl vu lo hi sl Q I rx hs pl pu q
  rcases q with q | q
  · exact h pins s σ H x v vl vu lo hi sl Q I rx hs pl pu q
  · exact h' pins s σ H x v vl vu lo hi sl Q I rx hs pl pu q
def tSl (r : V → Option Int → Option Int → Hp → VK → Prop) (te : TE) (tl th : TO) : TE := fun σ H Q => te σ H fun x H1 => tl σ H1 fun l H2 => th σ H2 fun u H3 => r x l u H3 Q
/-- a[lo:hi], any a -/
theorem pe_slice {r : V → Option Int → Option Int → Hp → VK → Prop} (hr : SlR X r) (he : PE X e te) (hl : PO X lo tl) (hu : PO X hi th) : PE X (.Subscript e (.Slice lo hi none p2) pos) (tSl r te tl th) := by
  intro pins s σ H Q I h
  refine Subscript_ (thn (he pins s σ H _ I h) fun v s1 ⟨x, H1, I1, r1, q1⟩ => ?_)
  refine wpAny_Slice (thn (hl pins s1 σ H1 _ I1 q1) fun vl s2 ⟨l, H2, I2, pl, q2⟩ => thn (hu pins s2 σ H2 _ I2 q2) fun vu s3 ⟨u, H3, I3, pu, q3⟩ => ?_)
  rw [evalPart_none]
  refine wpAny_pure ?_
  have I4 : Inv X pins σ H3 { s3 with heap := s3.heap.push { cls := .type "slice", data := .fields #[vl, vu, .none] } } := I3.kept (t' := s3.toks) fun b ob q => Heap.get?_push_of_some _ q
  obtain ⟨T, id, hT, ht, hg⟩ := hr pins { s3 with heap := s3.heap.push { cls := .type "slice", data := .fields #[vl, vu, .none] } } σ H3 x v vl vu l u s3.heap.objs.size Q I4 r1 (Heap.IsSliceOf.new ..) pl pu q3
  show wpAny (model X.prog X.w) X.A (subscriptTail e (.Slice lo hi none p2) v (.ref s3.heap.objs.size)) (EP X pins σ Q) X.xe { s3 with heap := s3.heap.push { cls := .type "slice", data := .fields #[vl, vu, .none] } }
  exact tail_any (ops := [.ref s3.heap.objs.size, v]) ht hT hg (by with_unfolding_all rfl)

/-- the items of xs[lo:hi] -/
def cutV (xs : List V) (lo hi : Option Int) : List V := (xs.drop (HT.sIx xs.length 0 lo)).take (HT.sIx xs.length xs.length hi - HT.sIx xs.length 0 lo)
theorem cutV_length (xs : List V) (lo hi : Option Int) : (cutV xs lo hi).length ≤ xs.length := by
  unfold cutV
  rw [List.length_take, List.length_drop]
  omega
/-- t[lo:hi], not the whole of it (the whole would be t itself) -/
def rSlT (K : PySem.W.Frag) : V → Option Int → Option Int → Hp → VK → Prop := fun x lo hi H Q => ∃ a xs, x = .ref a ∧ SqT K H a xs ∧
  ¬ (HT.sIx xs.length 0 lo = 0 ∧ HT.sIx xs.length xs.length hi = xs.length) ∧ ∀ p, H p = none → Q (.ref p) (upd H p (.tup (cutV xs lo hi)))
theorem sl_tup : SlR X (rSlT X.K) := by
  intro pins s σ H x v vl vu lo hi sl Q I rx hs pl pu h
  obtain ⟨a, xs, rfl, hx, hw, q⟩ := h
  cases rx
  obtain ⟨its, r, ht, hz⟩ := I.tuple hx
  have hlen : its.toArray.size = xs.length := by rw [List.size_toArray]; exact r.length.symm
  refine ⟨"tuple", _, PyProof.Rows.slot_tuple_getitem.lookup, ht.typeIs, ?_⟩
  refine HT.getItem_tuple_cut ht hs pl pu (by rw [hlen]; exact hw) ?_ (by rw [hlen]; exact hz)
  rw [hlen]
  refine ⟨.ref s.heap.objs.size, _, I.laid (t' := s.toks) (o := .tup (cutV xs lo hi)) (fun b ob q => Heap.get?_push_of_some _ q) (Nat.le_refl _) ?_, rfl, q _ (I.hok.fresh (Nat.le_refl _))⟩
  exact ⟨Nat.le_trans (cutV_length xs lo hi) hz, _, (r.drop (HT.sIx xs.length 0 lo)).take (HT.sIx xs.length xs.length hi - HT.sIx xs.length 0 lo), IsTup.new _ _⟩

/-! ### t < u, t + u -/
def rLtT (K : PySem.W.Frag) : R2 := fun x y H Q => ∃ a b ns ms, x = .ref a ∧ y = .ref b ∧ SqT K H a (ns.map V.int) ∧ SqT K H b (ms.map V.int) ∧ Q (.bl (HT.lexLt ns ms)) H
theorem op_ltT (hu : X.A.units < cLine) : OpR X (compareOp .Lt) (rLtT X.K) := by
  intro pins s σ H x y v u Q I rx ry h
  obtain ⟨a, b, ns, ms, rfl, rfl, ha, hb, q⟩ := h
  cases rx
  cases ry
  obtain ⟨its, r1, p1, _⟩ := I.tuple ha
  obtain ⟨its2, r2, p2, _⟩ := I.tuple hb
  have i1 : IntsAre its.toArray.toList ns := intsAre_of r1
  have i2 : IntsAre its2.toArray.toList ms := intsAre_of r2
  exact HT.lt_tupInts p1 p2 i1 i2 hu ⟨.bl (HT.lexLt ns ms), H, I, rfl, q⟩
/-- t + u, t not empty: u empty gives t itself -/
def rCatT (K : PySem.W.Frag) : R2 := fun x y H Q => ∃ a b xs ys, x = .ref a ∧ y = .ref b ∧ SqT K H a xs ∧ SqT K H b ys ∧ xs ≠ [] ∧ xs.length + ys.length ≤ sizeLine ∧
  (ys = [] → Q (.ref a) H) ∧ (ys ≠ [] → ∀ p, H p = none → Q (.ref p) (upd H p (.tup (xs ++ ys))))
theorem Vals.nil_iff {xs : List V} {us : List Value} (r : Vals xs us) : us = [] ↔ xs = [] := by
  cases r with
  | nil => simp
  | cons _ _ => simp
theorem op_catT : OpR X (binaryOp .Add) (rCatT X.K) := by
  intro pins s σ H x y v u Q I rx ry h
  obtain ⟨a, b, xs, ys, rfl, rfl, ha, hb, hx, hz, q1, q2⟩ := h
  cases rx
  cases ry
  obtain ⟨its, r1, p1, _⟩ := I.tuple ha
  obtain ⟨its2, r2, p2, _⟩ := I.tuple hb
  refine HT.cat_tup p1 p2 (fun z => hx (r1.nil_iff.mp z)) (fun z => ⟨.ref a, H, I, rfl, q1 (r2.nil_iff.mp z)⟩) (fun z => ?_) (by rw [← r1.length, ← r2.length]; exact hz)
  refine ⟨.ref s.heap.objs.size, _, I.laid (t' := s.toks) (o := .tup (xs ++ ys)) (fun b ob q => Heap.get?_push_of_some _ q) (Nat.le_refl _) ?_, rfl, q2 (fun w => z (r2.nil_iff.mpr w)) _ (I.hok.fresh (Nat.le_refl _))⟩
  exact ⟨by rw [List.length_append]; exact hz, _, r1.append r2, IsTup.new _ _⟩
/-- tuple(t) -/
theorem call_tupleT : CallR X (.type "tuple") (fun xs H Q => ∃ a ys, xs = [.ref a] ∧ SqT X.K H a ys ∧ Q (.ref a) H) := by
  intro pins s σ H xs us Q I r h
  obtain ⟨a, ys, rfl, ha, q⟩ := h
  obtain ⟨u, rfl, ru⟩ := vals1 r
  cases ru
  obtain ⟨its, _, p1, _⟩ := I.tuple ha
  exact call_tuple_same (items := its.toArray) p1 ⟨.ref a, H, I, rfl, q⟩
end
end L2

namespace L2
open PySem PySem.Spec PyProof.Rows

/-! ### places -/
/-- the place that an index of any sign means -/
def ixN (n : Nat) (i : Int) : Option Nat := if 0 ≤ i then (if i < n then some i.toNat else none) else if -(n : Int) ≤ i then some (i + n).toNat else none
def atI {α : Type} (xs : List α) (i : Int) : Option α := (ixN xs.length i).bind fun j => xs[j]?
theorem ixN_seq {n : Nat} {i : Int} {j : Nat} (h : ixN n i = some j) : seqIndex? i n = some j ∧ j < n ∧ -(n : Int) ≤ i ∧ i < n := by
  unfold ixN at h
  by_cases h0 : 0 ≤ i
  · rw [if_pos h0] at h
    by_cases h1 : i < n
    · rw [if_pos h1] at h
      have e : i.toNat = j := Option.some.inj h
      exact ⟨by rw [seqIndex_of h0 h1, e], by omega, by omega, h1⟩
    · rw [if_neg h1] at h; cases h
  · rw [if_neg h0] at h
    by_cases h1 : -(n : Int) ≤ i
    · rw [if_pos h1] at h
      have e : (i + n).toNat = j := Option.some.inj h
      exact ⟨by rw [seqIndex_neg (by omega) h1, e], by omega, h1, by omega⟩
    · rw [if_neg h1] at h; cases h
theorem atI_get {α : Type} {xs : List α} {i : Int} {v : α} (h : atI xs i = some v) : ∃ j, seqIndex? i xs.length = some j ∧ xs[j]? = some v ∧ j < xs.length ∧ -(xs.length : Int) ≤ i ∧ i < xs.length := by
  unfold atI at h
  cases e : ixN xs.length i with
  | none => rw [e] at h; cases h
  | some j =>
    rw [e] at h
    obtain ⟨h1, h2, h3, h4⟩ := ixN_seq e
    exact ⟨j, h1, h, h2, h3, h4⟩
theorem atI_nat {α : Type} {xs : List α} {j : Nat} {v : α} (h : xs[j]? = some v) : atI xs (j : Int) = some v := by
  have hj : j < xs.length := (List.getElem?_eq_some_iff.mp h).1
  have e : ixN xs.length (j : Int) = some j := by
    unfold ixN
    rw [if_pos (by omega), if_pos (by omega)]; simp
  unfold atI; rw [e]; exact h
theorem atI_last {α : Type} (xs : List α) (v : α) : atI (xs ++ [v]) (-1) = some v := by
  have hl : (xs ++ [v]).length = xs.length + 1 := by simp
  have e : ixN (xs ++ [v]).length (-1) = some xs.length := by
    unfold ixN
    rw [hl, if_neg (by decide), if_pos (by omega)]
    congr 1
    omega
  unfold atI
  rw [e]
  show (xs ++ [v])[xs.length]? = some v
  simp

/-! ### what may be subscripted -/
/-- what stands as an index of a plain subscript -/
def PlainIx (b : Expr) : Prop := ∀ o i, subscripted b false o i = operate [o, i] (getItem o i)
/-- a subscript by values -/
def IxR (X : Cx) (r : R2) : Prop :=
  ∀ (value slice : Expr) (pins : List (Addr × Obj)) (s : Shared) (σ : St) (H : Hp) (x y : V) (v u : Value) (Q : VK), Inv X pins σ H s → RelV x v → RelV y u → r x y H Q →
    subscripted slice false v u = operate [v, u] (getItem v u) → wpAny (model X.prog X.w) X.A (subscriptTail value slice v u) (EP X pins σ Q) X.xe s
/-- a call of a builtin's method by values: the receiver, the arguments -/
def MtR (X : Cx) (id : String) (r : V → List V → Hp → VK → Prop) : Prop :=
  ∀ (pins : List (Addr × Obj)) (s : Shared) (σ : St) (H : Hp) (x : V) (xs : List V) (v : Value) (us : List Value) (Q : VK), Inv X pins σ H s → RelV x v → Vals xs us → r x xs H Q →
    wpAny (model X.prog X.w) X.A (call (.builtin id) (v :: us)) (EP X pins σ Q) X.xe s
section
variable {X : Cx} {a b : Expr} {ta tb : TE} {pos : Pos}
theorem IxR.or {r r' : R2} (h : IxR X r) (h' : IxR X r') : IxR X (fun x y H Q => r x y H Q ∨ r' x y H Q) := by
  intro value slice pins s σ H x y v u Q I rx ry q hs
  rcases q with q | q
  · exact h value slice pins s σ H x y v u Q I rx ry q hs
  · exact h' value slice pins s σ H x y v u Q I rx ry q hs
theorem MtR.or {id : String} {r r' : V → List V → Hp → VK → Prop} (h : MtR X id r) (h' : MtR X id r') : MtR X id (fun x xs H Q => r x xs H Q ∨ r' x xs H Q) := by
  intro pins s σ H x xs v us Q I rx rs q
  rcases q with q | q
  · exact h pins s σ H x xs v us Q I rx rs q
  · exact h' pins s σ H x xs v us Q I rx rs q
/-- a[b] -/
theorem pe_ix {r : R2} (hr : IxR X r) (ha : PE X a ta) (hb : PE X b tb) (hs : PlainIx b) : PE X (.Subscript a b pos) (tOp r ta tb) := by
  intro pins s σ H Q I h
  exact Subscript_ (binT ha hb I h fun v u s2 x y H2 I2 rx ry q => hr a b pins s2 σ H2 x y v u Q I2 rx ry q (hs _ _))

def rIxL (K : PySem.W.Frag) : R2 := fun x y H Q => ∃ p xs i v, x = .ref p ∧ y = .int i ∧ SqL K H p xs ∧ atI xs i = some v ∧ Q v H
def rIxT (K : PySem.W.Frag) : R2 := fun x y H Q => ∃ p xs i v, x = .ref p ∧ y = .int i ∧ SqT K H p xs ∧ atI xs i = some v ∧ Q v H
def rIxS : R2 := fun x y H Q => ∃ z i c, x = .str z ∧ y = .int i ∧ z.length ≤ sizeLine ∧ atI z.cps.toList i = some c ∧ Q (.str ⟨#[c]⟩) H
theorem ix_list : IxR X (rIxL X.K) := by
  intro value slice pins s σ H x y v u Q I rx ry h hs
  obtain ⟨p, xs, i, z, rfl, rfl, hq, he, q⟩ := h
  cases rx
  obtain ⟨t, rfl⟩ := ry
  obtain ⟨its, r, pl, hz⟩ := I.list hq
  obtain ⟨j, h1, h2, h3, h4, h5⟩ := atI_get he
  obtain ⟨w, ew, rw'⟩ := r.get h2
  have hl := r.length
  have hn := line63
  have fin : EP X pins σ Q w s := ⟨z, H, I, rw', q⟩
  by_cases h0 : 0 ≤ i
  · have hj : i.toNat = j := by
      rw [seqIndex_of h0 h5] at h1
      exact Option.some.inj h1
    exact item_listR pl.isList h0 (by omega) (by rw [hj]; simpa using ew) fin hs
  · have hj : (i + (its.toArray.size : Int)).toNat = j := by
      rw [seqIndex_neg (by omega) h4] at h1
      rw [List.size_toArray, ← hl]
      exact Option.some.inj h1
    exact subscriptTail_builtinR (x := w) pl.isList.typeIs slot_list_getitem.lookup
      (wpAny_getItem_list_neg (Q := fun r s' => r = w ∧ EP X pins σ Q r s') pl.isList (by omega) (by rw [List.size_toArray] <;> omega) (by omega) (by rw [hj]; simpa using ew) ⟨rfl, fin⟩) hs
theorem ix_tup : IxR X (rIxT X.K) := by
  intro value slice pins s σ H x y v u Q I rx ry h hs
  obtain ⟨p, xs, i, z, rfl, rfl, hq, he, q⟩ := h
  cases rx
  obtain ⟨t, rfl⟩ := ry
  obtain ⟨its, r, pl, hz⟩ := I.tuple hq
  obtain ⟨j, h1, h2, h3, h4, h5⟩ := atI_get he
  obtain ⟨w, ew, rw'⟩ := r.get h2
  have hl := r.length
  have hn := line63
  have fin : EP X pins σ Q w s := ⟨z, H, I, rw', q⟩
  exact subscriptTail_builtinR (x := w) pl.typeIs slot_tuple_getitem.lookup
    (getItem_tuple (j := j) (Q := fun r s' => r = w ∧ EP X pins σ Q r s') pl (by omega) (by omega) (by rw [List.size_toArray, ← hl]; exact h1) (by simpa using ew) ⟨rfl, fin⟩) hs
theorem ix_str : IxR X rIxS := by
  intro value slice pins s σ H x y v u Q I rx ry h hs
  obtain ⟨z, i, c, rfl, rfl, hz, he, q⟩ := h
  obtain ⟨t, rfl⟩ := rx
  obtain ⟨t', rfl⟩ := ry
  obtain ⟨j, h1, h2, h3, h4, h5⟩ := atI_get he
  have hl : z.cps.toList.length = z.length := by simp [Str.length]
  rw [hl] at h1 h4 h5
  have hn := line63
  exact tail_any (typeIs_str s z t) slot_str_getitem.lookup (getItem_str (c := c) (by
    have e1 : decide (i < -(2 ^ 63 : Int)) = false := decide_eq_false (by omega)
    have e2 : decide (i ≥ 2 ^ 63) = false := decide_eq_false (by omega)
    rw [e1, e2, Bool.or_false]) (by rw [h1]; simpa using h2) ⟨.str ⟨#[c]⟩, H, I.tok _, ⟨_, rfl⟩, q⟩) hs
/-- list, tuple or str -/
def rIx (K : PySem.W.Frag) : R2 := fun x y H Q => rIxL K x y H Q ∨ rIxT K x y H Q ∨ rIxS x y H Q
theorem ix_seq : IxR X (rIx X.K) := ix_list.or (ix_tup.or ix_str)

/-! ### xs[i] = v, any sign -/
/-- the list's object behind a store -/
theorem mapSeq_set (its : List Value) (n j : Nat) (u : Value) : Obj.mapSeq (·.setIfInBounds j u) { cls := .type "list", data := .seq its.toArray n } = { cls := .type "list", data := .seq (its.set j u).toArray n } := by
  simp [Obj.mapSeq]
theorem Inv.lst {pins : List (Addr × Obj)} {σ : St} {H : Hp} {s : Shared} {p : Addr} {xs : List V} (I : Inv X pins σ H s) (h : H p = some (.lst xs)) :
    ∃ (its : List Value) (n : Nat), Vals xs its ∧ s.heap.get? p = some { cls := .type "list", data := .seq its.toArray n } ∧ xs.length ≤ sizeLine := by
  obtain ⟨z, its, n, r, e⟩ := I.hok p _ h
  exact ⟨its, n, r, e, z⟩
/-- the list at p is written by an update of its object -/
theorem Inv.lstUpd {pins : List (Addr × Obj)} {σ : St} {H : Hp} {s : Shared} {p : Addr} {xs ys : List V} {its its' : List Value} {n n' : Nat} {f : Obj → Obj} (I : Inv X pins σ H s) (h : H p = some (.lst xs))
    (ho : s.heap.get? p = some { cls := .type "list", data := .seq its.toArray n }) (hf : f { cls := .type "list", data := .seq its.toArray n } = { cls := .type "list", data := .seq its'.toArray n' }) (r : Vals ys its') (hz : ys.length ≤ sizeLine) (t : Nat) :
    Inv X pins σ (upd H p (.lst ys)) { s with heap := s.heap.update p f, toks := t } := by
  have e : (s.heap.update p f).get? p = some { cls := .type "list", data := .seq its'.toArray n' } := by
    rw [Heap.get?_update_self f ho (by rw [hf] <;> rfl), hf]
  refine I.write (x := p) (e := p) (by rw [h]; trivial) (.inl rfl) (fun b u hb q => (Heap.get?_update_other _ _ (Ne.symm hb)).trans q) ⟨_, e⟩ ?_
  exact ⟨hz, its', n', r, e⟩
def rSetL : V → V → V → Hp → (Hp → Prop) → Prop := fun o i v H Q => ∃ p xs k j, o = .ref p ∧ i = .int k ∧ H p = some (.lst xs) ∧ ixN xs.length k = some j ∧ Q (upd H p (.lst (xs.set j v)))
theorem set_list : PSet X rSetL := by
  intro pins s σ H o i v ov iv u Q I ro ri rv h
  obtain ⟨p, xs, k, j, rfl, rfl, hp, hj, q⟩ := h
  cases ro
  obtain ⟨t, rfl⟩ := ri
  obtain ⟨its, n, r, ho, hz⟩ := I.lst hp
  obtain ⟨h1, h2, h3, h4⟩ := ixN_seq hj
  have hl := r.length
  have hn := line63
  have I' : Inv X pins σ (upd H p (.lst (xs.set j v))) { s with heap := s.heap.update p (Obj.mapSeq (·.setIfInBounds j u)) } :=
    I.lstUpd hp ho (mapSeq_set its n j u) (r.set rv j) (by rw [List.length_set]; exact hz) s.toks
  by_cases h0 : 0 ≤ k
  · have hk : k.toNat = j := by
      rw [seqIndex_of h0 h4] at h1
      exact Option.some.inj h1
    exact PySem.W.ki_setAt ho h0 (by omega) (by rw [List.size_toArray, ← hl]; exact h4) (by rw [hk]; exact ⟨_, I', q⟩)
  · have hk : (k + (its.toArray.size : Int)).toNat = j := by
      rw [seqIndex_neg (by omega) h3] at h1
      rw [List.size_toArray, ← hl]
      exact Option.some.inj h1
    exact PySem.W.ki_setBack ho (by omega) (by rw [List.size_toArray, ← hl]; exact h3) (by omega) (by rw [hk]; exact ⟨_, I', q⟩)

/-! ### slices -/
theorem slice_bounds (lo hi : Option Int) (n : Nat) : (sliceBounds lo hi none n).1 = ((HT.sIx n 0 lo : Nat) : Int) ∧ (sliceBounds lo hi none n).2.1 = ((HT.sIx n n hi : Nat) : Int) ∧ (sliceBounds lo hi none n).2.2 = 1 := by
  refine ⟨?_, ?_, rfl⟩
  · cases lo with
    | none => simp [sliceBounds, HT.sIx]
    | some i =>
      simp only [sliceBounds, HT.sIx, Option.getD_none, show (1 : Int) > 0 by decide, if_true]
      by_cases h : i < 0
      · simp only [h, if_true] <;> omega
      · simp only [h, if_false] <;> omega
  · cases hi with
    | none => simp [sliceBounds, HT.sIx]
    | some i =>
      simp only [sliceBounds, HT.sIx, Option.getD_none, show (1 : Int) > 0 by decide, if_true]
      by_cases h : i < 0
      · simp only [h, if_true] <;> omega
      · simp only [h, if_false] <;> omega
theorem slicePick_cut (its : List Value) (lo hi : Option Int) : slicePick its.toArray lo hi none = ((its.drop (HT.sIx its.length 0 lo)).take (HT.sIx its.length its.length hi - HT.sIx its.length 0 lo)).toArray := by
  obtain ⟨h1, h2, h3⟩ := slice_bounds lo hi its.toArray.size
  unfold slicePick
  rw [h1, h2, h3]
  simp only [sliceRange_one, pick_run, List.size_toArray] <;> rfl
/-- xs[lo:hi] of a list: a new list -/
def rSlL (K : PySem.W.Frag) : V → Option Int → Option Int → Hp → VK → Prop := fun x lo hi H Q => ∃ a xs, x = .ref a ∧ SqL K H a xs ∧ ∀ p, H p = none → Q (.ref p) (upd H p (.lst (cutV xs lo hi)))
theorem sl_list : SlR X (rSlL X.K) := by
  intro pins s σ H x v vl vu lo hi sl Q I rx hs pl pu h
  obtain ⟨a, xs, rfl, hx, q⟩ := h
  cases rx
  obtain ⟨its, r, ht, hz⟩ := I.list hx
  have hlen := r.length
  refine ⟨"list", _, slot_list_getitem.lookup, ht.isList.typeIs, ?_⟩
  refine wpAny_getItem_list_slice ht.isList hs pl pu .none (by simp) ?_ (by rw [List.size_toArray] <;> omega)
  rw [slicePick_cut, ← hlen]
  refine ⟨.ref s.heap.objs.size, _, I.laid (t' := s.toks) (o := .lst (cutV xs lo hi)) (fun b ob q => Heap.get?_push_of_some _ q) (Nat.le_refl _) ?_, rfl, q _ (I.hok.fresh (Nat.le_refl _))⟩
  exact ⟨Nat.le_trans (cutV_length xs lo hi) hz, _, 0, (r.drop (HT.sIx xs.length 0 lo)).take (HT.sIx xs.length xs.length hi - HT.sIx xs.length 0 lo), Heap.get?_push_size _ rfl⟩

/-! ### in, not in: flat items -/
def flatV : V → Bool
  | .non => true
  | .bl _ => true
  | .int _ => true
  | .str _ => true
  | _ => false
/-- == of flat values -/
def eqV : V → V → Bool
  | .non, .non => true
  | .bl a, .bl b => a == b
  | .bl a, .int b => (if a then 1 else 0) == b
  | .int a, .bl b => a == (if b then 1 else 0)
  | .int a, .int b => a == b
  | .str a, .str b => a == b
  | _, _ => false
theorem eqAt_V {A : Around} {s : Shared} {y x : V} {u v : Value} (ry : RelV y u) (rx : RelV x v) (fy : flatV y = true) (fx : flatV x = true) : SeqAt.EqAt A s u v (eqV y x) := by
  cases y with
  | non =>
    cases ry
    cases x with
    | non => cases rx; exact SeqAt.EqAt.same _
    | bl b => cases rx; exact SeqAt.EqAt.none_bool b
    | int b => obtain ⟨t, rfl⟩ := rx; exact SeqAt.EqAt.none_int b t
    | str b => obtain ⟨t, rfl⟩ := rx; exact SeqAt.EqAt.none_str b t
    | _ => exact absurd (show false = true from fx) Bool.false_ne_true
  | bl a =>
    cases ry
    cases x with
    | non => cases rx; exact SeqAt.EqAt.bool_none a
    | bl b => cases rx; exact SeqAt.EqAt.bool_bool a b
    | int b => obtain ⟨t, rfl⟩ := rx; exact SeqAt.EqAt.bool_int a b t
    | str b => obtain ⟨t, rfl⟩ := rx; exact SeqAt.EqAt.bool_str a b t
    | _ => exact absurd (show false = true from fx) Bool.false_ne_true
  | int a =>
    obtain ⟨t', rfl⟩ := ry
    cases x with
    | non => cases rx; exact SeqAt.EqAt.int_none a t'
    | bl b => cases rx; exact SeqAt.EqAt.int_bool a t' b
    | int b => obtain ⟨t, rfl⟩ := rx; exact SeqAt.EqAt.int_int a t' b t
    | str b => obtain ⟨t, rfl⟩ := rx; exact SeqAt.EqAt.int_str a t' b t
    | _ => exact absurd (show false = true from fx) Bool.false_ne_true
  | str a =>
    obtain ⟨t', rfl⟩ := ry
    cases x with
    | non => cases rx; exact SeqAt.EqAt.str_none a t'
    | bl b => cases rx; exact SeqAt.EqAt.str_bool a t' b
    | int b => obtain ⟨t, rfl⟩ := rx; exact SeqAt.EqAt.str_int a t' b t
    | str b => obtain ⟨t, rfl⟩ := rx; exact SeqAt.EqAt.str_str a t' b t
    | _ => exact absurd (show false = true from fx) Bool.false_ne_true
  | _ => exact absurd (show false = true from fy) Bool.false_ne_true
/-- the items' answers, read off the values (a value's own answer does not lean on its token) -/
def eqU (x : V) (u : Value) : Bool := match u with
  | .none => eqV .non x
  | .bool b => eqV (.bl b) x
  | .int i _ => eqV (.int i) x
  | .str z _ => eqV (.str z) x
  | _ => false
theorem eqU_of {x y : V} {u : Value} (r : RelV y u) (f : flatV y = true) : eqU x u = eqV y x := by
  cases y with
  | non => cases r; rfl
  | bl b => cases r; rfl
  | int i => obtain ⟨t, rfl⟩ := r; rfl
  | str z => obtain ⟨t, rfl⟩ := r; rfl
  | _ => exact absurd (show false = true from f) Bool.false_ne_true
theorem any_eqU {x : V} : ∀ {xs : List V} {us : List Value}, Vals xs us → xs.all flatV = true → us.any (eqU x) = xs.any fun y => eqV y x
  | _, _, .nil, _ => rfl
  | y :: xs, u :: us, .cons r t, f => by
    rw [List.all_cons, Bool.and_eq_true] at f
    rw [List.any_cons, List.any_cons, eqU_of r f.1, any_eqU t f.2]
theorem mem_eqAt {A : Around} {s : Shared} {x : V} {v : Value} (rx : RelV x v) (fx : flatV x = true) : ∀ {xs : List V} {us : List Value}, Vals xs us → xs.all flatV = true → ∀ u ∈ us, SeqAt.EqAt A s u v (eqU x u)
  | _, _, .nil, _ => fun u hu => by cases hu
  | y :: xs, u :: us, .cons r t, f => fun u' hu => by
    rw [List.all_cons, Bool.and_eq_true] at f
    rcases List.mem_cons.mp hu with rfl | hu
    · rw [eqU_of r f.1]; exact eqAt_V r rx f.1 fx
    · exact mem_eqAt rx fx t f.2 u' hu
def inV (x : V) (xs : List V) : Bool := xs.any fun y => eqV y x
/-- x in a list or tuple of flat items -/
def rIn (K : PySem.W.Frag) (neg : Bool) : R2 := fun x y H Q => ∃ p xs, y = .ref p ∧ (SqL K H p xs ∨ SqT K H p xs) ∧ flatV x = true ∧ xs.all flatV = true ∧ Q (.bl (if neg then !inV x xs else inV x xs)) H
theorem op_in_seq : OpR X (compareOp .In) (rIn X.K false) := by
  intro pins s σ H x y v u Q I rx ry h
  obtain ⟨p, xs, rfl, hq, fx, fs, q⟩ := h
  cases ry
  rcases hq with hq | hq
  · obtain ⟨its, r, pl, hz⟩ := I.list hq
    refine SeqAt.in_listAt (eqU x) pl.isList (fun w hw => mem_eqAt rx fx r fs w (by simpa using hw)) ⟨.bl _, H, I, rfl, ?_⟩
    rw [show its.toArray.any (eqU x) = its.any (eqU x) by simp, any_eqU r fs]
    exact q
  · obtain ⟨its, r, pl, hz⟩ := I.tuple hq
    refine SeqAt.in_tupleAt (eqU x) pl (fun w hw => mem_eqAt rx fx r fs w (by simpa using hw)) ⟨.bl _, H, I, rfl, ?_⟩
    rw [show its.toArray.any (eqU x) = its.any (eqU x) by simp, any_eqU r fs]
    exact q
theorem op_notIn_seq : OpR X (compareOp .NotIn) (rIn X.K true) := by
  intro pins s σ H x y v u Q I rx ry h
  obtain ⟨p, xs, rfl, hq, fx, fs, q⟩ := h
  cases ry
  rcases hq with hq | hq
  · obtain ⟨its, r, pl, hz⟩ := I.list hq
    refine SeqAt.notIn_listAt (eqU x) pl.isList (fun w hw => mem_eqAt rx fx r fs w (by simpa using hw)) ⟨.bl _, H, I, rfl, ?_⟩
    rw [show its.toArray.any (eqU x) = its.any (eqU x) by simp, any_eqU r fs]
    exact q
  · obtain ⟨its, r, pl, hz⟩ := I.tuple hq
    refine SeqAt.notIn_tupleAt (eqU x) pl (fun w hw => mem_eqAt rx fx r fs w (by simpa using hw)) ⟨.bl _, H, I, rfl, ?_⟩
    rw [show its.toArray.any (eqU x) = its.any (eqU x) by simp, any_eqU r fs]
    exact q
theorem op_notIn_str : OpR X (compareOp .NotIn) (fun x y H Q => ∃ i j, x = .str i ∧ y = .str j ∧ Q (.bl (!(!(Builtin.Str.occurrences j i 0 j.length 1).isEmpty))) H) := by
  intro pins s σ H x y v u Q I rx ry h
  obtain ⟨i, j, rfl, rfl, q⟩ := h
  obtain ⟨t, rfl⟩ := rx
  obtain ⟨t', rfl⟩ := ry
  exact notIn_str ⟨.bl _, H, I, rfl, q⟩

/-! ### len, list(x), tuple(x) of any list or tuple that is read -/
theorem call_len_seq : CallR X (.builtin "len") (fun xs H Q => ∃ p ys, xs = [.ref p] ∧ (SqL X.K H p ys ∨ SqT X.K H p ys) ∧ Q (.int ys.length) H) := by
  intro pins s σ H xs us Q I r h
  obtain ⟨p, ys, rfl, hq, q⟩ := h
  obtain ⟨u, rfl, rx⟩ := vals1 r
  cases rx
  have hn := line63
  rcases hq with hq | hq
  · obtain ⟨its, r', pl, hz⟩ := I.list hq
    have hlen := r'.length
    exact Calls.call_len_list pl.isList (by simp only [List.size_toArray] <;> omega) ⟨.int ys.length, H, I.tok _, ⟨s.toks + 1, by rw [List.size_toArray, hlen]⟩, q⟩
  · obtain ⟨its, r', pl, hz⟩ := I.tuple hq
    have hlen := r'.length
    exact len_tuple pl (by simp only [List.size_toArray] <;> omega) ⟨.int ys.length, H, I.tok _, ⟨s.toks + 1, by rw [List.size_toArray, hlen]⟩, q⟩
theorem call_len_str : CallR X (.builtin "len") (fun xs H Q => ∃ z, xs = [.str z] ∧ z.length ≤ sizeLine ∧ Q (.int z.length) H) := by
  intro pins s σ H xs us Q I r h
  obtain ⟨z, rfl, hz, q⟩ := h
  obtain ⟨u, rfl, t, rfl⟩ := vals1 r
  have hn := line63
  exact len_str (by omega) ⟨.int z.length, H, I.tok _, ⟨_, rfl⟩, q⟩
theorem CallR.or {f : Value} {r r' : List V → Hp → VK → Prop} (h : CallR X f r) (h' : CallR X f r') : CallR X f (fun xs H Q => r xs H Q ∨ r' xs H Q) := by
  intro pins s σ H xs us Q I rs q
  rcases q with q | q
  · exact h pins s σ H xs us Q I rs q
  · exact h' pins s σ H xs us Q I rs q
theorem call_list_of : CallR X (.type "list") (fun xs H Q => ∃ p ys, xs = [.ref p] ∧ (SqL X.K H p ys ∨ SqT X.K H p ys) ∧ ∀ l, H l = none → Q (.ref l) (upd H l (.lst ys))) := by
  intro pins s σ H xs us Q I r h
  obtain ⟨p, ys, rfl, hq, q⟩ := h
  obtain ⟨u, rfl, rx⟩ := vals1 r
  cases rx
  have fin : ∀ (its : List Value), Vals ys its → ys.length ≤ sizeLine → ∀ (h' : Heap) (c' : Nat), (∀ b o', s.heap.get? b = some o' → h'.get? b = some o') →
      h'.get? s.heap.objs.size = some { cls := .type "list", dict := none, data := .seq its.toArray c', slots := #[] } → EP X pins σ Q (.ref s.heap.objs.size) { s with heap := h' } := fun its r' hz h' c' kp e =>
    ⟨.ref s.heap.objs.size, _, I.laid (t' := s.toks) kp (Nat.le_refl _) (show ObjOk X.prog X.w _ h' _ (.lst ys) from ⟨hz, its, c', r', e⟩), rfl, q _ (I.hok.fresh (Nat.le_refl _))⟩
  rcases hq with hq | hq
  · obtain ⟨its, r', pl, hz⟩ := I.list hq
    have hlen := r'.length
    obtain ⟨o, ho, hc, n, hd⟩ := pl.isList
    exact call_list_seq p (.inl rfl) ho hc hd (fun h' c' kp e => fin its r' hz h' c' kp e) (by simp only [List.size_toArray] <;> omega)
  · obtain ⟨its, r', pl, hz⟩ := I.tuple hq
    have hlen := r'.length
    obtain ⟨o, ho, hc, n, hd⟩ := pl
    exact call_list_seq p (.inr rfl) ho hc hd (fun h' c' kp e => fin its r' hz h' c' kp e) (by simp only [List.size_toArray] <;> omega)
theorem call_tuple_of : CallR X (.type "tuple") (fun xs H Q => ∃ p ys, xs = [.ref p] ∧ ((SqL X.K H p ys ∧ ∀ l, H l = none → Q (.ref l) (upd H l (.tup ys))) ∨ (SqT X.K H p ys ∧ Q (.ref p) H))) := by
  intro pins s σ H xs us Q I r h
  obtain ⟨p, ys, rfl, h⟩ := h
  obtain ⟨u, rfl, rx⟩ := vals1 r
  cases rx
  rcases h with ⟨hq, q⟩ | ⟨hq, q⟩
  · obtain ⟨its, r', pl, hz⟩ := I.list hq
    have hlen := r'.length
    refine call_tuple_list pl.isList (fun h' kp => ?_) (by simp only [List.size_toArray] <;> omega)
    have I1 : Inv X pins σ H { s with heap := h' } := I.kept (t' := s.toks) kp
    have I2 : Inv X pins σ (upd H h'.objs.size (.tup ys)) { s with heap := h'.push { cls := .type "tuple", data := .seq its.toArray } } :=
      I1.laid (t' := s.toks) (fun b o e => Heap.get?_push_of_some _ e) (Nat.le_refl _) (show ObjOk X.prog X.w _ _ _ (.tup ys) from ⟨hz, its, r', IsTup.new _ _⟩)
    exact ⟨.ref h'.objs.size, _, I2, rfl, q _ (I1.hok.fresh (Nat.le_refl _))⟩
  · obtain ⟨its, r', pl, hz⟩ := I.tuple hq
    exact call_tuple_same pl ⟨.ref p, H, I, rfl, q⟩

/-! ### the call of a builtin's method: o.m(..) -/
/-- the value is of that builtin type -/
def tyV (K : PySem.W.Frag) (T : String) (x : V) (H : Hp) : Prop := match x with
  | .str _ => T = "str"
  | .int _ => T = "int"
  | .ref p => (T = "list" ∧ ∃ xs, SqL K H p xs) ∨ (T = "tuple" ∧ ∃ o, K.lookup p = some o ∧ o.cls = .type "tuple" ∧ o.dict = none) ∨
      (T = "dict" ∧ ((∃ kvs, H p = some (.dK kvs)) ∨ ∃ kvs, H p = some (.dT kvs))) ∨ (T = "set" ∧ ∃ S n, H p = some (.set S n))
  | _ => False
theorem tyV_is {pins : List (Addr × Obj)} {σ : St} {H : Hp} {s : Shared} {T : String} {x : V} {v : Value} (I : Inv X pins σ H s) (r : RelV x v) (ty : tyV X.K T x H) :
    s.TypeIs v T ∧ ∀ a, v = .ref a → ∃ ob, s.heap.get? a = some ob ∧ ob.dict = none := by
  cases x with
  | str z =>
    obtain ⟨t, rfl⟩ := r
    cases (show T = "str" from ty)
    exact ⟨typeIs_str s z t, fun _ e => nomatch e⟩
  | int i =>
    obtain ⟨t, rfl⟩ := r
    cases (show T = "int" from ty)
    exact ⟨typeIs_int s i t, fun _ e => nomatch e⟩
  | ref p =>
    cases r
    rcases ty with ⟨rfl, xs, hq⟩ | ⟨rfl, o, hk, hc, hd⟩ | ⟨rfl, hk⟩ | ⟨rfl, S, n, hk⟩
    · obtain ⟨its, _, pl, _⟩ := I.list hq
      refine ⟨pl.isList.typeIs, fun a e => ?_⟩
      cases e
      obtain ⟨o, n, e, c, hd, _⟩ := pl
      exact ⟨o, e, hd⟩
    · refine ⟨⟨o, I.kIn p o hk, hc⟩, fun a e => ?_⟩
      cases e
      exact ⟨o, I.kIn _ o hk, hd⟩
    · have z : ∃ o, s.heap.get? p = some o ∧ o.ExactDict := by
        rcases hk with ⟨kvs, hk⟩ | ⟨kvs, hk⟩
        · obtain ⟨_, _, _, _, o, _, _, e, ex, _⟩ := I.hok p _ hk
          exact ⟨o, e, ex⟩
        · obtain ⟨_, _, _, _, o, _, _, e, ex, _⟩ := I.hok p _ hk
          exact ⟨o, e, ex⟩
      obtain ⟨o, e, ex⟩ := z
      refine ⟨⟨o, e, ex.1⟩, fun a e2 => ?_⟩
      cases e2
      exact ⟨o, e, ex.2.1⟩
    · obtain ⟨o, _, _, _, e, ex, _⟩ := I.hok p _ hk
      refine ⟨⟨o, e, ex.1⟩, fun a e2 => ?_⟩
      cases e2
      exact ⟨o, e, ex.2.1⟩
  | _ => exact False.elim ty
def tBM0 (K : PySem.W.Frag) (T : String) (r : V → List V → Hp → VK → Prop) (to : TE) : TE := fun σ H Q => to σ H fun x H1 => tyV K T x H1 ∧ r x [] H1 Q
def tBM (K : PySem.W.Frag) (T : String) (r : V → List V → Hp → VK → Prop) (to : TE) (t : TA) : TE := fun σ H Q => to σ H fun x H1 => tyV K T x H1 ∧ t σ H1 fun xs H2 => r x xs H2 Q
variable {o e : Expr} {es : List Expr} {to : TE} {t : TA} {name : Str} {apos cpos : Pos} {T id : String} {r : V → List V → Hp → VK → Prop}
theorem pe_bm0 (pa : PlainAttrs T) (slot : Slot T name id) (hty : typeOf (.builtin id) = pure (.type "method_descriptor")) (hm : MtR X id r) (ho : PE X o to)
    (hbase : attributeBase o name X.env (eval o X.env) = eval o X.env := by rfl) (hline : (apos.endLine == cpos.line) = true := by rfl) : PE X (.Call (.Attribute o name apos) [] [] cpos) (tBM0 X.K T r to) := by
  intro pins s σ H Q I h
  refine wpAny_Call_method0_late hbase hline (thn (ho pins s σ H _ I h) fun v s1 ⟨x, H1, I1, r1, ty, q1⟩ => ?_)
  obtain ⟨h1, h2⟩ := tyV_is I1 r1 ty
  exact ⟨T, id, pa, slot, hty, h1, h2, Calls.callWith_builtin rfl (PySem.evalArgs_none (hm pins s1 σ H1 x [] v [] Q I1 r1 .nil q1))⟩
theorem pe_bm (pa : PlainAttrs T) (slot : Slot T name id) (hty : typeOf (.builtin id) = pure (.type "method_descriptor")) (hm : MtR X id r) (ho : PE X o to) (ha : PA X (e :: es) t)
    (hbase : attributeBase o name X.env (eval o X.env) = eval o X.env := by rfl)
    (hfew : ((backTo cpos (starEach (e :: es) X.env)).all (fun x => !x.1) && (backToKw cpos (keywordEach [] X.env)).all (fun x => x.1.isSome)
      && decide ((e :: es).length + ([] : List Keyword).length + (if ([] : List Keyword).isEmpty then 0 else 1) < 30)) = true := by rfl)
    (hline : (apos.endLine == cpos.line) = true := by rfl) (hs : starEach (e :: es) X.env = (false, eval e X.env) :: starEach es X.env := by rfl) (hplain : (backTo cpos (starEach es X.env)).any (·.1) = false := by rfl) :
    PE X (.Call (.Attribute o name apos) (e :: es) [] cpos) (tBM X.K T r to t) := by
  intro pins s σ H Q I h
  refine wpAny_Call_method_late hbase hfew hline rfl (thn (ho pins s σ H _ I h) fun v s1 ⟨x, H1, I1, r1, ty, q1⟩ => ?_)
  obtain ⟨h1, h2⟩ := tyV_is I1 r1 ty
  refine ⟨T, id, pa, slot, hty, h1, h2, ?_⟩
  have hA := ha cpos pins s1 σ H1 _ I1 q1
  rw [hs] at hA ⊢
  refine Calls.callWith_builtin (by show (false || (backTo cpos (starEach es X.env)).any (·.1)) = false; rw [hplain] <;> rfl) (Calls.evalArgs_plain ?_)
  exact thn hA fun us s2 ⟨vs, H2, I2, r2, q2⟩ => hm pins s2 σ H2 x vs v us Q I2 r1 r2 q2
/- xs.append(e), list.index on a module's tuple .. are MtR facts of 06m -/
end
end L2

namespace L2
open PySem PySem.Spec PyProof.Rows

def MtM (X : Cx) (id : String) (r : V → List V → Hp → VK → Prop) : Prop :=
  ∀ (pins : List (Addr × Obj)) (s : Shared) (σ : St) (H : Hp) (x : V) (xs : List V) (v : Value) (us : List Value) (Q : VK), Inv X pins σ H s → RelV x v → Vals xs us → r x xs H Q →
    wpAny (model X.prog X.w) X.A (call (.builtin id) (v :: us)) (EP X pins σ Q) X.xe s

/-! ### lists of values -/
theorem Vals.one : ∀ {x : V} {us : List Value}, Vals [x] us → ∃ u, us = [u] ∧ RelV x u
  | _, _, .cons r .nil => ⟨_, rfl, r⟩
theorem Vals.two : ∀ {x y : V} {us : List Value}, Vals [x, y] us → ∃ u v, us = [u, v] ∧ RelV x u ∧ RelV y v
  | _, _, _, .cons r (.cons q .nil) => ⟨_, _, rfl, r, q⟩
theorem Vals.zero : ∀ {us : List Value}, Vals [] us → us = []
  | _, .nil => rfl
theorem Vals.dropLast {xs : List V} {us : List Value} (h : Vals xs us) : Vals xs.dropLast us.dropLast := by
  induction h with
  | nil => exact .nil
  | cons r t ih =>
    cases t with
    | nil => exact .nil
    | cons q t' => exact .cons r ih
theorem Vals.eraseIdx : ∀ {xs : List V} {us : List Value} (i : Nat), Vals xs us → Vals (xs.eraseIdx i) (us.eraseIdx i)
  | _, _, _, .nil => .nil
  | _, _, 0, .cons _ t => t
  | _, _, i + 1, .cons r t => .cons r (Vals.eraseIdx i t)
theorem Vals.reverse {xs : List V} {us : List Value} (h : Vals xs us) : Vals xs.reverse us.reverse := by
  induction h with
  | nil => exact .nil
  | cons r t ih => rw [List.reverse_cons, List.reverse_cons]; exact Vals.append ih (.cons r .nil)
theorem Vals.rep {xs : List V} {us : List Value} (h : Vals xs us) : ∀ k : Nat, Vals (List.replicate k xs).flatten (List.replicate k us).flatten
  | 0 => .nil
  | k + 1 => by
    rw [List.replicate_succ, List.replicate_succ, List.flatten_cons, List.flatten_cons]
    exact Vals.append h (Vals.rep h k)
theorem erase_last {α : Type} (l : List α) : l.eraseIdx (l.length - 1) = l.dropLast := by
  induction l with
  | nil => rfl
  | cons a r ih =>
    cases r with
    | nil => rfl
    | cons b r =>
      have e : (a :: b :: r).length - 1 = ((b :: r).length - 1) + 1 := by
        have h1 : (a :: b :: r).length = r.length + 2 := rfl
        have h2 : (b :: r).length = r.length + 1 := rfl
        omega
      rw [e, List.eraseIdx_cons_succ, ih]
      all_goals rfl
theorem len_erase {α : Type} : ∀ (l : List α) (i : Nat), (l.eraseIdx i).length ≤ l.length
  | [], _ => Nat.le_refl _
  | _ :: _, 0 => Nat.le_succ _
  | _ :: r, i + 1 => Nat.succ_le_succ (len_erase r i)
theorem foldl_rep (its : List Value) : ∀ (k : Nat) (acc : List Value),
    List.foldl (fun x1 x2 => x1 ++ x2) acc.toArray (List.replicate k its.toArray) = (acc ++ (List.replicate k its).flatten).toArray
  | 0, acc => by simp
  | k + 1, acc => by
    have e : acc.toArray ++ its.toArray = (acc ++ its).toArray := by simp
    have e2 : (acc ++ its) ++ (List.replicate k its).flatten = acc ++ (List.replicate (k + 1) its).flatten := by
      rw [List.replicate_succ, List.flatten_cons, List.append_assoc]
    rw [← e2, ← foldl_rep its k (acc ++ its), ← e, List.replicate_succ, List.foldl_cons]

section
variable {X : Cx} {pins : List (Addr × Obj)} {σ : St} {H : Hp} {s : Shared} {l b : Addr} {xs ys zs : List V}

/-! ### the two steps: a tracked list is rewritten, a new list is laid -/
theorem Inv.lset {its its' : List Value} {n : Nat} {f : Array Value → Array Value} {t' : Nat} (I : Inv X pins σ H s) (hH : H l = some (.lst xs))
    (e : s.heap.get? l = some { cls := .type "list", data := .seq its.toArray n }) (hf : f its.toArray = its'.toArray) (hv : Vals ys its') (hz : ys.length ≤ sizeLine) :
    Inv X pins σ (upd H l (.lst ys)) { s with heap := s.heap.update l (Obj.mapSeq f), toks := t' } := by
  have q := PySem.IsL.update e f
  rw [hf] at q
  refine I.write (x := l) (e := l) (by rw [hH]; exact trivial) (.inl rfl) (fun b' u hb hu => (Heap.get?_update_other s.heap (Obj.mapSeq f) (Ne.symm hb)).trans hu) ⟨_, q⟩ ?_
  exact ⟨hz, its', _, hv, q⟩
theorem Inv.lnew {its : List Value} {t' : Nat} (I : Inv X pins σ H s) (hv : Vals ys its) (hz : ys.length ≤ sizeLine) :
    Inv X pins σ (upd H s.heap.objs.size (.lst ys)) { s with heap := s.heap.push { cls := .type "list", data := .seq its.toArray }, toks := t' } :=
  I.laid (fun _ _ q => Heap.get?_push_of_some _ q) (Nat.le_refl _) ⟨hz, its, 0, hv, Heap.get?_push_size _ rfl⟩
theorem Inv.fresh (I : Inv X pins σ H s) : H s.heap.objs.size = none := I.hok.fresh (Nat.le_refl _)
theorem Inv.lstM (I : Inv X pins σ H s) (hH : H l = some (.lst xs)) : xs.length ≤ sizeLine ∧ ∃ (its : List Value) (n : Nat), Vals xs its ∧ xs.length = its.length ∧ s.heap.get? l = some { cls := .type "list", data := .seq its.toArray n } := by
  obtain ⟨z, its, n, r, e⟩ := I.hok l _ hH
  exact ⟨z, its, n, r, r.length, e⟩

theorem notLongL {n : Nat} (h : n ≤ sizeLine) : Builtin.List.listTooLong n = false := by
  unfold Builtin.List.listTooLong
  exact decide_eq_false (by omega)
end

section
variable {X : Cx}

/-! ### methods -/
def rAppend : V → List V → Hp → VK → Prop := fun x vs H Q => ∃ l xs y, x = .ref l ∧ vs = [y] ∧ H l = some (.lst xs) ∧ xs.length < sizeLine ∧ Q .non (upd H l (.lst (xs ++ [y])))
theorem mt_append : MtM X "list.append" rAppend := by
  intro pins s σ H x vs v us Q I rx rv h
  obtain ⟨l, xs, y, rfl, rfl, hH, hz, q⟩ := h
  cases rx
  obtain ⟨u, rfl, ru⟩ := rv.one
  obtain ⟨z, its, n, r, hl, e⟩ := I.lstM hH
  refine call_meets F.slot_list_append ⟨_, e, rfl⟩ F.entry_list_append (F.args_list_append_2 _ _) (PySem.list_append l its.toArray n u (by rw [List.size_toArray]; omega)) ⟨e, ?_⟩
  refine ⟨.non, _, I.lset (its' := its ++ [u]) hH e (by simp) (r.append (.cons ru .nil)) ?_, rfl, q⟩
  rw [List.length_append, List.length_singleton]
  omega

def rExtend : V → List V → Hp → VK → Prop := fun x vs H Q => ∃ l b xs zs, x = .ref l ∧ vs = [.ref b] ∧ H l = some (.lst xs) ∧ H b = some (.lst zs) ∧ xs.length + zs.length ≤ sizeLine ∧ Q .non (upd H l (.lst (xs ++ zs)))
theorem mt_extend : MtM X "list.extend" rExtend := by
  intro pins s σ H x vs v us Q I rx rv h
  obtain ⟨l, b, xs, zs, rfl, rfl, hH, hB, hz, q⟩ := h
  cases rx
  obtain ⟨u, rfl, ru⟩ := rv.one
  cases ru
  obtain ⟨z, its, n, r, hl, e⟩ := I.lstM hH
  obtain ⟨z2, its2, n2, r2, hl2, e2⟩ := I.lstM hB
  have hsz : its.toArray.size + its2.toArray.size ≤ sizeLine := by rw [List.size_toArray, List.size_toArray]; omega
  have hlong : ¬ (!its.toArray.isEmpty && Builtin.List.listTooLong (its.toArray.size + its2.toArray.size)) = true := by
    rw [notLongL hsz, Bool.and_false]
    exact Bool.false_ne_true
  refine call_meets F.slot_list_extend ⟨_, e, rfl⟩ F.entry_list_extend (F.args_list_extend_2 _ _)
    (AutoSeq1.list_extend_list_list_0 l its.toArray n b its2.toArray n2 hlong (by rw [List.size_toArray]; omega) (by omega)) ⟨e, e2, ?_⟩
  refine ⟨.non, _, I.lset (its' := its ++ its2) hH e (by simp) (r.append r2) ?_, rfl, q⟩
  rw [List.length_append]
  omega

def rPop : V → List V → Hp → VK → Prop := fun x vs H Q => ∃ l xs y, x = .ref l ∧ vs = [] ∧ H l = some (.lst xs) ∧ xs[xs.length - 1]? = some y ∧ Q y (upd H l (.lst xs.dropLast))
theorem mt_pop : MtM X "list.pop" rPop := by
  intro pins s σ H x vs v us Q I rx rv h
  obtain ⟨l, xs, y, rfl, rfl, hH, hy, q⟩ := h
  cases rx
  have hus := rv.zero
  subst hus
  obtain ⟨z, its, n, r, hl, e⟩ := I.lstM hH
  obtain ⟨u, hu, ru⟩ := r.get hy
  have hy' : its.toArray[its.toArray.size - 1]? = some u := by
    show its.toArray[its.length - 1]? = some u
    rw [← Array.getElem?_toList, ← hl]
    exact hu
  refine call_meets F.slot_list_pop ⟨_, e, rfl⟩ F.entry_list_pop (F.args_list_pop_1 _) (MeetsSeq.list_pop_last l its.toArray n u hy' (by rw [List.size_toArray]; omega)) ⟨e, ?_⟩
  refine ⟨y, _, I.lset (its' := its.dropLast) hH e ?_ r.dropLast ?_, ru, q⟩
  · show its.toArray.eraseIdxIfInBounds (its.toArray.size - 1) = its.dropLast.toArray
    rw [List.size_toArray, List.eraseIdxIfInBounds_toArray, erase_last]
  · rw [List.length_dropLast]
    omega

def rPopAt : V → List V → Hp → VK → Prop := fun x vs H Q => ∃ l xs i k y, x = .ref l ∧ vs = [.int i] ∧ H l = some (.lst xs) ∧ -(2 ^ 63) ≤ i ∧ i < 2 ^ 63 ∧ seqIndex? i xs.length = some k ∧ xs[k]? = some y ∧ Q y (upd H l (.lst (xs.eraseIdx k)))
theorem mt_popAt : MtM X "list.pop" rPopAt := by
  intro pins s σ H x vs v us Q I rx rv h
  obtain ⟨l, xs, i, k, y, rfl, rfl, hH, h1, h2, hk, hy, q⟩ := h
  cases rx
  obtain ⟨u, rfl, ru⟩ := rv.one
  obtain ⟨t, rfl⟩ := ru
  obtain ⟨z, its, n, r, hl, e⟩ := I.lstM hH
  obtain ⟨w, hw, rw'⟩ := r.get hy
  refine call_meets F.slot_list_pop ⟨_, e, rfl⟩ F.entry_list_pop (F.args_list_pop_2 _ _)
    (MeetsSeq.list_pop_at l its.toArray n i t k w (fitsIndex_both h1 h2) (by rw [List.size_toArray, ← hl]; exact hk) (by rw [← Array.getElem?_toList]; exact hw) (by rw [List.size_toArray]; omega)) ⟨e, ?_⟩
  refine ⟨y, _, I.lset (its' := its.eraseIdx k) hH e ?_ (r.eraseIdx k) ?_, rw', q⟩
  · show its.toArray.eraseIdxIfInBounds k = (its.eraseIdx k).toArray
    rw [List.eraseIdxIfInBounds_toArray]
  · have := len_erase xs k
    omega

def rReverse : V → List V → Hp → VK → Prop := fun x vs H Q => ∃ l xs, x = .ref l ∧ vs = [] ∧ H l = some (.lst xs) ∧ Q .non (upd H l (.lst xs.reverse))
theorem mt_reverse : MtM X "list.reverse" rReverse := by
  intro pins s σ H x vs v us Q I rx rv h
  obtain ⟨l, xs, rfl, rfl, hH, q⟩ := h
  cases rx
  have hus := rv.zero
  subst hus
  obtain ⟨z, its, n, r, hl, e⟩ := I.lstM hH
  refine call_meets F.slot_list_reverse ⟨_, e, rfl⟩ F.entry_list_reverse (F.args_list_reverse_1 _) (AutoSeq1.list_reverse_list_0 l its.toArray n (by rw [List.size_toArray]; omega)) ⟨e, ?_⟩
  refine ⟨.non, _, I.lset (its' := its.reverse) hH e (by simp) r.reverse ?_, rfl, q⟩
  rw [List.length_reverse]
  omega

def rClear : V → List V → Hp → VK → Prop := fun x vs H Q => ∃ l xs, x = .ref l ∧ vs = [] ∧ H l = some (.lst xs) ∧ Q .non (upd H l (.lst []))
theorem mt_clear : MtM X "list.clear" rClear := by
  intro pins s σ H x vs v us Q I rx rv h
  obtain ⟨l, xs, rfl, rfl, hH, q⟩ := h
  cases rx
  have hus := rv.zero
  subst hus
  obtain ⟨z, its, n, r, hl, e⟩ := I.lstM hH
  refine call_meets F.slot_list_clear ⟨_, e, rfl⟩ F.entry_list_clear (F.args_list_clear_1 _) (AutoSeq1.list_clear_list_0 l its.toArray n (by rw [List.size_toArray]; omega)) ⟨e, ?_⟩
  exact ⟨.non, _, I.lset (its' := []) (ys := []) hH e rfl .nil (Nat.zero_le _), rfl, q⟩

/-! ### list + list, list += list, list * int -/
def rCat : R2 := fun x y H Q => ∃ l b xs zs, x = .ref l ∧ y = .ref b ∧ H l = some (.lst xs) ∧ H b = some (.lst zs) ∧ xs.length + zs.length ≤ sizeLine ∧ ∀ p, H p = none → Q (.ref p) (upd H p (.lst (xs ++ zs)))
theorem op_cat : OpR X (binaryOp .Add) rCat := by
  intro pins s σ H x y v u Q I rx ry h
  obtain ⟨l, b, xs, zs, rfl, rfl, hH, hB, hz, q⟩ := h
  cases rx
  cases ry
  obtain ⟨z, its, n, r, hl, e⟩ := I.lstM hH
  obtain ⟨z2, its2, n2, r2, hl2, e2⟩ := I.lstM hB
  refine PySem.P.add_list e e2 ?_ (by rw [List.size_toArray, List.size_toArray]; omega)
  have ea : its.toArray ++ its2.toArray = (its ++ its2).toArray := by simp
  rw [ea]
  exact ⟨.ref _, _, I.lnew (t' := s.toks) (r.append r2) (by rw [List.length_append]; omega), rfl, q _ I.fresh⟩
/-- a list times an int (a negative one is nothing) -/
def rRep : R2 := fun x y H Q => ∃ l k xs, x = .ref l ∧ y = .int k ∧ H l = some (.lst xs) ∧ -(2 ^ 63) ≤ k ∧ k < 2 ^ 63 ∧ xs.length * k.toNat ≤ sizeLine ∧
  ∀ p, H p = none → Q (.ref p) (upd H p (.lst (List.replicate k.toNat xs).flatten))
theorem len_rep {α : Type} (xs : List α) (k : Nat) : (List.replicate k xs).flatten.length = k * xs.length := by
  induction k with
  | zero => simp
  | succ k ih => rw [List.replicate_succ, List.flatten_cons, List.length_append, ih, Nat.succ_mul, Nat.add_comm]
theorem op_rep : OpR X (binaryOp .Mult) rRep := by
  intro pins s σ H x y v u Q I rx ry h
  obtain ⟨l, k, xs, rfl, rfl, hH, h1, h2, hz, q⟩ := h
  cases rx
  obtain ⟨t, rfl⟩ := ry
  obtain ⟨z, its, n, r, hl, e⟩ := I.lstM hH
  have hlen : its.toArray.size * k.toNat ≤ sizeLine := by rw [List.size_toArray, ← hl]; exact hz
  have hcap : ¬ its.toArray.size * k.toNat > (2 ^ 63 - 1) / 8 := by
    have : (sizeLine : Nat) ≤ (2 ^ 63 - 1) / 8 := by decide
    omega
  have hfit : ¬ (!Builtin.List.listFitsIndex k) = true := by
    rw [fitsIndex_both h1 h2]
    exact Bool.false_ne_true
  have hlong : ¬ Builtin.List.listTooLong (its.toArray.size * k.toNat) = true := by
    rw [notLongL hlen]
    exact Bool.false_ne_true
  have hnew : List.foldl (fun x1 x2 => x1 ++ x2) #[] (List.replicate (if its.toArray.isEmpty = true then 0 else k.toNat) its.toArray) = (List.replicate k.toNat its).flatten.toArray := by
    have f0 : ∀ m : Nat, List.foldl (fun x1 x2 => x1 ++ x2) #[] (List.replicate m its.toArray) = (List.replicate m its).flatten.toArray := fun m => by
      have := foldl_rep its m []
      rw [List.nil_append] at this
      exact this
    rw [f0]
    cases its with
    | nil => simp
    | cons a r' => rw [if_neg (by simp)]
  refine wpAny_binaryOp_repeat_ref (T := "list") (U := "int") (by decide) ⟨_, e, rfl⟩ (fun s' => typeIs_int s' k t) noFill_list_mul F.fills_int_mul F.slot_int_rmul repeat_list F.slot_int_index.lookup
    (call_meets F.slot_int_rmul (typeIs_int s k t) F.entry_int_rmul (F.args_int_rmul_2 _ _) (int___rmul___int_list k t l its.toArray n)
      ⟨e, rfl, ⟨_, e, rfl⟩, call_meets F.slot_list_mul ⟨_, e, rfl⟩ F.entry_list_mul (F.args_list_mul_2 _ _) (AutoListH.list___mul___list_int_3 l its.toArray n k t hfit hcap hlong) ⟨e, ?_⟩⟩)
  rw [hnew]
  exact ⟨.ref _, _, I.lnew (t' := s.toks) (r.rep k.toNat) (by rw [len_rep, Nat.mul_comm]; exact hz), rfl, q _ I.fresh⟩

/-! ### del xs[i] -/
theorem del_list {pins : List (Addr × Obj)} {s : Shared} {σ : St} {H : Hp} {l : Addr} {xs : List V} {i : Int} {t : Tok} {k : Nat} {Q : Unit → Shared → Prop} (I : Inv X pins σ H s) (hH : H l = some (.lst xs))
    (h1 : -(2 ^ 63) ≤ i) (h2 : i < 2 ^ 63) (hk : seqIndex? i xs.length = some k) (h : ∀ s', Inv X pins σ (upd H l (.lst (xs.eraseIdx k))) s' → Q () s') :
    wpAny (model X.prog X.w) X.A (delItem (.ref l) (.int i t)) Q X.xe s := by
  obtain ⟨z, its, n, r, hl, e⟩ := I.lstM hH
  refine PySem.P.delItem_list (k := k) e (fitsIndex_both h1 h2) (by rw [List.size_toArray, ← hl]; exact hk) (h _ ?_) (by rw [List.size_toArray]; omega)
  refine I.lset (its' := its.eraseIdx k) (t' := s.toks) hH e ?_ (r.eraseIdx k) ?_
  · show its.toArray.eraseIdxIfInBounds k = (its.eraseIdx k).toArray
    rw [List.eraseIdxIfInBounds_toArray]
  · have := len_erase xs k
    omega
end

/-! ### xs[a:b] = ys -/
section
variable {prog : Program} {w : World} {A : Around} {E : Value → Shared → Prop} {s : Shared}
theorem splice_eq (its its2 : List Value) (a c : Nat) : its.toArray.extract 0 a ++ its2.toArray ++ its.toArray.extract c its.toArray.size = (its.take a ++ its2 ++ its.drop c).toArray := by
  apply Array.toList_inj.mp
  first
    | (simp
       exact List.take_of_length_le (by simp))
    | simp [List.take_of_length_le]
    | simp
theorem bounds_run {a c n : Nat} (hac : a ≤ c) (hc : c ≤ n) : sliceBounds (some (a : Int)) (some (c : Int)) none n = ((a : Int), (c : Int), 1) := by
  simp only [sliceBounds, Option.getD_none]
  have h1 : ¬ ((a : Int) < 0) := by omega
  have h2 : ¬ ((c : Int) < 0) := by omega
  simp only [h1, h2, if_false, show (1 : Int) > 0 by decide, if_true]
  congr 1
  · omega
  · congr 1; omega
set_option maxRecDepth 100000 in
/-- list.__setitem__ with a slice of step one and another list -/
theorem setItem_slice {l b sl : Addr} {items new : Array Value} {n n2 : Nat} {vl vu : Value} {a c : Nat} {Q : Unit → Shared → Prop}
    (e : s.heap.get? l = some { cls := .type "list", data := .seq items n }) (e2 : s.heap.get? b = some { cls := .type "list", data := .seq new n2 }) (hne : l ≠ b)
    (hs : s.heap.IsSliceOf sl vl vu .none) (pl : IsPart vl (some (a : Int))) (pu : IsPart vu (some (c : Int))) (hac : a ≤ c) (hc : c ≤ items.size)
    (hsz : items.size + new.size ≤ sizeLine) (h : Q () { s with heap := s.heap.update l (Obj.mapSeq fun xs => xs.extract 0 a ++ new ++ xs.extract c xs.size) }) :
    wpAny (model prog w) A (setItem (.ref l) (.ref sl) (.ref b)) Q E s := by
  have hl : s.heap.IsList l items := PySem.IsL.isList e
  have hb : s.heap.IsList b new := PySem.IsL.isList e2
  obtain ⟨os, hos, hcs, hds⟩ := id hs
  have hTs : s.TypeIs (.ref sl) "slice" := ⟨os, hos, hcs⟩
  have hstep : ¬ ((rawPart none == rawInt 0) = true) := Bool.false_ne_true
  have hsame : Builtin.List.listSameRef (.ref l) (.ref b) = false := by
    unfold Builtin.List.listSameRef
    exact beq_eq_false_iff_ne.mpr hne
  have hmax : (max (a : Int) (c : Int)).toNat = c := by omega
  have hz' : ((fun xs : Array Value => xs.extract 0 a ++ new ++ xs.extract c xs.size) items).size ≤ sizeLine + 1 := by
    simp only [Array.size_append, Array.size_extract]
    omega
  unfold setItem
  try with_reducible refine wpAny_holding ?_
  first | refine wpAny_bind (wpAny_pure ?_) | skip
  refine wpAny_bind (wpAny_sequenceKey hl.typeIs (by decide) ?_)
  refine wpAny_bind (wpAny_callSpecial?_slot (name := Str.ofString "__setitem__") hl.typeIs slot_list_setitem
    (wpAny_call_entry slot_list_setitem hl.typeIs entry_list_setitem ?_ (args_list_setitem _ _ _)))
  show wpAny _ _ (Builtin.List.listSubscript? (.ref sl) >>= _) _ _ s
  refine wpAny_bind ?_
  unfold Builtin.List.listSubscript?
  refine wpAny_bind (wpAny_specialOf hTs slice_no_index ?_)
  simp only [Option.isNone_none, if_true]
  refine wpAny_pure ?_
  show wpAny _ _ (typeOf (.ref sl) >>= _) _ _ s
  refine wpAny_bind (wpAny_typeOf hTs ?_)
  first
    | rw [if_neg (by decide)]
    | refine PySem.W.KFB.if_not (by decide) ?_
  rw [listSliceParts_eq]
  refine wpAny_bind (wpAny_bind (wpAny_field hos hds (x := .none) rfl (wpAny_bind (wpAny_listPart .none ?_))))
  rw [if_neg hstep]
  refine wpAny_bind (wpAny_field hos hds (x := vl) rfl (wpAny_bind (wpAny_listPart pl ?_)))
  refine wpAny_bind (wpAny_field hos hds (x := vu) rfl (wpAny_bind (wpAny_listPart pu (wpAny_pure ?_))))
  first
    | simp only [hsame, Bool.false_eq_true, if_false]
    | refine PySem.W.KFB.if_not hsame ?_
    | (dsimp only
       rw [if_neg (by rw [hsame]; exact Bool.false_ne_true)])
  refine wpAny_bind (m := Builtin.List.listAllItems (.ref b) "must assign iterable to extended slice") ?_
  unfold Builtin.List.listAllItems
  refine wpAny_bind (wpAny_typeOf hb.typeIs ?_)
  first
    | refine PySem.W.KFB.if_so (by decide) ?_
    | rw [if_pos (by decide)]
    | simp only [beq_self_eq_true, Bool.true_or, if_true]
  unfold Builtin.List.listItems
  refine wpAny_bind (wpAny_seqItems e2 rfl (wpAny_pure ?_))
  refine wpAny_bind (wpAny_bind (wpAny_seqItems e rfl (wpAny_pure ?_)))
  refine wpAny_bind (wpAny_of_eq ((sliceIndices_raw (some (a : Int)) (some (c : Int)) none items.size (by simp)).trans (congrArg (pure : Int × Int × Int → Sem (Int × Int × Int)) (bounds_run hac hc))) ?_)
  show wpAny _ _ (if ((1 : Int) == 1) = true then _ else _) _ _ s
  rw [if_pos (by decide)]
  refine wpAny_bind (wpAny_rule ?_)
  first
    | simp only [notLongL hsz, Bool.false_eq_true, if_false]
    | refine PySem.W.KFB.if_not (notLongL hsz) ?_
  first | refine wpAny_bind (wpAny_pure ?_) | skip
  show wpAny _ _ (updateSeq l (fun xs => xs.extract 0 ((a : Int)).toNat ++ new ++ xs.extract (max (a : Int) (c : Int)).toNat xs.size) >>= _) _ _ s
  rw [hmax, Int.toNat_natCast]
  refine wpAny_bind (wpAny_updateSeq (hz := Nat.le_trans (Nat.le_add_right _ _) hsz) (_hz' := hz') e rfl ?_)
  refine wpAny_bind (wpAny_letGo ?_)
  first
    | exact wpAny_bind (wpAny_pure (wpAny_pure ⟨.none, rfl, wpAny_pure h⟩))
    | exact wpAny_pure ⟨.none, rfl, wpAny_pure h⟩
end

section
variable {X : Cx}
/-- xs[a:c] = ys of another list, at the value level: sl is the slice object that was just made -/
theorem set_slice {pins : List (Addr × Obj)} {s : Shared} {σ : St} {H : Hp} {l b sl : Addr} {xs ys : List V} {a c : Int} {vl vu : Value} {Q : Unit → Shared → Prop} (I : Inv X pins σ H s)
    (hH : H l = some (.lst xs)) (hB : H b = some (.lst ys)) (hne : l ≠ b) (hs : s.heap.IsSliceOf sl vl vu .none) (ra : RelV (.int a) vl) (rc : RelV (.int c) vu) (h0 : 0 ≤ a) (hac : a ≤ c) (hc : c ≤ xs.length)
    (hz : xs.length + ys.length ≤ sizeLine) (h : ∀ s', Inv X pins σ (upd H l (.lst (xs.take a.toNat ++ ys ++ xs.drop c.toNat))) s' → Q () s') :
    wpAny (model X.prog X.w) X.A (setItem (.ref l) (.ref sl) (.ref b)) Q X.xe s := by
  obtain ⟨ta, rfl⟩ := ra
  obtain ⟨tc, rfl⟩ := rc
  obtain ⟨z, its, n, r, hl, e⟩ := I.lstM hH
  obtain ⟨z2, its2, n2, r2, hl2, e2⟩ := I.lstM hB
  obtain ⟨a', rfl⟩ := Int.eq_ofNat_of_zero_le h0
  obtain ⟨c', rfl⟩ := Int.eq_ofNat_of_zero_le (Int.le_trans h0 hac)
  simp only [Int.toNat_natCast] at h
  refine setItem_slice (a := a') (c := c') e e2 hne hs (.int _ _) (.int _ _) (by omega) (by rw [List.size_toArray]; omega) (by rw [List.size_toArray, List.size_toArray]; omega) (h _ ?_)
  refine I.lset (its' := its.take a' ++ its2 ++ its.drop c') (t' := s.toks) hH e ?_ (Vals.append (Vals.append (r.take _) r2) (r.drop _)) ?_
  · exact splice_eq its its2 a' c'
  · rw [List.length_append, List.length_append, List.length_take, List.length_drop]
    omega
end
end L2

namespace Att
open PySem PySem.W PySem.Calls PyProof.Rows

/-! ### the script -/
theorem ints_of_wellAll {P : Params} {h : Heap} : ∀ (ns : List Int) (vs : List Value), WellAll P h vs (ns.map WData.int) → IntsAre vs ns := by
  intro ns
  induction ns with
  | nil =>
    intro vs w
    rw [List.map_nil] at w
    cases w
    exact .nil
  | cons n ns ih =>
    intro vs w
    rw [List.map_cons] at w
    cases w with
    | cons a b =>
      cases a
      exact .cons _ _ (ih _ b)

theorem script_of {l : OpenLaw} {n : Nat} (hn : l.most = some n) {P : Params} {h : Heap} {args : List WData} {vals : List Value}
    (hpre : l.row.toRowW.claim.pre args = true) (hwl : WellAll P h vals args) :
    ∃ a vs ns, vals = [Value.ref a] ∧ args = [WData.list (ns.map WData.int)] ∧ h.get? a = some { cls := .type "list", data := .seq vs.toArray } ∧ IntsAre vs ns ∧ ns.length ≤ n := by
  have hsh : WShape.hasAll [] args [.list .int] = true := (pre_splitW hpre).1
  have hc : l.pre.holds [] { args := args } = true := (pre_splitW hpre).2
  obtain ⟨d, r, rfl, h1, h2⟩ := hasAllW_cons hsh
  obtain rfl := hasAllW_nil h2
  obtain ⟨xs, rfl, h3⟩ := hasW_list h1
  obtain ⟨ns, rfl⟩ := items_int h3
  have hlen : ns.length ≤ n := by
    unfold OpenLaw.pre at hc
    have h4 : (WTm.not (.lt (.lit (.int (n : Int))) (.len (.arg 0)))).holds [] { args := [.list (ns.map .int)] } = true := by
      have h4 := (holds_andW hc).1
      rw [hn] at h4
      exact h4
    have h5 := condW_of h4 (w_not (w_lt w_lit (w_len_list (w_arg rfl))))
    rw [List.length_map] at h5
    refine Nat.le_of_not_lt fun q => ?_
    have q' : (n : Int) < ((ns.length : Nat) : Int) := by omega
    first
      | (rw [decide_eq_true q'] at h5; exact absurd h5 (by decide))
      | (simp at h5; omega)
  cases hwl with
  | cons w1 w2 =>
    cases w2
    cases w1 with
    | list ho hall => exact ⟨_, _, ns, rfl, rfl, ho, ints_of_wellAll ns _ hall, hlen⟩

theorem post_true (l : OpenLaw) (args : List WData) : l.row.toRowW.claim.post args (.bool true) args = true :=
  postW_of (r := l.row.toRowW) (X := (true == true))
    (show WShape.has [] (.bool true) .bool = true by first | rfl | decide | simp [WShape.has, WShape.arms, WShape.armsAll])
    (show (WTm.eq .res (.lit (.bool true))).value [] { args := args, res := some (.bool true), after := args } = some (.bool (true == true)) from w_eq_bool (w_res rfl) w_lit) rfl

/-! ### the attachment: holds_open's last premise (the goal 'hc' behind k_head) from a wpAny of the law's body -/
theorem attach {l : OpenLaw} {n : Nat} {q : Program} {loose : List Str} {XP : (Str → Option Value) → Heap → Prop} {YP : World → Heap → Prop} {d : DefRec} {x : Str}
    (hn : l.most = some n) (hdf : d.params.defaults = [])
    (hbind : ∀ pm cd doc v : Value, bindArgs (docDef d.name d.params d.body d.scope pm cd doc) ⟨[v], []⟩ = pure [(x, v)])
    (hx : d.scope.names.lookup x = some .local ∨ d.scope.names.lookup x = some .cell)
    (hk : d.scope.kind = .function) (hco : d.scope.isCoroutine = false) (hgen : d.scope.isGenerator = false)
    (body : ∀ (w : World) (s₀ s₁ s : Shared) (mg mb : Str → Option Value) (fa : Addr) (o : Obj) (pm cd doc : Value) (a : Addr) (vs : List Value) (ns : List Int),
      Ground q loose [] XP w s₀ mg mb s₁.heap → YP w s₁.heap →
      s₁.heap.get? fa = some o → o.data = .func (docDef d.name d.params d.body d.scope pm cd doc) → s₁.heap.CodeRec cd d.name → mg d.name = some (.ref fa) →
      s₁.heap.get? a = some { cls := .type "list", data := .seq vs.toArray } → IntsAre vs ns → ns.length ≤ n →
      s.gens = #[] → s.os = s₁.os →
      Fr s₁.heap s₁.heap.objs.size s.heap (bindL (envOfC d.name d.scope s₁.heap.objs.size fa cd).kindOf [(x, .ref a)] fun _ => none) →
      Cl s₁.heap.objs.size (cellsFrom (s₁.heap.objs.size + 1) d.scope.names []) s.heap (bindC (envOfC d.name d.scope s₁.heap.objs.size fa cd).kindOf [(x, .ref a)] fun _ => none) →
      wpAny (model l.prog w) (callerA.deeper (envOfC d.name d.scope s₁.heap.objs.size fa cd)) (execs d.body (envOfC d.name d.scope s₁.heap.objs.size fa cd))
        (fun f s' => f = .ret (.bool true) ∧ OldK s₁.heap s'.heap ∧ s'.os = s₁.os ∧ AllBare s'.gens) (fun _ _ => False) s) :
    WalkO q loose XP YP l.row.toRowW d [] (fun f vs => PySem.call f vs) := by
  intro w s₀ s₁ mg mb G Y fa o pm cd doc dV kV ho hd hcd hD hmg hg args vals as hpre hlay hrd hwl hlo
  obtain rfl : dV = .none := Dflts.none hD hdf
  obtain rfl : kV = .none := Dflts.noKw hD
  obtain ⟨a, vs, ns, rfl, rfl, hobj, hints, hlen⟩ := script_of hn hpre hwl
  refine enter_call ?_
  refine call_cells_ret (o := o) (by rw [depth_caller]; decide) ho (fd_plain hd) G.T.nolimit hcd (hbind pm cd doc (.ref a)) (fun y hy => ?_) (fun h₁ tk F X => ?_) hco hgen hk
  · obtain rfl : y = (x, Value.ref a) := List.mem_singleton.mp hy
    rcases hx with e | e
    · exact .inl e
    · exact .inr ⟨e, cellsFrom_some _ _ _ (.inl e)⟩
  · refine wpAny_mono (body w s₀ s₁ { s₁ with heap := h₁, toks := tk } mg mb fa o pm cd doc a vs ns G Y ho (fd_plain hd) hcd hmg hobj hints hlen hg rfl F X) (fun f s' hq => ?_) (fun _ _ hq => hq)
    obtain ⟨rfl, h2, h3, h4⟩ := hq
    exact ⟨.inl ⟨.bool true, .bool true, [], rfl, fun _ => rfl, .bool true, post_true l _, fun _ => ⟨List.Pairwise.nil, fun _ hm => (nomatch hm)⟩⟩, h2, h3, h4⟩

/-- the same from a codeAny of the CALL (for a layer whose function contracts speak of calls) -/
theorem attach_call {l : OpenLaw} {n : Nat} {q : Program} {loose : List Str} {XP : (Str → Option Value) → Heap → Prop} {YP : World → Heap → Prop} {d : DefRec}
    (hn : l.most = some n) (hdf : d.params.defaults = [])
    (call : ∀ (w : World) (s₀ s₁ : Shared) (mg mb : Str → Option Value) (fa : Addr) (o : Obj) (pm cd doc : Value) (a : Addr) (vs : List Value) (ns : List Int),
      Ground q loose [] XP w s₀ mg mb s₁.heap → YP w s₁.heap →
      s₁.heap.get? fa = some o → o.data = .func (docDef d.name d.params d.body d.scope pm cd doc) → s₁.heap.CodeRec cd d.name → mg d.name = some (.ref fa) →
      s₁.heap.get? a = some { cls := .type "list", data := .seq vs.toArray } → IntsAre vs ns → ns.length ≤ n → s₁.gens = #[] →
      codeAny (model l.prog w) callerA (.call (.ref fa) ⟨[.ref a], []⟩) (fun r s' => r = .ok (.ret (.bool true)) ∧ OldK s₁.heap s'.heap ∧ s'.os = s₁.os ∧ AllBare s'.gens) s₁) :
    WalkO q loose XP YP l.row.toRowW d [] (fun f vs => PySem.call f vs) := by
  intro w s₀ s₁ mg mb G Y fa o pm cd doc dV kV ho hd hcd hD hmg hg args vals as hpre hlay hrd hwl hlo
  obtain rfl : dV = .none := Dflts.none hD hdf
  obtain rfl : kV = .none := Dflts.noKw hD
  obtain ⟨a, vs, ns, rfl, rfl, hobj, hints, hlen⟩ := script_of hn hpre hwl
  refine enter_call (codeAny_mono (call w s₀ s₁ mg mb fa o pm cd doc a vs ns G Y ho (fd_plain hd) hcd hmg hobj hints hlen hg) fun r s' hq => ?_)
  obtain ⟨rfl, h2, h3, h4⟩ := hq
  exact ⟨.inl ⟨.bool true, .bool true, [], rfl, fun _ => rfl, .bool true, post_true l _, fun _ => ⟨List.Pairwise.nil, fun _ hm => (nomatch hm)⟩⟩, h2, h3, h4⟩

/-- the same where the top left finished generators (o_head chose holds_openN): nothing may have changed at all and no generator may be left -/
theorem attachN {l : OpenLaw} {n : Nat} {q : Program} {loose : List Str} {XP : (Str → Option Value) → Heap → Prop} {YP : World → Heap → Prop} {d : DefRec} {x : Str}
    (hn : l.most = some n) (hdf : d.params.defaults = [])
    (hbind : ∀ pm cd doc v : Value, bindArgs (docDef d.name d.params d.body d.scope pm cd doc) ⟨[v], []⟩ = pure [(x, v)])
    (hx : d.scope.names.lookup x = some .local ∨ d.scope.names.lookup x = some .cell)
    (hk : d.scope.kind = .function) (hco : d.scope.isCoroutine = false) (hgen : d.scope.isGenerator = false)
    (body : ∀ (w : World) (s₀ s₁ s : Shared) (mg mb : Str → Option Value) (fa : Addr) (o : Obj) (pm cd doc : Value) (a : Addr) (vs : List Value) (ns : List Int),
      Ground q loose [] XP w s₀ mg mb s₁.heap → YP w s₁.heap →
      s₁.heap.get? fa = some o → o.data = .func (docDef d.name d.params d.body d.scope pm cd doc) → s₁.heap.CodeRec cd d.name → mg d.name = some (.ref fa) →
      s₁.heap.get? a = some { cls := .type "list", data := .seq vs.toArray } → IntsAre vs ns → ns.length ≤ n →
      s.gens = #[] → s.os = s₁.os →
      Fr s₁.heap s₁.heap.objs.size s.heap (bindL (envOfC d.name d.scope s₁.heap.objs.size fa cd).kindOf [(x, .ref a)] fun _ => none) →
      Cl s₁.heap.objs.size (cellsFrom (s₁.heap.objs.size + 1) d.scope.names []) s.heap (bindC (envOfC d.name d.scope s₁.heap.objs.size fa cd).kindOf [(x, .ref a)] fun _ => none) →
      wpAny (model l.prog w) (callerA.deeper (envOfC d.name d.scope s₁.heap.objs.size fa cd)) (execs d.body (envOfC d.name d.scope s₁.heap.objs.size fa cd))
        (fun f s' => f = .ret (.bool true) ∧ (∀ b o, s₁.heap.get? b = some o → s'.heap.get? b = some o) ∧ s'.os = s₁.os ∧ s'.gens = #[]) (fun _ _ => False) s) :
    WalkN q loose XP YP l.row.toRowW d [] (fun f vs => PySem.call f vs) := by
  intro w s₀ s₁ mg mb G Y fa o pm cd doc dV kV ho hd hcd hD hmg hg args vals as hpre hlay hrd hwl hlo
  obtain rfl : dV = .none := Dflts.none hD hdf
  obtain rfl : kV = .none := Dflts.noKw hD
  obtain ⟨a, vs, ns, rfl, rfl, hobj, hints, hlen⟩ := script_of hn hpre hwl
  refine enter_callW ?_
  refine call_cells_ret (o := o) (by rw [depth_caller]; decide) ho (fd_plain hd) G.T.nolimit hcd (hbind pm cd doc (.ref a)) (fun y hy => ?_) (fun h₁ tk F X => ?_) hco hgen hk
  · obtain rfl : y = (x, Value.ref a) := List.mem_singleton.mp hy
    rcases hx with e | e
    · exact .inl e
    · exact .inr ⟨e, cellsFrom_some _ _ _ (.inl e)⟩
  · refine wpAny_mono (body w s₀ s₁ { s₁ with heap := h₁, toks := tk } mg mb fa o pm cd doc a vs ns G Y ho (fd_plain hd) hcd hmg hobj hints hlen hg rfl F X) (fun f s' hq => ?_) (fun _ _ hq => hq)
    obtain ⟨rfl, h2, h3, h4⟩ := hq
    exact ⟨.inl ⟨.bool true, .bool true, [], rfl, fun _ => rfl, .bool true, post_true l _, fun _ => ⟨List.Pairwise.nil, fun _ hm => (nomatch hm)⟩⟩, h2, h3, h4⟩

/-! ### rules over ANY heap (no ledger) from facts about the written part K: the library's own take a ledger (News) for what they write -/
section
variable {prog : Program} {w : World} {A : Around} {E : Value → Shared → Prop} {s : Shared} {K : Frag}

/-- a def of the module, or a method (qual 'C.m'), entered: the frame is the next address; cells behind it -/
theorem call_fn {R : Result → Shared → Prop} {name qual : Str} {params : Arguments} {body : List Stmt} {scope : Scope} {dV kV doc pm cdv ct oc : Value} {an od : Option Addr} {osl : Array (Option Value)} {f : Addr} {args : Args} {binds : List (Str × Value)}
    (X : K.In s.heap) (hlim : s.heap.NoLimit) (ho : K.lookup f = some ⟨oc, od, .func (fnOf name qual params body scope dV kV doc pm an cdv ct), osl⟩) (hcd : codeIn K cdv qual = true) (hroom : A.depth < recursionLimit)
    (hbind : BindsTo s (fnOf name qual params body scope dV kV doc pm an cdv ct) args binds)
    (hkind : (binds.all fun y => scope.names.lookup y.1 == some .local || scope.names.lookup y.1 == some .cell) = true)
    (h : ∀ s₁, InCallC s s.heap.objs.size (bindL (envOfC qual scope s.heap.objs.size f cdv).kindOf binds fun _ => none) (cellsFrom (s.heap.objs.size + 1) scope.names [])
        (bindC (envOfC qual scope s.heap.objs.size f cdv).kindOf binds fun _ => none) s₁ →
      wpAny (model prog w) (A.deeper (envOfC qual scope s.heap.objs.size f cdv)) (execs body (envOfC qual scope s.heap.objs.size f cdv))
        (fun fl s' => R (.ok (.ret (match fl with | .ret v => v | _ => .none))) s')
        (fun e s' => wpAny (model prog w) (A.deeper (envOfC qual scope s.heap.objs.size f cdv)) (leaving (envOfC qual scope s.heap.objs.size f cdv) e) (fun _ s'' => R (.error e) s'') (fun e' s'' => R (.error e') s'') s') s₁)
    (hco : scope.isCoroutine = false) (hgen : scope.isGenerator = false) (hk : scope.kind = .function) : codeAny (model prog w) A (.call (.ref f) args) R s := by
  refine codeAny_call_function hroom (X _ _ ho) rfl hco hgen rfl (codeRec_of X hcd) (hbind _ _ _ _ ?_)
  refine wpAny_newFunctionEnv_cells hk (kindsX hkind _) fun env he s₁ x => ?_
  subst he
  exact ⟨hlim.keeps x.toInCall.keep, codeAny_func (h s₁ x)⟩

/-- C(..): dict at size, instance at size + 1, then __init__ -/
theorem make_obj {R : Result → Shared → Prop} {C fI : Addr} {rest : List Value} {kw : List (Str × Value)}
    (X : K.In s.heap) (hm : makesIn K C = true) (hi : findIn K (.ref C) "__init__" = some (some (.ref fI))) (hf : isFn K (.ref fI) = true)
    (h : codeAny (model prog w) (A.under (.builtin "type.__call__" ⟨.ref C :: rest, kw⟩)) (.call (.ref fI) ⟨.ref (s.heap.objs.size + 1) :: rest, kw⟩) (InitBack (s.heap.objs.size + 1) R)
      { s with heap := (s.heap.push emptyDict).push (instObj C s.heap.objs.size) }) : codeAny (model prog w) A (.call (.ref C) ⟨rest, kw⟩) R s := by
  obtain ⟨hh, g, d, t, os⟩ := s
  exact make_core (makes_of X hm) (looks_findIn X hi) (fun self => bind_fn X self (beq_iff_eq.mp hf)) (.inl rfl) h

/-- x.name where the instance's dict holds the name and the class does not -/
theorem get_field {x C : Addr} {ox : Obj} {es : List DictEntry} {n : Nat} {name : Str} {expr : Bool} {v : Value} {Q : Value → Shared → Prop}
    (X : K.In s.heap) (I : PySem.W.InstAt s.heap x ox C (some (dictOf es n))) (hg : plainGet K C name = true) (hh : hasDictIn K C = true) (ha : findIn K (.ref C) name = some none)
    (hl : getL name es = some (some v)) (hv : handedIn v = true) (h : Q v { s with toks := s.toks + 1 }) : wpAny (model prog w) A (getAttr (.ref x) name expr) Q E s :=
  get_value X I (plainGet_of hg).1 (findObj_own hh ha rfl hl) hv h

/-- x.m(..): the method found in the class -/
theorem get_method {x C f : Addr} {ox : Obj} {es : List DictEntry} {n : Nat} {name : Str} {pl : Sem Bool} {Q : Value × List Value → Shared → Prop}
    (X : K.In s.heap) (I : PySem.W.InstAt s.heap x ox C (some (dictOf es n))) (hg : plainGet K C name = true) (hf : findIn K (.ref C) name = some (some (.ref f))) (ht : isFn K (.ref f) = true)
    (hl : getL name es = some none) (h : Q (.ref f, [.ref x]) s) : wpAny (model prog w) A (getMethod (.ref x) name pl) Q E s :=
  method_fn X I (plainGet_of hg).1 (plainGet_of hg).2 hf (beq_iff_eq.mp ht) (by show (lookIn name (dictOf es n)).map _ = _; rw [lookIn_dict, hl]; rfl) h

/-! the whole heap as the ledger: makes every rule that writes through a ledger a rule over any heap -/
def noObjs (h : Heap) : Heap := { h with objs := #[] }
theorem noObjs_get (h : Heap) (b : Addr) : (noObjs h).get? b = none := by
  cases e : (noObjs h).get? b with
  | none => rfl
  | some o => exact absurd (Heap.lt_size e) (Nat.not_lt_zero _)
def ledger (h : Heap) (L d : Addr) : List (Addr × Obj) := (List.range h.objs.size).filterMap fun a => if a = L ∨ a = d then none else (h.get? a).map fun o => (a, o)
theorem mem_ledger {h : Heap} {L d a : Addr} {o : Obj} : (a, o) ∈ ledger h L d ↔ a ≠ L ∧ a ≠ d ∧ h.get? a = some o := by
  unfold ledger
  rw [List.mem_filterMap]
  constructor
  · rintro ⟨b, _, e⟩
    split at e
    · cases e
    · rename_i hb
      obtain ⟨o', ho, e'⟩ := Option.map_eq_some_iff.mp e
      cases e'
      exact ⟨fun q => hb (.inl q), fun q => hb (.inr q), ho⟩
  · rintro ⟨n1, n2, ho⟩
    refine ⟨a, List.mem_range.mpr (Heap.lt_size ho), ?_⟩
    rw [if_neg (show ¬ (a = L ∨ a = d) from fun q => q.elim n1 n2), ho] <;> rfl
theorem news_ledger {h : Heap} {L d : Addr} {od : Obj} (hne : d ≠ L) (ho : h.get? d = some od) : News (noObjs h) L h ([] ++ (d, od) :: ledger h L d) := by
  rintro ⟨a, o⟩ hp
  rcases List.mem_cons.mp hp with e | hp
  · cases e
    exact ⟨ho, hne, noObjs_get _ _⟩
  · obtain ⟨n1, n2, e⟩ := mem_ledger.mp hp
    exact ⟨e, n1, noObjs_get _ _⟩
theorem fr_all {h : Heap} {L : Addr} {m : Str → Option Value} (n : h.Ns L m) : Fr (noObjs h) L h m :=
  ⟨n, fun b o e => (by rw [noObjs_get] at e; cases e), Nat.zero_le _⟩
/-- Upd of the head entry (for append_K, setItem_K ..) -/
theorem upd_ledger {h : Heap} {L d : Addr} {o o' : Obj} : Upd d o o' ((d, o) :: ledger h L d) ((d, o') :: ledger h L d) :=
  .head fun ⟨_, _⟩ hp => (mem_ledger.mp hp).2.1

/-- x.name = v over any heap: L is any namespace of the heap (the frame's, say): its map stays, its object is not told; all else but the dict stays -/
theorem set_field {x C dx L : Addr} {ox : Obj} {m : Str → Option Value} {es es' : List DictEntry} {n n' : Nat} {name : Str} {v : Value} {Q : Unit → Shared → Prop}
    (X : K.In s.heap) (I : PySem.W.InstAt s.heap x ox C (some (dictOf es n))) (hd : ox.dict = some dx) (hL : s.heap.Ns L m) (hne : dx ≠ L)
    (hs : findIn K (.ref C) "__setattr__" = some (some (.builtin "object.__setattr__"))) (hp : plainOver K C = true) (ht : takerIn K C name = some none) (hh : hasDictIn K C = true) (hl : (getL name es).isSome = true)
    (e : (putL name (PyData.keyHash w.params name) (.str name (s.toks + 1)) v es, putN name es n) = (es', n')) (hz : es'.length ≤ 1000)
    (h : ∀ h' : Heap, h'.Ns L m → h'.get? dx = some (dictOf es' n') → (∀ b o, b ≠ dx → b ≠ L → s.heap.get? b = some o → h'.get? b = some o) → Q () { s with heap := h', toks := s.toks + 2 }) :
    wpAny (model prog w) A (setAttr (.ref x) name v) Q E s := by
  obtain ⟨e1, e2⟩ := Prod.mk.inj e
  have hdx : s.heap.get? dx = some (dictOf es n) := by
    have := I.dict
    rw [hd] at this
    exact this
  refine set_plain X I hs (osa_dict (s := { s with toks := s.toks + 1 }) (h₀ := noObjs s.heap) (L := L) (m := m) (od := dictOf es n) (od' := dictOf es' n') (es := es') (n := n') (pre := []) (post := ledger s.heap L dx)
    (fr_all hL) (news_ledger hne hdx) X I hd hp ht hh hl (fun _ q => nomatch q) (fun ⟨_, _⟩ q => (mem_ledger.mp q).2.1) (by rw [putName_dict, e1, e2]) rfl hz fun h' F' N' => ?_)
  exact h h' F'.ns (N'.get (List.Mem.head _)) fun b o n1 n2 ho => N'.get (List.Mem.tail _ (mem_ledger.mpr ⟨n2, n1, ho⟩))
end
end Att

namespace L2
open PySem PySem.Spec PyProof.Rows

theorem vals_ints : ∀ {vs : List Value} {ns : List Int}, IntsAre vs ns → Vals (ns.map V.int) vs
  | _, _, .nil => .nil
  | _, _, .cons n t h => .cons ⟨t, rfl⟩ (vals_ints h)

/-- nothing is tracked but the script, known to the object (or it is an object of the module) -/
def Only (H : Hp) : Prop := ∀ b, H b = none ∨ ∃ o xs, H b = some (.frz o (.lst xs))

/-- THE HEAD: the law's promise, at the heap behind the top. F, the promise of the law's def, may use that base is part of the heap (so K.In base, base.Ns mainGlobals mg stand in Mod) -/
theorem law_call {P : Program} {w : World} {K : PySem.W.Frag} {mg mb : Str → Option Value} {CX : CXT} {k : Nat} {fa a : Addr} {fd : FuncData} {x : Str} {sp : Sp} {s₁ : Shared} {vs : List Value} {ns : List Int}
    (KX : K.In s₁.heap) (hns : s₁.heap.Ns mainGlobals mg) (hb : s₁.heap.Ns builtinsNs mb) (hbb : ∀ x : Str, x ≠ "__name__" → mb x = bootBuiltins x) (hlim : s₁.heap.NoLimit) (hg : s₁.gens = #[])
    (ha : s₁.heap.get? a = some { cls := .type "list", data := .seq vs.toArray }) (hi : IntsAre vs ns) (hl : ns.length ≤ sizeLine) (hr : Room k callerA)
    (F : ∀ base : Heap, K.In base → base.Ns mainGlobals mg → FnOk P w K mg base CX k fa fd [x] sp) (hbind : ∀ (s : Shared) (u : Value), BindsTo s fd ⟨[u], []⟩ [(x, u)])
    (hsp : ∀ H : Hp, Only H → SqL K H a (ns.map V.int) → sp [.ref a] H (fun v _ => v = .bl true) fun _ _ _ => False)
    (hCX : ∀ H e s', CX [] H s₁ (fun _ _ _ => False) e s' → False) :
    codeAny (model P w) callerA (.call (.ref fa) ⟨[.ref a], []⟩) (fun r s' => r = .ok (.ret (.bool true)) ∧ OldK s₁.heap s'.heap ∧ s'.os = s₁.os ∧ AllBare s'.gens) s₁ := by
  have rv := vals_ints hi
  have lenV := hi.length
  -- from an abstract heap in which nothing but the script may be tracked
  have core : ∀ H : Hp, Only H → SqL K H a (ns.map V.int) → HOk P w H s₁.heap → (∀ b, H b ≠ none → b = a) → (H a ≠ none → K.lookup a = none) →
      codeAny (model P w) callerA (.call (.ref fa) ⟨[.ref a], []⟩) (fun r s' => r = .ok (.ret (.bool true)) ∧ OldK s₁.heap s'.heap ∧ s'.os = s₁.os ∧ AllBare s'.gens) s₁ := by
    intro H hO hS hok hA hK
    have base_of : ∀ {b : Addr} {o : Obj}, s₁.heap.get? b = some o → H b = none → (hidT s₁.heap H).get? b = some o := fun e n => hidT_get e n
    have noA : ∀ {b : Addr} {o : Obj} {es : Array DictEntry} {ep : Nat}, s₁.heap.get? b = some o → o.data = .dict es ep → H b = none := fun {b o es ep} e d => by
      cases q : H b with
      | none => rfl
      | some u =>
        have e' : b = a := hA b (by rw [q]; simp)
        subst e'
        rw [ha] at e; cases e
        have d' : Data.seq vs.toArray _ = Data.dict es ep := d
        cases d'
    have nsK : ∀ {b : Addr} {m : Str → Option Value}, s₁.heap.Ns b m → (hidT s₁.heap H).Ns b m := fun {b m} ⟨o, es, ep, e, d, r⟩ => ⟨o, es, ep, base_of e (noA e d), d, r⟩
    have hKb : K.In (hidT s₁.heap H) := fun b o e => base_of (KX b o e) (by
      cases q : H b with
      | none => rfl
      | some u =>
        have e' : b = a := hA b (by rw [q]; simp)
        subst e'
        rw [hK (by rw [q]; simp)] at e; cases e)
    have hM : Mod K mg (hidT s₁.heap H) := ⟨hKb, nsK hns, ⟨mb, nsK hb, hbb⟩, let ⟨mc, h1, h2⟩ := hlim; ⟨mc, nsK h1, h2⟩⟩
    have e0 : Env0 P w K mg (hidT s₁.heap H) callerA [] s₁ H := ⟨rfl, hM, fun b o e => of_hidT e, Nat.le_of_eq (hidT_size _ _), trivial, fun b hb => absurd (show b ∈ ([] : List Addr) from hb) (by simp), hok, .of_eq hg⟩
    refine codeAny_mono ((F _ hKb (nsK hns)).run callerA [] s₁ H ⟨[.ref a], []⟩ [.ref a] [.ref a] _ _ hr e0 (hbind s₁ (.ref a)) (.cons rfl .nil) (hsp H hO hS)) fun r s' h => ?_
    cases r with
    | error e => exact (hCX H e s' h).elim
    | ok fl =>
      cases fl with
      | next => exact False.elim h
      | brk => exact False.elim h
      | cont => exact False.elim h
      | ret u =>
        obtain ⟨v, H', os, bare, un, hok', r', q⟩ := h
        have q' : v = .bl true := q
        subst q'
        obtain rfl : u = Value.bool true := r'
        refine ⟨rfl, OldK.of_keep fun b o e => ?_, os, bare⟩
        cases q : H b with
        | none => exact un.keep b o e q (by intro z; exact absurd (show b ∈ ([] : List Addr) from z) (by simp)) (by simp)
        | some u =>
          rcases hO b with z | ⟨ob, xs, z⟩
          · rw [q] at z; cases z
          · have z2 := un.frzs b ob _ z
            obtain ⟨e1, _⟩ := hok b _ z
            obtain ⟨e2, _⟩ := hok' b _ z2
            rw [e] at e1; cases e1
            exact e2
  cases hk : K.lookup a with
  | some o =>
    -- the script is one of the module's own objects
    have e := KX a o hk
    rw [ha] at e
    cases e
    refine core (fun _ => none) (fun _ => .inl rfl) (.inr ⟨_, vs.toArray, _, hk, rfl, rfl, rfl, by rw [List.size_toArray, lenV]; exact hl, by simpa using rv⟩) (fun b u z => by have z' : (none : Option HO) = some u := z; cases z') (fun b z => absurd rfl z) fun z => absurd rfl z
  | none =>
    refine core (fun b => if b = a then some (.frz { cls := .type "list", data := .seq vs.toArray } (.lst (ns.map V.int))) else none) (fun b => ?_) (.inl (.inr ⟨{ cls := .type "list", data := .seq vs.toArray }, if_pos rfl⟩)) (fun b u z => ?_) (fun b z => ?_) fun _ => hk
    · by_cases hb : b = a
      · exact .inr ⟨_, _, if_pos hb⟩
      · exact .inl (if_neg hb)
    · by_cases hb : b = a
      · have z' := (if_pos hb).symm.trans z
        cases z'
        subst hb
        exact ⟨ha, by rw [List.length_map]; exact hl, vs, _, rv, ha⟩
      · have z' := (if_neg hb).symm.trans z
        cases z'
    · by_cases hb : b = a
      · exact hb
      · exact absurd (if_neg hb) z
end L2

namespace L2
open PySem PySem.Spec PyProof.Rows

abbrev KOf {K : PySem.W.Frag} {h : Heap} (_ : K.In h) : PySem.W.Frag := K

/-- the goal that k_head leaves (case hc), from the law's promise. F gives the function object fd (K's own) once, then the promise over every base -/
theorem walk_of {l : PySem.W.OpenLaw} {n k : Nat} {q : Program} {loose : List Str} {XP : (Str → Option Value) → Heap → Prop} {YP : World → Heap → Prop} {d : DefRec} {K : Params → PySem.W.Frag} {CX : World → CXT} {sp : World → Sp} {x : Str}
    (hn : l.most = some n) (hn2 : n ≤ sizeLine) (hdf : d.params.defaults = []) (hr : Room k callerA)
    (hY : ∀ (w : World) (h : Heap), YP w h → (K w.params).In h)
    (F : ∀ (w : World) (mg : Str → Option Value) (fa : Addr) (h : Heap), (K w.params).In h → h.Ns mainGlobals mg → mg d.name = some (.ref fa) →
      ∃ fd : FuncData, (∀ (s : Shared) (u : Value), BindsTo s fd ⟨[u], []⟩ [(x, u)]) ∧
        ∀ base : Heap, (K w.params).In base → base.Ns mainGlobals mg → FnOk l.prog w (K w.params) mg base (CX w) k fa fd [x] (sp w))
    (hsp : ∀ (w : World) (H : Hp) (a : Addr) (ns : List Int), ns.length ≤ n → Only H → SqL (K w.params) H a (ns.map V.int) → sp w [.ref a] H (fun v _ => v = .bl true) fun _ _ _ => False)
    (hCX : ∀ (w : World) (H : Hp) (s : Shared) (e : Value) (s' : Shared), CX w [] H s (fun _ _ _ => False) e s' → False) :
    PySem.W.WalkO q loose XP YP l.row.toRowW d [] (fun f vs => PySem.call f vs) := by
  refine Att.attach_call hn hdf fun w s₀ s₁ mg mb fa o pm cd doc a vs ns G Y ho hd hcd hmg hobj hints hlen hg => ?_
  have KX := hY w _ Y
  obtain ⟨fd, hb, hF⟩ := F w mg fa _ KX G.T.g hmg
  exact law_call KX G.T.g G.T.b G.T.builtins G.T.nolimit hg hobj hints (Nat.le_trans hlen hn2) hr hF hb (fun H hO hS => hsp w H a ns hlen hO hS) fun H e s' => hCX w H s₁ e s'
/-- the same where the promise hangs on the written part alone: (sp := My.sp_law), no hole under a binder -/
theorem walk_ofK {l : PySem.W.OpenLaw} {n k : Nat} {q : Program} {loose : List Str} {XP : (Str → Option Value) → Heap → Prop} {YP : World → Heap → Prop} {d : DefRec} {K : Params → PySem.W.Frag} {CX : CXT} {sp : PySem.W.Frag → Sp} {x : Str}
    (hn : l.most = some n) (hn2 : n ≤ sizeLine) (hdf : d.params.defaults = []) (hr : Room k callerA)
    (hY : ∀ (w : World) (h : Heap), YP w h → (K w.params).In h)
    (F : ∀ (w : World) (mg : Str → Option Value) (fa : Addr) (h : Heap), (K w.params).In h → h.Ns mainGlobals mg → mg d.name = some (.ref fa) →
      ∃ fd : FuncData, (∀ (s : Shared) (u : Value), BindsTo s fd ⟨[u], []⟩ [(x, u)]) ∧
        ∀ base : Heap, (K w.params).In base → base.Ns mainGlobals mg → FnOk l.prog w (K w.params) mg base CX k fa fd [x] (sp (K w.params)))
    (hsp : ∀ (K : PySem.W.Frag) (H : Hp) (a : Addr) (ns : List Int), ns.length ≤ n → Only H → SqL K H a (ns.map V.int) → sp K [.ref a] H (fun v _ => v = .bl true) fun _ _ _ => False)
    (hCX : ∀ (H : Hp) (s : Shared) (e : Value) (s' : Shared), CX [] H s (fun _ _ _ => False) e s' → False) :
    PySem.W.WalkO q loose XP YP l.row.toRowW d [] (fun f vs => PySem.call f vs) :=
  walk_of (K := K) (CX := fun _ => CX) (sp := fun w => sp (K w.params)) hn hn2 hdf hr hY F (fun w H a ns h1 h2 h3 => hsp (K w.params) H a ns h1 h2 h3) fun _ H s e s' => hCX H s e s'
end L2

/- THE LAST THEOREM (shape; LID, My.* are yours):
   My.Adr: a structure of the addresses that your layer names (classes, functions); My.Txt K t: a structure (Prop) of the equations over K;
   My.txt_mk : {K} {implicit addresses ..} (e1 : nsIn K mainGlobals "law" = some (some (.ref f))) (e2 : K.lookup f = some ⟨oc, od, .func (fnOf "law" "law" params body scope dV kV doc pm an cdv ct), sl⟩) (e3 : codeIn K cdv "law" = true) .. : ∃ t, My.Txt K t

set_option maxRecDepth 100000 in
set_option maxHeartbeats 0 in
theorem PySem.Challenge.cw_LID_holds : PySem.Challenge.rw_LID.Holds := by
  w_on; o_law; k_head; (case hw => w_witness2)
  k_fill
  refine L2.walk_of (l := PySem.Challenge.rw_LID) (n := 63) (k := 40) (x := "script") (CX := fun w => ..) (sp := fun _ => My.sp_law) rfl (by decide) rfl ⟨rfl, by decide, by decide⟩ (fun w h Y => PySem.W.kIn_of Y) ?F ?S ?C
  case F =>
    intro w mg fa h KX G hmg
    have T : ∃ t, My.Txt (L2.KOf KX) t := by
      dsimp only [L2.KOf]                          -- K must stand as «<heap const> w.params» for k_is
      refine' My.txt_mk ?e1 ?e2 ?e3 ..
      (case e1 => PySem.W.k_is)                    -- in the order: a name -> its address -> its object -> its parts
      (case e2 => PySem.W.k_is)
      ..
    obtain ⟨t, T⟩ := T
    have e0 := hmg.symm.trans (PySem.W.mg_of KX G T.law)
    cases e0                                       -- fa is the law's own address
    exact ⟨_, fun s u => .of_eq rfl, fun base kb nb => My.law_fn T kb nb⟩     -- if «.of_eq rfl» comes too early: refine' ⟨_, ?b, fun base kb nb => My.law_fn T kb nb⟩; exact fun s u => .of_eq rfl
  case S => exact fun w H a ns hl hO hS => ..
  case C => exact ..
(the tactic k_is has no namespace: write k_is) -/

/-! SHORT WORDS over the layer: a def of the text, its body, what a loop and a test want. -/
namespace L2
open PySem PySem.Spec PyProof.Rows

/-! ### the text by places -/
/-- the j-th statement of a class's body -/
def inClass (s : Stmt) (j : Nat) : Stmt := match s with
  | .ClassDef _ _ _ body _ _ _ _ _ _ _ => body.getD j (.Pass ⟨0, 0, 0, 0⟩)
  | _ => .Pass ⟨0, 0, 0, 0⟩
def defArgs (s : Stmt) : Arguments := match s with
  | .FunctionDef _ a _ _ _ _ _ _ _ _ => a
  | _ => { posonlyargs := [], args := [], vararg := none, kwonlyargs := [], kw_defaults := [], kwarg := none, defaults := [] }
def defBody (s : Stmt) : List Stmt := match s with
  | .FunctionDef _ _ b _ _ _ _ _ _ _ => b
  | _ => []
def defScope (s : Stmt) : Scope := match s with
  | .FunctionDef _ _ _ _ _ _ sc _ _ _ => sc
  | _ => { kind := .function, names := [], isGenerator := false, isCoroutine := false }

/-! ### no exception leaves a def -/
abbrev CX0 : CXT := fun _ _ _ _ _ _ => False
abbrev E0 : XK := fun _ _ _ => False
theorem pass0 {X : Cx} : Passes CX0 X E0 := fun _ _ _ _ _ _ _ h => h.elim

/-! ### a def (or method) of the text as it stands behind the top -/
structure Fun (K : PySem.W.Frag) (x qual : Str) (st : Stmt) (f : Addr) (fd : FuncData) : Prop where
  ex : ∃ (oc : Value) (od : Option Addr) (kV doc pm : Value) (an : Option Addr) (cdv ct : Value) (osl : Array (Option Value)),
    fd = PySem.W.fnOf x qual (defArgs st) (defBody st) (defScope st) .none kV doc pm an cdv ct ∧ K.lookup f = some ⟨oc, od, .func fd, osl⟩ ∧ PySem.W.codeIn K cdv qual = true
  kp : PySem.W.keepIn K (.ref f) = true
section
variable {P : Program} {w : World} {K : PySem.W.Frag} {mg : Str → Option Value} {base : Heap}
/-- THE RULE for a def: its body as a term of rules, and the reading of that term -/
theorem Fun.ok {x qual : Str} {st : Stmt} {f : Addr} {fd : FuncData} {N ps : List Str} {k : Nat} {sp : Sp} (F : Fun K x qual st f fd) (S : FnScope N ps (defScope st)) (len : ∀ vs H Q E, sp vs H Q E → vs.length = ps.length)
    (hbody : ∀ (cdv : Value) (A : Around) (outer : List Env) (s : Shared) (H : Hp) (vs : List V) (Q : VK) (E : XK), Room k (A.deeper (envOfC qual (defScope st) s.heap.objs.size f cdv)) → sp vs H Q E →
      ∃ t, PSs (cxOf CX0 P w K mg base N qual (defScope st) f cdv A outer s H E).nox (defBody st) t ∧ t { nx := fun _ H' => Q .non H', rt := Q } (start N vs) H) : FnOk P w K mg base CX0 (k + 1) f fd ps sp := by
  obtain ⟨oc, od, kV, doc, pm, an, cdv, ct, osl, rfl, lk, hcd⟩ := F.ex
  refine fn_of lk hcd S len fun A outer s H vs Q E hr hsp => ?_
  obtain ⟨t, h, q⟩ := hbody cdv A outer s H vs Q E hr hsp
  exact ⟨t, h.nox, q⟩
/-- how its arguments bind (no defaults): h is «fun _ _ _ _ _ _ us hl => match us, hl with | [_, _], _ => rfl», one _ a parameter -/
theorem Fun.binds {x qual : Str} {st : Stmt} {f : Addr} {fd : FuncData} {ps : List Str} (F : Fun K x qual st f fd)
    (h : ∀ (kV doc pm : Value) (an : Option Addr) (cdv ct : Value) (us : List Value), us.length = ps.length → bindArgs (PySem.W.fnOf x qual (defArgs st) (defBody st) (defScope st) .none kV doc pm an cdv ct) ⟨us, []⟩ = pure (ps.zip us)) : Binds K fd ps [] := by
  obtain ⟨oc, od, kV, doc, pm, an, cdv, ct, osl, rfl, lk, hcd⟩ := F.ex
  exact .all (h kV doc pm an cdv ct)
theorem fun_mk {x qual : Str} {st : Stmt} {f : Addr} {oc : Value} {od an : Option Addr} {osl : Array (Option Value)} {kV doc pm cdv ct : Value} (l : K.lookup f = some ⟨oc, od, .func (PySem.W.fnOf x qual (defArgs st) (defBody st) (defScope st) .none kV doc pm an cdv ct), osl⟩)
    (c : PySem.W.codeIn K cdv qual = true) (k : PySem.W.keepIn K (.ref f) = true) : Fun K x qual st f (PySem.W.fnOf x qual (defArgs st) (defBody st) (defScope st) .none kV doc pm an cdv ct) := ⟨⟨oc, od, kV, doc, pm, an, cdv, ct, osl, rfl, l, c⟩, k⟩
end
theorem hu_of {A : Around} {k : Nat} (hr : Room k A) : A.units + 1 < cLine := Nat.lt_of_le_of_lt (Nat.add_le_add_left (by decide : 1 ≤ 64) _) hr.units
theorem small1000 {n : Nat} (h : n ≤ 1000) : n < sizeLine := Nat.lt_of_le_of_lt h (by decide)

/-! ### expressions in short: the name that stands in the i-th slot -/
section
variable {X : Cx}
theorem pv (i : Nat) {x : Str} {pos : Pos} (hN : X.N[i]? = some x := by rfl) (hv : Vis X.env.scope x := by first | exact Or.inl rfl | exact Or.inr (Or.inl rfl) | exact Or.inr (Or.inr rfl)) (hd : (x == ("__debug__" : Str)) = false := by decide)
    (hcd : (x == ("__classdict__" : Str)) = false := by decide) : PE X (.Name x pos) (tVar i) := pe_var hN hv hd hcd
end

/-! ### tests -/
theorem iteF {A B : Prop} (h : B) : if false = true then A else B := by
  rw [if_neg Bool.false_ne_true]
  exact h
theorem iteT {A B : Prop} (h : A) : if true = true then A else B := by
  rw [if_pos rfl]
  exact h
theorem ite2 {c A B : Prop} [Decidable c] (h1 : c → A) (h2 : ¬ c → B) : if c then A else B := by
  by_cases h : c
  · rw [if_pos h]
    exact h1 h
  · rw [if_neg h]
    exact h2 h
theorem iteNS {c A B : Prop} [Decidable c] (hc : c) (h : B) : if (!decide c) = true then A else B := by
  rw [decide_eq_true hc]
  exact iteF h

/-! ### heaps -/
/-- all that was tracked is as it was -/
def Same (H H' : Hp) : Prop := ∀ b o, H b = some o → H' b = some o
theorem Same.refl (H : Hp) : Same H H := fun _ _ h => h
theorem Same.trans {H H1 H2 : Hp} (a : Same H H1) (b : Same H1 H2) : Same H H2 := fun c o h => b c o (a c o h)
theorem Same.free {H H' : Hp} (e : Same H H') {l : Addr} (h : H' l = Option.none) : H l = Option.none := by
  cases q : H l with
  | none => rfl
  | some o =>
    rw [e l o q] at h
    cases h
theorem Same.seq {K : PySem.W.Frag} {H H' : Hp} {a : Addr} {xs : List V} (e : Same H H') (h : SqL K H a xs) : SqL K H' a xs := by
  rcases h with (h | ⟨o, h⟩) | h
  · exact .inl (.inl (e _ _ h))
  · exact .inl (.inr ⟨o, e _ _ h⟩)
  · exact .inr h

end L2

-- part LxD
set_option Elab.async false
set_option linter.all false
set_option maxRecDepth 100000
set_option maxHeartbeats 4000000
namespace L2
open PySem PySem.Spec PyProof.Rows

/-! ### lists of pairs as tables -/
section
variable {κ : Type} [DecidableEq κ]
def valV (kvs : List (κ × V)) (k : κ) : Option V := (kvs.find? fun kv => decide (kv.1 = k)).map (·.2)
/-- in its place, or at the end -/
def putK (kvs : List (κ × V)) (k : κ) (v : V) : List (κ × V) :=
  if (kvs.any fun kv => decide (kv.1 = k)) = true then kvs.map (fun kv => if kv.1 = k then (kv.1, v) else kv) else kvs ++ [(k, v)]
def dropK (kvs : List (κ × V)) (k : κ) : List (κ × V) := kvs.filter fun kv => decide (kv.1 ≠ k)

theorem valV_nil {k : κ} : valV ([] : List (κ × V)) k = none := rfl
theorem valV_pos {p : κ × V} {r : List (κ × V)} {k : κ} (e : p.1 = k) : valV (p :: r) k = some p.2 := by simp [valV, List.find?_cons, e]
theorem valV_neg {p : κ × V} {r : List (κ × V)} {k : κ} (e : ¬ p.1 = k) : valV (p :: r) k = valV r k := by simp [valV, List.find?_cons, e]
theorem valV_any (k : κ) : ∀ kvs : List (κ × V), (kvs.any fun kv => decide (kv.1 = k)) = (valV kvs k).isSome
  | [] => rfl
  | p :: r => by
    rw [List.any_cons]
    by_cases e : p.1 = k
    · simp only [valV_pos e, decide_eq_true e, Bool.true_or, Option.isSome_some]
    · rw [valV_neg e, decide_eq_false e, Bool.false_or]; exact valV_any k r
theorem valV_map (k j : κ) (y : V) : ∀ kvs : List (κ × V), valV (kvs.map fun kv => if kv.1 = k then (kv.1, y) else kv) j = (valV kvs j).map fun x => if j = k then y else x
  | [] => rfl
  | p :: r => by
    have ih := valV_map k j y r
    rw [List.map_cons]
    by_cases h : p.1 = k
    · rw [if_pos h]
      by_cases e : p.1 = j
      · rw [valV_pos (p := (p.1, y)) e, valV_pos e, Option.map_some, if_pos (e.symm.trans h)]
      · rw [valV_neg (p := (p.1, y)) e, valV_neg e, ih]
    · rw [if_neg h]
      by_cases e : p.1 = j
      · rw [valV_pos (p := p) e, valV_pos e, Option.map_some, if_neg (fun z => h (e.trans z))]
      · rw [valV_neg (p := p) e, valV_neg e, ih]
theorem valV_snoc (k j : κ) (y : V) : ∀ kvs : List (κ × V), valV kvs k = none → valV (kvs ++ [(k, y)]) j = if j = k then some y else valV kvs j
  | [], _ => by
    by_cases e : k = j
    · rw [if_pos e.symm]; exact valV_pos (p := (k, y)) e
    · rw [if_neg (fun z => e z.symm)]; exact valV_neg (p := (k, y)) e
  | p :: r, hn => by
    rw [List.cons_append]
    have hk : ¬ p.1 = k := fun z => by rw [valV_pos z] at hn; cases hn
    rw [valV_neg hk] at hn
    have ih := valV_snoc k j y r hn
    by_cases e : p.1 = j
    · rw [valV_pos e, valV_pos e, if_neg (fun z => hk (e.trans z))]
    · rw [valV_neg e, valV_neg e, ih]
theorem valV_put (kvs : List (κ × V)) (k j : κ) (y : V) : valV (putK kvs k y) j = if j = k then some y else valV kvs j := by
  unfold putK
  by_cases a : (kvs.any fun kv => decide (kv.1 = k)) = true
  · rw [if_pos a, valV_map]
    rw [valV_any] at a
    by_cases e : j = k
    · obtain ⟨x, hx⟩ := Option.isSome_iff_exists.mp a
      rw [if_pos e, e, hx, Option.map_some, if_pos rfl]
    · rw [if_neg e]
      cases valV kvs j with
      | none => rfl
      | some x => rw [Option.map_some, if_neg e]
  · rw [if_neg a]
    refine valV_snoc k j y kvs ?_
    rw [valV_any] at a
    cases q : valV kvs k with
    | none => rfl
    | some x => rw [q] at a; exact (a rfl).elim
theorem length_putK (kvs : List (κ × V)) (k : κ) (v : V) : (putK kvs k v).length ≤ kvs.length + 1 := by
  unfold putK
  split
  · rw [List.length_map]; omega
  · rw [List.length_append, List.length_cons, List.length_nil]; omega
theorem putK_new {kvs : List (κ × V)} {k : κ} (v : V) (h : valV kvs k = none) : putK kvs k v = kvs ++ [(k, v)] := by
  unfold putK
  rw [valV_any, h]
  exact if_neg (by decide)

theorem RelO.isSome_eq {o : Option V} {u : Option Value} (r : RelO o u) : o.isSome = u.isSome := by
  cases o with
  | none => cases u with
    | none => rfl
    | some _ => exact (show False from r).elim
  | some _ => cases u with
    | none => exact (show False from r).elim
    | some _ => rfl
theorem RelO.getD {o : Option V} {u : Option Value} {d : V} {d' : Value} (r : RelO o u) (rd : RelV d d') : RelV (o.getD d) (u.getD d') := by
  cases o with
  | none => cases u with
    | none => exact rd
    | some _ => exact (show False from r).elim
  | some _ => cases u with
    | none => exact (show False from r).elim
    | some _ => exact r

/-- raw tables of the same keys -/
theorem KV.val {kvs : List (κ × V)} {vs : List (κ × Value)} (r : KV kvs vs) (k : κ) : RelO (valV kvs k) (valueAt vs k) := by
  unfold KV at r
  induction r with
  | nil => exact True.intro
  | @cons p q ps qs h t ih =>
    obtain ⟨h1, h2⟩ := h
    by_cases e : p.1 = k
    · have e' : q.1 = k := h1.symm.trans e
      have b : valueAt (q :: qs) k = some q.2 := by simp [valueAt, List.find?_cons, e']
      rw [valV_pos e, b]; exact h2
    · have e' : ¬ q.1 = k := fun z => e (h1.trans z)
      have b : valueAt (q :: qs) k = valueAt qs k := by simp [valueAt, List.find?_cons, e']
      rw [valV_neg e, b]; exact ih
theorem KV.any {kvs : List (κ × V)} {vs : List (κ × Value)} (r : KV kvs vs) (k : κ) : (kvs.any fun kv => decide (kv.1 = k)) = vs.any fun kv => decide (kv.1 = k) := by
  unfold KV at r
  induction r with
  | nil => rfl
  | cons h t ih => rw [List.any_cons, List.any_cons, ih, h.1]
theorem KV.repl {kvs : List (κ × V)} {vs : List (κ × Value)} (r : KV kvs vs) (k : κ) {y : V} {u : Value} (ry : RelV y u) :
    KV (kvs.map fun kv => if kv.1 = k then (kv.1, y) else kv) (vs.map fun kv => if kv.1 = k then (kv.1, u) else kv) := by
  unfold KV at r ⊢
  induction r with
  | nil => exact .nil
  | @cons p q ps qs h t ih =>
    rw [List.map_cons, List.map_cons]
    refine .cons ?_ ih
    obtain ⟨h1, h2⟩ := h
    by_cases e : p.1 = k
    · rw [if_pos e, if_pos (h1.symm.trans e)]; exact ⟨h1, ry⟩
    · rw [if_neg e, if_neg (fun z => e (h1.trans z))]; exact ⟨h1, h2⟩
theorem KV.put {kvs : List (κ × V)} {vs : List (κ × Value)} (r : KV kvs vs) (k : κ) {y : V} {u : Value} (ry : RelV y u) : KV (putK kvs k y) (stored vs k u) := by
  unfold putK stored
  rw [r.any k]
  by_cases e : (vs.any fun kv => decide (kv.1 = k)) = true
  · rw [if_pos e, if_pos e]; exact r.repl k ry
  · rw [if_neg e, if_neg e]; exact Paired.snoc r ⟨rfl, ry⟩
theorem KV.drop {kvs : List (κ × V)} {vs : List (κ × Value)} (r : KV kvs vs) (k : κ) : KV (dropK kvs k) (without vs k) := by
  unfold KV at r ⊢
  unfold dropK without
  induction r with
  | nil => exact .nil
  | @cons p q ps qs h t ih =>
    obtain ⟨h1, h2⟩ := h
    rw [List.filter_cons, List.filter_cons]
    by_cases e : p.1 = k
    · have a : ¬ decide (p.1 ≠ k) = true := by simp [e]
      have b : ¬ decide (q.1 ≠ k) = true := by simp [h1.symm.trans e]
      rw [if_neg a, if_neg b]; exact ih
    · have e' : ¬ q.1 = k := fun z => e (h1.trans z)
      have a : decide (p.1 ≠ k) = true := by simp [e]
      have b : decide (q.1 ≠ k) = true := by simp [e']
      rw [if_pos a, if_pos b]; exact .cons ⟨h1, h2⟩ ih
theorem KV.keys {kvs : List (κ × V)} {vs : List (κ × Value)} (r : KV kvs vs) : kvs.map (·.1) = vs.map (·.1) := by
  unfold KV at r
  induction r with
  | nil => rfl
  | cons h t ih => rw [List.map_cons, List.map_cons, ih, h.1]
theorem KV.length {kvs : List (κ × V)} {vs : List (κ × Value)} (r : KV kvs vs) : kvs.length = vs.length := Paired.length r
theorem dropK_le (kvs : List (κ × V)) (k : κ) : (dropK kvs k).length ≤ kvs.length := List.length_filter_le _ _
end


/-! ### a tracked dict, its keys ints and texts or tuples of these -/
theorem kV_is {P : Program} {w : World} {k : Key} {u : Value} (r : RelV (kV k) u) : (mixKind P w).is k u = true := by
  cases k with
  | inl i => obtain ⟨t, e⟩ := (show ∃ t, u = Value.int i t from r); subst e; exact mixKind_int P w i t
  | inr x => obtain ⟨t, e⟩ := (show ∃ t, u = Value.str x t from r); subst e; exact mixKind_str P w x t
theorem kV_inj {a b : Key} (e : kV a = kV b) : a = b := by
  cases a with
  | inl i => cases b with
    | inl j => have e' : V.int i = V.int j := e; injection e' with e'; rw [e']
    | inr y => exact nomatch (show V.int i = V.str y from e)
  | inr x => cases b with
    | inl j => exact nomatch (show V.str x = V.int j from e)
    | inr y => have e' : V.str x = V.str y := e; injection e' with e'; rw [e']
theorem kVs_inj : ∀ {a b : List Key}, a.map kV = b.map kV → a = b
  | [], [], _ => rfl
  | [], _ :: _, e => by simp at e
  | _ :: _, [], e => by simp at e
  | x :: xs, y :: ys, e => by
    rw [List.map_cons, List.map_cons] at e
    injection e with e1 e2
    rw [kV_inj e1, kVs_inj e2]
theorem items_are {P : Program} {w : World} : ∀ {ks : List Key} {us : List Value}, Vals (ks.map kV) us → ItemsAre (mixKind P w) ks us
  | [], _, r => by rw [List.map_nil] at r; cases r; exact .nil
  | k :: ks, _, r => by
    rw [List.map_cons] at r
    cases r with
    | cons h t => exact .cons (kV_is h) (items_are t)

/-- raw entries of a dict with tuple keys -/
abbrev KT (H : Hp) : List (List Key × V) → List (List Key × Addr × Value) → Prop := Paired fun p q => p.1 = q.1 ∧ H q.2.1 = some (.tup (p.1.map kV)) ∧ RelV p.2 q.2.2
theorem KT.val {H : Hp} {kvs : List (List Key × V)} {xs : List (List Key × Addr × Value)} (r : KT H kvs xs) (k : List Key) : RelO (valV kvs k) ((atKey xs k).map (·.2)) := by
  induction r with
  | nil => exact True.intro
  | @cons p q ps qs h t ih =>
    obtain ⟨h1, _, h2⟩ := h
    by_cases e : p.1 = k
    · have e' : q.1 = k := h1.symm.trans e
      have b : atKey (q :: qs) k = some q.2 := by simp [atKey, List.find?_cons, e']
      rw [valV_pos e, b]; exact h2
    · have e' : ¬ q.1 = k := fun z => e (h1.trans z)
      have b : atKey (q :: qs) k = atKey qs k := by simp [atKey, List.find?_cons, e']
      rw [valV_neg e, b]; exact ih
theorem KT.repl {H : Hp} {kvs : List (List Key × V)} {xs : List (List Key × Addr × Value)} (r : KT H kvs xs) (k : List Key) {y : V} {u : Value} (ry : RelV y u) :
    KT H (kvs.map fun kv => if kv.1 = k then (kv.1, y) else kv) (xs.map (putAt k u)) := by
  induction r with
  | nil => exact .nil
  | @cons p q ps qs h t ih =>
    rw [List.map_cons, List.map_cons]
    refine .cons ?_ ih
    obtain ⟨h1, h2, h3⟩ := h
    unfold putAt
    by_cases e : p.1 = k
    · rw [if_pos e, if_pos (h1.symm.trans e)]; exact ⟨h1, h2, ry⟩
    · rw [if_neg e, if_neg (fun z => e (h1.trans z))]; exact ⟨h1, h2, h3⟩
theorem KT.put {H : Hp} {kvs : List (List Key × V)} {xs : List (List Key × Addr × Value)} (r : KT H kvs xs) (k : List Key) {b : Addr} {y : V} {u : Value} (hb : H b = some (.tup (k.map kV))) (ry : RelV y u) :
    KT H (putK kvs k y) (storedH xs k b u) := by
  have e : (kvs.any fun kv => decide (kv.1 = k)) = (atKey xs k).isSome := by
    rw [valV_any, (r.val k).isSome_eq, Option.isSome_map]
  unfold putK storedH
  rw [e]
  by_cases q : (atKey xs k).isSome = true
  · rw [if_pos q, if_pos q]; exact r.repl k ry
  · rw [if_neg q, if_neg q]; exact Paired.snoc r ⟨rfl, hb, ry⟩
theorem KT.keeps {H H' : Hp} {kvs : List (List Key × V)} {xs : List (List Key × Addr × Value)} (r : KT H kvs xs) (ht : ∀ b ys, H b = some (.tup ys) → H' b = some (.tup ys)) : KT H' kvs xs :=
  Paired.mapP r fun _ _ z => ⟨z.1, ht _ _ z.2.1, z.2.2⟩

section
variable {P : Program} {w : World} {H : Hp} {h : Heap} {a : Addr}
theorem rd_of {u : HO} (ok : HOk P w H h) (e : Rd H a u) : ObjOk P w H h a u := e.ok ok
theorem dk_rd {kvs : List (Key × V)} (ok : HOk P w H h) (e : Rd H a (.dK kvs)) : kvs.length ≤ sizeLine ∧ (a == sysModules) = false ∧ ∃ vs, KV kvs vs ∧ h.DictOf (mixKind P w) a vs :=
  show ObjOk P w H h a (.dK kvs) from rd_of ok e
theorem dk_of {kvs : List (Key × V)} (ok : HOk P w H h) (e : H a = some (.dK kvs)) : kvs.length ≤ sizeLine ∧ (a == sysModules) = false ∧ ∃ vs, KV kvs vs ∧ h.DictOf (mixKind P w) a vs := dk_rd ok (.inl e)
/-- a tracked tuple of ints and texts is a key -/
theorem key_of {ks : List Key} (ok : HOk P w H h) (e : H a = some (.tup (ks.map kV))) : (tupleKind (mixKind P w)).is h ks a := by
  obtain ⟨_, its, r, o, h1, h2, n, h3⟩ := (show ObjOk P w H h a (.tup (ks.map kV)) from ok a _ e)
  exact ⟨o, its.toArray, n, h1, h2, h3, by simpa using items_are r⟩
theorem dt_rd {kvs : List (List Key × V)} (ok : HOk P w H h) (e : Rd H a (.dT kvs)) : kvs.length ≤ sizeLine ∧ (a == sysModules) = false ∧
    ∃ xs, KT H kvs xs ∧ h.DictOfH (tupleKind (mixKind P w)) a xs := by
  obtain ⟨z, y, xs, r, o, es, ep, h1, h2, h3, h4, h5⟩ := (show ObjOk P w H h a (.dT kvs) from rd_of ok e)
  refine ⟨z, y, xs, r, o, es, ep, h1, h2, h3, h4, fun x hx => ?_, h5⟩
  have all : ∀ {l : List (List Key × V)} {m : List (List Key × Addr × Value)}, KT H l m → ∀ x ∈ m, (tupleKind (mixKind P w)).is h x.1 x.2.1 := by
    intro l m q
    induction q with
    | nil => intro x hx; exact nomatch hx
    | @cons p q ps qs hq t ih =>
      intro x hx
      rcases List.mem_cons.mp hx with e | hx
      · subst e
        exact key_of ok (by rw [← hq.1]; exact hq.2.1)
      · exact ih x hx
  exact all r x hx
theorem dt_of {kvs : List (List Key × V)} (ok : HOk P w H h) (e : H a = some (.dT kvs)) : kvs.length ≤ sizeLine ∧ (a == sysModules) = false ∧
    ∃ xs, KT H kvs xs ∧ h.DictOfH (tupleKind (mixKind P w)) a xs := dt_rd ok (.inl e)
end

/-- what the dict at a holds at the key y -/
def DGet (H : Hp) (a : Addr) (y : V) (r : Option V) : Prop :=
  (∃ kvs k, Rd H a (.dK kvs) ∧ y = kV k ∧ r = valV kvs k) ∨ ∃ kvs k b, Rd H a (.dT kvs) ∧ y = .ref b ∧ H b = some (.tup (k.map kV)) ∧ r = valV kvs k
/-- the heap behind a[y] = v -/
def DPut (H : Hp) (a : Addr) (y v : V) (H' : Hp) : Prop :=
  (∃ kvs k, H a = some (.dK kvs) ∧ y = kV k ∧ kvs.length < sizeLine ∧ H' = upd H a (.dK (putK kvs k v))) ∨
  ∃ kvs k b, H a = some (.dT kvs) ∧ y = .ref b ∧ H b = some (.tup (k.map kV)) ∧ kvs.length < sizeLine ∧ H' = upd H a (.dT (putK kvs k v))
theorem DGet.k {H : Hp} {a : Addr} {kvs : List (Key × V)} {k : Key} (e : H a = some (.dK kvs)) : DGet H a (kV k) (valV kvs k) := .inl ⟨kvs, k, .inl e, rfl, rfl⟩
theorem DGet.t {H : Hp} {a b : Addr} {kvs : List (List Key × V)} {k : List Key} (e : H a = some (.dT kvs)) (eb : H b = some (.tup (k.map kV))) : DGet H a (.ref b) (valV kvs k) := .inr ⟨kvs, k, b, .inl e, rfl, eb, rfl⟩
theorem DPut.k {H : Hp} {a : Addr} {kvs : List (Key × V)} {k : Key} {v : V} (e : H a = some (.dK kvs)) (hl : kvs.length < sizeLine) : DPut H a (kV k) v (upd H a (.dK (putK kvs k v))) := .inl ⟨kvs, k, e, rfl, hl, rfl⟩
theorem DPut.t {H : Hp} {a b : Addr} {kvs : List (List Key × V)} {k : List Key} {v : V} (e : H a = some (.dT kvs)) (eb : H b = some (.tup (k.map kV))) (hl : kvs.length < sizeLine) :
    DPut H a (.ref b) v (upd H a (.dT (putK kvs k v))) := .inr ⟨kvs, k, b, e, rfl, eb, hl, rfl⟩


section
variable {X : Cx} {pins : List (Addr × Obj)} {σ : St} {H : Hp} {s : Shared} {a : Addr} {y v : V} {u r : Value} {o : Option V} {A : Around} {E : Value → Shared → Prop}

theorem Inv.big (I : Inv X pins σ H s) : sysModules < s.heap.objs.size := by
  have h : mainGlobals < s.heap.objs.size := (I.mod.glob.keeps I.bk).lt
  exact Nat.lt_trans (by decide) h

/-- d[y], there -/
theorem d_getItem {Q : Value → Shared → Prop} (hu : A.units + 1 < cLine) (I : Inv X pins σ H s) (g : DGet H a y (some v)) (ry : RelV y u) (h : ∀ w' s', Inv X pins σ H s' → RelV v w' → Q w' s') :
    wpAny (model X.prog X.w) A (getItem (.ref a) u) Q E s := by
  rcases g with ⟨kvs, k, e, ey, l⟩ | ⟨kvs, k, b, e, ey, eb, l⟩
  · subst ey
    obtain ⟨z, hd, vs, rel, dd⟩ := dk_rd I.hok e
    obtain ⟨w', hw, rw'⟩ := RelO.some_of (v := v) (o := valueAt vs k) (by rw [l]; exact rel.val k)
    exact wpAny_getItem_of (kV_is ry) dd.mapOf hw (h w' _ (I.tok _) rw')
  · subst ey
    cases (show u = Value.ref b from ry)
    obtain ⟨z, hd, xs, rel, dd⟩ := dt_rd I.hok e
    obtain ⟨w', hw, rw'⟩ := RelO.some_of (v := v) (o := (atKey xs k).map (·.2)) (by rw [l]; exact rel.val k)
    obtain ⟨p, hp, hp2⟩ := Option.map_eq_some_iff.mp hw
    refine wpAny_getItem_heap (tupleKind_room_in1 hu) (key_of I.hok eb) dd hp ?_
    rw [hp2]
    exact h w' _ (I.tok _) rw'
/-- y in d -/
theorem d_in {Q : Value → Shared → Prop} (hu : A.units + 1 < cLine) (I : Inv X pins σ H s) (g : DGet H a y o) (ry : RelV y u) (h : ∀ s', Inv X pins σ H s' → Q (.bool o.isSome) s') :
    wpAny (model X.prog X.w) A (compareOp .In u (.ref a)) Q E s := by
  rcases g with ⟨kvs, k, e, ey, l⟩ | ⟨kvs, k, b, e, ey, eb, l⟩
  · subst ey
    obtain ⟨z, hd, vs, rel, dd⟩ := dk_rd I.hok e
    refine wpAny_in_of (kV_is ry) hd dd.mapOf ?_
    rw [← (rel.val k).isSome_eq, ← l]
    exact h _ (I.tok _)
  · subst ey
    cases (show u = Value.ref b from ry)
    obtain ⟨z, hd, xs, rel, dd⟩ := dt_rd I.hok e
    refine wpAny_in_heap (tupleKind_room_in1 hu) (key_of I.hok eb) hd dd ?_
    have q := (rel.val k).isSome_eq
    rw [Option.isSome_map] at q
    rw [← q, ← l]
    exact h _ (I.tok _)
theorem d_notIn {Q : Value → Shared → Prop} (hu : A.units + 1 < cLine) (I : Inv X pins σ H s) (g : DGet H a y o) (ry : RelV y u) (h : ∀ s', Inv X pins σ H s' → Q (.bool (!o.isSome)) s') :
    wpAny (model X.prog X.w) A (compareOp .NotIn u (.ref a)) Q E s := by
  rcases g with ⟨kvs, k, e, ey, l⟩ | ⟨kvs, k, b, e, ey, eb, l⟩
  · subst ey
    obtain ⟨z, hd, vs, rel, dd⟩ := dk_rd I.hok e
    refine wpAny_notIn_of (kV_is ry) hd dd.mapOf ?_
    rw [← (rel.val k).isSome_eq, ← l]
    exact h _ (I.tok _)
  · subst ey
    cases (show u = Value.ref b from ry)
    obtain ⟨z, hd, xs, rel, dd⟩ := dt_rd I.hok e
    refine wpAny_notIn_heap (tupleKind_room_in1 hu) (key_of I.hok eb) hd dd ?_
    have q := (rel.val k).isSome_eq
    rw [Option.isSome_map] at q
    rw [← q, ← l]
    exact h _ (I.tok _)
/-- a dict's object is replaced -/
theorem d_write {h' : Heap} {t' : Nat} {ob : HO} (I : Inv X pins σ H s) (mu : Mut (H a)) (hs : Heap.SameBut a s.heap h') (he : ∃ q, h'.get? a = some q) (new : ObjOk X.prog X.w (upd H a ob) h' a ob) :
    Inv X pins σ (upd H a ob) { s with heap := h', toks := t' } :=
  I.write (x := a) (e := a) mu (.inl rfl) (fun b q hb z => (hs.2 b hb).trans z) he new
theorem dk_new {P : Program} {w : World} {H' : Hp} {h' : Heap} {kvs : List (Key × V)} {vs : List (Key × Value)} (z : kvs.length ≤ sizeLine) (hd : (a == sysModules) = false) (rel : KV kvs vs) (dd : h'.DictOf (mixKind P w) a vs) :
    ObjOk P w H' h' a (.dK kvs) := ⟨z, hd, vs, rel, dd⟩
/-- d[y] = v -/
theorem d_setItem {H' : Hp} {Q : Unit → Shared → Prop} (hu : A.units + 1 < cLine) (I : Inv X pins σ H s) (g : DPut H a y v H') (ry : RelV y u) (rv : RelV v r) (h : ∀ s', Inv X pins σ H' s' → Q () s') :
    wpAny (model X.prog X.w) A (setItem (.ref a) u r) Q E s := by
  rcases g with ⟨kvs, k, e, ey, l, eH⟩ | ⟨kvs, k, b, e, ey, eb, l, eH⟩
  · subst ey eH
    obtain ⟨z, hd, vs, rel, dd⟩ := dk_of I.hok e
    have hz : vs.length ≤ sizeLine := by rw [← rel.length]; exact z
    have hl : (putK kvs k v).length ≤ sizeLine := by have := length_putK kvs k v; omega
    refine wpAny_setItem_pairs (hsz := hz) (kV_is ry) dd fun h' dd' hs => h _ ?_
    have he : ∃ q, h'.get? a = some q := let ⟨q, _, _, hq, _⟩ := dd'; ⟨q, hq⟩
    exact d_write I (by rw [e]; exact True.intro) hs he (dk_new hl hd (rel.put k rv) dd')
  · subst ey eH
    cases (show u = Value.ref b from ry)
    obtain ⟨z, hd, xs, rel, dd⟩ := dt_of I.hok e
    have hz : xs.length ≤ sizeLine := by rw [← Paired.length rel]; exact z
    have hl : (putK kvs k v).length ≤ sizeLine := by have := length_putK kvs k v; omega
    refine wpAny_setItem_heap (hsz := hz) (tupleKind_room_in1 hu) (key_of I.hok eb) dd fun h' dd' hs => h _ ?_
    obtain ⟨q, es, ep, hq, h2, h3, h4, _, h5⟩ := dd'
    refine d_write I (by rw [e]; exact True.intro) hs ⟨q, hq⟩ ⟨hl, hd, _, (rel.put k eb rv).keeps fun c ys ec => ?_, q, es, ep, hq, h2, h3, h4, h5⟩
    rw [upd_ne (ne_of ec e (fun z => nomatch z))]
    exact ec
end

section
variable {X : Cx} {pins : List (Addr × Obj)} {σ : St} {H : Hp} {s : Shared} {a : Addr} {kvs : List (Key × V)} {k : Key} {u : Value} {A : Around} {E : Value → Shared → Prop}
/-- del d[k] -/
theorem d_delItem {Q : Unit → Shared → Prop} (I : Inv X pins σ H s) (e : H a = some (.dK kvs)) (ry : RelV (kV k) u) (l : (valV kvs k).isSome = true) (h : ∀ s', Inv X pins σ (upd H a (.dK (dropK kvs k))) s' → Q () s') :
    wpAny (model X.prog X.w) A (delItem (.ref a) u) Q E s := by
  obtain ⟨z, hd, vs, rel, dd⟩ := dk_of I.hok e
  refine wpAny_delItem_slot dd.typeIs (by decide) PySem.F.slot_dict_delitem
    (call_meetsIn PySem.F.slot_dict_delitem dd.typeIs PySem.F.entry_dict_delitem (PySem.F.args_dict_delitem_2 _ _) (meets_dict_delitem_pairs (mixKind X.prog X.w) a (kV_is ry)) ⟨vs, dd, by rw [← rel.length]; exact z, by rw [← (rel.val k).isSome_eq]; exact l, fun h' dd' hs => h _ ?_⟩)
  have he : ∃ q, h'.get? a = some q := let ⟨q, _, _, hq, _⟩ := dd'; ⟨q, hq⟩
  exact d_write I (by rw [e]; exact True.intro) hs he (dk_new (Nat.le_trans (dropK_le kvs k) z) hd (rel.drop k) dd')
/-- d.pop(k[, x]), there -/
theorem d_pop {v : V} {more : List Value} {Q : Value → Shared → Prop} (I : Inv X pins σ H s) (e : H a = some (.dK kvs)) (ry : RelV (kV k) u) (l : valV kvs k = some v) (hm : more = [] ∨ ∃ x, more = [x])
    (h : ∀ w' s', Inv X pins σ (upd H a (.dK (dropK kvs k))) s' → RelV v w' → Q w' s') : wpAny (model X.prog X.w) A (call (.builtin "dict.pop") (.ref a :: u :: more)) Q E s := by
  obtain ⟨z, hd, vs, rel, dd⟩ := dk_of I.hok e
  obtain ⟨w', hw, rw'⟩ := RelO.some_of (v := v) (o := valueAt vs k) (by rw [← l]; exact rel.val k)
  have hp : (keyPart u).isSome = true := by
    cases k with
    | inl i => obtain ⟨t, q⟩ := (show ∃ t, u = Value.int i t from ry); subst q; rfl
    | inr x => obtain ⟨t, q⟩ := (show ∃ t, u = Value.str x t from ry); subst q; rfl
  have ha : argsOk "dict.pop" ⟨.ref a :: u :: more, []⟩ := by
    rcases hm with q | ⟨x, q⟩
    · subst q; exact PySem.F.args_dict_pop_2 _ _
    · subst q; exact PySem.F.args_dict_pop_3 _ _ _
  refine call_meetsIn PySem.F.slot_dict_pop dd.typeIs PySem.F.entry_dict_pop ha (meets_dict_pop_there (mixKind X.prog X.w) a (kV_is ry) more hm hp)
    ⟨vs, w', dd, by rw [← rel.length]; exact z, hw, fun h' dd' hs => h w' _ ?_ rw'⟩
  have he : ∃ q, h'.get? a = some q := let ⟨q, _, _, hq, _⟩ := dd'; ⟨q, hq⟩
  exact d_write I (by rw [e]; exact True.intro) hs he (dk_new (Nat.le_trans (dropK_le kvs k) z) hd (rel.drop k) dd')
/-- d.pop(k, x), not there -/
theorem d_popD {r : Value} {Q : Value → Shared → Prop} (I : Inv X pins σ H s) (e : H a = some (.dK kvs)) (ry : RelV (kV k) u) (l : valV kvs k = none) (h : ∀ s', Inv X pins σ H s' → Q r s') :
    wpAny (model X.prog X.w) A (call (.builtin "dict.pop") [.ref a, u, r]) Q E s := by
  obtain ⟨z, hd, vs, rel, dd⟩ := dk_of I.hok e
  have hn : valueAt vs k = none := RelO.none_of (by rw [← l]; exact rel.val k)
  have hp : (keyPart u).isSome = true := by
    cases k with
    | inl i => obtain ⟨t, q⟩ := (show ∃ t, u = Value.int i t from ry); subst q; rfl
    | inr x => obtain ⟨t, q⟩ := (show ∃ t, u = Value.str x t from ry); subst q; rfl
  exact call_meetsIn PySem.F.slot_dict_pop dd.typeIs PySem.F.entry_dict_pop (PySem.F.args_dict_pop_3 _ _ _) (meets_dict_pop_default (mixKind X.prog X.w) a (kV_is ry) hd hp r) ⟨vs, dd, hn, h _ (I.tok _)⟩
/-- d.clear() -/
theorem d_clear {Q : Value → Shared → Prop} (I : Inv X pins σ H s) (e : H a = some (.dK kvs)) (h : ∀ s', Inv X pins σ (upd H a (.dK [])) s' → Q .none s') : wpAny (model X.prog X.w) A (call (.builtin "dict.clear") [.ref a]) Q E s := by
  obtain ⟨z, hd, vs, rel, dd⟩ := dk_of I.hok e
  refine call_meetsIn PySem.F.slot_dict_clear dd.typeIs PySem.F.entry_dict_clear (PySem.F.args_dict_clear_1 _) (meets_dict_clear (mixKind X.prog X.w) a) ⟨vs, dd, by rw [← rel.length]; exact z, fun h' dd' hs => h _ ?_⟩
  have he : ∃ q, h'.get? a = some q := let ⟨q, _, _, hq, _⟩ := dd'; ⟨q, hq⟩
  exact d_write (t' := s.toks) I (by rw [e]; exact True.intro) hs he (dk_new (Nat.zero_le _) hd .nil dd')
/-- len(d) -/
theorem d_len {Q : Value → Shared → Prop} (I : Inv X pins σ H s) (e : Rd H a (.dK kvs)) (h : ∀ t s', Inv X pins σ H s' → Q (.int kvs.length t) s') : wpAny (model X.prog X.w) A (call (.builtin "len") [.ref a]) Q E s := by
  obtain ⟨z, hd, vs, rel, dd⟩ := dk_rd I.hok e
  refine call_len_dict hd dd (by rw [← rel.length]; rw [sizeLine_eq] at z; omega) ?_
  rw [← rel.length]
  exact h _ _ (I.tok _)
/-- if d -/
theorem d_truth {Q : Bool → Shared → Prop} (I : Inv X pins σ H s) (e : Rd H a (.dK kvs)) (h : ∀ s', Inv X pins σ H s' → Q (!kvs.isEmpty) s') : wpAny (model X.prog X.w) A (truthy (.ref a)) Q E s := by
  obtain ⟨z, hd, vs, rel, dd⟩ := dk_rd I.hok e
  refine wpAny_truthy_dict hd dd (by rw [← rel.length]; rw [sizeLine_eq] at z; omega) ?_
  have q : kvs.isEmpty = vs.isEmpty := by cases rel <;> rfl
  rw [← q]
  exact h _ (I.tok _)
end


/-! ### readings and rules -/
/-- the element of a subscription, not a slice -/
def NoSl (i : Expr) : Prop := ∀ ov iv, subscripted i false ov iv = operate [ov, iv] (getItem ov iv)
theorem subD_of {prog : Program} {w : World} {A : Around} {E : Value → Shared → Prop} {s : Shared} {env : Env} {value slice : Expr} {pos : Pos} {T id : String} {Q : Value → Shared → Prop}
    (hl : typeLookup (.type T) "__getitem__" = pure (some (.builtin id))) (hs : NoSl slice)
    (h : wpAny (model prog w) A (eval value env) (fun o s₁ => wpAny (model prog w) A (eval slice env) (fun i s₂ => s₂.TypeIs o T ∧ wpAny (model prog w) A (getItem o i) Q E s₂) E s₁) E s) :
    wpAny (model prog w) A (eval (.Subscript value slice pos) env) Q E s := by
  refine Subscript_ (wpAny_mono h (fun o s₁ h₁ => wpAny_mono h₁ (fun i s₂ h₂ => ?_) fun _ _ x => x) fun _ _ x => x)
  obtain ⟨hT, h₂⟩ := h₂
  unfold subscriptTail
  refine wpAny_bind ?_
  rw [getitemInPython_of_ne hT.not_modules]
  refine wpAny_bind (wpAny_specialOf hT hl ?_)
  have fin : wpAny (model prog w) A (subscripted slice false o i) (fun r s₃ => wpAny (model prog w) A (letTemporaryGo value o r >>= fun _ => pure r) Q E s₃) E s₂ := by
    rw [hs o i]
    exact wpAny_operating (wpAny_mono h₂ (fun r s₃ h₃ => wpAny_bind (wpAny_letTemporaryGo (wpAny_pure h₃))) fun _ _ x => x)
  first
    | exact wpAny_pure (wpAny_bind fin)
    | exact wpAny_bind (wpAny_pure (wpAny_bind fin))
    | exact wpAny_bind fin

theorem dict_typeIs {X : Cx} {pins : List (Addr × Obj)} {σ : St} {H : Hp} {s : Shared} {a : Addr} {y : V} {o : Option V} (I : Inv X pins σ H s) (g : DGet H a y o) : s.TypeIs (.ref a) "dict" := by
  rcases g with ⟨kvs, k, e, _, _⟩ | ⟨kvs, k, b, e, _, _, _⟩
  · obtain ⟨_, _, vs, _, dd⟩ := dk_rd I.hok e
    exact dd.typeIs
  · obtain ⟨_, _, xs, _, dd⟩ := dt_rd I.hok e
    exact dd.typeIs
theorem dict_noDict {X : Cx} {pins : List (Addr × Obj)} {σ : St} {H : Hp} {s : Shared} {a : Addr} {y : V} {o : Option V} (I : Inv X pins σ H s) (g : DGet H a y o) :
    ∀ b, Value.ref a = .ref b → ∃ ob, s.heap.get? b = some ob ∧ ob.dict = none := fun b q => by
  cases q
  rcases g with ⟨kvs, k, e, _, _⟩ | ⟨kvs, k, b, e, _, _, _⟩
  · obtain ⟨_, _, vs, _, ob, _, _, h1, h2, _⟩ := dk_rd I.hok e
    exact ⟨ob, h1, h2.2.1⟩
  · obtain ⟨_, _, xs, _, ob, _, _, h1, h2, _⟩ := dt_rd I.hok e
    exact ⟨ob, h1, h2.2.1⟩

/-- d[y] -/
def tDGet (td ty : TE) : TE := fun σ H Q => td σ H fun x H1 => ty σ H1 fun y H2 => ∃ a v, x = .ref a ∧ DGet H2 a y (some v) ∧ Q v H2
/-- y in d, y not in d -/
def tDIn (ty td : TE) : TE := fun σ H Q => ty σ H fun y H1 => td σ H1 fun x H2 => ∃ a o, x = .ref a ∧ DGet H2 a y o ∧ Q (.bl o.isSome) H2
def tDNotIn (ty td : TE) : TE := fun σ H Q => ty σ H fun y H1 => td σ H1 fun x H2 => ∃ a o, x = .ref a ∧ DGet H2 a y o ∧ Q (.bl (!o.isSome)) H2
/-- d[y] = v -/
def sDPut (td ty tv : TE) : TS := fun D σ H => tv σ H fun v H1 => td σ H1 fun x H2 => ty σ H2 fun y H3 => ∃ a H4, x = .ref a ∧ DPut H3 a y v H4 ∧ D.nx σ H4
/-- d[y] op= v -/
def sDAug (td ty tv : TE) (rd : V → V → Hp → VK → Prop) : TS := fun D σ H => td σ H fun x H1 => ty σ H1 fun y H2 => ∃ a v, x = .ref a ∧ DGet H2 a y (some v) ∧
  tv σ H2 fun y2 H3 => rd v y2 H3 fun z H4 => ∃ H5, DPut H4 a y z H5 ∧ D.nx σ H5
/-- del d[y] -/
def sDDel (td ty : TE) : TS := fun D σ H => td σ H fun x H1 => ty σ H1 fun y H2 => ∃ a kvs k, x = .ref a ∧ H2 a = some (.dK kvs) ∧ y = kV k ∧ (valV kvs k).isSome = true ∧ D.nx σ (upd H2 a (.dK (dropK kvs k)))

section
variable {X : Cx} {o i e value : Expr} {pos pos' tpos : Pos} {td ty tv : TE}
theorem pe_dget (hu : X.A.units + 1 < cLine) (ho : PE X o td) (hi : PE X i ty) (hs : NoSl i) : PE X (.Subscript o i pos) (tDGet td ty) := by
  intro pins s σ H Q I h
  refine subD_of PySem.F.slot_dict_getitem.lookup hs (thn (ho pins s σ H _ I h) fun u s1 ⟨x, H1, I1, rx, q1⟩ => thn (hi pins s1 σ H1 _ I1 q1) fun iv s2 ⟨y, H2, I2, ry, a, v, ex, g, q2⟩ => ?_)
  subst ex
  obtain rfl : u = Value.ref a := rx
  exact ⟨dict_typeIs I2 g, d_getItem hu I2 g ry fun w' s3 I3 rw' => ⟨v, H2, I3, rw', q2⟩⟩
theorem pc_din (hu : X.A.units + 1 < cLine) (hi : PE X i ty) (ho : PE X o td) : PC X .In i o (tDIn ty td) := by
  intro pins s σ H Q I h
  refine thn (hi pins s σ H _ I h) fun iv s1 ⟨y, H1, I1, ry, q1⟩ => thn (ho pins s1 σ H1 _ I1 q1) fun u s2 ⟨x, H2, I2, rx, a, ov, ex, g, q2⟩ => ?_
  subst ex
  obtain rfl : u = Value.ref a := rx
  exact d_in hu I2 g ry fun s3 I3 => ⟨.bl ov.isSome, H2, I3, rfl, q2⟩
theorem pc_dnotin (hu : X.A.units + 1 < cLine) (hi : PE X i ty) (ho : PE X o td) : PC X .NotIn i o (tDNotIn ty td) := by
  intro pins s σ H Q I h
  refine thn (hi pins s σ H _ I h) fun iv s1 ⟨y, H1, I1, ry, q1⟩ => thn (ho pins s1 σ H1 _ I1 q1) fun u s2 ⟨x, H2, I2, rx, a, ov, ex, g, q2⟩ => ?_
  subst ex
  obtain rfl : u = Value.ref a := rx
  exact d_notIn hu I2 g ry fun s3 I3 => ⟨.bl (!ov.isSome), H2, I3, rfl, q2⟩
theorem ps_dput (hu : X.A.units + 1 < cLine) (ho : PE X o td) (hi : PE X i ty) (hv : PE X value tv) (hs : swapsWith value (some (.Subscript o i pos')) pos.line X.env = pure false) :
    PS X (.Assign [.Subscript o i pos'] value pos) (sDPut td ty tv) := by
  intro pins s σ H D I h
  refine wpAny_Assign_Subscript (thn (hv pins s σ H _ I h) fun r s1 ⟨v, H1, I1, rv, q1⟩ => thn (ho pins s1 σ H1 _ I1 q1) fun u s2 ⟨x, H2, I2, rx, q2⟩ => thn (hi pins s2 σ H2 _ I2 q2) fun iv s3 ⟨y, H3, I3, ry, a, H4, ex, g, q3⟩ => ?_) hs
  subst ex
  obtain rfl : u = Value.ref a := rx
  exact d_setItem hu I3 g ry rv fun s4 I4 => ⟨σ, H4, I4, q3⟩
theorem ps_daug {op : Operator} {rd : V → V → Hp → VK → Prop} (hu : X.A.units + 1 < cLine) (ho : PE X o td) (hi : PE X i ty) (hv : PE X value tv) (hop : InOp X op rd)
    (ha : ∀ ov iv new, augStore i ov iv new = (do holding [new, ov, iv] (setItem ov iv new); release [new, ov, iv] []; pure .next)) : PS X (.AugAssign (.Subscript o i tpos) op value pos) (sDAug td ty tv rd) := by
  intro pins s σ H D I h
  refine wpAny_AugAssign_SubscriptAny (thn (ho pins s σ H _ I h) fun u s1 ⟨x, H1, I1, rx, q1⟩ => thn (hi pins s1 σ H1 _ I1 q1) fun iv s2 ⟨y, H2, I2, ry, a, v, ex, g, q2⟩ => ?_) ha
  subst ex
  obtain rfl : u = Value.ref a := rx
  refine d_getItem hu I2 g ry fun w' s3 I3 rw' => thn (hv pins s3 σ H2 _ I3 q2) fun w2 s4 ⟨y2, H3, I4, ry2, q3⟩ => thn (hop pins s4 σ H3 v y2 w' w2 _ I4 rw' ry2 q3) fun w3 s5 ⟨z, H4, I5, rz, H5, g5, q4⟩ => ?_
  exact d_setItem hu I5 g5 ry rz fun s6 I6 => ⟨σ, H5, I6, q4⟩
theorem ps_ddel (ho : PE X o td) (hi : PE X i ty) : PS X (.Delete [.Subscript o i tpos] pos) (sDDel td ty) := by
  intro pins s σ H D I h
  refine wpAny_Delete (wpAny_deleteEach_cons (wpAny_delete_Subscript (thn (ho pins s σ H _ I h) fun u s1 ⟨x, H1, I1, rx, q1⟩ => thn (hi pins s1 σ H1 _ I1 q1) fun iv s2 ⟨y, H2, I2, ry, a, kvs, k, ex, e, ey, l, q2⟩ => ?_)))
  subst ex ey
  obtain rfl : u = Value.ref a := rx
  exact d_delItem I2 e ry l fun s3 I3 => wpAny_deleteEach_nil ⟨σ, _, I3, q2⟩
end


/-! ### displays -/
theorem dk_empty {P : Program} {w : World} {H : Hp} (h : Heap) (hb : sysModules < h.objs.size) : ObjOk P w H (h.push { cls := .type "dict", data := .dict #[] }) h.objs.size (.dK []) :=
  ⟨Nat.zero_le _, beq_eq_false_iff_ne.mpr (Ne.symm (Nat.ne_of_lt hb)), [], .nil, Heap.DictOf.new h⟩
theorem dt_empty {P : Program} {w : World} {H : Hp} (h : Heap) (hb : sysModules < h.objs.size) : ObjOk P w H (h.push { cls := .type "dict", data := .dict #[] }) h.objs.size (.dT []) :=
  ⟨Nat.zero_le _, beq_eq_false_iff_ne.mpr (Ne.symm (Nat.ne_of_lt hb)), [], .nil, _, #[], 0, Heap.get?_push_size _ rfl, ⟨rfl, rfl, rfl⟩, rfl, rfl, List.nodup_nil⟩
/-- {}, to be a dict of the kind that is wanted -/
def tDNewK : TE := fun _ H Q => ∀ p, H p = none → Q (.ref p) (upd H p (.dK []))
def tDNewT : TE := fun _ H Q => ∀ p, H p = none → Q (.ref p) (upd H p (.dT []))
section
variable {X : Cx} {pos : Pos}
theorem pe_dnewK : PE X (.Dict [] [] pos) tDNewK := fun pins s σ H Q I h =>
  wpAny_Dict_empty ⟨.ref s.heap.objs.size, _, I.laid (a := s.heap.objs.size) (o := .dK []) (t' := s.toks) (fun _ _ q => Heap.get?_push_of_some _ q) (Nat.le_refl _) (dk_empty s.heap I.big), rfl, h _ (I.hok.fresh (Nat.le_refl _))⟩
theorem pe_dnewT : PE X (.Dict [] [] pos) tDNewT := fun pins s σ H Q I h =>
  wpAny_Dict_empty ⟨.ref s.heap.objs.size, _, I.laid (a := s.heap.objs.size) (o := .dT []) (t' := s.toks) (fun _ _ q => Heap.get?_push_of_some _ q) (Nat.le_refl _) (dt_empty s.heap I.big), rfl, h _ (I.hok.fresh (Nat.le_refl _))⟩
end

/-- the pairs of a display, from the left -/
def tPairs : List (TE × TE) → St → Hp → (List (V × V) → Hp → Prop) → Prop
  | [], _, H, Q => Q [] H
  | (tk, tv) :: r, σ, H, Q => tk σ H fun x H1 => tv σ H1 fun y H2 => tPairs r σ H2 fun ps H3 => Q ((x, y) :: ps) H3
abbrev VV : List (V × V) → List (Value × Value) → Prop := Paired fun p q => RelV p.1 q.1 ∧ RelV p.2 q.2
def PPs (X : Cx) (pos : Pos) (keys : List (Option Expr)) (values : List Expr) (trs : List (TE × TE)) : Prop :=
  ∀ (pins : List (Addr × Obj)) (s : Shared) (σ : St) (H : Hp) (Q : List (V × V) → Hp → Prop), Inv X pins σ H s → tPairs trs σ H Q →
    wpAny (model X.prog X.w) X.A (evalPairs (pairTrees keys values X.env pos)) (fun vs s' => ∃ ps H', Inv X pins σ H' s' ∧ VV ps vs ∧ Q ps H') X.xe s
theorem pps_nil {X : Cx} {pos : Pos} : PPs X pos [] [] [] := fun pins s σ H Q I h => pairTrees_nil_walk ⟨[], H, I, .nil, h⟩
theorem pps_cons {X : Cx} {pos : Pos} {k v : Expr} {ks : List (Option Expr)} {vs : List Expr} {tk tv : TE} {trs : List (TE × TE)} (hk : PE X k tk) (hv : PE X v tv) (hr : PPs X pos ks vs trs) :
    PPs X pos (some k :: ks) (v :: vs) ((tk, tv) :: trs) := fun pins s σ H Q I h =>
  pairTrees_cons_walk (thn (hk pins s σ H _ I h) fun u s1 ⟨x, H1, I1, rx, q1⟩ => thn (hv pins s1 σ H1 _ I1 q1) fun w2 s2 ⟨y, H2, I2, ry, q2⟩ =>
    thn (hr pins s2 σ H2 _ I2 q2) fun ws s3 ⟨ps, H3, I3, rel, q3⟩ => ⟨(x, y) :: ps, H3, I3, .cons ⟨rx, ry⟩ rel, q3⟩)

def mergeK (kvs more : List (Key × V)) : List (Key × V) := more.foldl (fun acc kv => putK acc kv.1 kv.2) kvs
theorem KV.merge : ∀ {more : List (Key × V)} {rs : List (Key × Value)} {kvs : List (Key × V)} {vs : List (Key × Value)}, KV more rs → KV kvs vs → KV (mergeK kvs more) (merged vs rs) := by
  intro more rs kvs vs r
  unfold KV at r
  induction r generalizing kvs vs with
  | nil => intro q; exact q
  | @cons p q ps qs h t ih =>
    intro r0
    have e : KV (putK kvs p.1 p.2) (stored vs q.1 q.2) := by
      have := r0.put p.1 h.2
      rw [← h.1]; exact this
    exact ih e
theorem length_mergeK : ∀ (more kvs : List (Key × V)), (mergeK kvs more).length ≤ kvs.length + more.length
  | [], kvs => by show kvs.length ≤ kvs.length + 0; omega
  | p :: r, kvs => by
    have h1 := length_mergeK r (putK kvs p.1 p.2)
    have h2 := length_putK kvs p.1 p.2
    show (mergeK (putK kvs p.1 p.2) r).length ≤ _
    rw [List.length_cons]; omega
theorem carries_of {P : Program} {w : World} : ∀ {kvs : List (Key × V)} {ws : List (Value × Value)}, VV (kvs.map fun kv => (kV kv.1, kv.2)) ws → ∃ rs, Carries (mixKind P w) ws rs ∧ KV kvs rs
  | [], _, r => by rw [List.map_nil] at r; cases r; exact ⟨[], True.intro, .nil⟩
  | p :: kvs, _, r => by
    rw [List.map_cons] at r
    cases r with
    | @cons a b as bs h t =>
      obtain ⟨rs, c, q⟩ := carries_of (P := P) (w := w) t
      obtain ⟨b1, b2⟩ := b
      exact ⟨(p.1, b2) :: rs, ⟨kV_is h.1, rfl, c⟩, .cons ⟨rfl, h.2⟩ q⟩
/-- {k: v, ..} with keys ints and texts; the new dict stands empty while the pairs are made -/
def tDisp (trs : List (TE × TE)) : TE := fun σ H Q => ∀ p, H p = none → tPairs trs σ (upd H p (.dK [])) fun ps H2 => H2 p = some (.dK []) ∧ ∃ kvs : List (Key × V), ps = kvs.map (fun kv => (kV kv.1, kv.2)) ∧ kvs.length ≤ 15 ∧ Q (.ref p) (upd H2 p (.dK (mergeK [] kvs)))
theorem pe_disp {X : Cx} {pos : Pos} {keys : List (Option Expr)} {values : List Expr} {trs : List (TE × TE)} (h : PPs X pos keys values trs) (hall : keys.all (·.isSome) = true) (hl : keys.length = values.length) (h0 : keys ≠ [])
    (h15 : keys.length ≤ 15) : PE X (.Dict keys values pos) (tDisp trs) := by
  intro pins s σ H Q I q
  have hn := I.hok.fresh (Nat.le_refl s.heap.objs.size)
  have I1 := I.laid (a := s.heap.objs.size) (o := .dK []) (h' := s.heap.push { cls := .type "dict", data := .dict #[] }) (t' := s.toks) (fun _ _ q => Heap.get?_push_of_some _ q) (Nat.le_refl _) (dk_empty s.heap I.big)
  refine wpAny_Dict_walk (knd := mixKind X.prog X.w) hall hl h0 h15 (thn (h pins _ σ _ _ I1 (q _ hn)) fun ws s2 ⟨ps, H2, I2, rel, e, kvs, ep, lk, q2⟩ => ?_)
  subst ep
  obtain ⟨rs, c, rk⟩ := carries_of (P := X.prog) (w := X.w) rel
  obtain ⟨z, hd, vs0, r0, dd⟩ := dk_of I2.hok e
  cases r0
  refine ⟨rs, c, dd, fun h' dd' hs => ⟨.ref s.heap.objs.size, _, ?_, rfl, q2⟩⟩
  have hz : (mergeK [] kvs).length ≤ sizeLine := by
    have h1 := length_mergeK kvs []
    rw [List.length_nil] at h1
    rw [sizeLine_eq]; omega
  have he : ∃ q, h'.get? s.heap.objs.size = some q := let ⟨q, _, _, hq, _⟩ := dd'; ⟨q, hq⟩
  exact d_write I2 (by rw [e]; exact True.intro) hs he (dk_new hz hd (rk.merge .nil) dd')


/-! ### methods -/
/-- a method call o.m(e) of a built-in, with one argument: what must be seen of the text -/
structure M1 (X : Cx) (o : Expr) (m : Str) (apos : Pos) (e : Expr) (cpos : Pos) : Prop where
  base : attributeBase o m X.env (eval o X.env) = eval o X.env
  few : ((backTo cpos (starEach [e] X.env)).all (fun x => !x.1) && (backToKw cpos (keywordEach [] X.env)).all (fun x => x.1.isSome)
    && decide (([e] : List Expr).length + ([] : List Keyword).length + (if ([] : List Keyword).isEmpty then 0 else 1) < 30)) = true
  line : (apos.endLine == cpos.line) = true
  trees : backTo cpos (starEach [e] X.env) = [(false, eval e X.env)]
structure M2 (X : Cx) (o : Expr) (m : Str) (apos : Pos) (e f : Expr) (cpos : Pos) : Prop where
  base : attributeBase o m X.env (eval o X.env) = eval o X.env
  few : ((backTo cpos (starEach [e, f] X.env)).all (fun x => !x.1) && (backToKw cpos (keywordEach [] X.env)).all (fun x => x.1.isSome)
    && decide (([e, f] : List Expr).length + ([] : List Keyword).length + (if ([] : List Keyword).isEmpty then 0 else 1) < 30)) = true
  line : (apos.endLine == cpos.line) = true
  trees : backTo cpos (starEach [e, f] X.env) = [(false, eval e X.env), (false, eval f X.env)]

/-- a is a dict, whatever its keys -/
def IsD (H : Hp) (a : Addr) : Prop := (∃ kvs, Rd H a (.dK kvs)) ∨ ∃ kvs, Rd H a (.dT kvs)
theorem isD_at {X : Cx} {pins : List (Addr × Obj)} {σ : St} {H : Hp} {s : Shared} {a : Addr} (I : Inv X pins σ H s) (d : IsD H a) :
    s.TypeIs (.ref a) "dict" ∧ (∀ b, Value.ref a = .ref b → ∃ ob, s.heap.get? b = some ob ∧ ob.dict = none) ∧ (a == sysModules) = false := by
  rcases d with ⟨kvs, e⟩ | ⟨kvs, e⟩
  · obtain ⟨_, hd, vs, _, dd⟩ := dk_rd I.hok e
    refine ⟨dd.typeIs, fun b q => ?_, hd⟩
    cases q
    obtain ⟨ob, _, _, h1, h2, _⟩ := dd
    exact ⟨ob, h1, h2.2.1⟩
  · obtain ⟨_, hd, xs, _, dd⟩ := dt_rd I.hok e
    refine ⟨dd.typeIs, fun b q => ?_, hd⟩
    cases q
    obtain ⟨ob, _, _, h1, h2, _⟩ := dd
    exact ⟨ob, h1, h2.2.1⟩

section
variable {X : Cx} {pins : List (Addr × Obj)} {σ : St} {H : Hp} {s : Shared} {a : Addr} {y d : V} {u r : Value} {o : Option V} {A : Around} {E : Value → Shared → Prop}
/-- d.get(y) -/
theorem d_get1 {Q : Value → Shared → Prop} (hu : A.units + 1 < cLine) (I : Inv X pins σ H s) (g : DGet H a y o) (ry : RelV y u) (h : ∀ w' s', Inv X pins σ H s' → RelV (o.getD .non) w' → Q w' s') :
    wpAny (model X.prog X.w) A (call (.builtin "dict.get") [.ref a, u]) Q E s := by
  rcases g with ⟨kvs, k, e, ey, l⟩ | ⟨kvs, k, b, e, ey, eb, l⟩
  · subst ey
    obtain ⟨z, hd, vs, rel, dd⟩ := dk_rd I.hok e
    refine call_meetsIn PySem.F.slot_dict_get dd.typeIs PySem.F.entry_dict_get (PySem.F.args_dict_get_2 _ _) (meets_dict_get (mixKind X.prog X.w) a (kV_is ry) hd) ⟨_, dd.mapOf, h _ _ (I.tok _) ?_⟩
    rw [l]
    exact (rel.val k).getD rfl
  · subst ey
    cases (show u = Value.ref b from ry)
    obtain ⟨z, hd, xs, rel, dd⟩ := dt_rd I.hok e
    refine call_meetsIn PySem.F.slot_dict_get dd.typeIs PySem.F.entry_dict_get (PySem.F.args_dict_get_2 _ _) (meetsH_dict_get (tupleKind (mixKind X.prog X.w)) a b hd) ⟨tupleKind_room_in1 hu, k, xs, key_of I.hok eb, dd, h _ _ (I.tok _) ?_⟩
    rw [l]
    exact (rel.val k).getD rfl
/-- d.get(y, x) -/
theorem d_get2 {Q : Value → Shared → Prop} (hu : A.units + 1 < cLine) (I : Inv X pins σ H s) (g : DGet H a y o) (ry : RelV y u) (rd : RelV d r) (h : ∀ w' s', Inv X pins σ H s' → RelV (o.getD d) w' → Q w' s') :
    wpAny (model X.prog X.w) A (call (.builtin "dict.get") [.ref a, u, r]) Q E s := by
  rcases g with ⟨kvs, k, e, ey, l⟩ | ⟨kvs, k, b, e, ey, eb, l⟩
  · subst ey
    obtain ⟨z, hd, vs, rel, dd⟩ := dk_rd I.hok e
    refine call_meetsIn PySem.F.slot_dict_get dd.typeIs PySem.F.entry_dict_get (PySem.F.args_dict_get_3 _ _ _) (meets_dict_get_default (mixKind X.prog X.w) a (kV_is ry) hd r) ⟨_, dd.mapOf, h _ _ (I.tok _) ?_⟩
    rw [l]
    exact (rel.val k).getD rd
  · subst ey
    cases (show u = Value.ref b from ry)
    obtain ⟨z, hd, xs, rel, dd⟩ := dt_rd I.hok e
    refine call_meetsIn PySem.F.slot_dict_get dd.typeIs PySem.F.entry_dict_get (PySem.F.args_dict_get_3 _ _ _) (meetsH_dict_get_default (tupleKind (mixKind X.prog X.w)) a b hd r) ⟨tupleKind_room_in1 hu, k, xs, key_of I.hok eb, dd, h _ _ (I.tok _) ?_⟩
    rw [l]
    exact (rel.val k).getD rd
end

def tDGet1 (td ty : TE) : TE := fun σ H Q => td σ H fun x H1 => ∃ a, x = .ref a ∧ IsD H1 a ∧ ty σ H1 fun y H2 => ∃ o, DGet H2 a y o ∧ Q (o.getD .non) H2
def tDGet2 (td ty tx : TE) : TE := fun σ H Q => td σ H fun x H1 => ∃ a, x = .ref a ∧ IsD H1 a ∧ ty σ H1 fun y H2 => tx σ H2 fun z H3 => ∃ o, DGet H3 a y o ∧ Q (o.getD z) H3
/-- d.pop(k): there; d.pop(k, x): there or not -/
def tDPop1 (td ty : TE) : TE := fun σ H Q => td σ H fun x H1 => ∃ a, x = .ref a ∧ IsD H1 a ∧ ty σ H1 fun y H2 => ∃ kvs k v, H2 a = some (.dK kvs) ∧ y = kV k ∧ valV kvs k = some v ∧ Q v (upd H2 a (.dK (dropK kvs k)))
def tDPop2 (td ty tx : TE) : TE := fun σ H Q => td σ H fun x H1 => ∃ a, x = .ref a ∧ IsD H1 a ∧ ty σ H1 fun y H2 => tx σ H2 fun z H3 => ∃ kvs k, H3 a = some (.dK kvs) ∧ y = kV k ∧
  (∀ v, valV kvs k = some v → Q v (upd H3 a (.dK (dropK kvs k)))) ∧ (valV kvs k = none → Q z H3)
section
variable {X : Cx} {o e f : Expr} {apos cpos : Pos} {td ty tx : TE}
theorem pe_dget1 (hu : X.A.units + 1 < cLine) (ho : PE X o td) (he : PE X e ty) (m : M1 X o "get" apos e cpos) : PE X (.Call (.Attribute o "get" apos) [e] [] cpos) (tDGet1 td ty) := by
  intro pins s σ H Q I h
  refine wpAny_Call_method m.base m.few m.line PySem.F.plainAttrs_dict PySem.F.slot_dict_get PySem.F.type_dict_get (thn (ho pins s σ H _ I h) fun u s1 ⟨x, H1, I1, rx, a, ex, d, q1⟩ => ?_)
  subst ex
  obtain rfl : u = Value.ref a := rx
  obtain ⟨t1, t2, _⟩ := isD_at I1 d
  refine ⟨t1, t2, ?_⟩
  rw [m.trees]
  refine Calls.callWith_builtin rfl (Calls.evalArgs_plain (Calls.spliced_cons (thn (he pins s1 σ H1 _ I1 q1) fun iv s2 ⟨y, H2, I2, ry, ov, g, q2⟩ => Calls.spliced_nil ?_)))
  exact d_get1 hu I2 g ry fun w' s3 I3 rw' => ⟨_, H2, I3, rw', q2⟩
theorem pe_dget2 (hu : X.A.units + 1 < cLine) (ho : PE X o td) (he : PE X e ty) (hf : PE X f tx) (m : M2 X o "get" apos e f cpos) : PE X (.Call (.Attribute o "get" apos) [e, f] [] cpos) (tDGet2 td ty tx) := by
  intro pins s σ H Q I h
  refine wpAny_Call_method m.base m.few m.line PySem.F.plainAttrs_dict PySem.F.slot_dict_get PySem.F.type_dict_get (thn (ho pins s σ H _ I h) fun u s1 ⟨x, H1, I1, rx, a, ex, d, q1⟩ => ?_)
  subst ex
  obtain rfl : u = Value.ref a := rx
  obtain ⟨t1, t2, _⟩ := isD_at I1 d
  refine ⟨t1, t2, ?_⟩
  rw [m.trees]
  refine Calls.callWith_builtin rfl (Calls.evalArgs_plain (Calls.spliced_cons (thn (he pins s1 σ H1 _ I1 q1) fun iv s2 ⟨y, H2, I2, ry, q2⟩ =>
    Calls.spliced_cons (thn (hf pins s2 σ H2 _ I2 q2) fun fv s3 ⟨z, H3, I3, rz, ov, g, q3⟩ => Calls.spliced_nil ?_))))
  exact d_get2 hu I3 g ry rz fun w' s4 I4 rw' => ⟨_, H3, I4, rw', q3⟩
theorem pe_dpop1 (ho : PE X o td) (he : PE X e ty) (m : M1 X o "pop" apos e cpos) : PE X (.Call (.Attribute o "pop" apos) [e] [] cpos) (tDPop1 td ty) := by
  intro pins s σ H Q I h
  refine wpAny_Call_method m.base m.few m.line PySem.F.plainAttrs_dict PySem.F.slot_dict_pop PySem.F.type_dict_pop (thn (ho pins s σ H _ I h) fun u s1 ⟨x, H1, I1, rx, a, ex, d, q1⟩ => ?_)
  subst ex
  obtain rfl : u = Value.ref a := rx
  obtain ⟨t1, t2, _⟩ := isD_at I1 d
  refine ⟨t1, t2, ?_⟩
  rw [m.trees]
  refine Calls.callWith_builtin rfl (Calls.evalArgs_plain (Calls.spliced_cons (thn (he pins s1 σ H1 _ I1 q1) fun iv s2 ⟨y, H2, I2, ry, kvs, k, v, ea, ey, l, q2⟩ => Calls.spliced_nil ?_)))
  subst ey
  exact d_pop I2 ea ry l (.inl rfl) fun w' s3 I3 rw' => ⟨v, _, I3, rw', q2⟩
theorem pe_dpop2 (ho : PE X o td) (he : PE X e ty) (hf : PE X f tx) (m : M2 X o "pop" apos e f cpos) : PE X (.Call (.Attribute o "pop" apos) [e, f] [] cpos) (tDPop2 td ty tx) := by
  intro pins s σ H Q I h
  refine wpAny_Call_method m.base m.few m.line PySem.F.plainAttrs_dict PySem.F.slot_dict_pop PySem.F.type_dict_pop (thn (ho pins s σ H _ I h) fun u s1 ⟨x, H1, I1, rx, a, ex, d, q1⟩ => ?_)
  subst ex
  obtain rfl : u = Value.ref a := rx
  obtain ⟨t1, t2, _⟩ := isD_at I1 d
  refine ⟨t1, t2, ?_⟩
  rw [m.trees]
  refine Calls.callWith_builtin rfl (Calls.evalArgs_plain (Calls.spliced_cons (thn (he pins s1 σ H1 _ I1 q1) fun iv s2 ⟨y, H2, I2, ry, q2⟩ =>
    Calls.spliced_cons (thn (hf pins s2 σ H2 _ I2 q2) fun fv s3 ⟨z, H3, I3, rz, kvs, k, ea, ey, q3, q4⟩ => Calls.spliced_nil ?_))))
  subst ey
  cases l : valV kvs k with
  | some v => exact d_pop I3 ea ry l (.inr ⟨fv, rfl⟩) fun w' s4 I4 rw' => ⟨v, _, I4, rw', q3 v l⟩
  | none => exact d_popD I3 ea ry l fun s4 I4 => ⟨z, H3, I4, rz, q4 l⟩
end

/-! ### dict(d): a copy -/
section
variable {X : Cx} {pins : List (Addr × Obj)} {σ : St} {H : Hp} {s : Shared} {a : Addr} {kvs : List (Key × V)} {A : Around} {E : Value → Shared → Prop}
theorem d_copyOf {Q : Value → Shared → Prop} (I : Inv X pins σ H s) (e : Rd H a (.dK kvs)) (h : ∀ p s', H p = none → Inv X pins σ (upd H p (.dK kvs)) s' → Q (.ref p) s') : wpAny (model X.prog X.w) A (call (.type "dict") [.ref a]) Q E s := by
  obtain ⟨z, hd, vs, rel, dd⟩ := dk_rd I.hok e
  refine kt_call_dict hd dd (by rw [← rel.length]; exact z) fun h' dd' hs => ?_
  refine h _ _ (I.hok.fresh (Nat.le_refl _)) (I.laid (a := s.heap.objs.size) (o := .dK kvs) (t' := s.toks) (fun b q hq => ?_) (Nat.le_refl _) (dk_new z (beq_eq_false_iff_ne.mpr (Ne.symm (Nat.ne_of_lt I.big))) rel dd'))
  exact (hs.2 b (Nat.ne_of_lt (Heap.lt_size hq))).trans (Heap.get?_push_of_some _ hq)
end


section
variable {X : Cx} {pins : List (Addr × Obj)} {σ : St} {H : Hp} {s : Shared} {a : Addr} {y : V} {u : Value} {A : Around} {E : Value → Shared → Prop}
/-- d[y], not there: a KeyError -/
theorem d_missing {Q : Value → Shared → Prop} (hu : A.units + 1 < cLine) (hh : A.handled = none) (I : Inv X pins σ H s) (g : DGet H a y none) (ry : RelV y u)
    (h : ∀ h' e t', Heap.NewExc s.heap h' e "KeyError" → E (.ref e) { s with heap := h', toks := t' }) : wpAny (model X.prog X.w) A (getItem (.ref a) u) Q E s := by
  rcases g with ⟨kvs, k, e, ey, l⟩ | ⟨kvs, k, b, e, ey, eb, l⟩
  · subst ey
    obtain ⟨z, hd, vs, rel, dd⟩ := dk_rd I.hok e
    have hn : valueAt vs k = none := RelO.none_of (by rw [l]; exact rel.val k)
    exact wpAny_getItem_missing_of (kV_is ry) hd hh dd.mapOf hn fun h' ex ne => h h' ex _ ne
  · subst ey
    cases (show u = Value.ref b from ry)
    obtain ⟨z, hd, xs, rel, dd⟩ := dt_rd I.hok e
    have hn : (atKey xs k).map (·.2) = none := RelO.none_of (by rw [l]; exact rel.val k)
    exact wpAny_getItem_missing_heap (tupleKind_room_in1 hu) (key_of I.hok eb) hd hh dd (Option.map_eq_none_iff.mp hn) fun h' ex ne => h h' ex _ ne
end
end L2
namespace L2
open PySem PySem.Spec PyProof.Rows
section
variable {X : Cx}
/-- len of a dict -/
theorem call_lenD : CallR X (.builtin "len") (fun xs H Q => ∃ a kvs, xs = [V.ref a] ∧ H a = some (.dK kvs) ∧ Q (.int kvs.length) H) := by
  intro pins s σ H xs us Q I r h
  obtain ⟨a, kvs, rfl, ha, q⟩ := h
  obtain ⟨u, rfl, ru⟩ := vals1 r
  cases ru
  exact d_len I (.inl ha) fun t s' I' => ⟨.int kvs.length, H, I', ⟨t, rfl⟩, q⟩
end
/-! ### a dict's pairs: keys that differ -/
section
variable {κ : Type} [DecidableEq κ]
theorem valV_not {kvs : List (κ × V)} {k : κ} (h : valV kvs k = none) : ¬ k ∈ kvs.map (·.1) := by
  intro m
  obtain ⟨p, hp, e⟩ := List.mem_map.mp m
  have q : (kvs.any fun kv => decide (kv.1 = k)) = true := List.any_eq_true.mpr ⟨p, hp, decide_eq_true e⟩
  rw [valV_any, h] at q
  exact absurd q (by simp)
theorem valV_in {kvs : List (κ × V)} {k : κ} {v : V} (h : valV kvs k = some v) : k ∈ kvs.map (·.1) := by
  have q : (kvs.any fun kv => decide (kv.1 = k)) = true := by
    rw [valV_any, h]
    all_goals rfl
  obtain ⟨p, hp, e⟩ := List.any_eq_true.mp q
  exact List.mem_map.mpr ⟨p, hp, of_decide_eq_true e⟩
theorem nd_snoc : ∀ {l : List κ} {k : κ}, l.Nodup → ¬ k ∈ l → (l ++ [k]).Nodup
  | [], k, _, _ => by simp
  | a :: r, k, h, hk => by
    obtain ⟨h1, h2⟩ := List.nodup_cons.mp h
    show (a :: (r ++ [k])).Nodup
    refine List.nodup_cons.mpr ⟨fun m => ?_, nd_snoc h2 fun m => hk (List.mem_cons.mpr (Or.inr m))⟩
    rcases List.mem_append.mp m with q | q
    · exact h1 q
    · exact hk (List.mem_cons.mpr (Or.inl (List.mem_singleton.mp q).symm))
theorem nd_putK {kvs : List (κ × V)} {k : κ} (v : V) (hn : (kvs.map (·.1)).Nodup) (h : valV kvs k = none) : ((putK kvs k v).map (·.1)).Nodup := by
  rw [putK_new v h, List.map_append]
  exact nd_snoc hn (valV_not h)
theorem dropK_pos {p : κ × V} {r : List (κ × V)} {k : κ} (e : p.1 = k) : dropK (p :: r) k = dropK r k := by
  unfold dropK
  rw [List.filter_cons, if_neg (by simp [e])]
theorem dropK_neg {p : κ × V} {r : List (κ × V)} {k : κ} (e : ¬ p.1 = k) : dropK (p :: r) k = p :: dropK r k := by
  unfold dropK
  rw [List.filter_cons, if_pos (by simp [e])]
theorem dropK_no : ∀ {kvs : List (κ × V)} {k : κ}, ¬ k ∈ kvs.map (·.1) → dropK kvs k = kvs
  | [], _, _ => rfl
  | p :: r, k, h => by
    have h' : ¬ k ∈ r.map (·.1) := fun m => by
      obtain ⟨q, hq, e⟩ := List.mem_map.mp m
      exact h (List.mem_map.mpr ⟨q, List.mem_cons.mpr (Or.inr hq), e⟩)
    rw [dropK_neg fun e => h (List.mem_map.mpr ⟨p, List.mem_cons.mpr (Or.inl rfl), e⟩), dropK_no h']
theorem dropK_mem {kvs : List (κ × V)} {k : κ} {p : κ × V} (h : p ∈ dropK kvs k) : p ∈ kvs := (List.mem_filter.mp h).1
theorem nd_dropK : ∀ {kvs : List (κ × V)} {k : κ}, (kvs.map (·.1)).Nodup → ((dropK kvs k).map (·.1)).Nodup
  | [], _, _ => List.nodup_nil
  | p :: r, k, h => by
    have h : (p.1 :: r.map (·.1)).Nodup := h
    obtain ⟨h1, h2⟩ := List.nodup_cons.mp h
    by_cases e : p.1 = k
    · rw [dropK_pos e]
      exact nd_dropK h2
    · rw [dropK_neg e]
      show (p.1 :: (dropK r k).map (·.1)).Nodup
      refine List.nodup_cons.mpr ⟨fun m => h1 ?_, nd_dropK h2⟩
      obtain ⟨q, hq, eq⟩ := List.mem_map.mp m
      exact List.mem_map.mpr ⟨q, dropK_mem hq, eq⟩
theorem dropK_len : ∀ {kvs : List (κ × V)} {k : κ}, (kvs.map (·.1)).Nodup → k ∈ kvs.map (·.1) → (dropK kvs k).length + 1 = kvs.length
  | [], _, _, m => by simp at m
  | p :: r, k, h, m => by
    have h : (p.1 :: r.map (·.1)).Nodup := h
    have m : k = p.1 ∨ k ∈ r.map (·.1) := List.mem_cons.mp m
    obtain ⟨h1, h2⟩ := List.nodup_cons.mp h
    by_cases e : p.1 = k
    · subst e
      rw [dropK_pos rfl, dropK_no h1]
      all_goals rfl
    · have m' : k ∈ r.map (·.1) := m.resolve_left fun z => e z.symm
      have q := dropK_len h2 m'
      rw [dropK_neg e, List.length_cons, List.length_cons]
      omega
end
end L2

-- part Lx1
set_option Elab.async false
set_option linter.all false
set_option maxRecDepth 100000
set_option maxHeartbeats 4000000
namespace L2
open PySem PySem.Spec PyProof.Rows

/-! ### a text, walked -/
def Its (x : Str) : It := ⟨fun i _ => i < x.cps.size, fun i H v H' => H' = H ∧ ∃ c, x.cps[i]? = some c ∧ v = .str ⟨#[c]⟩, fun i _ => i = x.cps.size⟩
theorem go_str {M : Model} {A : Around} {E : Value → Shared → Prop} {s : Shared} {tg : Expr} {it : Addr} {y : Str} {t : Tok} {Q : Unit → Shared → Prop} (hQ : Q () s) : wpAny M A (letOwnedTupleGo tg (.ref it) (.str y t)) Q E s := by
  unfold letOwnedTupleGo
  cases tg <;> exact wpAny_pure hQ
theorem turn_str {P : Program} {w : World} {K : PySem.W.Frag} {tg : Expr} (T : String) (it : Addr) (x : Str) (t : Tok)
    (W : ∀ A : Around, A.handled = none → Walks P w A it [it] [it] x.cps.size (SignAt x) (fun i h => h.IsStrIter it T x t i))
    (hs : ∀ (A : Around) (i : Nat) (s : Shared) (Q : Value → Shared → Prop) (E : Value → Shared → Prop), s.heap.IsStrIter it T x t i → Q (.ref it) s → wpAny (model P w) A (pyIter (.ref it)) Q E s) :
    Turn P w K tg (Its x) [it] it (fun i h => h.IsStrIter it T x t i) where
  mem := by simp
  obj := fun i h st b hb => by
    have e : b = it := by simpa using hb
    subst e
    obtain ⟨o, e, c, d⟩ := st
    exact ⟨o, e, fun v z => by rw [d] at z; cases z⟩
  keep := fun i h h' st k => by
    obtain ⟨o, e, r⟩ := st
    exact ⟨o, k it (by simp) o e, r⟩
  item := by
    intro X hP hw hK hc i pins s σ H E I hf st hg
    subst hP hw hK
    obtain ⟨f0, f1, f2, f3, f4, f5⟩ := hf it (by simp)
    refine (W X.A (I.ok.hd hc)).item i s _ _ hg st fun v h' tk hv st' kk => ?_
    obtain ⟨c, u, hcu, rfl⟩ := hv
    have I1 : Inv X pins σ H { s with heap := h', toks := tk } := I.turned (fun b o hb e => kk b o (by simpa using hb) e) f0 f1 f3 f4 f5
    exact ⟨_, rfl, go_str ⟨.str ⟨#[c]⟩, H, I1, ⟨u, rfl⟩, ⟨rfl, c, hcu, rfl⟩, st', fun b hb => (hf b hb).1⟩⟩
  done := by
    intro X hP hw hK hc i pins s σ H E I hf st hg
    subst hP hw hK
    obtain ⟨f0, f1, f2, f3, f4, f5⟩ := hf it (by simp)
    have hg' : i = x.cps.size := hg
    subst hg'
    refine (W X.A (I.ok.hd hc)).done s _ _ st fun h' tk kk => ?_
    exact ⟨rfl, I.turned (fun b o hb e => kk b o (by simpa using hb) e) f0 f1 f3 f4 f5⟩
  self := hs
section
variable {X : Cx} {tg : Expr}
def iStr (tl : TE) : TI := fun σ H R => tl σ H fun x H1 => ∃ z, x = .str z ∧ R (Its z) H1
theorem pi_str {l : Expr} {tl : TE} (hl : PE X l tl) : PI X tg l (iStr tl) := by
  intro pins s σ H R I h
  refine thn (hl pins s σ H _ I h) fun v s1 ⟨x, H1, I1, r1, q1⟩ => ?_
  obtain ⟨z, e, q⟩ := q1
  subst e
  obtain ⟨t, rfl⟩ := r1
  have fin : ∀ (T : String) (o : Obj), Turn X.prog X.w X.K tg (Its z) [s1.heap.objs.size] s1.heap.objs.size (fun i h => h.IsStrIter s1.heap.objs.size T z t i) →
      (s1.heap.push o).IsStrIter s1.heap.objs.size T z t 0 → PIE X pins σ tg R (.ref s1.heap.objs.size) { s1 with heap := s1.heap.push o } := fun T o TT st => by
    refine ⟨s1.heap.objs.size, [s1.heap.objs.size], _, _, H1, rfl, I1.kept (t' := s1.toks) fun b o e => Heap.get?_push_of_some _ e, TT, st, fun b hb => ?_, q⟩
    have e : b = s1.heap.objs.size := by simpa using hb
    subst e
    exact I1.fpOk (Nat.le_refl _) (I1.hok.fresh (Nat.le_refl _))
  cases ha : z.cps.all (· < 128)
  · exact wpAny_pyIter_wide ha (fin "str_iterator" _ (turn_str _ _ z t (fun A hA => Walks.strWide hA _ z t) fun A i s Q E st h => wpAny_pyIter_striter_wide st h) ⟨_, Heap.get?_push_size _ rfl, rfl, rfl⟩)
  · exact wpAny_pyIter_ascii ha (fin "str_ascii_iterator" _ (turn_str _ _ z t (fun A hA => Walks.strAscii hA _ z t) fun A i s Q E st h => wpAny_pyIter_striter_ascii st h) ⟨_, Heap.get?_push_size _ rfl, rfl, rfl⟩)
end

/-! ### a list comprehension -/
section
variable {prog : Program} {w : World} {A : Around} {R : Result → Shared → Prop} {s : Shared}
theorem compLoop_gen {elt target iter : Expr} {ifs : List Expr} {scope : Scope} {pos : Pos} {it acc : Value} {env : Env} (I : Nat → Shared → Prop)
    (turn : ∀ n s, I n s → wpAny (model prog w) A (pyNext it) (fun r s₁ => match r with
      | none => R (.ok .next) s₁
      | some v => wpAny (model prog w) A (letOwnedTupleGo target it v) (fun _ s₁' => wpAny (model prog w) A (assign target env v) (fun _ s₂ =>
          wpAny (model prog w) A (forIn ifs true fun c r => if r = true then do let ok ← isTrue c env (eval c env); pure (ForInStep.yield ok) else pure (ForInStep.yield r)) (fun ok s₃ =>
            if ok = true then wpAny (model prog w) A (eval elt env) (fun x s₄ =>
              wpAny (model prog w) A (call (.builtin "list.append") [acc, x]) (fun _ s₅ => ∃ m, m < n ∧ I m s₅) (fun _ _ => False) s₄) (fun _ _ => False) s₃
            else ∃ m, m < n ∧ I m s₃) (fun _ _ => False) s₂) (fun _ _ => False) s₁') (fun _ _ => False) s₁) (fun _ _ => False) s)
    (n : Nat) (h : I n s) :
    codeAny (model prog w) A (.compLoop (.ListComp elt [⟨target, iter, ifs, 0⟩] scope pos) 0 it acc env) R s := by
  refine codeAny_loop rfl I (fun n s hI => ?_) n h
  show wpAny _ A ((compTurn (.ListComp elt [⟨target, iter, ifs, 0⟩] scope pos) 0 it acc env).onRaise (fun x => do noteFrame x env; theTreesLotGoes x)) _ _ s
  refine wpAny_noted ?_
  rw [compTurn_list]
  refine wpAny_bind (wpAny_standAt (wpAny_bind (wpAny_mono (turn n s hI) (fun r s₁ h₁ => ?_) fun _ _ h' => h'.elim)))
  cases r with
  | none => exact wpAny_pure h₁
  | some v =>
    refine wpAny_bind (wpAny_mono h₁ (fun _ s₁' h₁' => ?_) fun _ _ h' => h'.elim)
    refine wpAny_bind (wpAny_mono h₁' (fun _ s₂ h₂ => wpAny_bind (wpAny_mono h₂ (fun ok s₃ h₃ => ?_) fun _ _ h' => h'.elim)) fun _ _ h' => h'.elim)
    cases ok with
    | false => exact wpAny_pure ⟨rfl, h₃⟩
    | true =>
      exact wpAny_bind (wpAny_bind (wpAny_mono h₃ (fun x s₄ h₄ => wpAny_bind (wpAny_mono h₄ (fun _ s₅ h₅ => wpAny_pure (wpAny_pure ⟨rfl, h₅⟩)) fun _ _ h' => h'.elim)) fun _ _ h' => h'.elim))
end

/-- the context of a comprehension's block: its frame at C, its closure cl, entered at s₀, H₀; ex: the iterator's records -/
def compCx (X : Cx) (N : List Str) (scope : Scope) (cl : List (Str × Addr)) (C : Addr) (s₀ : Shared) (H₀ : Hp) (ex : List Addr) : Cx :=
  { X with N := N, s₀ := s₀, H₀ := H₀, env := compEnvC scope cl C X.env, outer := X.stack, stack := X.stack, ex := ex, fn := fun _ => false, pn := [], xe := fun _ _ => False }

/-- the tests behind the for -/
def PIfs (X : Cx) (ifs : List Expr) (t : TT) : Prop :=
  ∀ (pins : List (Addr × Obj)) (s : Shared) (σ : St) (H : Hp) (Q : Bool → Hp → Prop), Inv X pins σ H s → t σ H Q →
    wpAny (model X.prog X.w) X.A (forIn ifs true fun c r => if r = true then do let ok ← isTrue c X.env (eval c X.env); pure (ForInStep.yield ok) else pure (ForInStep.yield r)) (TP X pins σ Q) X.xe s
def tYes : TT := fun _ H Q => Q true H
theorem pifs_nil {X : Cx} : PIfs X [] tYes := fun pins s σ H Q I h => wpAny_tests_nil ⟨H, I, h⟩
theorem pifs_one {X : Cx} {c : Expr} {t : TT} (h : PT X c t) : PIfs X [c] t := fun pins s σ H Q I hq => wpAny_tests_one (h pins s σ H Q I hq)

/-- the reading: cs the block's names at the start of a turn -/
def tComp (wi : TI) (cs : St → St) (g : TG) (ti : TT) (te : TE) : TE := fun σ H Q => wi σ H fun J H1 => ∃ W : Nat → Nat → List V → Hp → Prop, (∃ m, W 0 m [] H1) ∧ ∀ i m ys H, W i m ys H →
  ys.length ≤ sizeLine ∧ ((J.stop i H ∧ ∀ p, H p = none → Q (.ref p) (upd H p (.lst ys))) ∨
  (J.go i H ∧ ∀ x H', J.yld i H x H' → g x (cs σ) H' fun σ2 H2 => ti σ2 H2 fun ok H3 => if ok = true then te σ2 H3 fun y H4 => ∃ m', m' < m ∧ W (i + 1) m' (ys ++ [y]) H4 else ∃ m', m' < m ∧ W (i + 1) m' ys H3))

/-- how the block's names start: nl own names, then the free ones, the slots js of the def -/
def csOf (nl : Nat) (js : List Nat) (σ : St) : St := List.replicate nl none ++ js.map fun j => (σ[j]?).join
/-- what the block's scope must have -/
structure CompOk (X : Cx) (N : List Str) (nl : Nat) (js : List Nat) (scope : Scope) (cl : List (Str × Addr)) : Prop where
  clos : closureFor scope X.env = pure cl
  nocell : ∀ y ∈ scope.names, y.2 ≠ .cell
  kind : scope.kind = .function
  names : ∀ y ∈ scope.names, y.2 = .local → scope.names.lookup y.1 = some .local
  cells : ∀ x c, cl.lookup x = some c → X.env.cells.lookup x = some c
  has : ∀ x, ((relabel scope X.env).names.lookup x = some .cell ∨ (relabel scope X.env).names.lookup x = some .free) → ∃ c, cl.lookup x = some c
  len : N.length = nl + js.length
  free : ∀ k j x, js[k]? = some j → N[nl + k]? = some x → X.N[j]? = some x ∧ (X.env.kindOf x = some .cell ∨ X.env.kindOf x = some .free) ∧ Vis X.env.scope x ∧
    ((relabel scope X.env).names.lookup x = some .cell ∨ (relabel scope X.env).names.lookup x = some .free)
  /-- the target stores own names alone -/
def KeepsT (g : TG) (cs : St → St) : Prop := ∀ (σ : St) (x : V) (H : Hp) (K : St → Hp → Prop), g x (cs σ) H K → g x (cs σ) H fun σ2 H2 => (σ2.length = (cs σ).length ∧ ∀ (j : Nat) (v : V), (cs σ)[j]? = some (some v) → σ2[j]? = some (some v)) ∧ K σ2 H2
theorem keeps_name {i nl : Nat} {js : List Nat} (hi : i < nl) : KeepsT (gName i) (csOf nl js) := fun σ x H K h => by
  refine ⟨⟨by simp, fun j v e => ?_⟩, h⟩
  by_cases hj : j = i
  · subst hj
    unfold csOf at e
    rw [List.getElem?_append_left (by simpa using hi), List.getElem?_replicate, if_pos hi] at e
    cases e
  · rw [List.getElem?_set_ne (Ne.symm hj)]; exact e

section
variable {X : Cx}
theorem Inv.comp {pins : List (Addr × Obj)} {σ : St} {H : Hp} {s s4 : Shared} {N : List Str} {nl : Nat} {js : List Nat} {scope : Scope} {cl : List (Str × Addr)} {C D : Addr} {fp : List Addr} {oD : Obj} {m : Str → Option Value}
    (I : Inv X pins σ H s) (ok : CompOk X N nl js scope cl) (hf : ∀ b ∈ fp, FpOk X pins H b) (hfp : ∀ b ∈ fp, b < s.heap.objs.size) (hC : s.heap.objs.size ≤ C) (hD : s.heap.objs.size ≤ D) (hDC : D ≠ C)
    (ho : s4.os = s.os) (hg : AllBare s4.gens) (k : ∀ b o, s.heap.get? b = some o → s4.heap.get? b = some o) (hn : s4.heap.Ns C m) (hDo : s4.heap.get? D = some oD) (hDd : ∀ v, oD.data ≠ .cell v) :
    Inv (compCx X N scope cl C s H fp) [(D, oD)] (csOf nl js σ) H s4 := by
  have stk : ∀ b, s.heap.objs.size ≤ b → b ∉ frs X.stack := fun b hb z => by
    rcases List.mem_cons.mp (I.stkSub b z) with e | e
    · rw [e] at hb; exact absurd (Nat.lt_of_lt_of_le I.lt hb) (Nat.lt_irrefl _)
    · exact I.nofs hb e
  refine ⟨⟨I.ok.mod, ok.kind, I.ok.glob, I.ok.blt, hC, fun x y c h1 h2 => I.ok.inj x y c (ok.cells x c h1) (ok.cells y c h2), fun x h => ok.has x h, (fun x c h => nomatch h), I.ok.hd, I.ok.frames, .inl rfl, fun b hb => ⟨?_, fun x c e z => ?_⟩, I.bs, Nat.le_trans I.ok.bsz I.sz, fun b o e hb => ?_, fun b hb => ?_, I.stack, I.stkFree⟩,
    ho, hg, Un.kept k, ⟨m, hn, fun i x v h1 h2 h3 => ?_⟩, fun x c e => ?_, I.hok.fresh hC, fun x c e => I.freeC x c (ok.cells x c e), fun p hp => ?_, I.hok.kept k, ?_⟩
  · exact Nat.ne_of_lt (Nat.lt_of_lt_of_le (hfp b hb) hC)
  · exact (hf b hb).2.2.2.2.1 x c (ok.cells x c e) z
  · have hb : b ∈ fp := hb
    rcases (hf b hb).2.2.2.1 with z | z
    · exact I.ok.noex b o e z
    · exact absurd (Nat.lt_of_lt_of_le (Heap.lt_size e) (Nat.le_trans I.ok.bsz z)) (Nat.lt_irrefl _)
  · have hb : b ∈ fp := hb
    intro z
    rcases List.mem_cons.mp (I.stkSub b z) with e | e
    · exact (hf b hb).2.1 e
    · exact (hf b hb).2.2.1 e
  · have h1 : N[i]? = some x := h1
    unfold csOf at h2
    have hi : nl ≤ i := by
      rcases Nat.lt_or_ge i nl with z | z
      · rw [List.getElem?_append_left (by simpa using z), List.getElem?_replicate, if_pos z] at h2; cases h2
      · exact z
    rw [List.getElem?_append_right (by simpa using hi), List.length_replicate, List.getElem?_map] at h2
    cases ej : js[i - nl]? with
    | none => rw [ej] at h2; cases h2
    | some j =>
      rw [ej] at h2
      have h2' : (σ[j]?).join = some v := by simpa using h2
      have e2 : σ[j]? = some (some v) := by
        cases q : σ[j]? with
        | none => rw [q] at h2'; cases h2'
        | some y => rw [q] at h2'; rw [show y = some v from h2']
      obtain ⟨g1, g2, g3, g4⟩ := ok.free (i - nl) j x ej (by rw [Nat.add_sub_cancel' hi]; exact h1)
      obtain ⟨m0, hn0, hl⟩ := I.loc
      obtain ⟨u, r, l⟩ := hl j x v g1 e2 g3
      refine ⟨u, r, .inr ⟨g4, ?_⟩⟩
      rcases l with ⟨lk, _⟩ | ⟨_, c, ec, ic⟩
      · rcases g2 with z | z <;> (rw [z] at lk; cases lk)
      · obtain ⟨c', ec'⟩ := ok.has x g4
        have : c' = c := Option.some.inj ((ok.cells x c' ec').symm.trans ec)
        subst this
        obtain ⟨oc, hoc, hd⟩ := ic
        exact ⟨c', ec', oc, k _ _ hoc, hd⟩
  · obtain ⟨v, oc, hoc, hd⟩ := I.cell x c (ok.cells x c e)
    exact ⟨v, oc, k _ _ hoc, hd⟩
  · have hp : p ∈ [(D, oD)] := hp
    have e : p = (D, oD) := by simpa using hp
    subst e
    exact ⟨hDo, I.hok.fresh hD, hDC, stk D hD, hDd⟩
  · show (csOf nl js σ).length = N.length
    unfold csOf
    rw [List.length_append, List.length_replicate, List.length_map]
    exact ok.len.symm

/-- behind the block: the list is tracked, the frame's own object is a record of no account -/
def CompEnd (X : Cx) (pins : List (Addr × Obj)) (σ : St) (Q : VK) (acc : Value) (C : Addr) (s' : Shared) : Prop :=
  ∃ D H' m, acc = .ref D ∧ Inv X pins σ H' s' ∧ FpOk X pins H' C ∧ s'.heap.Ns C m ∧ Q (.ref D) H'

theorem comp_run {N : List Str} {nl : Nat} {js : List Nat} {scope : Scope} {cl : List (Str × Addr)} {elt target iter : Expr} {ifs : List Expr} {pos : Pos} {wi : TI} {g : TG} {ti : TT} {te : TE} {pins : List (Addr × Obj)} {s : Shared} {σ : St} {H : Hp} {Q : VK}
    {E : Value → Shared → Prop} (RR : Value → Addr → Result → Shared → Prop) (hRR : ∀ acc C s', CompEnd X pins σ Q acc C s' → RR acc C (.ok .next) s')
    (hc : X.calm = true) (ok : CompOk X N nl js scope cl) (hi : PI X target iter wi) (hk : KeepsT g (csOf nl js))
    (hg : ∀ C s₀ H₀ ex, PG (compCx X N scope cl C s₀ H₀ ex) target g) (ht : ∀ C s₀ H₀ ex, PIfs (compCx X N scope cl C s₀ H₀ ex) ifs ti) (he : ∀ C s₀ H₀ ex, PE (compCx X N scope cl C s₀ H₀ ex) elt te)
    (I : Inv X pins σ H s) (h : tComp wi (csOf nl js) g ti te σ H Q) :
    wpAny (model X.prog X.w) X.A (eval iter X.env) (fun x s₁ => wpAny (model X.prog X.w) X.A (pyIter x) (fun it s₂ => wpAny (model X.prog X.w) X.A (newList []) (fun acc s₃ =>
      wpAny (model X.prog X.w) X.A (newFunctionEnv scope X.env.globals cl [] X.env.qual none .none (some X.env)) (fun cenv s₄ =>
        codeAny (model X.prog X.w) X.A (.compStart (.ListComp elt [⟨target, iter, ifs, 0⟩] scope pos) 0 it acc { cenv with scope := relabel scope X.env }) (RR acc cenv.locals) s₄) E s₃) E s₂) X.xe s₁) X.xe s := by
  refine thn (hi pins s σ H _ I h) fun v s1 h1 => thn h1 fun itv s2 h2 => ?_
  obtain ⟨it, fp, tn, J, H2, e, I2, T, st2, f2, W, ⟨m0, w0⟩, turn⟩ := h2
  subst e
  have hfp : ∀ b ∈ fp, b < s2.heap.objs.size := fun b hb => by
    obtain ⟨o, e, _⟩ := T.obj _ _ st2 b hb
    exact Heap.lt_size e
  refine wpAny_newObj_type (wpAny_newFunctionEnv ok.nocell (by intro y hy; simp at hy) (fun h₁ hns₁ hsb₁ => ?_) ok.kind)
  dsimp only at hns₁ hsb₁ ⊢
  generalize hP2 : s2.heap.push { cls := .type "list", dict := none, data := .seq ([] : List Value).toArray } = P2 at hns₁ hsb₁ ⊢
  have hC : P2.objs.size = s2.heap.objs.size + 1 := by rw [← hP2, Heap.size_push]
  have hDC : s2.heap.objs.size ≠ P2.objs.size := by rw [hC]; exact Nat.ne_of_lt (Nat.lt_succ_self _)
  have hCle : s2.heap.objs.size ≤ P2.objs.size := by rw [hC]; exact Nat.le_succ _
  have below : ∀ b, b < s2.heap.objs.size → b ≠ P2.objs.size ∧ b ≠ s2.heap.objs.size := fun b hb => ⟨by rw [hC]; exact Nat.ne_of_lt (Nat.lt_succ_of_lt hb), Nat.ne_of_lt hb⟩
  have old : ∀ b o, s2.heap.get? b = some o → h₁.get? b = some o := fun b o e => hsb₁.extBut b o (below b (Heap.lt_size e)).1 (Heap.get?_push_of_some _ (hP2 ▸ Heap.get?_push_of_some _ e))
  have hacc : h₁.PlainList s2.heap.objs.size #[] := ⟨_, hsb₁.extBut _ _ hDC (Heap.get?_push_of_some _ (hP2 ▸ Heap.get?_push_size _ rfl))⟩
  obtain ⟨n0, ha0⟩ := hacc
  generalize hCC : P2.objs.size = C at *
  generalize hDD : s2.heap.objs.size = D at *
  -- the block's context
  have I4 : Inv (compCx X N scope cl C s2 H2 fp) [(D, { cls := .type "list", data := .seq ([] : List Value).toArray n0 })] (csOf nl js σ) H2 { s2 with heap := h₁, toks := s2.toks + ([] : List (Str × Value)).length } :=
    I2.comp ok f2 (fun b hb => by rw [hDD]; exact hfp b hb) (by rw [hDD]; exact hCle) (by rw [hDD]; exact Nat.le_refl _) hDC rfl I2.bare old hns₁ ha0 (fun v z => nomatch z)
  have st4 : tn 0 h₁ := T.keep _ _ _ st2 fun b hb o e => old b o e
  -- what stays true of the records
  have nD : ∀ b ∈ fp, b ≠ D := fun b hb => Nat.ne_of_lt (hfp b hb)
  have nC : ∀ b ∈ fp, b ≠ C := fun b hb => (below b (hfp b hb)).1
  have stkD : ∀ b, D ≤ b → b ∉ frs X.stack := fun b hb z => by
    rcases List.mem_cons.mp (I2.stkSub b z) with e | e
    · rw [e] at hb; exact absurd (Nat.lt_of_lt_of_le I2.lt (by rw [hDD]; exact hb)) (Nat.lt_irrefl _)
    · exact I2.nofs (by rw [hDD]; exact hb) e
  have cellD : ∀ x c b, D ≤ b → cl.lookup x = some c → c ≠ b := fun x c b hb e z => by
    obtain ⟨v, q⟩ := I2.cell x c (ok.cells x c e)
    exact absurd (Nat.lt_of_lt_of_le q.lt (by rw [z, hDD]; exact hb)) (Nat.lt_irrefl _)
  have stat : ∀ {H' : Hp} {oD : Obj}, (∀ b ∈ fp, H' b = none) → ∀ b ∈ fp, FpOk (compCx X N scope cl C s2 H2 fp) [(D, oD)] H' b := fun {H' oD} hn b hb => by
    refine ⟨hn b hb, nC b hb, fun z => ?_, .inl hb, fun x c e z => (f2 b hb).2.2.2.2.1 x c (ok.cells x c e) z, fun p hp z => ?_⟩
    · have z : b ∈ frs X.stack := z
      rcases List.mem_cons.mp (I2.stkSub b z) with e | e
      · exact (f2 b hb).2.1 e
      · exact (f2 b hb).2.2.1 e
    · have hp : p = (D, oD) := by simpa [compCx] using hp
      subst hp
      exact nD b hb z.symm
  have loop : ∀ s₃ : Shared, s₃ = { s2 with heap := h₁, toks := s2.toks + ([] : List (Str × Value)).length } →
      codeAny (model X.prog X.w) X.A (.compLoop (.ListComp elt [⟨target, iter, ifs, 0⟩] scope pos) 0 (.ref it) (.ref D) (compEnvC scope cl C X.env)) (RR (.ref D) C) s₃ := by
    rintro s₃ rfl
    refine compLoop_gen (env := compEnvC scope cl C X.env) (fun n s' => ∃ i ys us nn H', Inv (compCx X N scope cl C s2 H2 fp) [(D, { cls := .type "list", data := .seq (us : List Value).toArray nn })] (csOf nl js σ) H' s' ∧ Vals ys us ∧ tn i s'.heap ∧ (∀ b ∈ fp, H' b = none) ∧ W i n ys H')
      ?_ m0 ⟨0, [], [], n0, H2, I4, .nil, st4, fun b hb => (f2 b hb).1, w0⟩
    rintro n s3 ⟨i, ys, us, nn, H3, I3, rv3, st3, fr3, w3⟩
    obtain ⟨hsz, tr⟩ := turn i n ys H3 w3
    rcases tr with ⟨stop, qn⟩ | ⟨go, step⟩
    · refine wpAny_mono (T.done (compCx X N scope cl C s2 H2 fp) rfl rfl rfl hc i _ s3 (csOf nl js σ) H3 (fun _ _ => False) I3 (stat fr3) st3 stop) (fun r s4 hr => ?_) fun _ _ z => z
      obtain ⟨rfl, J4⟩ := hr
      show RR (.ref D) C (.ok .next) s4
      obtain ⟨pD, pfree, _, _, _⟩ := J4.pin (D, { cls := .type "list", data := .seq (us : List Value).toArray nn }) (by simp [compCx])
      obtain ⟨mC, hnC, _⟩ := J4.loc
      have hnC : s4.heap.Ns C mC := hnC
      have ltH : ∀ b o, H2 b = some o → b ≠ D := fun b o e => by have := I2.hok.lt e; rw [hDD] at this; exact Nat.ne_of_lt this
      have ltg : ∀ b o, s2.heap.get? b = some o → b ≠ D := fun b o e => by have := Heap.lt_size e; rw [hDD] at this; exact Nat.ne_of_lt this
      have B : Un (frs X.stack) fp H2 H3 s2.heap s4.heap := J4.base
      have un : Un (frs X.stack) fp H2 (upd H3 D (.lst ys)) s2.heap s4.heap :=
        ⟨B.keep, B.slot, fun b o e n x => by rw [upd_ne (ltg b o e)]; exact B.free b o e n x, B.there, fun b xs e => by rw [upd_ne (ltH b _ e)]; exact B.tups b xs e,
          fun b o u e => by rw [upd_ne (ltH b _ e)]; exact B.frzs b o u e, fun b ps e => by rw [upd_ne (ltH b _ e)]; exact B.tbls b ps e⟩
      have hokD : HOk X.prog X.w (upd H3 D (.lst ys)) s4.heap := fun b u e => by
        by_cases hb : b = D
        · subst hb
          rw [upd_same] at e
          cases e
          exact ⟨hsz, us, nn, rv3, pD⟩
        · rw [upd_ne hb] at e
          refine (J4.hok b u e).stay (fun c v _ q => q) (fun c q => ?_) fun c xs q => ?_
          · rw [upd_ne (ne_of_none q pfree)]; exact q
          · rw [upd_ne (ne_of_none q pfree)]; exact q
      refine hRR _ _ _ ⟨D, upd H3 D (.lst ys), mC, rfl, I2.call' (ch := fp) J4.os un hokD J4.bare (fun b hb => ⟨(f2 b hb).2.2.2.1, (f2 b hb).2.1, (f2 b hb).2.2.2.2.1, (f2 b hb).2.2.2.2.2⟩), ?_, hnC, qn D pfree⟩
      have hCn : H3 C = none := J4.free
      refine ⟨by rw [upd_ne hDC.symm]; exact hCn, ?_, ?_, .inr ?_, fun x c e z => ?_, fun p hp z => ?_⟩
      · exact Nat.ne_of_gt (Nat.lt_of_lt_of_le I2.lt (by rw [hDD]; exact hCle))
      · exact I2.nofs (by rw [hDD]; exact hCle)
      · exact Nat.le_trans I2.sz (by rw [hDD]; exact hCle)
      · obtain ⟨v, q⟩ := I2.cell x c e
        exact absurd (Nat.lt_of_lt_of_le q.lt (by rw [z, hDD]; exact hCle)) (Nat.lt_irrefl _)
      · exact absurd (Nat.lt_of_lt_of_le (Heap.lt_size (I2.pin p hp).1) (by rw [z, hDD]; exact hCle)) (Nat.lt_irrefl _)
    · refine wpAny_mono (T.item (compCx X N scope cl C s2 H2 fp) rfl rfl rfl hc i _ s3 (csOf nl js σ) H3 (fun _ _ => False) I3 (stat fr3) st3 go) (fun r s4 hr => ?_) fun _ _ z => z
      obtain ⟨u, rfl, h4⟩ := hr
      show wpAny (model X.prog X.w) X.A (letOwnedTupleGo target (.ref it) u) _ _ s4
      refine thn h4 fun _ s5 ⟨x, H5, I5, r5, y5, st5, fr5⟩ => ?_
      have I5' := I5.pinned (stat fr5) (T.obj _ _ st5)
      refine thn (hg C s2 H2 fp _ s5 (csOf nl js σ) H5 x u _ I5' r5 (hk σ x H5 _ (step x H5 y5))) fun _ s6 ⟨σ6, H6, I6, ⟨hl6, hs6⟩, q6⟩ => ?_
      refine thn (ht C s2 H2 fp _ s6 σ6 H6 _ I6 q6) fun okb s7 ⟨H7, I7, q7⟩ => ?_
      -- the iterator and the list are pinned through
      have back : ∀ {H8 : Hp} {s8 : Shared}, Inv (compCx X N scope cl C s2 H2 fp) ([(D, { cls := .type "list", data := .seq (us : List Value).toArray nn })] ++ pinsAt fp s5.heap) σ6 H8 s8 →
          Inv (compCx X N scope cl C s2 H2 fp) [(D, { cls := .type "list", data := .seq (us : List Value).toArray nn })] (csOf nl js σ) H8 s8 ∧ tn (i + 1) s8.heap ∧ ∀ b ∈ fp, H8 b = none := fun {H8 s8} I8 => by
        refine ⟨I8.unpinned.weak hl6.symm hs6, T.keep _ _ _ st5 fun b hb o e => (I8.pin (b, o) (List.mem_append_right _ (List.mem_append_right _ (mem_pinsAt hb e)))).1, fun b hb => ?_⟩
        obtain ⟨o, e, d⟩ := T.obj _ _ st5 b hb
        exact (I8.pin (b, o) (List.mem_append_right _ (List.mem_append_right _ (mem_pinsAt hb e)))).2.1
      cases okb with
      | false =>
        have q7 : ∃ m', m' < n ∧ W (i + 1) m' ys H7 := by simpa using q7
        obtain ⟨m', hm, w7⟩ := q7
        obtain ⟨I8, st8, fr8⟩ := back I7
        show ∃ m, m < n ∧ _
        exact ⟨m', hm, i + 1, ys, us, nn, H7, I8, rv3, st8, fr8, w7⟩
      | true =>
        have q7 : te σ6 H7 fun y H4 => ∃ m', m' < n ∧ W (i + 1) m' (ys ++ [y]) H4 := by simpa using q7
        show wpAny (model X.prog X.w) X.A (eval elt (compEnvC scope cl C X.env)) _ _ s7
        refine thn (he C s2 H2 fp _ s7 σ6 H7 _ I7 q7) fun yv s8 ⟨y, H8, I8, ry, m', hm, w8⟩ => ?_
        obtain ⟨I9, st9, fr9⟩ := back I8
        obtain ⟨pD, pfree, pne, pnf, _⟩ := I9.pin (D, { cls := .type "list", data := .seq (us : List Value).toArray nn }) (by simp [compCx])
        refine wpAny_list_append_plain (items := us.toArray) ⟨nn, pD⟩ (fun h' hp' sb => ?_) (by have := rv3.length; simp; omega)
        obtain ⟨n', hp'⟩ := hp'
        have I10 : Inv (compCx X N scope cl C s2 H2 fp) [] (csOf nl js σ) H8 { s8 with heap := h' } := by
          refine (I9.pins_of (pins' := []) (fun p hp => absurd hp (by simp))).turned (t' := s8.toks) (it := D) (fun b o hb e => (sb.2 b hb).trans e) pfree pne (.inr (by show s2.heap.objs.size ≤ D; rw [hDD]; exact Nat.le_refl _)) (fun x c e => cellD x c D (Nat.le_refl _) e) (fun p hp => ?_)
          exact absurd hp (by simp [compCx])
        refine ⟨m', hm, i + 1, ys ++ [y], us ++ [yv], n', H8, I10.pins_of (fun p hp => ?_), rv3.append (.cons ry .nil), T.keep _ _ _ st9 fun b hb o e => (sb.2 b (nD b hb)).trans e, fr9, w8⟩
        have e : p = (D, { cls := .type "list", data := .seq (us ++ [yv]).toArray n' }) := by simpa using hp
        subst e
        exact ⟨by simpa using hp', pfree, pne, pnf, fun v z => nomatch z⟩
  exact codeAny_compStart_list (loop _ rfl) (T.self _ 0 _ _ _ st4 (loop _ rfl))

theorem pe_comp {N : List Str} {nl : Nat} {js : List Nat} {scope : Scope} {cl : List (Str × Addr)} {elt target iter : Expr} {ifs : List Expr} {pos : Pos} {wi : TI} {g : TG} {ti : TT} {te : TE}
    (hc : X.calm = true) (ok : CompOk X N nl js scope cl) (hi : PI X target iter wi) (hk : KeepsT g (csOf nl js))
    (hg : ∀ C s₀ H₀ ex, PG (compCx X N scope cl C s₀ H₀ ex) target g) (ht : ∀ C s₀ H₀ ex, PIfs (compCx X N scope cl C s₀ H₀ ex) ifs ti) (he : ∀ C s₀ H₀ ex, PE (compCx X N scope cl C s₀ H₀ ex) elt te)
    (hs : ∀ x, foldedSetIterable iter X.env x = pure x := by intro _; rfl) :
    PE X (.ListComp elt [⟨target, iter, ifs, 0⟩] scope pos) (tComp wi (csOf nl js) g ti te) := by
  intro pins s σ H Q I h
  rw [eval_ListComp]
  refine wpAny_comprehension_free (use := none) rfl hs ok.clos ok.kind ok.names (wpAny_mono (comp_run (E := X.xe) (pos := pos) (fun acc C => compPost (model X.prog X.w) X.A X.xe none (EP X pins σ Q) acc C) (fun acc C s' z => ?_) hc ok hi hk hg ht he I h) (fun _ _ z => z) fun _ _ z => z)
  obtain ⟨D, H', m, rfl, J, fC, hn, q⟩ := z
  refine ⟨m, hn, fun h' sb => ⟨.ref D, H', J.turned (t' := s'.toks) (fun b o hb e => (sb.2 b hb).trans e) fC.1 fC.2.1 fC.2.2.2.1 fC.2.2.2.2.1 fC.2.2.2.2.2, rfl, q⟩⟩

/-- y = [..] on one line: the store is done ahead of the block's leave -/
theorem ps_setcomp {N : List Str} {nl : Nat} {js : List Nat} {scope : Scope} {cl : List (Str × Addr)} {elt target iter : Expr} {ifs : List Expr} {pos spos py : Pos} {wi : TI} {g : TG} {ti : TT} {te : TE} {i : Nat} {y : Str}
    (hN : X.N.Nodup) (hi' : X.N[i]? = some y) (hy : Loc X.env.scope y) (hyl : X.env.scope.names.lookup y = some .local)
    (hc : X.calm = true) (ok : CompOk X N nl js scope cl) (hi : PI X target iter wi) (hk : KeepsT g (csOf nl js))
    (hg : ∀ C s₀ H₀ ex, PG (compCx X N scope cl C s₀ H₀ ex) target g) (ht : ∀ C s₀ H₀ ex, PIfs (compCx X N scope cl C s₀ H₀ ex) ifs ti) (he : ∀ C s₀ H₀ ex, PE (compCx X N scope cl C s₀ H₀ ex) elt te)
    (hsw : swapsWith (.ListComp elt [⟨target, iter, ifs, 0⟩] scope pos) (some (.Name y py)) spos.line X.env = pure true := by rfl)
    (hs : ∀ x, foldedSetIterable iter X.env x = pure x := by intro _; rfl) :
    PS X (.Assign [.Name y py] (.ListComp elt [⟨target, iter, ifs, 0⟩] scope pos) spos) (tAsg (tComp wi (csOf nl js) g ti te) (gName i)) := by
  intro pins s σ H D I h
  rw [exec_Assign_Name_used _ _ _ _ hsw]
  refine wpAny_bind (wpAny_standAt (wpAny_bind ?_))
  show wpAny _ X.A (do let _ ← comprehension (.ListComp elt [⟨target, iter, ifs, 0⟩] scope pos) scope X.env _ (newList []) false (eval iter X.env) (some (assign (.Name y py) X.env))) _ _ s
  refine wpAny_bind (wpAny_mono (wpAny_comprehension_free (use := some (assign (.Name y py) X.env)) (Q := fun _ s' => SP X pins D .next s') rfl hs ok.clos ok.kind ok.names
    (comp_run (E := X.xe) (pos := pos) (fun acc C => compPost (model X.prog X.w) X.A X.xe (some (assign (.Name y py) X.env)) (fun _ s' => SP X pins D .next s') acc C) (fun acc C s' z => ?_) hc ok hi hk hg ht he I h)) (fun _ s' hq => wpAny_pure (wpAny_pure hq)) fun _ _ e => e)
  obtain ⟨D', H', m, rfl, J, fC, hn, q⟩ := z
  show wpAny _ X.A (assign (.Name y py) X.env (.ref D')) _ _ _
  refine wpAny_assign_Name (store_ok2 J hN hi' hy (v := .ref D') rfl (fun s'' J' hsb => ?_) (.inr hyl))
  obtain ⟨a, sb, ha⟩ := hsb
  have hCa : C ≠ a := by
    rcases ha with rfl | ha
    · exact fC.2.1
    · exact fun z => fC.2.2.2.2.1 y a ha z.symm
  refine ⟨m, hn.sameBut sb hCa, fun h' sb' => ?_⟩
  exact ⟨_, H', J'.turned (t' := s''.toks) (fun b o hb e => (sb'.2 b hb).trans e) fC.1 fC.2.1 fC.2.2.2.1 fC.2.2.2.2.1 fC.2.2.2.2.2, q⟩
end
end L2

-- part Ly2
set_option Elab.async false
set_option linter.all false
set_option maxRecDepth 100000
set_option maxHeartbeats 4000000
namespace L2
open PySem PySem.Spec PyProof.Rows

/-! ### data: values without a heap (a dict: its keys, its values) -/
inductive D where
  | non | bl (b : Bool) | int (i : Int) | str (x : Str) | tup (xs : List D) | lst (xs : List D) | dic (ks : List Key) (xs : List D)

mutual
def Rep (K : PySem.W.Frag) (H : Hp) : D → V → Prop
  | .non, v => v = .non
  | .bl b, v => v = .bl b
  | .int i, v => v = .int i
  | .str x, v => v = .str x
  | .tup ds, v => ∃ a vs, v = .ref a ∧ SqT K H a vs ∧ RepL K H ds vs
  | .lst ds, v => ∃ a vs, v = .ref a ∧ SqL K H a vs ∧ RepL K H ds vs
  | .dic ks ds, v => ∃ a vs, v = .ref a ∧ Rd H a (.dK (ks.zip vs)) ∧ ks.length = ds.length ∧ ks.Nodup ∧ RepL K H ds vs
def RepL (K : PySem.W.Frag) (H : Hp) : List D → List V → Prop
  | [], vs => vs = []
  | d :: ds, vs => ∃ v r, vs = v :: r ∧ Rep K H d v ∧ RepL K H ds r
end

theorem Same.rd {H H' : Hp} (e : Same H H') {a : Addr} {u : HO} (h : Rd H a u) : Rd H' a u := h.elim (fun z => .inl (e _ _ z)) fun ⟨o, z⟩ => .inr ⟨o, e _ _ z⟩
theorem Same.sqT {K : PySem.W.Frag} {H H' : Hp} (e : Same H H') {a : Addr} {xs : List V} (h : SqT K H a xs) : SqT K H' a xs := h.elim (fun z => .inl (e.rd z)) .inr
theorem Same.sqL {K : PySem.W.Frag} {H H' : Hp} (e : Same H H') {a : Addr} {xs : List V} (h : SqL K H a xs) : SqL K H' a xs := h.elim (fun z => .inl (e.rd z)) .inr
mutual
theorem Rep.mono {K : PySem.W.Frag} {H H' : Hp} (e : Same H H') : ∀ {d : D} {v : V}, Rep K H d v → Rep K H' d v
  | .non, _, h => by simp only [Rep] at h ⊢; exact h
  | .bl b, _, h => by simp only [Rep] at h ⊢; exact h
  | .int i, _, h => by simp only [Rep] at h ⊢; exact h
  | .str x, _, h => by simp only [Rep] at h ⊢; exact h
  | .tup ds, _, h => by
    simp only [Rep] at h ⊢
    obtain ⟨a, vs, h1, h2, h3⟩ := h
    exact ⟨a, vs, h1, e.sqT h2, RepL.mono e h3⟩
  | .lst ds, _, h => by
    simp only [Rep] at h ⊢
    obtain ⟨a, vs, h1, h2, h3⟩ := h
    exact ⟨a, vs, h1, e.sqL h2, RepL.mono e h3⟩
  | .dic ks ds, _, h => by
    simp only [Rep] at h ⊢
    obtain ⟨a, vs, h1, h2, h3, h4, h5⟩ := h
    exact ⟨a, vs, h1, e.rd h2, h3, h4, RepL.mono e h5⟩
theorem RepL.mono {K : PySem.W.Frag} {H H' : Hp} (e : Same H H') : ∀ {ds : List D} {vs : List V}, RepL K H ds vs → RepL K H' ds vs
  | [], _, h => by simp only [RepL] at h ⊢; exact h
  | d :: ds, _, h => by
    simp only [RepL] at h ⊢
    obtain ⟨v, r, h1, h2, h3⟩ := h
    exact ⟨v, r, h1, Rep.mono e h2, RepL.mono e h3⟩
end
theorem RepL.length {K : PySem.W.Frag} {H : Hp} : ∀ {ds : List D} {vs : List V}, RepL K H ds vs → ds.length = vs.length
  | [], _, h => by simp only [RepL] at h; subst h; rfl
  | d :: ds, _, h => by
    simp only [RepL] at h
    obtain ⟨v, r, h1, h2, h3⟩ := h
    subst h1
    simp [RepL.length h3]
theorem RepL.get {K : PySem.W.Frag} {H : Hp} : ∀ {ds : List D} {vs : List V} {i : Nat} {d : D}, RepL K H ds vs → ds[i]? = some d → ∃ v, vs[i]? = some v ∧ Rep K H d v
  | [], _, _, _, _, e => by simp at e
  | x :: ds, _, 0, d, h, e => by
    simp only [RepL] at h
    obtain ⟨v, r, h1, h2, h3⟩ := h
    subst h1
    simp at e
    subst e
    exact ⟨v, rfl, h2⟩
  | x :: ds, _, i + 1, d, h, e => by
    simp only [RepL] at h
    obtain ⟨v, r, h1, h2, h3⟩ := h
    subst h1
    obtain ⟨u, h4, h5⟩ := RepL.get (i := i) h3 (by simpa using e)
    exact ⟨u, by simpa using h4, h5⟩
theorem RepL.append {K : PySem.W.Frag} {H : Hp} : ∀ {ds es : List D} {vs us : List V}, RepL K H ds vs → RepL K H es us → RepL K H (ds ++ es) (vs ++ us)
  | [], _, _, _, h, h' => by simp only [RepL] at h; subst h; exact h'
  | d :: ds, _, _, _, h, h' => by
    simp only [RepL] at h
    obtain ⟨v, r, h1, h2, h3⟩ := h
    subst h1
    simp only [List.cons_append, RepL]
    exact ⟨v, _, rfl, h2, RepL.append h3 h'⟩
theorem RepL.drop {K : PySem.W.Frag} {H : Hp} : ∀ (n : Nat) {ds : List D} {vs : List V}, RepL K H ds vs → RepL K H (ds.drop n) (vs.drop n)
  | 0, _, _, h => h
  | _ + 1, [], _, h => by simp only [RepL] at h; subst h; simp [RepL]
  | n + 1, d :: ds, _, h => by
    simp only [RepL] at h
    obtain ⟨v, r, h1, h2, h3⟩ := h
    subst h1
    exact RepL.drop n h3
theorem RepL.take {K : PySem.W.Frag} {H : Hp} : ∀ (n : Nat) {ds : List D} {vs : List V}, RepL K H ds vs → RepL K H (ds.take n) (vs.take n)
  | 0, _, _, h => by simp [RepL]
  | _ + 1, [], _, h => by simp only [RepL] at h; subst h; simp [RepL]
  | n + 1, d :: ds, _, h => by
    simp only [RepL] at h
    obtain ⟨v, r, h1, h2, h3⟩ := h
    subst h1
    simp only [List.take_succ_cons, RepL]
    exact ⟨v, _, rfl, h2, RepL.take n h3⟩
theorem RepL.snoc {K : PySem.W.Frag} {H : Hp} {ds : List D} {vs : List V} {d : D} {v : V} (h : RepL K H ds vs) (r : Rep K H d v) : RepL K H (ds ++ [d]) (vs ++ [v]) :=
  h.append (by simp only [RepL]; exact ⟨v, [], rfl, r, rfl⟩)

/-! ### the heap grows: G is what is shared (never changed), H all that is tracked -/
structure Grow (G H G' H' : Hp) : Prop where
  g : Same G G'
  h : Same H H'
  s : Same G' H'
  n : ∀ a o, H a = some o → G a = none → G' a = none
theorem Grow.refl {G H : Hp} (s : Same G H) : Grow G H G H := ⟨Same.refl _, Same.refl _, s, fun _ _ _ n => n⟩
theorem Grow.trans {G H G1 H1 G2 H2 : Hp} (a : Grow G H G1 H1) (b : Grow G1 H1 G2 H2) : Grow G H G2 H2 :=
  ⟨a.g.trans b.g, a.h.trans b.h, b.s, fun x o e n => b.n x o (a.h x o e) (a.n x o e n)⟩
theorem Same.upd {G H : Hp} (s : Same G H) {p : Addr} (o : HO) : Same (upd G p o) (upd H p o) := fun b u e => by
  by_cases hb : b = p
  · subst hb; rw [upd_same] at e ⊢; exact e
  · rw [upd_ne hb] at e ⊢; exact s b u e
theorem same_new {H : Hp} {p : Addr} (o : HO) (n : H p = none) : Same H (L2.upd H p o) := fun b u e => by
  rw [upd_ne (ne_of_none e n)]; exact e
theorem Grow.laid {G H : Hp} (s : Same G H) {p : Addr} (o : HO) (n : H p = none) : Grow G H (L2.upd G p o) (L2.upd H p o) :=
  ⟨same_new o (s.free n), same_new o n, s.upd o, fun a u e z => by rw [upd_ne (ne_of_none e n)]; exact z⟩

/-- an object that may change: a list, a dict -/
inductive Mo where
  | lst (xs : List D) | dic (ks : List Key) (xs : List D)
@[simp] def Mo.d : Mo → D | .lst xs => .lst xs | .dic ks xs => .dic ks xs
@[simp] def Mo.vals : Mo → List D | .lst xs => xs | .dic _ xs => xs
def Mo.ho : Mo → List V → HO | .lst _, vs => .lst vs | .dic ks _, vs => .dK (ks.zip vs)
def Mo.ok : Mo → Prop | .lst _ => True | .dic ks xs => ks.length = xs.length ∧ ks.Nodup
/-- a slot: shared data, or an object of one's own -/
inductive Sl where
  | sh (d : D) | pv (m : Mo)
@[simp] def Sl.d : Sl → D | .sh d => d | .pv m => m.d
abbrev En := List (Option Sl)
/-- B: what stood ahead of the def's entry -/
def RepX (K : PySem.W.Frag) (B G H : Hp) : Sl → V → Prop
  | .sh d, v => Rep K G d v
  | .pv m, v => ∃ a vs, v = .ref a ∧ B a = none ∧ G a = none ∧ H a = some (m.ho vs) ∧ m.ok ∧ RepL K G m.vals vs
theorem RepX.grow {K : PySem.W.Frag} {B G H G' H' : Hp} (g : Grow G H G' H') : ∀ {x : Sl} {v : V}, RepX K B G H x v → RepX K B G' H' x v
  | .sh d, _, h => Rep.mono g.g h
  | .pv m, _, ⟨a, vs, h1, h0, h2, h3, h5, h4⟩ => ⟨a, vs, h1, h0, g.n a _ h3 h2, g.h _ _ h3, h5, h4.mono g.g⟩
structure RepS (K : PySem.W.Frag) (B G H : Hp) (δ : En) (σ : St) : Prop where
  len : δ.length = σ.length
  at_ : ∀ (i : Nat) (x : Sl), δ[i]? = some (some x) → ∃ v, σ[i]? = some (some v) ∧ RepX K B G H x v
  ap : ∀ (i j : Nat) (x y : Mo), i ≠ j → δ[i]? = some (some (.pv x)) → δ[j]? = some (some (.pv y)) → σ[i]? ≠ σ[j]?
theorem RepS.grow {K : PySem.W.Frag} {B G H G' H' : Hp} {δ : En} {σ : St} (r : RepS K B G H δ σ) (g : Grow G H G' H') : RepS K B G' H' δ σ :=
  ⟨r.len, fun i x e => let ⟨v, h1, h2⟩ := r.at_ i x e; ⟨v, h1, h2.grow g⟩, r.ap⟩
theorem get_set {α : Type} {l : List α} {i j : Nat} {x y : α} (e : (l.set i x)[j]? = some y) : (i = j ∧ x = y) ∨ (i ≠ j ∧ l[j]? = some y) := by
  by_cases h : i = j
  · subst h
    by_cases hl : i < l.length
    · rw [List.getElem?_set_self hl] at e
      exact .inl ⟨rfl, Option.some.inj e⟩
    · rw [List.getElem?_eq_none (by simpa using hl)] at e; cases e
  · rw [List.getElem?_set_ne h] at e
    exact .inr ⟨h, e⟩
/-- a slot is stored: shared, or an object that no other slot has -/
theorem RepS.put {K : PySem.W.Frag} {B G H : Hp} {δ : En} {σ : St} (r : RepS K B G H δ σ) (i : Nat) {x : Sl} {v : V} (h : RepX K B G H x v)
    (ha : ∀ m, x = .pv m → ∀ (j : Nat) (y : Mo), j ≠ i → δ[j]? = some (some (.pv y)) → σ[j]? ≠ some (some v)) : RepS K B G H (δ.set i (some x)) (σ.set i (some v)) := by
  refine ⟨by simp [r.len], fun j y e => ?_, fun j l y z hjl e1 e2 => ?_⟩
  · have hl0 := (List.getElem?_eq_some_iff.mp e).1
    rw [List.length_set, r.len] at hl0
    rcases get_set e with ⟨rfl, e'⟩ | ⟨hj, e'⟩
    · cases e'
      exact ⟨v, List.getElem?_set_self hl0, h⟩
    · rw [List.getElem?_set_ne hj]
      exact r.at_ j y e'
  · have inb : ∀ (m : Nat) (w : Mo), (δ.set i (some x))[m]? = some (some (.pv w)) → m < σ.length := fun m w e => by
      have := (List.getElem?_eq_some_iff.mp e).1
      rw [List.length_set, r.len] at this
      exact this
    rcases get_set e1 with ⟨rfl, f1⟩ | ⟨h1, f1⟩
    · rcases get_set e2 with ⟨rfl, f2⟩ | ⟨h2, f2⟩
      · exact absurd rfl hjl
      · cases f1
        rw [List.getElem?_set_self (inb _ _ e1), List.getElem?_set_ne h2]
        exact fun z => ha _ rfl l _ (Ne.symm h2) f2 z.symm
    · rcases get_set e2 with ⟨rfl, f2⟩ | ⟨h2, f2⟩
      · cases f2
        rw [List.getElem?_set_self (inb _ _ e2), List.getElem?_set_ne h1]
        exact ha _ rfl j _ (Ne.symm h1) f1
      · rw [List.getElem?_set_ne h1, List.getElem?_set_ne h2]
        exact r.ap j l y z hjl f1 f2
theorem RepS.set {K : PySem.W.Frag} {B G H : Hp} {δ : En} {σ : St} (r : RepS K B G H δ σ) (i : Nat) {d : D} {v : V} (h : Rep K G d v) : RepS K B G H (δ.set i (some (.sh d))) (σ.set i (some v)) :=
  r.put i (x := .sh d) h fun m e => nomatch e

/-- a value that is read: shared, or an object of one's own whose items are shared -/
def RepB (K : PySem.W.Frag) (G H : Hp) (d : D) (v : V) : Prop := Rep K G d v ∨ ∃ (m : Mo) (a : Addr) (vs : List V), d = m.d ∧ v = .ref a ∧ H a = some (m.ho vs) ∧ m.ok ∧ RepL K G m.vals vs
theorem RepB.grow {K : PySem.W.Frag} {G H G' H' : Hp} {d : D} {v : V} (r : RepB K G H d v) (g : Grow G H G' H') : RepB K G' H' d v := by
  rcases r with r | ⟨m, a, vs, h1, h2, h3, h4, h5⟩
  · exact .inl (r.mono g.g)
  · exact .inr ⟨m, a, vs, h1, h2, g.h _ _ h3, h4, h5.mono g.g⟩
theorem RepB.lst {K : PySem.W.Frag} {G H : Hp} {ds : List D} {v : V} (r : RepB K G H (.lst ds) v) (s : Same G H) : ∃ a vs, v = .ref a ∧ SqL K H a vs ∧ RepL K G ds vs := by
  rcases r with r | ⟨m, a, vs, h1, h2, h3, h4, h5⟩
  · simp only [Rep] at r
    obtain ⟨a, vs, h1, h2, h3⟩ := r
    exact ⟨a, vs, h1, s.sqL h2, h3⟩
  · cases m with
    | lst xs => cases h1; exact ⟨a, vs, h2, SqL.of h3, h5⟩
    | dic ks xs => cases h1
theorem RepB.tup {K : PySem.W.Frag} {G H : Hp} {ds : List D} {v : V} (r : RepB K G H (.tup ds) v) : Rep K G (.tup ds) v := by
  rcases r with r | ⟨m, a, vs, h1, _⟩
  · exact r
  · cases m <;> cases h1
theorem RepB.dic {K : PySem.W.Frag} {G H : Hp} {ks : List Key} {ds : List D} {v : V} (r : RepB K G H (.dic ks ds) v) (s : Same G H) : ∃ a vs, v = .ref a ∧ Rd H a (.dK (ks.zip vs)) ∧ ks.length = ds.length ∧ ks.Nodup ∧ RepL K G ds vs := by
  rcases r with r | ⟨m, a, vs, h1, h2, h3, h4, h5⟩
  · simp only [Rep] at r
    obtain ⟨a, vs, h1, h2, h3, h4, h5⟩ := r
    exact ⟨a, vs, h1, s.rd h2, h3, h4, h5⟩
  · cases m with
    | lst xs => cases h1
    | dic ks' xs => cases h1; exact ⟨a, vs, h2, .inl h3, h4.1, h4.2, h5⟩
theorem RepB.of {K : PySem.W.Frag} {G H : Hp} {d : D} {v : V} (r : Rep K G d v) : RepB K G H d v := .inl r
/-- as the whole heap has it -/
theorem RepB.all {K : PySem.W.Frag} {G H : Hp} {d : D} {v : V} (r : RepB K G H d v) (s : Same G H) : Rep K H d v := by
  rcases r with r | ⟨m, a, vs, h1, h2, h3, h4, h5⟩
  · exact r.mono s
  · subst h1
    cases m with
    | lst xs => simp only [Mo.d, Rep]; exact ⟨a, vs, h2, SqL.of h3, h5.mono s⟩
    | dic ks xs => simp only [Mo.d, Rep]; exact ⟨a, vs, h2, .inl h3, h4.1, h4.2, h5.mono s⟩
def RepLB (K : PySem.W.Frag) (G H : Hp) : List D → List V → Prop
  | [], vs => vs = []
  | d :: ds, vs => ∃ v r, vs = v :: r ∧ RepB K G H d v ∧ RepLB K G H ds r
theorem RepLB.all {K : PySem.W.Frag} {G H : Hp} (s : Same G H) : ∀ {ds : List D} {vs : List V}, RepLB K G H ds vs → RepL K H ds vs
  | [], _, h => by simp only [RepLB] at h; simp only [RepL]; exact h
  | d :: ds, _, h => by
    obtain ⟨v, r, h1, h2, h3⟩ := h
    simp only [RepL]
    exact ⟨v, r, h1, h2.all s, RepLB.all s h3⟩

/-! ### expressions: f is what the expression is worth -/
abbrev FE := En → Option D
/-- what is wanted of a reading: a shared value; one that is read -/
def Gives (K : PySem.W.Frag) (t : TE) (f : FE) : Prop := ∀ (B G H : Hp) (δ : En) (σ : St) (d : D) (Q : VK), Same G H → RepS K B G H δ σ → f δ = some d →
  (∀ v G' H', Grow G H G' H' → Rep K G' d v → Q v H') → t σ H Q
def GivesB (K : PySem.W.Frag) (t : TE) (f : FE) : Prop := ∀ (B G H : Hp) (δ : En) (σ : St) (d : D) (Q : VK), Same G H → RepS K B G H δ σ → f δ = some d →
  (∀ v G' H', Grow G H G' H' → RepB K G' H' d v → Q v H') → t σ H Q
def PD (X : Cx) (e : Expr) (f : FE) : Prop := ∃ t, PE X e t ∧ Gives X.K t f
def PB (X : Cx) (e : Expr) (f : FE) : Prop := ∃ t, PE X e t ∧ GivesB X.K t f
theorem PD.pb {X : Cx} {e : Expr} {f : FE} (h : PD X e f) : PB X e f := by
  obtain ⟨t, pt, k⟩ := h
  exact ⟨t, pt, fun B G H δ σ d Q sG rs ef q => k B G H δ σ d Q sG rs ef fun v G' H' g r => q v G' H' g (.inl r)⟩
/-- a new object, or a shared value -/
inductive Rs where
  | sh (d : D) | fr (m : Mo)
@[simp] def Rs.d : Rs → D | .sh d => d | .fr m => m.d
@[simp] def Rs.sl : Rs → Sl | .sh d => .sh d | .fr m => .pv m
abbrev FR := En → Option Rs
def WantR (K : PySem.W.Frag) (G H : Hp) (Q : VK) : Rs → Prop
  | .sh d => ∀ v G' H', Grow G H G' H' → Rep K G' d v → Q v H'
  | .fr m => ∀ p vs G' H', Grow G H G' H' → H' p = none → m.ok → RepL K G' m.vals vs → Q (.ref p) (upd H' p (m.ho vs))
def GivesR (K : PySem.W.Frag) (t : TE) (f : FR) : Prop := ∀ (B G H : Hp) (δ : En) (σ : St) (r : Rs) (Q : VK), Same G H → RepS K B G H δ σ → f δ = some r → WantR K G H Q r → t σ H Q
def PR (X : Cx) (e : Expr) (f : FR) : Prop := ∃ t, PE X e t ∧ GivesR X.K t f
@[simp] def fSh (f : FE) : FR := fun δ => (f δ).map .sh
@[simp] def fPub (f : FR) : FE := fun δ => (f δ).map Rs.d
theorem PD.pr {X : Cx} {e : Expr} {f : FE} (h : PD X e f) : PR X e (fSh f) := by
  obtain ⟨t, pt, k⟩ := h
  refine ⟨t, pt, fun B G H δ σ r Q sG rs ef q => ?_⟩
  unfold fSh at ef
  obtain ⟨d, e1, rfl⟩ := Option.map_eq_some_iff.mp ef
  exact k B G H δ σ d Q sG rs e1 q
theorem rep_pub {K : PySem.W.Frag} {G : Hp} {p : Addr} {m : Mo} {vs : List V} (hn : G p = none) (ok : m.ok) (r : RepL K G m.vals vs) : Rep K (upd G p (m.ho vs)) m.d (.ref p) := by
  cases m with
  | lst xs => simp only [Mo.d, Rep]; exact ⟨p, vs, rfl, SqL.of upd_same, r.mono (same_new _ hn)⟩
  | dic ks xs => simp only [Mo.d, Rep]; exact ⟨p, vs, rfl, .inl upd_same, ok.1, ok.2, r.mono (same_new _ hn)⟩
theorem WantR.of {K : PySem.W.Frag} {G H : Hp} {Q : VK} {r : Rs} (q : ∀ v G' H', Grow G H G' H' → Rep K G' r.d v → Q v H') : WantR K G H Q r := by
  cases r with
  | sh d => exact q
  | fr m => exact fun p vs G' H' g hp ok rl => q _ _ _ (g.trans (Grow.laid g.s _ hp)) (rep_pub (g.s.free hp) ok rl)
theorem PR.pd {X : Cx} {e : Expr} {f : FR} (h : PR X e f) : PD X e (fPub f) := by
  obtain ⟨t, pt, k⟩ := h
  refine ⟨t, pt, fun B G H δ σ d Q sG rs ef q => ?_⟩
  unfold fPub at ef
  obtain ⟨r, e1, rfl⟩ := Option.map_eq_some_iff.mp ef
  exact k B G H δ σ r Q sG rs e1 (WantR.of q)
def PDT (X : Cx) (e : Expr) (f : En → Option Bool) : Prop := ∃ t, PT X e t ∧ ∀ (B G H : Hp) (δ : En) (σ : St) (b : Bool) (Q : Bool → Hp → Prop), Same G H → RepS X.K B G H δ σ → f δ = some b →
  (∀ G' H', Grow G H G' H' → Q b H') → t σ H Q
def PDW (X : Cx) (e : Expr) (f : En → Option Bool) : Prop := ∃ t, PW X e t ∧ ∀ (B G H : Hp) (δ : En) (σ : St) (b : Bool) (Q : Bool → Hp → Prop), Same G H → RepS X.K B G H δ σ → f δ = some b →
  (∀ G' H', Grow G H G' H' → Q b H') → t σ H Q
def PAD (X : Cx) (es : List Expr) (f : En → Option (List D)) : Prop := ∃ t, PA X es t ∧ ∀ (B G H : Hp) (δ : En) (σ : St) (ds : List D) (Q : List V → Hp → Prop), Same G H → RepS X.K B G H δ σ → f δ = some ds →
  (∀ vs G' H', Grow G H G' H' → RepL X.K G' ds vs → Q vs H') → t σ H Q

def PAB (X : Cx) (es : List Expr) (f : En → Option (List D)) : Prop := ∃ t, PA X es t ∧ ∀ (B G H : Hp) (δ : En) (σ : St) (ds : List D) (Q : List V → Hp → Prop), Same G H → RepS X.K B G H δ σ → f δ = some ds →
  (∀ vs G' H', Grow G H G' H' → RepLB X.K G' H' ds vs → Q vs H') → t σ H Q
theorem RepLB.grow {K : PySem.W.Frag} {G H G' H' : Hp} (g : Grow G H G' H') : ∀ {ds : List D} {vs : List V}, RepLB K G H ds vs → RepLB K G' H' ds vs
  | [], _, h => h
  | d :: ds, _, ⟨v, r, h1, h2, h3⟩ => ⟨v, r, h1, h2.grow g, RepLB.grow g h3⟩

section
variable {X : Cx} {e a b c : Expr} {es : List Expr} {f g h : FE} {pos p : Pos}

@[simp] def fVar (i : Nat) : FE := fun δ => match δ[i]? with | some (some (.sh d)) => some d | _ => none
theorem pd_var (i : Nat) {x : Str} (hN : X.N[i]? = some x := by rfl) (hv : Vis X.env.scope x := by first | exact Or.inl rfl | exact Or.inr (Or.inl rfl) | exact Or.inr (Or.inr rfl)) (hd : (x == ("__debug__" : Str)) = false := by decide)
    (hcd : (x == ("__classdict__" : Str)) = false := by decide) : PD X (.Name x pos) (fVar i) := by
  refine ⟨tVar i, pe_var hN hv hd hcd, fun B G H δ σ d Q sG rs ef k => ?_⟩
  unfold fVar at ef
  split at ef
  · rename_i d' ed
    cases ef
    obtain ⟨v, h1, h2⟩ := rs.at_ i _ ed
    exact ⟨v, h1, k v G H (Grow.refl sG) h2⟩
  · cases ef
/-- a name that is read: shared or one's own -/
@[simp] def fVarB (i : Nat) : FE := fun δ => match δ[i]? with | some (some x) => some x.d | _ => none
theorem pb_var (i : Nat) {x : Str} (hN : X.N[i]? = some x := by rfl) (hv : Vis X.env.scope x := by first | exact Or.inl rfl | exact Or.inr (Or.inl rfl) | exact Or.inr (Or.inr rfl)) (hd : (x == ("__debug__" : Str)) = false := by decide)
    (hcd : (x == ("__classdict__" : Str)) = false := by decide) : PB X (.Name x pos) (fVarB i) := by
  refine ⟨tVar i, pe_var hN hv hd hcd, fun B G H δ σ d Q sG rs ef k => ?_⟩
  unfold fVarB at ef
  split at ef
  · rename_i y ed
    cases ef
    obtain ⟨v, h1, h2⟩ := rs.at_ i _ ed
    refine ⟨v, h1, k v G H (Grow.refl sG) ?_⟩
    cases y with
    | sh d => exact .inl h2
    | pv m =>
      obtain ⟨a, vs, e1, _, _, e2, e3, e4⟩ := h2
      exact .inr ⟨m, a, vs, rfl, e1, e2, e3, e4⟩
  · cases ef
@[simp] def fC (d : D) : FE := fun _ => some d
theorem pd_int {i j} : PD X (.Constant (.int i) j pos) (fC (.int i)) := ⟨_, pe_int, fun B G H δ σ d Q sG rs ef k => by cases ef; exact k _ G H (Grow.refl sG) (by simp [Rep])⟩
theorem pd_bl {i j} : PD X (.Constant (.bool i) j pos) (fC (.bl i)) := ⟨_, pe_bl, fun B G H δ σ d Q sG rs ef k => by cases ef; exact k _ G H (Grow.refl sG) (by simp [Rep])⟩
theorem pd_non {j} : PD X (.Constant .none j pos) (fC .non) := ⟨_, pe_non, fun B G H δ σ d Q sG rs ef k => by cases ef; exact k _ G H (Grow.refl sG) (by simp [Rep])⟩
theorem pd_str {i j} : PD X (.Constant (.str i) j pos) (fC (.str i)) := ⟨_, pe_str, fun B G H δ σ d Q sG rs ef k => by cases ef; exact k _ G H (Grow.refl sG) (by simp [Rep])⟩
theorem pd_glob {x : Str} {v : V} {u : Value} {d : D} (hg : Gl X x) (hm : X.mg x = some u) (r : RelV v u) (rep : ∀ G, Rep X.K G d v) (hd : (x == ("__debug__" : Str)) = false := by decide) : PD X (.Name x pos) (fC d) :=
  ⟨_, pe_glob hg hm r hd, fun B G H δ σ d Q sG rs ef k => by cases ef; exact k _ G H (Grow.refl sG) (rep G)⟩

/-! arguments -/
@[simp] def fNil : En → Option (List D) := fun _ => some []
@[simp] def fCons (f : FE) (g : En → Option (List D)) : En → Option (List D) := fun δ => (f δ).bind fun d => (g δ).bind fun ds => some (d :: ds)
theorem pad_nil : PAD X [] fNil := ⟨_, pa_nil, fun B G H δ σ d Q sG rs ef k => by cases ef; exact k _ G H (Grow.refl sG) (by simp [RepL])⟩
theorem pad_cons {g : En → Option (List D)} (ha : PD X e f) (hr : PAD X es g) (hs : starEach (e :: es) X.env = (false, eval e X.env) :: starEach es X.env := by rfl) : PAD X (e :: es) (fCons f g) := by
  obtain ⟨ta, pa, ka⟩ := ha
  obtain ⟨tr, pr, kr⟩ := hr
  refine ⟨_, pa_cons pa pr hs, fun B G H δ σ ds Q sG rs ef k => ?_⟩
  unfold fCons at ef
  obtain ⟨d, e1, ef⟩ := Option.bind_eq_some_iff.mp ef
  obtain ⟨ds', e2, ef⟩ := Option.bind_eq_some_iff.mp ef
  cases ef
  refine ka B G H δ σ d _ sG rs e1 fun v G1 H1 g1 r1 => kr B G1 H1 δ σ ds' _ g1.s (rs.grow g1) e2 fun vs G2 H2 g2 r2 => ?_
  exact k _ G2 H2 (g1.trans g2) (by simp only [RepL]; exact ⟨v, vs, rfl, r1.mono g2.g, r2⟩)

theorem pab_nil : PAB X [] fNil := ⟨_, pa_nil, fun B G H δ σ d Q sG rs ef k => by cases ef; exact k _ G H (Grow.refl sG) rfl⟩
theorem pab_cons {g : En → Option (List D)} (ha : PB X e f) (hr : PAB X es g) (hs : starEach (e :: es) X.env = (false, eval e X.env) :: starEach es X.env := by rfl) : PAB X (e :: es) (fCons f g) := by
  obtain ⟨ta, pa, ka⟩ := ha
  obtain ⟨tr, pr, kr⟩ := hr
  refine ⟨_, pa_cons pa pr hs, fun B G H δ σ ds Q sG rs ef k => ?_⟩
  unfold fCons at ef
  obtain ⟨d, e1, ef⟩ := Option.bind_eq_some_iff.mp ef
  obtain ⟨ds', e2, ef⟩ := Option.bind_eq_some_iff.mp ef
  cases ef
  refine ka B G H δ σ d _ sG rs e1 fun v G1 H1 g1 r1 => kr B G1 H1 δ σ ds' _ g1.s (rs.grow g1) e2 fun vs G2 H2 g2 r2 => ?_
  exact k _ G2 H2 (g1.trans g2) ⟨v, vs, rfl, r1.grow g2, r2⟩

/-! calls of defs -/
def spD (K : PySem.W.Frag) (M : List D → Option Rs) : Sp := fun vs H Q _ => ∃ G ds r, Same G H ∧ RepL K G ds vs ∧ M ds = some r ∧ WantR K G H Q r
def DefOk (P : Program) (w : World) (K : PySem.W.Frag) (mg : Str → Option Value) (base : Heap) (k : Nat) (x : Str) (ps : List Str) (M : List D → Option Rs) : Prop :=
  ∃ f fd, FnOk P w K mg base CX0 k f fd ps (spD K M) ∧ Binds K fd ps [] ∧ PySem.W.keepIn K (.ref f) = true ∧ mg x = some (.ref f)
@[simp] def fCallR (M : List D → Option Rs) (g : En → Option (List D)) : FR := fun δ => (g δ).bind M
theorem WantR.mono {K : PySem.W.Frag} {G H G1 H1 : Hp} {Q : VK} {r : Rs} (q : WantR K G H Q r) (g : Grow G H G1 H1) : WantR K G1 H1 Q r := by
  cases r with
  | sh d => exact fun v G' H' g' => q v G' H' (g.trans g')
  | fr m => exact fun p vs G' H' g' => q p vs G' H' (g.trans g')
theorem pr_call {k : Nat} {x : Str} {ps : List Str} {M : List D → Option Rs} {g : En → Option (List D)} (F : DefOk X.prog X.w X.K X.mg X.base k x ps M) (hr : Room k X.A) (ha : PAD X (e :: es) g) (hg : Gl X x := by rfl)
    (hdb : (x == ("__debug__" : Str)) = false := by decide) (he : starEach (e :: es) X.env = (false, eval e X.env) :: starEach es X.env := by rfl) (hpl : (backTo pos (starEach es X.env)).any (·.1) = false := by rfl) :
    PR X (.Call (.Name x p) (e :: es) [] pos) (fCallR M g) := by
  obtain ⟨f, fd, F, hb, hk, hm⟩ := F
  obtain ⟨ta, pa, ka⟩ := ha
  refine ⟨_, pe_call F hr hg hm hk hb .nil pass0 pa hdb he hpl, fun B G H δ σ r Q sG rs ef k => ?_⟩
  unfold fCallR at ef
  obtain ⟨ds, e1, ef⟩ := Option.bind_eq_some_iff.mp ef
  refine ka B G H δ σ ds _ sG rs e1 fun vs G1 H1 g1 r1 => ?_
  rw [List.append_nil]
  exact ⟨G1, ds, r, g1.s, r1, ef, k.mono g1⟩
/-- objects of one's own handed in: what comes back must be a scalar -/
def flatD : D → Bool | .non => true | .bl _ => true | .int _ => true | .str _ => true | _ => false
theorem rep_flatG {K : PySem.W.Frag} {G G' : Hp} {d : D} {v : V} (e : flatD d = true) (r : Rep K G d v) : Rep K G' d v := by
  cases d with
  | tup xs => cases e
  | lst xs => cases e
  | dic ks xs => cases e
  | _ => simp only [Rep] at r ⊢; exact r
@[simp] def fCallF (M : List D → Option Rs) (g : En → Option (List D)) : FE := fun δ => (g δ).bind fun ds => match M ds with | some (.sh d) => if flatD d = true then some d else none | _ => none
theorem pd_callF {k : Nat} {x : Str} {ps : List Str} {M : List D → Option Rs} {g : En → Option (List D)} (F : DefOk X.prog X.w X.K X.mg X.base k x ps M) (hr : Room k X.A) (ha : PAB X (e :: es) g) (hg : Gl X x := by rfl)
    (hdb : (x == ("__debug__" : Str)) = false := by decide) (he : starEach (e :: es) X.env = (false, eval e X.env) :: starEach es X.env := by rfl) (hpl : (backTo pos (starEach es X.env)).any (·.1) = false := by rfl) :
    PD X (.Call (.Name x p) (e :: es) [] pos) (fCallF M g) := by
  obtain ⟨f, fd, F, hb, hk, hm⟩ := F
  obtain ⟨ta, pa, ka⟩ := ha
  refine ⟨_, pe_call F hr hg hm hk hb .nil pass0 pa hdb he hpl, fun B G H δ σ d Q sG rs ef k => ?_⟩
  unfold fCallF at ef
  obtain ⟨ds, e1, ef⟩ := Option.bind_eq_some_iff.mp ef
  refine ka B G H δ σ ds _ sG rs e1 fun vs G1 H1 g1 r1 => ?_
  rw [List.append_nil]
  cases em : M ds with
  | none => rw [em] at ef; cases ef
  | some r =>
    rw [em] at ef
    cases r with
    | fr m => cases ef
    | sh d' =>
      dsimp only at ef
      by_cases hf : flatD d' = true
      · rw [if_pos hf] at ef
        cases ef
        refine ⟨H1, ds, .sh d, Same.refl _, r1.all g1.s, em, fun v G' H' g2 r2 => ?_⟩
        exact k v G1 H' (g1.trans ⟨Same.refl _, g2.h, g1.s.trans g2.h, fun a o _ n => n⟩) (rep_flatG hf r2)
      · rw [if_neg hf] at ef
        cases ef

/-! built-ins -/
def CallD (X : Cx) (f : Value) (c : List D → Option D) : Prop := ∃ r, CallR X f r ∧ ∀ (G H : Hp) (ds : List D) (vs : List V) (d : D) (Q : VK), Same G H → RepLB X.K G H ds vs → c ds = some d →
  (∀ v G' H', Grow G H G' H' → Rep X.K G' d v → Q v H') → r vs H Q
@[simp] def fCallB (M : List D → Option D) (g : En → Option (List D)) : FE := fun δ => (g δ).bind M
theorem pd_callB {x : Str} {id : String} {cD : List D → Option D} {g : En → Option (List D)} (hc : CallD X (.builtin id) cD) (hm : X.mg x = none) (hv : bootBuiltins x = some (.builtin id)) (ha : PAB X (e :: es) g) (hg : Gl X x := by rfl)
    (hn : x ≠ "__name__" := by decide) (hdb : (x == ("__debug__" : Str)) = false := by decide)
    (he : starEach (e :: es) X.env = (false, eval e X.env) :: starEach es X.env := by rfl) (hpl : (backTo pos (starEach es X.env)).any (·.1) = false := by rfl) : PD X (.Call (.Name x p) (e :: es) [] pos) (fCallB cD g) := by
  obtain ⟨r, hc, kc⟩ := hc
  obtain ⟨ta, pa, ka⟩ := ha
  refine ⟨_, pe_callB hc hg hm hv pa hn hdb he hpl, fun B G H δ σ d Q sG rs ef k => ?_⟩
  unfold fCallB at ef
  obtain ⟨ds, e1, ef⟩ := Option.bind_eq_some_iff.mp ef
  exact ka B G H δ σ ds _ sG rs e1 fun vs G1 H1 g1 r1 => kc G1 H1 ds vs d Q g1.s r1 ef fun v G' H' g2 r2 => k v G' H' (g1.trans g2) r2
theorem pd_callTy {x : Str} {T : String} {cD : List D → Option D} {g : En → Option (List D)} (hc : CallD X (.type T) cD) (hm : X.mg x = none) (hv : bootBuiltins x = some (.type T)) (ha : PAB X (e :: es) g) (hg : Gl X x := by rfl)
    (hn : x ≠ "__name__" := by decide) (hdb : (x == ("__debug__" : Str)) = false := by decide)
    (he : starEach (e :: es) X.env = (false, eval e X.env) :: starEach es X.env := by rfl) (hpl : (backTo pos (starEach es X.env)).any (·.1) = false := by rfl) : PD X (.Call (.Name x p) (e :: es) [] pos) (fCallB cD g) := by
  obtain ⟨r, hc, kc⟩ := hc
  obtain ⟨ta, pa, ka⟩ := ha
  refine ⟨_, pe_callTy hc hg hm hv pa hn hdb he hpl, fun B G H δ σ d Q sG rs ef k => ?_⟩
  unfold fCallB at ef
  obtain ⟨ds, e1, ef⟩ := Option.bind_eq_some_iff.mp ef
  exact ka B G H δ σ ds _ sG rs e1 fun vs G1 H1 g1 r1 => kc G1 H1 ds vs d Q g1.s r1 ef fun v G' H' g2 r2 => k v G' H' (g1.trans g2) r2

/-! operations -/
def OpD (X : Cx) (f : Value → Value → Sem Value) (o : D → D → Option D) : Prop := ∃ r, OpR X f r ∧ ∀ (G H : Hp) (x y : D) (v u : V) (d : D) (Q : VK), Same G H → RepB X.K G H x v → RepB X.K G H y u → o x y = some d →
  (∀ v G' H', Grow G H G' H' → Rep X.K G' d v → Q v H') → r v u H Q
theorem OpD.or {F : Value → Value → Sem Value} {o o' : D → D → Option D} (h : OpD X F o) (h' : OpD X F o') : OpD X F (fun x y => (o x y).or (o' x y)) := by
  obtain ⟨r, h1, h2⟩ := h
  obtain ⟨r', h1', h2'⟩ := h'
  refine ⟨_, h1.or h1', fun G H x y v u d Q sG rx ry e k => ?_⟩
  cases eo : o x y with
  | some z =>
    have : z = d := by simpa [eo] using e
    subst this
    exact .inl (h2 G H x y v u z Q sG rx ry eo k)
  | none => exact .inr (h2' G H x y v u d Q sG rx ry (by simpa [eo] using e) k)
@[simp] def f2 (o : D → D → Option D) (f g : FE) : FE := fun δ => (f δ).bind fun x => (g δ).bind fun y => o x y
theorem gives_op {r : R2} {o : D → D → Option D} {ta tb : TE} (ka : GivesB X.K ta f) (kb : GivesB X.K tb g) (ko : ∀ (G H : Hp) (x y : D) (v u : V) (d : D) (Q : VK), Same G H → RepB X.K G H x v → RepB X.K G H y u → o x y = some d →
    (∀ v G' H', Grow G H G' H' → Rep X.K G' d v → Q v H') → r v u H Q) : Gives X.K (tOp r ta tb) (f2 o f g) := fun B G H δ σ d Q sG rs ef k => by
  unfold f2 at ef
  obtain ⟨x, e1, ef⟩ := Option.bind_eq_some_iff.mp ef
  obtain ⟨y, e2, ef⟩ := Option.bind_eq_some_iff.mp ef
  exact ka B G H δ σ x _ sG rs e1 fun v G1 H1 g1 r1 => kb B G1 H1 δ σ y _ g1.s (rs.grow g1) e2 fun u G2 H2 g2 r2 =>
    ko G2 H2 x y v u d Q g2.s (r1.grow g2) r2 ef fun v G' H' g3 r3 => k v G' H' ((g1.trans g2).trans g3) r3
theorem pd_op {op : Operator} {o : D → D → Option D} (ho : OpD X (binaryOp op) o) (ha : PB X a f) (hb : PB X b g) : PD X (.BinOp a op b pos) (f2 o f g) := by
  obtain ⟨r, ho, ko⟩ := ho
  obtain ⟨ta, pa, ka⟩ := ha
  obtain ⟨tb, pb, kb⟩ := hb
  exact ⟨_, pe_op ho pa pb, gives_op ka kb ko⟩
theorem pd_cmp {op : CmpOp} {o : D → D → Option D} (ho : OpD X (compareOp op) o) (ha : PB X a f) (hb : PB X b g) (hm : behindInMarks op b = false := by first | exact nomark _ | with_unfolding_all rfl) : PD X (.Compare a [op] [b] pos) (f2 o f g) := by
  obtain ⟨r, ho, ko⟩ := ho
  obtain ⟨ta, pa, ka⟩ := ha
  obtain ⟨tb, pb, kb⟩ := hb
  exact ⟨_, pe_cmpR ho pa pb hm, gives_op ka kb ko⟩
/-- a value that is a bool, as a test -/
@[simp] def fB (f : FE) : En → Option Bool := fun δ => match f δ with | some (.bl b) => some b | _ => none
theorem fB_some {δ : En} {b : Bool} (e : fB f δ = some b) : f δ = some (.bl b) := by
  unfold fB at e
  split at e
  · rename_i h; cases e; exact h
  · cases e
theorem pdt_cmp {op : CmpOp} {o : D → D → Option D} (ho : OpD X (compareOp op) o) (ha : PB X a f) (hb : PB X b g) (hm : behindInMarks op b = false := by first | exact nomark _ | with_unfolding_all rfl) : PDT X (.Compare a [op] [b] pos) (fB (f2 o f g)) := by
  obtain ⟨r, ho, ko⟩ := ho
  obtain ⟨ta, pa, ka⟩ := ha
  obtain ⟨tb, pb, kb⟩ := hb
  refine ⟨_, pt_cmpR ho pa pb hm, fun B G H δ σ q Q sG rs ef k => ?_⟩
  refine gives_op ka kb ko B G H δ σ _ _ sG rs (fB_some ef) fun v G' H' g1 r1 => ?_
  simp only [Rep] at r1
  exact ⟨q, r1, k G' H' g1⟩
theorem pdt_val (h : PD X e f) (he : ∀ whole, isTrue e X.env whole = (do let v ← whole; standAt e.pos; holding [v] (truthy v)) := by intro _; rfl) : PDT X e (fB f) := by
  obtain ⟨t, pe, ke⟩ := h
  refine ⟨_, pt_val pe he, fun B G H δ σ q Q sG rs ef k => ?_⟩
  refine ke B G H δ σ _ _ sG rs (fB_some ef) fun v G' H' g1 r1 => ?_
  simp only [Rep] at r1
  exact ⟨q, r1, k G' H' g1⟩
/-- a op b op' c -/
@[simp] def f3 (o o' : D → D → Option D) (f g h : FE) : FE := fun δ => (f δ).bind fun x => (g δ).bind fun y => (o x y).bind fun z => match z with | .bl true => (h δ).bind fun w => o' y w | .bl false => some (.bl false) | _ => none
theorem gives_chain {r r' : R2} {o o' : D → D → Option D} {ta tb tc : TE} (ka : GivesB X.K ta f) (kb : GivesB X.K tb g) (kc : GivesB X.K tc h) (ko : ∀ (G H : Hp) (x y : D) (v u : V) (d : D) (Q : VK), Same G H → RepB X.K G H x v → RepB X.K G H y u → o x y = some d →
    (∀ v G' H', Grow G H G' H' → Rep X.K G' d v → Q v H') → r v u H Q) (ko' : ∀ (G H : Hp) (x y : D) (v u : V) (d : D) (Q : VK), Same G H → RepB X.K G H x v → RepB X.K G H y u → o' x y = some d →
    (∀ v G' H', Grow G H G' H' → Rep X.K G' d v → Q v H') → r' v u H Q) : Gives X.K (tChain r r' ta tb tc) (f3 o o' f g h) := fun B G H δ σ d Q sG rs ef k => by
  unfold f3 at ef
  obtain ⟨x, e1, ef⟩ := Option.bind_eq_some_iff.mp ef
  obtain ⟨y, e2, ef⟩ := Option.bind_eq_some_iff.mp ef
  obtain ⟨z, e3, ef⟩ := Option.bind_eq_some_iff.mp ef
  refine ka B G H δ σ x _ sG rs e1 fun v G1 H1 g1 r1 => kb B G1 H1 δ σ y _ g1.s (rs.grow g1) e2 fun u G2 H2 g2 r2 => ko G2 H2 x y v u z _ g2.s (r1.grow g2) r2 e3 fun zz G3 H3 g3 r3 => ?_
  have g13 := (g1.trans g2).trans g3
  split at ef
  · simp only [Rep] at r3
    obtain ⟨w, e4, ef⟩ := Option.bind_eq_some_iff.mp ef
    refine ⟨true, r3, ?_⟩
    rw [if_pos rfl]
    exact kc B G3 H3 δ σ w _ g3.s (rs.grow g13) e4 fun q G4 H4 g4 r4 => ko' G4 H4 y w u q d Q g4.s (r2.grow (g3.trans g4)) r4 ef fun v G' H' g5 r5 => k v G' H' ((g13.trans g4).trans g5) r5
  · simp only [Rep] at r3
    cases ef
    refine ⟨false, r3, ?_⟩
    rw [if_neg Bool.false_ne_true]
    exact k _ G3 H3 g13 (by simp [Rep])
  · cases ef
theorem pd_chain {op op' : CmpOp} {o o' : D → D → Option D} (ho : OpD X (compareOp op) o) (ho' : OpD X (compareOp op') o') (ha : PB X a f) (hb : PB X b g) (hc : PB X c h) (hm : lastMarks [op, op'] [b, c] = false := by with_unfolding_all rfl) :
    PD X (.Compare a [op, op'] [b, c] pos) (f3 o o' f g h) := by
  obtain ⟨r, ho, ko⟩ := ho
  obtain ⟨r', ho', ko'⟩ := ho'
  obtain ⟨ta, pa, ka⟩ := ha
  obtain ⟨tb, pb, kb⟩ := hb
  obtain ⟨tc, pc, kc⟩ := hc
  exact ⟨_, pe_chain ho ho' pa pb pc hm, gives_chain ka kb kc ko ko'⟩
theorem pdt_chain {op op' : CmpOp} {o o' : D → D → Option D} (ho : OpD X (compareOp op) o) (ho' : OpD X (compareOp op') o') (ha : PB X a f) (hb : PB X b g) (hc : PB X c h) (hm : lastMarks [op, op'] [b, c] = false := by with_unfolding_all rfl) :
    PDT X (.Compare a [op, op'] [b, c] pos) (fB (f3 o o' f g h)) := by
  obtain ⟨r, ho, ko⟩ := ho
  obtain ⟨r', ho', ko'⟩ := ho'
  obtain ⟨ta, pa, ka⟩ := ha
  obtain ⟨tb, pb, kb⟩ := hb
  obtain ⟨tc, pc, kc⟩ := hc
  refine ⟨_, pt_chain ho ho' pa pb pc hm, fun B G H δ σ q Q sG rs ef k => ?_⟩
  refine gives_chain ka kb kc ko ko' B G H δ σ _ _ sG rs (fB_some ef) fun v G' H' g1 r1 => ?_
  simp only [Rep] at r1
  exact ⟨q, r1, k G' H' g1⟩

/-! and, or, not -/
@[simp] def bAnd (f g : En → Option Bool) : En → Option Bool := fun δ => (f δ).bind fun x => if x = true then g δ else some false
@[simp] def bOr (f g : En → Option Bool) : En → Option Bool := fun δ => (f δ).bind fun x => if x = true then some true else g δ
@[simp] def bNot (f : En → Option Bool) : En → Option Bool := fun δ => (f δ).map (!·)
variable {fb gb : En → Option Bool} {rest : List Expr}
theorem PDW.pdt (h : PDW X e fb) : PDT X e fb := by
  obtain ⟨t, pw, k⟩ := h
  exact ⟨t, pw.pt, k⟩
theorem pdw_and1 (ha : PDT X a fb) : PDW X (.BoolOp .And [a] pos) fb := by
  obtain ⟨t, pt, k⟩ := ha
  exact ⟨t, pw_and1 pt, k⟩
theorem pdw_or1 (ha : PDT X a fb) : PDW X (.BoolOp .Or [a] pos) fb := by
  obtain ⟨t, pt, k⟩ := ha
  exact ⟨t, pw_or1 pt, k⟩
theorem pdw_and (ha : PDT X a fb) (hb : PDW X (.BoolOp .And (b :: rest) pos) gb) : PDW X (.BoolOp .And (a :: b :: rest) pos) (bAnd fb gb) := by
  obtain ⟨t, pt, k1⟩ := ha
  obtain ⟨u, pu, k2⟩ := hb
  refine ⟨_, pw_and pt pu, fun B G H δ σ q Q sG rs ef k => ?_⟩
  unfold bAnd at ef
  obtain ⟨x, e1, ef⟩ := Option.bind_eq_some_iff.mp ef
  refine k1 B G H δ σ x _ sG rs e1 fun G1 H1 g1 => ?_
  cases x with
  | true => rw [if_pos rfl] at ef ⊢; exact k2 B G1 H1 δ σ q Q g1.s (rs.grow g1) ef fun G' H' g2 => k G' H' (g1.trans g2)
  | false => rw [if_neg Bool.false_ne_true] at ef ⊢; cases ef; exact k G1 H1 g1
theorem pdw_or (ha : PDT X a fb) (hb : PDW X (.BoolOp .Or (b :: rest) pos) gb) : PDW X (.BoolOp .Or (a :: b :: rest) pos) (bOr fb gb) := by
  obtain ⟨t, pt, k1⟩ := ha
  obtain ⟨u, pu, k2⟩ := hb
  refine ⟨_, pw_or pt pu, fun B G H δ σ q Q sG rs ef k => ?_⟩
  unfold bOr at ef
  obtain ⟨x, e1, ef⟩ := Option.bind_eq_some_iff.mp ef
  refine k1 B G H δ σ x _ sG rs e1 fun G1 H1 g1 => ?_
  cases x with
  | false => rw [if_neg Bool.false_ne_true] at ef ⊢; exact k2 B G1 H1 δ σ q Q g1.s (rs.grow g1) ef fun G' H' g2 => k G' H' (g1.trans g2)
  | true => rw [if_pos rfl] at ef ⊢; cases ef; exact k G1 H1 g1
theorem pdt_not (ha : PDT X a fb) : PDT X (.UnaryOp .Not a pos) (bNot fb) := by
  obtain ⟨t, pt, k1⟩ := ha
  refine ⟨_, L2.pt_not pt, fun B G H δ σ q Q sG rs ef k => ?_⟩
  unfold bNot at ef
  obtain ⟨x, e1, ef⟩ := Option.map_eq_some_iff.mp ef
  subst ef
  exact k1 B G H δ σ x _ sG rs e1 fun G1 H1 g1 => k G1 H1 g1
/-- as values -/
@[simp] def fAnd (f g : FE) : FE := fun δ => match f δ with | some (.bl true) => g δ | some (.bl false) => some (.bl false) | _ => none
@[simp] def fOr (f g : FE) : FE := fun δ => match f δ with | some (.bl true) => some (.bl true) | some (.bl false) => g δ | _ => none
@[simp] def fNot (f : FE) : FE := fun δ => match f δ with | some (.bl b) => some (.bl (!b)) | _ => none
theorem pd_one {op} (h : PD X a f) : PD X (.BoolOp op [a] pos) f := by
  obtain ⟨t, pt, k⟩ := h
  exact ⟨t, pe_one pt, k⟩
theorem pd_and (ha : PD X a f) (hb : PD X (.BoolOp .And (b :: rest) pos) g) : PD X (.BoolOp .And (a :: b :: rest) pos) (fAnd f g) := by
  obtain ⟨t, pt, k1⟩ := ha
  obtain ⟨u, pu, k2⟩ := hb
  refine ⟨_, pe_and pt pu, fun B G H δ σ q Q sG rs ef k => ?_⟩
  unfold fAnd at ef
  split at ef
  · rename_i e1
    refine k1 B G H δ σ _ _ sG rs e1 fun v G1 H1 g1 r1 => ⟨true, by simpa only [Rep] using r1, ?_⟩
    rw [if_pos rfl]
    exact k2 B G1 H1 δ σ q Q g1.s (rs.grow g1) ef fun v G' H' g2 r2 => k v G' H' (g1.trans g2) r2
  · rename_i e1
    cases ef
    refine k1 B G H δ σ _ _ sG rs e1 fun v G1 H1 g1 r1 => ⟨false, by simpa only [Rep] using r1, ?_⟩
    rw [if_neg Bool.false_ne_true]
    exact k _ G1 H1 g1 (by simp [Rep])
  · cases ef
theorem pd_or (ha : PD X a f) (hb : PD X (.BoolOp .Or (b :: rest) pos) g) : PD X (.BoolOp .Or (a :: b :: rest) pos) (fOr f g) := by
  obtain ⟨t, pt, k1⟩ := ha
  obtain ⟨u, pu, k2⟩ := hb
  refine ⟨_, pe_or pt pu, fun B G H δ σ q Q sG rs ef k => ?_⟩
  unfold fOr at ef
  split at ef
  · rename_i e1
    cases ef
    refine k1 B G H δ σ _ _ sG rs e1 fun v G1 H1 g1 r1 => ⟨true, by simpa only [Rep] using r1, ?_⟩
    rw [if_pos rfl]
    exact k _ G1 H1 g1 (by simp [Rep])
  · rename_i e1
    refine k1 B G H δ σ _ _ sG rs e1 fun v G1 H1 g1 r1 => ⟨false, by simpa only [Rep] using r1, ?_⟩
    rw [if_neg Bool.false_ne_true]
    exact k2 B G1 H1 δ σ q Q g1.s (rs.grow g1) ef fun v G' H' g2 r2 => k v G' H' (g1.trans g2) r2
  · cases ef
theorem pd_not (ha : PD X a f) : PD X (.UnaryOp .Not a pos) (fNot f) := by
  obtain ⟨t, pt, k1⟩ := ha
  refine ⟨_, pe_not pt, fun B G H δ σ q Q sG rs ef k => ?_⟩
  unfold fNot at ef
  split at ef
  · rename_i b e1
    cases ef
    refine k1 B G H δ σ _ _ sG rs e1 fun v G1 H1 g1 r1 => ⟨b, by simpa only [Rep] using r1, k _ G1 H1 g1 (by simp [Rep])⟩
  · cases ef
@[simp] def fIf (c : En → Option Bool) (f g : FE) : FE := fun δ => (c δ).bind fun x => if x = true then f δ else g δ
theorem pd_if {c : Expr} (hc : PDT X c fb) (ha : PD X a f) (hb : PD X b g) : PD X (.IfExp c a b pos) (fIf fb f g) := by
  obtain ⟨tc, pc, kc⟩ := hc
  obtain ⟨ta, pa, ka⟩ := ha
  obtain ⟨tb, pb, kb⟩ := hb
  refine ⟨_, pe_ifExp pc pa pb, fun B G H δ σ q Q sG rs ef k => ?_⟩
  unfold fIf at ef
  obtain ⟨x, e1, ef⟩ := Option.bind_eq_some_iff.mp ef
  refine kc B G H δ σ x _ sG rs e1 fun G1 H1 g1 => ?_
  cases x with
  | true => rw [if_pos rfl] at ef ⊢; exact ka B G1 H1 δ σ q Q g1.s (rs.grow g1) ef fun v G' H' g2 => k v G' H' (g1.trans g2)
  | false => rw [if_neg Bool.false_ne_true] at ef ⊢; exact kb B G1 H1 δ σ q Q g1.s (rs.grow g1) ef fun v G' H' g2 => k v G' H' (g1.trans g2)

/-! displays -/
@[simp] def fTup (g : En → Option (List D)) : FE := fun δ => (g δ).bind fun ds => if ds.length ≤ sizeLine then some (.tup ds) else none
@[simp] def fLst (g : En → Option (List D)) : FE := fun δ => (g δ).bind fun ds => if ds.length ≤ sizeLine then some (.lst ds) else none
theorem rep_tup {K : PySem.W.Frag} {G : Hp} {p : Addr} {ds : List D} {vs : List V} (hn : G p = none) (r : RepL K G ds vs) : Rep K (upd G p (.tup vs)) (.tup ds) (.ref p) := by
  simp only [Rep]
  exact ⟨p, vs, rfl, SqT.of upd_same, r.mono (same_new _ hn)⟩
theorem rep_lst {K : PySem.W.Frag} {G : Hp} {p : Addr} {ds : List D} {vs : List V} (hn : G p = none) (r : RepL K G ds vs) : Rep K (upd G p (.lst vs)) (.lst ds) (.ref p) := by
  simp only [Rep]
  exact ⟨p, vs, rfl, SqL.of upd_same, r.mono (same_new _ hn)⟩
theorem pd_tup {x1} {g : En → Option (List D)} (ha : PAD X es g) : PD X (.Tuple es x1 pos) (fTup g) := by
  obtain ⟨t, pt, k1⟩ := ha
  refine ⟨_, pe_tup pt, fun B G H δ σ q Q sG rs ef k => ?_⟩
  unfold fTup at ef
  obtain ⟨ds, e1, ef⟩ := Option.bind_eq_some_iff.mp ef
  split at ef
  · rename_i hl
    cases ef
    exact k1 B G H δ σ ds _ sG rs e1 fun vs G1 H1 g1 r1 => ⟨by rw [← r1.length]; exact hl, fun p hp => k _ _ _ (g1.trans (Grow.laid g1.s _ hp)) (rep_tup (g1.s.free hp) r1)⟩
  · cases ef
@[simp] def fLstR (g : En → Option (List D)) : FR := fun δ => (g δ).bind fun ds => if ds.length ≤ sizeLine then some (.fr (.lst ds)) else none
theorem pr_lst {g : En → Option (List D)} (ha : PAD X es g) : PR X (.List es pos) (fLstR g) := by
  obtain ⟨t, pt, k1⟩ := ha
  refine ⟨_, pe_lst pt, fun B G H δ σ q Q sG rs ef k => ?_⟩
  unfold fLstR at ef
  obtain ⟨ds, e1, ef⟩ := Option.bind_eq_some_iff.mp ef
  split at ef
  · rename_i hl
    cases ef
    exact k1 B G H δ σ ds _ sG rs e1 fun vs G1 H1 g1 r1 => ⟨by rw [← r1.length]; exact hl, fun p hp => k p vs G1 H1 g1 hp True.intro r1⟩
  · cases ef
@[simp] def fDicR : FR := fun _ => some (.fr (.dic [] []))
theorem pr_dnew : PR X (.Dict [] [] pos) fDicR := by
  refine ⟨_, pe_dnewK, fun B G H δ σ q Q sG rs ef k => ?_⟩
  cases ef
  exact fun p hp => k p [] G H (Grow.refl sG) hp ⟨rfl, List.nodup_nil⟩ rfl

/-! a[b] -/
def ixD : D → D → Option D
  | .lst ds, .int i => atI ds i
  | .tup ds, .int i => atI ds i
  | .str z, .int i => if z.length ≤ sizeLine then (atI z.cps.toList i).map fun c => .str ⟨#[c]⟩ else none
  | _, _ => none
theorem RepL.atI {K : PySem.W.Frag} {H : Hp} {ds : List D} {vs : List V} {i : Int} {d : D} (r : RepL K H ds vs) (e : L2.atI ds i = some d) : ∃ v, L2.atI vs i = some v ∧ Rep K H d v := by
  unfold L2.atI at e ⊢
  rw [← r.length]
  obtain ⟨j, e1, e2⟩ := Option.bind_eq_some_iff.mp e
  obtain ⟨v, h1, h2⟩ := r.get e2
  exact ⟨v, by rw [e1]; exact h1, h2⟩
/-- the key of a scalar -/
def keyD : D → Option Key | .int i => some (.inl i) | .str x => some (.inr x) | _ => none
def valD (ks : List Key) (ds : List D) (k : Key) : Option D := ((ks.zip ds).find? fun kv => decide (kv.1 = k)).map (·.2)
theorem valD_rep {K : PySem.W.Frag} {G : Hp} (k : Key) : ∀ {ks : List Key} {ds : List D} {vs : List V}, ks.length = ds.length → RepL K G ds vs → (∀ d, valD ks ds k = some d → ∃ v, valV (ks.zip vs) k = some v ∧ Rep K G d v) ∧ (valD ks ds k = none → valV (ks.zip vs) k = none)
  | [], _, _, _, _ => ⟨fun d e => (by cases e), fun _ => rfl⟩
  | k0 :: ks, [], _, hl, _ => by cases hl
  | k0 :: ks, d0 :: ds, _, hl, r => by
    simp only [RepL] at r
    obtain ⟨v, us, rfl, r1, r2⟩ := r
    have ih := valD_rep k (ks := ks) (ds := ds) (by simpa using hl) r2
    by_cases h : k0 = k
    · subst h
      refine ⟨fun d e => ?_, fun e => ?_⟩
      · have : d0 = d := by simpa [valD] using e
        subst this
        exact ⟨v, by simp [valV], r1⟩
      · simp [valD] at e
    · have e1 : valD (k0 :: ks) (d0 :: ds) k = valD ks ds k := by simp [valD, h]
      have e2 : valV ((k0 :: ks).zip (v :: us)) k = valV (ks.zip us) k := by simp [valV, h]
      rw [e1, e2]
      exact ih
theorem keyD_rep {K : PySem.W.Frag} {G H : Hp} {d : D} {k : Key} {v : V} (e : keyD d = some k) (r : RepB K G H d v) : v = kV k := by
  rcases r with r | ⟨m, a, vs, h1, _⟩
  · cases d <;> simp only [keyD, Rep] at e r <;> first | cases e | skip
    all_goals (subst r; rfl)
  · subst h1
    cases m <;> cases e
theorem RepB.flat {K : PySem.W.Frag} {G H : Hp} {d : D} {v : V} (e : flatD d = true) (r : RepB K G H d v) : Rep K G d v := by
  rcases r with r | ⟨m, a, vs, h1, _⟩
  · exact r
  · subst h1; cases m <;> cases e
/-- d[k] -/
def rIxD : R2 := fun x y H Q => ∃ a v, x = .ref a ∧ DGet H a y (some v) ∧ Q v H
theorem ix_dict (hu : X.A.units + 1 < cLine) : IxR X rIxD := by
  intro value slice pins s σ H x y v u Q I rx ry h hs
  obtain ⟨a, w', rfl, g, q⟩ := h
  cases rx
  exact tail_any (dict_typeIs I g) PySem.slot_dict_getitem.lookup (d_getItem hu I g ry fun w2 s' I' r' => ⟨_, H, I', r', q⟩) hs
def ixA : D → D → Option D
  | .dic ks ds, y => (keyD y).bind fun k => valD ks ds k
  | x, y => ixD x y
theorem pd_ix (hu : X.A.units + 1 < cLine) (ha : PB X a f) (hb : PB X b g) (hs : PlainIx b := by intro _ _; rfl) : PD X (.Subscript a b pos) (f2 ixA f g) := by
  obtain ⟨ta, pa, ka⟩ := ha
  obtain ⟨tb, pb, kb⟩ := hb
  refine ⟨_, pe_ix (ix_seq.or (ix_dict hu)) pa pb hs, gives_op ka kb fun G H x y v u d Q sG rx ry e k => ?_⟩
  unfold ixA at e
  split at e
  · obtain ⟨kk, e1, e2⟩ := Option.bind_eq_some_iff.mp e
    obtain ⟨a, vs, rfl, hd, hl, nd, rl⟩ := rx.dic sG
    obtain ⟨w', e3, r3⟩ := (valD_rep kk hl rl).1 d e2
    have := keyD_rep e1 ry
    subst this
    exact .inr ⟨a, w', rfl, .inl ⟨_, kk, hd, rfl, e3.symm⟩, k w' G H (Grow.refl sG) r3⟩
  · rename_i x' y' hx
    unfold ixD at e
    split at e
    · obtain ⟨p, vs, rfl, hq, rl⟩ := rx.lst sG
      have ry := ry.flat rfl
      simp only [Rep] at ry
      obtain ⟨w, e1, r1⟩ := rl.atI e
      exact .inl (.inl ⟨p, vs, _, w, rfl, ry, hq, e1, k w G H (Grow.refl sG) r1⟩)
    · have rx := rx.tup
      have ry := ry.flat rfl
      simp only [Rep] at rx ry
      obtain ⟨p, vs, rfl, hq, rl⟩ := rx
      obtain ⟨w, e1, r1⟩ := rl.atI e
      exact .inl (.inr (.inl ⟨p, vs, _, w, rfl, ry, sG.sqT hq, e1, k w G H (Grow.refl sG) r1⟩))
    · have rx := rx.flat rfl
      have ry := ry.flat rfl
      simp only [Rep] at rx ry
      split at e
      · rename_i hl
        obtain ⟨c, e1, rfl⟩ := Option.map_eq_some_iff.mp e
        exact .inl (.inr (.inr ⟨_, _, c, rx, ry, hl, e1, k _ G H (Grow.refl sG) (by simp [Rep])⟩))
      · cases e
    · cases e
end
end L2

-- part Ly3
set_option Elab.async false
set_option linter.all false
set_option maxRecDepth 100000
set_option maxHeartbeats 4000000
namespace L2
open PySem PySem.Spec PyProof.Rows

section
variable {X : Cx}
/-! ### ints -/
theorem opd_i0 {f : Value → Value → Sem Value} {g : Int → Int → V} {g' : Int → Int → D} (h : OpR X f (rI0 g)) (hg : ∀ G i j, Rep X.K G (g' i j) (g i j)) :
    OpD X f (fun x y => match x, y with | .int i, .int j => some (g' i j) | _, _ => none) := by
  refine ⟨_, h, fun G H x y v u d Q sG rx ry e k => ?_⟩
  dsimp only at e
  split at e
  · cases e
    have rx := rx.flat rfl
    have ry := ry.flat rfl
    simp only [Rep] at rx ry
    exact ⟨_, _, rx, ry, k _ G H (Grow.refl sG) (hg _ _ _)⟩
  · cases e
theorem opd_i {f : Value → Value → Sem Value} {C : Int → Int → Prop} [∀ i j, Decidable (C i j)] {g : Int → Int → V} {g' : Int → Int → D} (h : OpR X f (rI C g)) (hg : ∀ G i j, Rep X.K G (g' i j) (g i j)) :
    OpD X f (fun x y => match x, y with | .int i, .int j => if C i j then some (g' i j) else none | _, _ => none) := by
  refine ⟨_, h, fun G H x y v u d Q sG rx ry e k => ?_⟩
  dsimp only at e
  split at e
  · split at e
    · rename_i hc
      cases e
      have rx := rx.flat rfl
      have ry := ry.flat rfl
      simp only [Rep] at rx ry
      exact ⟨_, _, rx, ry, hc, k _ G H (Grow.refl sG) (hg _ _ _)⟩
    · cases e
  · cases e
instance (i j : Int) : Decidable (CDiv i j) := inferInstanceAs (Decidable (_ ∧ _))
instance (i j : Int) : Decidable (CMul i j) := inferInstanceAs (Decidable (_ ∨ _))
instance (i j : Int) : Decidable (CPow i j) := inferInstanceAs (Decidable (_ ∧ _ ∧ _))
def iAdd : D → D → Option D | .int i, .int j => some (.int (i + j)) | _, _ => none
def subD : D → D → Option D | .int i, .int j => some (.int (i - j)) | _, _ => none
def iMul : D → D → Option D | .int i, .int j => if CMul i j then some (.int (i * j)) else none | _, _ => none
def fdivD : D → D → Option D | .int i, .int j => if CDiv i j then some (.int (i / j)) else none | _, _ => none
def modD : D → D → Option D | .int i, .int j => if 0 < j then some (.int (i % j)) else none | _, _ => none
def powD : D → D → Option D | .int i, .int j => if CPow i j then some (.int (i ^ j.toNat)) else none | _, _ => none
theorem od_iadd : OpD X (binaryOp .Add) iAdd := opd_i0 op_add fun _ _ _ => by simp [Rep]
theorem od_sub : OpD X (binaryOp .Sub) subD := opd_i0 op_sub fun _ _ _ => by simp [Rep]
theorem od_imul : OpD X (binaryOp .Mult) iMul := opd_i op_mul fun _ _ _ => by simp [Rep]
theorem od_fdiv : OpD X (binaryOp .FloorDiv) fdivD := opd_i op_fdiv fun _ _ _ => by simp [Rep]
theorem od_mod : OpD X (binaryOp .Mod) modD := opd_i op_mod fun _ _ _ => by simp [Rep]
theorem od_pow : OpD X (binaryOp .Pow) powD := opd_i op_pow fun _ _ _ => by simp [Rep]

/-! ### texts, lists -/
def sAdd : D → D → Option D | .str i, .str j => if i.length + j.length ≤ sizeLine then some (.str (i ++ j)) else none | _, _ => none
theorem od_sadd : OpD X (binaryOp .Add) sAdd := by
  refine ⟨_, op_add_str, fun G H x y v u d Q sG rx ry e k => ?_⟩
  unfold sAdd at e
  split at e
  · split at e
    · rename_i hc
      cases e
      have rx := rx.flat rfl
      have ry := ry.flat rfl
      simp only [Rep] at rx ry
      exact ⟨_, _, rx, ry, hc, k _ G H (Grow.refl sG) (by simp [Rep])⟩
    · cases e
  · cases e
/-- two lists that are read -/
def rCatL (K : PySem.W.Frag) : R2 := fun x y H Q => ∃ l b xs zs, x = .ref l ∧ y = .ref b ∧ SqL K H l xs ∧ SqL K H b zs ∧ xs.length + zs.length ≤ sizeLine ∧ ∀ p, H p = none → Q (.ref p) (upd H p (.lst (xs ++ zs)))
def lAdd : D → D → Option D | .lst i, .lst j => if i.length + j.length ≤ sizeLine then some (.lst (i ++ j)) else none | _, _ => none
theorem od_ladd (h : OpR X (binaryOp .Add) (rCatL X.K)) : OpD X (binaryOp .Add) lAdd := by
  refine ⟨_, h, fun G H x y v u d Q sG rx ry e k => ?_⟩
  unfold lAdd at e
  split at e
  · split at e
    · rename_i hc
      cases e
      obtain ⟨p1, xs, rfl, q1, r1⟩ := rx.lst sG
      obtain ⟨p2, ys, rfl, q2, r2⟩ := ry.lst sG
      exact ⟨p1, p2, xs, ys, rfl, rfl, q1, q2, by rw [← r1.length, ← r2.length]; exact hc, fun p hp => k _ _ _ (Grow.laid sG _ hp) (rep_lst (sG.free hp) (r1.append r2))⟩
    · cases e
  · cases e

/-! ### comparisons -/
def iCmp (f : Int → Int → Bool) : D → D → Option D | .int i, .int j => some (.bl (f i j)) | _, _ => none
theorem od_lt : OpD X (compareOp .Lt) (iCmp fun i j => decide (i < j)) := opd_i0 op_lt fun _ _ _ => by simp [Rep]
theorem od_le : OpD X (compareOp .LtE) (iCmp fun i j => decide (i ≤ j)) := opd_i0 op_le fun _ _ _ => by simp [Rep]
theorem od_gt : OpD X (compareOp .Gt) (iCmp fun i j => decide (j < i)) := opd_i0 op_gt fun _ _ _ => by simp [Rep]
theorem od_ge : OpD X (compareOp .GtE) (iCmp fun i j => decide (j ≤ i)) := opd_i0 op_ge fun _ _ _ => by simp [Rep]
theorem op_le_str : OpR X (compareOp .LtE) (fun x y H Q => ∃ i j, x = .str i ∧ y = .str j ∧ Q (.bl (!decide (j.cps.toList < i.cps.toList))) H) := by
  intro pins s σ H x y v u Q I rx ry h
  obtain ⟨i, j, rfl, rfl, q⟩ := h
  obtain ⟨t, rfl⟩ := rx
  obtain ⟨t', rfl⟩ := ry
  exact PySem.P.le_str ⟨.bl _, H, I, rfl, q⟩
def sLe : D → D → Option D | .str i, .str j => some (.bl (!decide (j.cps.toList < i.cps.toList))) | _, _ => none
theorem od_sle : OpD X (compareOp .LtE) sLe := by
  refine ⟨_, op_le_str, fun G H x y v u d Q sG rx ry e k => ?_⟩
  unfold sLe at e
  split at e
  · cases e
    have rx := rx.flat rfl
    have ry := ry.flat rfl
    simp only [Rep] at rx ry
    exact ⟨_, _, rx, ry, k _ G H (Grow.refl sG) (by simp [Rep])⟩
  · cases e
/-- the scalars -/
def scalV : D → Option V
  | .non => some .non | .bl b => some (.bl b) | .int i => some (.int i) | .str x => some (.str x) | _ => none
theorem scalV_flat {d : D} {w : V} (e : scalV d = some w) : flatD d = true := by
  cases d <;> first | rfl | cases e
theorem scalV_rep {K : PySem.W.Frag} {G H : Hp} {d : D} {v w : V} (e : scalV d = some w) (r : RepB K G H d v) : v = w := by
  have r := r.flat (scalV_flat e)
  cases d <;> simp only [scalV, Rep] at e r <;> first | cases e | skip
  all_goals exact r
def sEq (n : Bool) : D → D → Option D := fun x y => (scalV x).bind fun v => (scalV y).bind fun u => if scal v u = true then some (.bl (if n then !decide (v = u) else decide (v = u))) else none
theorem od_seq : OpD X (compareOp .Eq) (sEq false) := by
  refine ⟨_, op_eq, fun G H x y v u d Q sG rx ry e k => ?_⟩
  unfold sEq at e
  obtain ⟨v', e1, e⟩ := Option.bind_eq_some_iff.mp e
  obtain ⟨u', e2, e⟩ := Option.bind_eq_some_iff.mp e
  obtain rfl := scalV_rep e1 rx
  obtain rfl := scalV_rep e2 ry
  split at e
  · rename_i hs
    cases e
    exact ⟨hs, k _ G H (Grow.refl sG) (by simp [Rep])⟩
  · cases e
theorem od_sne : OpD X (compareOp .NotEq) (sEq true) := by
  refine ⟨_, op_ne, fun G H x y v u d Q sG rx ry e k => ?_⟩
  unfold sEq at e
  obtain ⟨v', e1, e⟩ := Option.bind_eq_some_iff.mp e
  obtain ⟨u', e2, e⟩ := Option.bind_eq_some_iff.mp e
  obtain rfl := scalV_rep e1 rx
  obtain rfl := scalV_rep e2 ry
  split at e
  · rename_i hs
    cases e
    exact ⟨hs, k _ G H (Grow.refl sG) (by simp [Rep])⟩
  · cases e
/-- in a tuple or list of scalars, in a text -/
def toV : D → V | .non => .non | .bl b => .bl b | .int i => .int i | .str x => .str x | _ => .non
theorem rep_flat {K : PySem.W.Frag} {G : Hp} {d : D} {v : V} (e : flatD d = true) (r : Rep K G d v) : v = toV d ∧ flatV v = true := by
  cases d with
  | non => simp only [Rep] at r; subst r; exact ⟨rfl, rfl⟩
  | bl b => simp only [Rep] at r; subst r; exact ⟨rfl, rfl⟩
  | int b => simp only [Rep] at r; subst r; exact ⟨rfl, rfl⟩
  | str b => simp only [Rep] at r; subst r; exact ⟨rfl, rfl⟩
  | tup b => cases e
  | lst b => cases e
  | dic ks b => cases e
theorem repL_flat {K : PySem.W.Frag} {G : Hp} : ∀ {ds : List D} {vs : List V}, ds.all flatD = true → RepL K G ds vs → vs = ds.map toV ∧ vs.all flatV = true
  | [], _, _, r => by simp only [RepL] at r; subst r; exact ⟨rfl, rfl⟩
  | d :: ds, _, e, r => by
    simp only [RepL] at r
    obtain ⟨v, us, rfl, r1, r2⟩ := r
    rw [List.all_cons, Bool.and_eq_true] at e
    obtain ⟨h1, h2⟩ := rep_flat e.1 r1
    obtain ⟨h3, h4⟩ := repL_flat e.2 r2
    exact ⟨by rw [h1, h3]; rfl, by rw [List.all_cons, h2, h4]; rfl⟩
def inSeq (x : D) (ds : List D) : Option Bool := if flatD x = true ∧ ds.all flatD = true then some (inV (toV x) (ds.map toV)) else none
def inD (n : Bool) : D → D → Option D
  | x, .tup ds => (inSeq x ds).map fun b => .bl (if n then !b else b)
  | x, .lst ds => (inSeq x ds).map fun b => .bl (if n then !b else b)
  | .str i, .str j => some (.bl (if n then !(!(Builtin.Str.occurrences j i 0 j.length 1).isEmpty) else !(Builtin.Str.occurrences j i 0 j.length 1).isEmpty))
  | _, _ => none
theorem od_in : OpD X (compareOp .In) (inD false) := by
  refine ⟨_, (op_in_seq.or op_in_str), fun G H x y v u d Q sG rx ry e k => ?_⟩
  unfold inD at e
  split at e
  · obtain ⟨b, e1, rfl⟩ := Option.map_eq_some_iff.mp e
    unfold inSeq at e1
    split at e1
    · rename_i hc
      cases e1
      have ry := ry.tup
      simp only [Rep] at ry
      obtain ⟨p, vs, rfl, q, r⟩ := ry
      obtain ⟨h1, h2⟩ := rep_flat hc.1 (rx.flat hc.1)
      obtain ⟨h3, h4⟩ := repL_flat hc.2 r
      subst h1 h3
      exact .inl ⟨p, _, rfl, .inr (sG.sqT q), h2, h4, k _ G H (Grow.refl sG) (by simp [Rep])⟩
    · cases e1
  · obtain ⟨b, e1, rfl⟩ := Option.map_eq_some_iff.mp e
    unfold inSeq at e1
    split at e1
    · rename_i hc
      cases e1
      obtain ⟨p, vs, rfl, q, r⟩ := ry.lst sG
      obtain ⟨h1, h2⟩ := rep_flat hc.1 (rx.flat hc.1)
      obtain ⟨h3, h4⟩ := repL_flat hc.2 r
      subst h1 h3
      exact .inl ⟨p, _, rfl, .inl q, h2, h4, k _ G H (Grow.refl sG) (by simp [Rep])⟩
    · cases e1
  · cases e
    have rx := rx.flat rfl
    have ry := ry.flat rfl
    simp only [Rep] at rx ry
    exact .inr ⟨_, _, rx, ry, k _ G H (Grow.refl sG) (by simp [Rep])⟩
  · cases e
theorem od_notin : OpD X (compareOp .NotIn) (inD true) := by
  refine ⟨_, (op_notIn_seq.or op_notIn_str), fun G H x y v u d Q sG rx ry e k => ?_⟩
  unfold inD at e
  split at e
  · obtain ⟨b, e1, rfl⟩ := Option.map_eq_some_iff.mp e
    unfold inSeq at e1
    split at e1
    · rename_i hc
      cases e1
      have ry := ry.tup
      simp only [Rep] at ry
      obtain ⟨p, vs, rfl, q, r⟩ := ry
      obtain ⟨h1, h2⟩ := rep_flat hc.1 (rx.flat hc.1)
      obtain ⟨h3, h4⟩ := repL_flat hc.2 r
      subst h1 h3
      exact .inl ⟨p, _, rfl, .inr (sG.sqT q), h2, h4, k _ G H (Grow.refl sG) (by simp [Rep])⟩
    · cases e1
  · obtain ⟨b, e1, rfl⟩ := Option.map_eq_some_iff.mp e
    unfold inSeq at e1
    split at e1
    · rename_i hc
      cases e1
      obtain ⟨p, vs, rfl, q, r⟩ := ry.lst sG
      obtain ⟨h1, h2⟩ := rep_flat hc.1 (rx.flat hc.1)
      obtain ⟨h3, h4⟩ := repL_flat hc.2 r
      subst h1 h3
      exact .inl ⟨p, _, rfl, .inl q, h2, h4, k _ G H (Grow.refl sG) (by simp [Rep])⟩
    · cases e1
  · cases e
    have rx := rx.flat rfl
    have ry := ry.flat rfl
    simp only [Rep] at rx ry
    exact .inr ⟨_, _, rx, ry, k _ G H (Grow.refl sG) (by simp [Rep])⟩
  · cases e

/-! ### slices -/
def cutD (xs : List D) (lo hi : Option Int) : List D := (xs.drop (HT.sIx xs.length 0 lo)).take (HT.sIx xs.length xs.length hi - HT.sIx xs.length 0 lo)
theorem RepL.cut {K : PySem.W.Frag} {G : Hp} {ds : List D} {vs : List V} (r : RepL K G ds vs) (lo hi : Option Int) : RepL K G (cutD ds lo hi) (cutV vs lo hi) := by
  unfold cutD cutV
  rw [r.length]
  exact (r.drop _).take _
/-- a slice's part -/
def POD (X : Cx) (e : Option Expr) (f : En → Option (Option Int)) : Prop := ∃ t, PO X e t ∧ ∀ (B G H : Hp) (δ : En) (σ : St) (o : Option Int) (Q : Option Int → Hp → Prop), Same G H → RepS X.K B G H δ σ → f δ = some o →
  (∀ G' H', Grow G H G' H' → Q o H') → t σ H Q
theorem pod_none : POD X none (fun _ => some none) := ⟨_, po_none, fun B G H δ σ o Q sG rs e k => by cases e; exact k G H (Grow.refl sG)⟩
@[simp] def oInt (f : FE) : En → Option (Option Int) := fun δ => match f δ with | some (.int i) => some (some i) | _ => none
theorem pod_some {e : Expr} {f : FE} (h : PD X e f) : POD X (some e) (oInt f) := by
  obtain ⟨t, pt, k1⟩ := h
  refine ⟨_, po_some pt, fun B G H δ σ o Q sG rs e k => ?_⟩
  unfold oInt at e
  split at e
  · rename_i i e1
    cases e
    exact k1 B G H δ σ _ _ sG rs e1 fun v G' H' g1 r1 => ⟨i, by simpa only [Rep] using r1, k G' H' g1⟩
  · cases e
def slD (x : D) (lo hi : Option Int) : Option Rs := match x with
  | .lst ds => some (.fr (.lst (cutD ds lo hi)))
  | .tup ds => if HT.sIx ds.length 0 lo = 0 ∧ HT.sIx ds.length ds.length hi = ds.length then none else some (.sh (.tup (cutD ds lo hi)))
  | _ => none
@[simp] def fSl (f : FE) (l h : En → Option (Option Int)) : FR := fun δ => (f δ).bind fun x => (l δ).bind fun lo => (h δ).bind fun hi => slD x lo hi
theorem pr_sl {e : Expr} {f : FE} {lo hi : Option Expr} {fl fh : En → Option (Option Int)} {pos p2 : Pos} (he : PB X e f) (hl : POD X lo fl) (hh : POD X hi fh) : PR X (.Subscript e (.Slice lo hi none p2) pos) (fSl f fl fh) := by
  obtain ⟨t, pt, k1⟩ := he
  obtain ⟨tl, pl, kl⟩ := hl
  obtain ⟨th, ph, kh⟩ := hh
  refine ⟨_, pe_slice (sl_list.or sl_tup) pt pl ph, fun B G H δ σ d Q sG rs e k => ?_⟩
  unfold fSl at e
  obtain ⟨x, e1, e⟩ := Option.bind_eq_some_iff.mp e
  obtain ⟨l, e2, e⟩ := Option.bind_eq_some_iff.mp e
  obtain ⟨h, e3, e⟩ := Option.bind_eq_some_iff.mp e
  refine k1 B G H δ σ x _ sG rs e1 fun v G1 H1 g1 r1 => kl B G1 H1 δ σ l _ g1.s (rs.grow g1) e2 fun G2 H2 g2 => kh B G2 H2 δ σ h _ g2.s (rs.grow (g1.trans g2)) e3 fun G3 H3 g3 => ?_
  have g13 := (g1.trans g2).trans g3
  have r3 := r1.grow (g2.trans g3)
  unfold slD at e
  split at e
  · cases e
    obtain ⟨a, vs, rfl, q, rl⟩ := r3.lst g3.s
    exact .inl ⟨a, vs, rfl, q, fun p hp => k p _ G3 H3 g13 hp True.intro (rl.cut l h)⟩
  · split at e
    · cases e
    · rename_i hw
      cases e
      have r3 := r3.tup
      simp only [Rep] at r3
      obtain ⟨a, vs, rfl, q, rl⟩ := r3
      refine .inr ⟨a, vs, rfl, g3.s.sqT q, by rw [← rl.length]; exact hw, fun p hp => k _ _ _ (g13.trans (Grow.laid g3.s _ hp)) (rep_tup (g3.s.free hp) (rl.cut l h))⟩
  · cases e

/-! ### built-ins -/
def lenD : List D → Option D
  | [.lst ds] => some (.int ds.length)
  | [.tup ds] => some (.int ds.length)
  | [.str z] => if z.length ≤ sizeLine then some (.int z.length) else none
  | [.dic ks ds] => some (.int ds.length)
  | _ => none
theorem repLB_one {K : PySem.W.Frag} {G H : Hp} {d : D} {vs : List V} (r : RepLB K G H [d] vs) : ∃ v, vs = [v] ∧ RepB K G H d v := by
  obtain ⟨v, us, rfl, r1, r2⟩ := r
  simp only [RepLB] at r2
  subst r2
  exact ⟨v, rfl, r1⟩
theorem cd_len : CallD X (.builtin "len") lenD := by
  refine ⟨_, (call_len_seq.or call_len_str).or (show CallR X (.builtin "len") (fun xs H Q => ∃ a kvs, xs = [V.ref a] ∧ Rd H a (.dK kvs) ∧ Q (.int kvs.length) H) from ?_), fun G H ds vs d Q sG r e k => ?_⟩
  · intro pins s σ H xs us Q I r h
    obtain ⟨a, kvs, rfl, ha, q⟩ := h
    obtain ⟨u, rfl, ru⟩ := vals1 r
    cases ru
    exact d_len I ha fun t s' I' => ⟨.int kvs.length, H, I', ⟨t, rfl⟩, q⟩
  unfold lenD at e
  split at e
  · cases e
    obtain ⟨v, rfl, r1⟩ := repLB_one r
    obtain ⟨a, us, rfl, q, rl⟩ := r1.lst sG
    exact .inl (.inl ⟨a, us, rfl, .inl q, k _ G H (Grow.refl sG) (by simp [Rep, rl.length])⟩)
  · cases e
    obtain ⟨v, rfl, r1⟩ := repLB_one r
    have r1 := r1.tup
    simp only [Rep] at r1
    obtain ⟨a, us, rfl, q, rl⟩ := r1
    exact .inl (.inl ⟨a, us, rfl, .inr (sG.sqT q), k _ G H (Grow.refl sG) (by simp [Rep, rl.length])⟩)
  · split at e
    · rename_i hl
      cases e
      obtain ⟨v, rfl, r1⟩ := repLB_one r
      have r1 := r1.flat rfl
      simp only [Rep] at r1
      subst r1
      exact .inl (.inr ⟨_, rfl, hl, k _ G H (Grow.refl sG) (by simp [Rep])⟩)
    · cases e
  · cases e
    obtain ⟨v, rfl, r1⟩ := repLB_one r
    obtain ⟨a, us, rfl, q, hl, nd, rl⟩ := r1.dic sG
    refine .inr ⟨a, _, rfl, q, k _ G H (Grow.refl sG) ?_⟩
    have e2 : us.length = _ := rl.length.symm
    simp only [Rep, List.length_zip]
    congr 1
    omega
  · cases e
def tupD : List D → Option D
  | [.lst ds] => some (.tup ds)
  | [.tup ds] => some (.tup ds)
  | _ => none
theorem cd_tuple : CallD X (.type "tuple") tupD := by
  refine ⟨_, call_tuple_of, fun G H ds vs d Q sG r e k => ?_⟩
  unfold tupD at e
  split at e
  · cases e
    obtain ⟨v, rfl, r1⟩ := repLB_one r
    obtain ⟨a, us, rfl, q, rl⟩ := r1.lst sG
    exact ⟨a, us, rfl, .inl ⟨q, fun l hl => k _ _ _ (Grow.laid sG _ hl) (rep_tup (sG.free hl) rl)⟩⟩
  · cases e
    obtain ⟨v, rfl, r1⟩ := repLB_one r
    have r1 := r1.tup
    have r2 := r1
    simp only [Rep] at r1
    obtain ⟨a, us, rfl, q, rl⟩ := r1
    exact ⟨a, us, rfl, .inr ⟨sG.sqT q, k _ G H (Grow.refl sG) r2⟩⟩
  · cases e
/-- a built-in that makes a new object -/
def CallN (X : Cx) (f : Value) (c : List D → Option Mo) : Prop := ∃ r, CallR X f r ∧ ∀ (G H : Hp) (ds : List D) (vs : List V) (m : Mo) (Q : VK), Same G H → RepLB X.K G H ds vs → c ds = some m →
  (∀ p us, H p = none → m.ok → RepL X.K G m.vals us → Q (.ref p) (upd H p (m.ho us))) → r vs H Q
@[simp] def fCallN (c : List D → Option Mo) (g : En → Option (List D)) : FR := fun δ => (g δ).bind fun ds => (c ds).map .fr
theorem pr_callTy {e : Expr} {es : List Expr} {p pos : Pos} {x : Str} {T : String} {cD : List D → Option Mo} {g : En → Option (List D)} (hc : CallN X (.type T) cD) (hm : X.mg x = none) (hv : bootBuiltins x = some (.type T)) (ha : PAB X (e :: es) g) (hg : Gl X x := by rfl)
    (hn : x ≠ "__name__" := by decide) (hdb : (x == ("__debug__" : Str)) = false := by decide)
    (he : starEach (e :: es) X.env = (false, eval e X.env) :: starEach es X.env := by rfl) (hpl : (backTo pos (starEach es X.env)).any (·.1) = false := by rfl) : PR X (.Call (.Name x p) (e :: es) [] pos) (fCallN cD g) := by
  obtain ⟨r, hc, kc⟩ := hc
  obtain ⟨ta, pa, ka⟩ := ha
  refine ⟨_, pe_callTy hc hg hm hv pa hn hdb he hpl, fun B G H δ σ d Q sG rs ef k => ?_⟩
  unfold fCallN at ef
  obtain ⟨ds, e1, ef⟩ := Option.bind_eq_some_iff.mp ef
  obtain ⟨m, e2, rfl⟩ := Option.map_eq_some_iff.mp ef
  exact ka B G H δ σ ds _ sG rs e1 fun vs G1 H1 g1 r1 => kc G1 H1 ds vs m Q g1.s r1 e2 fun p us hp ok rl => k p us G1 H1 g1 hp ok rl
def lstN : List D → Option Mo
  | [.lst ds] => some (.lst ds)
  | [.tup ds] => some (.lst ds)
  | _ => none
theorem cn_list : CallN X (.type "list") lstN := by
  refine ⟨_, call_list_of, fun G H ds vs m Q sG r e k => ?_⟩
  unfold lstN at e
  split at e
  · cases e
    obtain ⟨v, rfl, r1⟩ := repLB_one r
    obtain ⟨a, us, rfl, q, rl⟩ := r1.lst sG
    exact ⟨a, us, rfl, .inl q, fun l hl => k l us hl True.intro rl⟩
  · cases e
    obtain ⟨v, rfl, r1⟩ := repLB_one r
    have r1 := r1.tup
    simp only [Rep] at r1
    obtain ⟨a, us, rfl, q, rl⟩ := r1
    exact ⟨a, us, rfl, .inr (sG.sqT q), fun l hl => k l us hl True.intro rl⟩
  · cases e
def dicN : List D → Option Mo
  | [.dic ks ds] => some (.dic ks ds)
  | _ => none
theorem call_dictC : CallR X (.type "dict") (fun xs H Q => ∃ a kvs, xs = [V.ref a] ∧ Rd H a (.dK kvs) ∧ ∀ p, H p = none → Q (.ref p) (upd H p (.dK kvs))) := by
  intro pins s σ H xs us Q I r h
  obtain ⟨a, kvs, rfl, ha, q⟩ := h
  obtain ⟨u, rfl, ru⟩ := vals1 r
  cases ru
  exact d_copyOf I ha fun p s' hp I' => ⟨.ref p, _, I', rfl, q p hp⟩
theorem cn_dict : CallN X (.type "dict") dicN := by
  refine ⟨_, call_dictC, fun G H ds vs m Q sG r e k => ?_⟩
  unfold dicN at e
  split at e
  · cases e
    obtain ⟨v, rfl, r1⟩ := repLB_one r
    obtain ⟨a, us, rfl, q, hl, nd, rl⟩ := r1.dic sG
    exact ⟨a, _, rfl, q, fun p hp => k p us hp ⟨hl, nd⟩ rl⟩
  · cases e
end

/-! ### statements -/
inductive Out where
  | nx (δ : En) | rt (r : Rs) | bk (δ : En) | ct (δ : En)
abbrev FS := En → Option Out
/-- statements on: what is shared grows, what stood ahead of the entry stays -/
structure Stp (B G G' H' : Hp) : Prop where
  g : Same G G'
  s : Same G' H'
  b : Same B H'
  n : ∀ a o, B a = some o → G a = none → G' a = none
theorem Stp.refl {B G H : Hp} (s : Same G H) (b : Same B H) : Stp B G G H := ⟨Same.refl _, s, b, fun _ _ _ n => n⟩
theorem Stp.trans {B G G1 H1 G2 H2 : Hp} (a : Stp B G G1 H1) (c : Stp B G1 G2 H2) : Stp B G G2 H2 := ⟨a.g.trans c.g, c.s, c.b, fun x o e n => c.n x o e (a.n x o e n)⟩
theorem Grow.stp {B G H G' H' : Hp} (g : Grow G H G' H') (b : Same B H) : Stp B G G' H' := ⟨g.g, g.s, b.trans g.h, fun a o e n => g.n a o (b a o e) n⟩
def Want (K : PySem.W.Frag) (B G : Hp) (D : Ends) : Out → Prop
  | .nx δ' => ∀ σ' G' H', Stp B G G' H' → RepS K B G' H' δ' σ' → D.nx σ' H'
  | .bk δ' => ∀ σ' G' H', Stp B G G' H' → RepS K B G' H' δ' σ' → D.bk σ' H'
  | .ct δ' => ∀ σ' G' H', Stp B G G' H' → RepS K B G' H' δ' σ' → D.ct σ' H'
  | .rt (.sh d) => ∀ v G' H', Stp B G G' H' → Rep K G' d v → D.rt v H'
  | .rt (.fr m) => ∀ p vs G' H', Stp B G G' H' → H' p = none → m.ok → RepL K G' m.vals vs → D.rt (.ref p) (upd H' p (m.ho vs))
def GivesS (K : PySem.W.Frag) (t : TS) (F : FS) : Prop := ∀ (B G H : Hp) (δ : En) (σ : St) (o : Out) (D : Ends), Same G H → Same B H → RepS K B G H δ σ → F δ = some o → Want K B G D o → t D σ H
def PSD (X : Cx) (st : Stmt) (F : FS) : Prop := ∃ t, PS X st t ∧ GivesS X.K t F
def PSsD (X : Cx) (sts : List Stmt) (F : FS) : Prop := ∃ t, PSs X sts t ∧ GivesS X.K t F
theorem Want.mono {K : PySem.W.Frag} {B G G1 H1 : Hp} {D : Ends} {o : Out} (w : Want K B G D o) (g : Stp B G G1 H1) : Want K B G1 D o := by
  cases o with
  | nx δ => exact fun σ' G' H' a => w σ' G' H' (g.trans a)
  | bk δ => exact fun σ' G' H' a => w σ' G' H' (g.trans a)
  | ct δ => exact fun σ' G' H' a => w σ' G' H' (g.trans a)
  | rt r =>
    cases r with
    | sh d => exact fun v G' H' a => w v G' H' (g.trans a)
    | fr m => exact fun p vs G' H' a => w p vs G' H' (g.trans a)
section
variable {X : Cx} {st : Stmt} {rest sts : List Stmt} {F F' : FS} {pos : Pos} {f : FE} {e : Expr}
@[simp] def sNil : FS := fun δ => some (.nx δ)
@[simp] def sSeq (F F' : FS) : FS := fun δ => match F δ with | some (.nx δ') => F' δ' | o => o
theorem psd_nil : PSsD X [] sNil := ⟨_, pss_nil, fun B G H δ σ o D sG sB rs e w => by cases e; exact w σ G H (Stp.refl sG sB) rs⟩
theorem psd_cons (h1 : PSD X st F) (h2 : PSsD X rest F') : PSsD X (st :: rest) (sSeq F F') := by
  obtain ⟨t, p1, k1⟩ := h1
  obtain ⟨u, p2, k2⟩ := h2
  refine ⟨_, pss_cons p1 p2, fun B G H δ σ o D sG sB rs e w => ?_⟩
  unfold sSeq at e
  show t { D with nx := u D } σ H
  cases e1 : F δ with
  | none => rw [e1] at e; cases e
  | some o1 =>
    rw [e1] at e
    cases o1 with
    | nx δ' => exact k1 B G H δ σ (.nx δ') _ sG sB rs e1 fun σ' G' H' a r => k2 B G' H' δ' σ' o D a.s a.b r e (w.mono a)
    | rt d =>
      cases e
      cases d with
      | sh d => exact k1 B G H δ σ (.rt (.sh d)) _ sG sB rs e1 w
      | fr m => exact k1 B G H δ σ (.rt (.fr m)) _ sG sB rs e1 w
    | bk δ' => cases e; exact k1 B G H δ σ (.bk δ') _ sG sB rs e1 w
    | ct δ' => cases e; exact k1 B G H δ σ (.ct δ') _ sG sB rs e1 w
@[simp] def sSet (i : Nat) (f : FE) : FS := fun δ => (f δ).map fun d => .nx (δ.set i (some (.sh d)))
theorem psd_set (i : Nat) {x : Str} {pos' : Pos} (hN : X.N.Nodup) (he : PD X e f) (hi : X.N[i]? = some x := by rfl) (hx : Loc X.env.scope x := by first | exact Or.inl rfl | exact Or.inr rfl)
    (hs : swapsWith e (some (.Name x pos')) pos.line X.env = pure false := by rfl) (hf : X.fn x = true ∨ X.env.scope.names.lookup x = some .local := by first | exact .inl rfl | exact .inr rfl) : PSD X (.Assign [.Name x pos'] e pos) (sSet i f) := by
  obtain ⟨t, pt, k⟩ := he
  refine ⟨_, ps_set hN hi hx pt hs hf, fun B G H δ σ o D sG sB rs e w => ?_⟩
  unfold sSet at e
  obtain ⟨d, e1, rfl⟩ := Option.map_eq_some_iff.mp e
  exact k B G H δ σ d _ sG rs e1 fun v G' H' g r => w _ G' H' (g.stp sB) ((rs.grow g).set i r)
@[simp] def sRet (f : FR) : FS := fun δ => (f δ).map .rt
theorem psd_ret {f : FR} (he : PR X e f) : PSD X (.Return (some e) pos) (sRet f) := by
  obtain ⟨t, pt, k⟩ := he
  refine ⟨_, ps_ret pt, fun B G H δ σ o D sG sB rs e w => ?_⟩
  unfold sRet at e
  obtain ⟨d, e1, rfl⟩ := Option.map_eq_some_iff.mp e
  refine k B G H δ σ d _ sG rs e1 ?_
  cases d with
  | sh d => exact fun v G' H' g r => w v G' H' (g.stp sB) r
  | fr m => exact fun p vs G' H' g => w p vs G' H' (g.stp sB)
theorem erase_upd {H : Hp} {a : Addr} {o : HO} (h : H a = some o) : upd (fun b => if b = a then none else H b) a o = H := by
  funext b
  by_cases hb : b = a
  · subst hb; rw [upd_same, h]
  · rw [upd_ne hb, if_neg hb]
theorem same_erase {G H : Hp} {a : Addr} (s : Same G H) (n : G a = none) : Same G (fun b => if b = a then none else H b) := fun b o e => by
  have hb : b ≠ a := fun z => by rw [z, n] at e; cases e
  show (if b = a then none else H b) = some o
  rw [if_neg hb]
  exact s b o e
/-- return x, x one's own or shared -/
@[simp] def sRetV (i : Nat) : FS := fun δ => match δ[i]? with | some (some (.pv m)) => some (.rt (.fr m)) | some (some (.sh d)) => some (.rt (.sh d)) | _ => none
theorem psd_retV (i : Nat) {x : Str} {p : Pos} (hN : X.N[i]? = some x := by rfl) (hv : Vis X.env.scope x := by first | exact Or.inl rfl | exact Or.inr (Or.inl rfl) | exact Or.inr (Or.inr rfl)) (hd : (x == ("__debug__" : Str)) = false := by decide)
    (hcd : (x == ("__classdict__" : Str)) = false := by decide) : PSD X (.Return (some (.Name x p)) pos) (sRetV i) := by
  refine ⟨_, ps_ret (pe_var hN hv hd hcd), fun B G H δ σ o D sG sB rs e w => ?_⟩
  unfold sRetV at e
  split at e
  · rename_i m em
    cases e
    obtain ⟨v, h1, a, vs, rfl, h2, h3, h4, h5, h6⟩ := rs.at_ i _ em
    refine ⟨_, h1, ?_⟩
    have q := w a vs G (fun b => if b = a then none else H b) ⟨Same.refl _, same_erase sG h3, same_erase sB h2, fun _ _ _ n => n⟩ (by simp) h5 h6
    rw [erase_upd h4] at q
    exact q
  · rename_i d ed
    cases e
    obtain ⟨v, h1, h2⟩ := rs.at_ i _ ed
    exact ⟨v, h1, w v G H (Stp.refl sG sB) h2⟩
  · cases e
/-- x = e: a new object is x's own -/
@[simp] def sSetR (i : Nat) (f : FR) : FS := fun δ => (f δ).map fun r => .nx (δ.set i (some r.sl))
theorem psd_setR (i : Nat) {x : Str} {pos' : Pos} {f : FR} (hN : X.N.Nodup) (he : PR X e f) (hi : X.N[i]? = some x := by rfl) (hx : Loc X.env.scope x := by first | exact Or.inl rfl | exact Or.inr rfl)
    (hs : swapsWith e (some (.Name x pos')) pos.line X.env = pure false := by rfl) (hf : X.fn x = true ∨ X.env.scope.names.lookup x = some .local := by first | exact .inl rfl | exact .inr rfl) : PSD X (.Assign [.Name x pos'] e pos) (sSetR i f) := by
  obtain ⟨t, pt, k⟩ := he
  refine ⟨_, ps_set hN hi hx pt hs hf, fun B G H δ σ o D sG sB rs e w => ?_⟩
  unfold sSetR at e
  obtain ⟨d, e1, rfl⟩ := Option.map_eq_some_iff.mp e
  refine k B G H δ σ d _ sG rs e1 ?_
  cases d with
  | sh d => exact fun v G' H' g r => w _ G' H' (g.stp sB) ((rs.grow g).set i r)
  | fr m =>
    intro p vs G' H' g hp ok rl
    have g2 : Grow G' H' G' (upd H' p (m.ho vs)) := ⟨Same.refl _, same_new _ hp, g.s.trans (same_new _ hp), fun _ _ _ n => n⟩
    have g3 := g.trans g2
    refine w _ G' _ (g3.stp sB) ((rs.grow g3).put i (x := .pv m) ⟨p, vs, rfl, (sB.trans g.h).free hp, g.s.free hp, upd_same, ok, rl⟩ fun m' _ j y hj ej q => ?_)
    obtain ⟨v, h1, a, us, rfl, _, _, h4, _, _⟩ := (rs.grow g).at_ j _ ej
    rw [h1] at q
    cases q
    rw [hp] at h4
    cases h4
/-- an object of one's own is written -/
theorem RepS.upd {K : PySem.W.Frag} {B G H : Hp} {δ : En} {σ : St} (r : RepS K B G H δ σ) {i : Nat} {m m' : Mo} {a : Addr} {us : List V} (em : δ[i]? = some (some (.pv m))) (ea : σ[i]? = some (some (.ref a))) (hB : B a = none) (hG : G a = none) (ok : m'.ok) (rl : RepL K G m'.vals us) :
    RepS K B G (L2.upd H a (m'.ho us)) (δ.set i (some (.pv m'))) σ := by
  refine ⟨by simp [r.len], fun j x e => ?_, fun j l x y hjl e1 e2 => ?_⟩
  · rcases get_set e with ⟨rfl, e'⟩ | ⟨hj, e'⟩
    · cases e'
      exact ⟨_, ea, a, us, rfl, hB, hG, upd_same, ok, rl⟩
    · obtain ⟨v, h1, h2⟩ := r.at_ j x e'
      refine ⟨v, h1, ?_⟩
      cases x with
      | sh d => exact h2
      | pv m2 =>
        obtain ⟨a2, us2, rfl, q1, q2, q3, q4, q5⟩ := h2
        have hne : a2 ≠ a := fun z => by
          subst z
          exact r.ap i j m m2 hj em e' (ea.trans h1.symm)
        exact ⟨a2, us2, rfl, q1, q2, by rw [upd_ne hne]; exact q3, q4, q5⟩
  · have old : ∀ (k : Nat) (z : Mo), (δ.set i (some (.pv m')))[k]? = some (some (.pv z)) → ∃ z', δ[k]? = some (some (.pv z')) := fun k z e => by
      rcases get_set e with ⟨rfl, e'⟩ | ⟨_, e'⟩
      · exact ⟨m, em⟩
      · exact ⟨z, e'⟩
    obtain ⟨x', f1⟩ := old j x e1
    obtain ⟨y', f2⟩ := old l y e2
    exact r.ap j l x' y' hjl f1 f2
theorem stp_own {B G H : Hp} {a : Addr} {o : HO} (sG : Same G H) (sB : Same B H) (hB : B a = none) (hG : G a = none) : Stp B G G (L2.upd H a o) :=
  ⟨Same.refl _, fun b u e => by rw [upd_ne (ne_of_none e hG)]; exact sG b u e, fun b u e => by rw [upd_ne (ne_of_none e hB)]; exact sB b u e, fun _ _ _ n => n⟩
/-- x.append(e) -/
@[simp] def sApp (i : Nat) (f : FE) : FS := fun δ => match δ[i]? with
  | some (some (.pv (.lst ds))) => (f δ).bind fun d => if ds.length < sizeLine then some (.nx (δ.set i (some (.pv (.lst (ds ++ [d])))))) else none
  | _ => none
theorem psd_app (i : Nat) {x : Str} {p p1 p2 : Pos} (he : PD X e f) (hN : X.N[i]? = some x := by rfl) (hv : Vis X.env.scope x := by first | exact Or.inl rfl | exact Or.inr (Or.inl rfl) | exact Or.inr (Or.inr rfl))
    (hb : ∀ {t : TE} {tx : TE}, PE X (.Name x p) tx → PE X e t → PE X (.Call (.Attribute (.Name x p) "append" p1) [e] [] p2) (tBM X.K "list" rAppend tx (tCons t tNil)) := by
      intro t tx hx ht; exact pe_bm PySem.F.plainAttrs_list PySem.F.slot_list_append PySem.F.type_list_append mt_append hx (pa_cons ht pa_nil))
    (hd : (x == ("__debug__" : Str)) = false := by decide) (hcd : (x == ("__classdict__" : Str)) = false := by decide) (hs : swapsWith (.Call (.Attribute (.Name x p) "append" p1) [e] [] p2) none pos.line X.env = pure false := by rfl) :
    PSD X (.Expr (.Call (.Attribute (.Name x p) "append" p1) [e] [] p2) pos) (sApp i f) := by
  obtain ⟨t, pt, k⟩ := he
  refine ⟨_, ps_expr (hb (pe_var hN hv hd hcd) pt) hs, fun B G H δ σ o D sG sB rs e w => ?_⟩
  unfold sApp at e
  split at e
  · rename_i ds em
    obtain ⟨d, e1, e⟩ := Option.bind_eq_some_iff.mp e
    split at e
    · rename_i hl
      cases e
      obtain ⟨v, h1, a, vs, rfl, h2, h3, h4, h5, h6⟩ := rs.at_ i _ em
      refine ⟨_, h1, .inl ⟨rfl, _, SqL.of h4⟩, k B G H δ σ d _ sG rs e1 fun u G1 H1 g1 r1 => ?_⟩
      have hH : H1 a = some (.lst vs) := g1.h _ _ h4
      have hG1 : G1 a = none := g1.n a _ h4 h3
      have rl : RepL X.K G1 (ds ++ [d]) (vs ++ [u]) := (h6.mono g1.g).snoc r1
      refine ⟨a, vs, u, rfl, rfl, hH, by rw [← RepL.length h6]; exact hl, ?_⟩
      exact w σ G1 _ ((g1.stp sB).trans (stp_own g1.s (sB.trans g1.h) h2 hG1)) ((rs.grow g1).upd (m' := .lst (ds ++ [d])) (us := vs ++ [u]) em h1 h2 hG1 True.intro rl)
    · cases e
  · cases e
/-- publishing what is one's own -/
@[simp] def pubS (i : Nat) (δ : En) : En := match δ[i]? with | some (some (.pv m)) => δ.set i (some (.sh m.d)) | _ => δ
theorem RepS.pub {K : PySem.W.Frag} {B G H : Hp} {δ : En} {σ : St} (r : RepS K B G H δ σ) (sG : Same G H) (sB : Same B H) (i : Nat) : ∃ G', Stp B G G' H ∧ RepS K B G' H (pubS i δ) σ := by
  unfold pubS
  split
  · rename_i m em
    obtain ⟨v, h1, a, vs, rfl, h2, h3, h4, h5, h6⟩ := r.at_ i _ em
    have st : Stp B G (L2.upd G a (m.ho vs)) H := by
      refine ⟨same_new _ h3, fun b u e => ?_, sB, fun b o e n => ?_⟩
      · by_cases hb : b = a
        · subst hb; rw [upd_same] at e; cases e; exact h4
        · rw [upd_ne hb] at e; exact sG b u e
      · rw [upd_ne (ne_of_none e h2)]; exact n
    refine ⟨_, st, by simp [r.len], fun j x e => ?_, fun j l x y hjl e1 e2 => ?_⟩
    · rcases get_set e with ⟨rfl, e'⟩ | ⟨hj, e'⟩
      · cases e'
        exact ⟨_, h1, rep_pub h3 h5 h6⟩
      · obtain ⟨v, q1, q2⟩ := r.at_ j x e'
        refine ⟨v, q1, ?_⟩
        cases x with
        | sh d => exact Rep.mono st.g q2
        | pv m2 =>
          obtain ⟨a2, us2, rfl, p1, p2, p3, p4, p5⟩ := q2
          have hne : a2 ≠ a := fun z => by
            subst z
            exact r.ap i j m m2 hj em e' (h1.trans q1.symm)
          exact ⟨a2, us2, rfl, p1, by rw [upd_ne hne]; exact p2, p3, p4, p5.mono st.g⟩
    · have old : ∀ (k : Nat) (z : Mo), (δ.set i (some (.sh m.d)))[k]? = some (some (.pv z)) → δ[k]? = some (some (.pv z)) := fun k z e => by
        rcases get_set e with ⟨rfl, e'⟩ | ⟨_, e'⟩
        · cases e'
        · exact e'
      exact r.ap j l x y hjl (old j x e1) (old l y e2)
  · exact ⟨G, Stp.refl sG sB, r⟩
theorem psd_pub (i : Nat) (h : PSD X st F) : PSD X st (fun δ => F (pubS i δ)) := by
  obtain ⟨t, pt, k⟩ := h
  refine ⟨t, pt, fun B G H δ σ o D sG sB rs e w => ?_⟩
  obtain ⟨G', s1, r1⟩ := rs.pub sG sB i
  exact k B G' H _ σ o D s1.s sB r1 e (w.mono s1)
@[simp] def sIf (c : En → Option Bool) (F F' : FS) : FS := fun δ => (c δ).bind fun b => if b = true then F δ else F' δ
theorem psd_if {c : Expr} {a b : List Stmt} {fb : En → Option Bool} (hc : PDT X c fb) (ha : PSsD X a F) (hb : PSsD X b F') : PSD X (.If c a b pos) (sIf fb F F') := by
  obtain ⟨tc, pc, kc⟩ := hc
  obtain ⟨ta, pa, ka⟩ := ha
  obtain ⟨tb, pb, kb⟩ := hb
  refine ⟨_, ps_if pc pa pb, fun B G H δ σ o D sG sB rs e w => ?_⟩
  unfold sIf at e
  obtain ⟨x, e1, e⟩ := Option.bind_eq_some_iff.mp e
  refine kc B G H δ σ x _ sG rs e1 fun G1 H1 g1 => ?_
  cases x with
  | true => rw [if_pos rfl] at e ⊢; exact ka B G1 H1 δ σ o D g1.s (sB.trans g1.h) (rs.grow g1) e (w.mono (g1.stp sB))
  | false => rw [if_neg Bool.false_ne_true] at e ⊢; exact kb B G1 H1 δ σ o D g1.s (sB.trans g1.h) (rs.grow g1) e (w.mono (g1.stp sB))

/-! ### loops: what is walked, as a list of data -/
/-- J walks the data xs, whatever has been laid since -/
structure Wk (K : PySem.W.Frag) (J : It) (G : Hp) (xs : List D) : Prop where
  go : ∀ i d G' H', xs[i]? = some d → Same G G' → Same G' H' → J.go i H' ∧ ∀ x H2, J.yld i H' x H2 → H2 = H' ∧ Rep K G' d x
  stop : ∀ G' H', Same G G' → Same G' H' → J.stop xs.length H'
theorem Wk.mono {K : PySem.W.Frag} {J : It} {G G1 : Hp} {xs : List D} (w : Wk K J G xs) (s : Same G G1) : Wk K J G1 xs :=
  ⟨fun i d G' H' e a b => w.go i d G' H' e (s.trans a) b, fun G' H' a b => w.stop G' H' (s.trans a) b⟩
def PID (X : Cx) (tg iter : Expr) (f : En → Option (List D)) : Prop := ∃ wi, PI X tg iter wi ∧ ∀ (B G H : Hp) (δ : En) (σ : St) (xs : List D) (R : It → Hp → Prop), Same G H → RepS X.K B G H δ σ → f δ = some xs →
  (∀ J G' H', Grow G H G' H' → Wk X.K J G' xs → R J H') → wi σ H R
@[simp] def oLst (f : FE) : En → Option (List D) := fun δ => match f δ with | some (.lst ds) => some ds | _ => none
@[simp] def oTup (f : FE) : En → Option (List D) := fun δ => match f δ with | some (.tup ds) => some ds | _ => none
def signs (z : Str) : List D := z.cps.toList.map fun c => .str ⟨#[c]⟩
@[simp] def oStr (f : FE) : En → Option (List D) := fun δ => match f δ with | some (.str z) => some (signs z) | _ => none
def rngD (lo : Int) (n : Nat) : List D := (List.range n).map fun (k : Nat) => .int (lo + (k : Int))
@[simp] def oRng (f : FE) : En → Option (List D) := fun δ => match f δ with | some (.int j) => if -(2 ^ 62) ≤ j ∧ j < 2 ^ 62 then some (rngD 0 j.toNat) else none | _ => none
variable {tg : Expr}
theorem pid_list (he : PD X e f) : PID X tg e (oLst f) := by
  obtain ⟨t, pt, k⟩ := he
  refine ⟨_, pi_list pt, fun B G H δ σ xs R sG rs e q => ?_⟩
  unfold oLst at e
  split at e
  · rename_i ds e1
    cases e
    refine k B G H δ σ _ _ sG rs e1 fun v G1 H1 g1 r1 => ?_
    simp only [Rep] at r1
    obtain ⟨a, vs, rfl, hq, rl⟩ := r1
    refine ⟨a, rfl, ⟨vs, g1.s.sqL hq⟩, q _ G1 H1 g1 ⟨fun i d G' H' ed a1 b1 => ?_, fun G' H' a1 b1 => ⟨vs, (a1.trans b1).sqL hq, by rw [rl.length]; exact Nat.le_refl _⟩⟩⟩
    obtain ⟨x, ex, rx⟩ := rl.get ed
    refine ⟨⟨vs, x, (a1.trans b1).sqL hq, ex⟩, fun x' H2 y => ⟨y.1, ?_⟩⟩
    have := y.2 vs ((a1.trans b1).sqL hq)
    rw [ex] at this
    cases this
    exact rx.mono a1
  · cases e
theorem pid_tup (he : PD X e f) : PID X tg e (oTup f) := by
  obtain ⟨t, pt, k⟩ := he
  refine ⟨_, pi_tup pt, fun B G H δ σ xs R sG rs e q => ?_⟩
  unfold oTup at e
  split at e
  · rename_i ds e1
    cases e
    refine k B G H δ σ _ _ sG rs e1 fun v G1 H1 g1 r1 => ?_
    simp only [Rep] at r1
    obtain ⟨a, vs, rfl, hq, rl⟩ := r1
    refine ⟨a, rfl, ⟨vs, g1.s.sqT hq⟩, q _ G1 H1 g1 ⟨fun i d G' H' ed a1 b1 => ?_, fun G' H' a1 b1 => ⟨vs, (a1.trans b1).sqT hq, by rw [rl.length]; exact Nat.le_refl _⟩⟩⟩
    obtain ⟨x, ex, rx⟩ := rl.get ed
    refine ⟨⟨vs, x, (a1.trans b1).sqT hq, ex⟩, fun x' H2 y => ⟨y.1, ?_⟩⟩
    have := y.2 vs ((a1.trans b1).sqT hq)
    rw [ex] at this
    cases this
    exact rx.mono a1
  · cases e
theorem pid_str (he : PD X e f) : PID X tg e (oStr f) := by
  obtain ⟨t, pt, k⟩ := he
  refine ⟨_, pi_str pt, fun B G H δ σ xs R sG rs e q => ?_⟩
  unfold oStr at e
  split at e
  · rename_i z e1
    cases e
    refine k B G H δ σ _ _ sG rs e1 fun v G1 H1 g1 r1 => ?_
    simp only [Rep] at r1
    refine ⟨z, r1, q _ G1 H1 g1 ⟨fun i d G' H' ed a1 b1 => ?_, fun G' H' a1 b1 => ?_⟩⟩
    · unfold signs at ed
      rw [List.getElem?_map] at ed
      obtain ⟨c, ec, rfl⟩ := Option.map_eq_some_iff.mp ed
      have ec' : z.cps[i]? = some c := by simpa using ec
      refine ⟨?_, fun x' H2 y => ?_⟩
      · show i < z.cps.size
        obtain ⟨hi, _⟩ := Array.getElem?_eq_some_iff.mp ec'
        exact hi
      · obtain ⟨y1, c', ec2, rfl⟩ := y
        rw [ec'] at ec2
        cases ec2
        exact ⟨y1, by simp [Rep]⟩
    · show (signs z).length = z.cps.size
      simp [signs]
  · cases e
theorem pid_range {p : Pos} (hm : X.mg "range" = none) (he : PD X e f) (hg : Gl X "range" := by rfl) (hs : starEach [e] X.env = [(false, eval e X.env)] := by rfl) : PID X tg (.Call (.Name "range" p) [e] [] pos) (oRng f) := by
  obtain ⟨t, pt, k⟩ := he
  refine ⟨_, pi_range1 hg hm (pa_cons pt pa_nil hs) hs, fun B G H δ σ xs R sG rs e q => ?_⟩
  unfold oRng at e
  split at e
  · rename_i j e1
    split at e
    · rename_i hj
      cases e
      refine k B G H δ σ _ _ sG rs e1 fun v G1 H1 g1 r1 => ?_
      simp only [Rep] at r1
      subst r1
      refine ⟨j, rfl, hj.1, hj.2, q _ G1 H1 g1 ⟨fun i d G' H' ed a1 b1 => ?_, fun G' H' a1 b1 => ?_⟩⟩
      · unfold rngD at ed
        rw [List.getElem?_map] at ed
        obtain ⟨c, ec, rfl⟩ := Option.map_eq_some_iff.mp ed
        obtain ⟨hi, hc⟩ := List.getElem?_eq_some_iff.mp ec
        rw [List.length_range] at hi
        rw [List.getElem_range] at hc
        subst hc
        refine ⟨hi, fun x' H2 y => ⟨y.1, ?_⟩⟩
        rw [y.2]
        simp [Rep]
      · show j.toNat ≤ (rngD 0 j.toNat).length
        simp [rngD]
    · cases e
  · cases e

/-- the loop's worth: the target's slot i -/
def forL (i : Nat) (F : FS) : List D → FS
  | [], δ => some (.nx δ)
  | x :: xs, δ => match F (δ.set i (some (.sh x))) with
    | some (.nx δ') => forL i F xs δ'
    | some (.ct δ') => forL i F xs δ'
    | some (.bk δ') => some (.nx δ')
    | some (.rt d) => some (.rt d)
    | none => none
@[simp] def sFor (i : Nat) (f : En → Option (List D)) (F : FS) : FS := fun δ => (f δ).bind fun xs => forL i F xs δ
theorem psd_for (i : Nat) {x : Str} {pos' : Pos} {iter : Expr} {body : List Stmt} {g : En → Option (List D)} (hN : X.N.Nodup) (hc : X.calm = true) (hp : PassesOwn (model X.prog X.w) X.A X.env X.xe) (hi : PID X (.Name x pos') iter g) (hb : PSsD X body F)
    (hix : X.N[i]? = some x := by rfl) (hx : Loc X.env.scope x := by first | exact Or.inl rfl | exact Or.inr rfl) (hf : X.fn x = true ∨ X.env.scope.names.lookup x = some .local := by first | exact .inl rfl | exact .inr rfl)
    (hs : ∀ x, foldedSetIterable iter X.env x = pure x := by intro _; rfl) : PSD X (.For (.Name x pos') iter body [] pos) (sFor i g F) := by
  obtain ⟨wi, pw, kw⟩ := hi
  obtain ⟨tb, pb, kb⟩ := hb
  refine ⟨_, ps_for hp hc pw (pg_name hN hix hx hf) pb hs, fun B G H δ σ o D sG sB rs e w => ?_⟩
  unfold sFor at e
  obtain ⟨xs, e1, e⟩ := Option.bind_eq_some_iff.mp e
  refine kw B G H δ σ xs _ sG rs e1 fun J G1 H1 g1 wk => ?_
  have st1 : Stp B G G1 H1 := g1.stp sB
  refine ⟨fun n m σ' H' => ∃ δ' G', m = xs.length - n ∧ n ≤ xs.length ∧ Stp B G1 G' H' ∧ RepS X.K B G' H' δ' σ' ∧ forL i F (xs.drop n) δ' = some o, ⟨_, δ, G1, rfl, Nat.zero_le _, Stp.refl st1.s st1.b, rs.grow g1, by simpa using e⟩, ?_⟩
  rintro n m σ' H' ⟨δ', G', rfl, hn, a1, rs', eo⟩
  by_cases hlt : n < xs.length
  · right
    obtain ⟨go, yl⟩ := wk.go n xs[n] G' H' (by simp [hlt]) a1.g a1.s
    rw [List.drop_eq_getElem_cons hlt] at eo
    unfold forL at eo
    refine ⟨go, fun σ2 H2 => ∃ m', m' < xs.length - n ∧ ∃ δ2 G2, m' = xs.length - (n + 1) ∧ n + 1 ≤ xs.length ∧ Stp B G1 G2 H2 ∧ RepS X.K B G2 H2 δ2 σ2 ∧ forL i F (xs.drop (n + 1)) δ2 = some o, fun σ2 H2 z => z, fun x H2 y => ?_⟩
    obtain ⟨rfl, rx⟩ := yl x H2 y
    show tb _ (σ'.set i (some x)) H2
    have again : ∀ {δ2 : En} {σ2 : St} {G2 H3 : Hp}, Stp B G' G2 H3 → RepS X.K B G2 H3 δ2 σ2 → forL i F (xs.drop (n + 1)) δ2 = some o →
        ∃ m', m' < xs.length - n ∧ ∃ δ2 G2, m' = xs.length - (n + 1) ∧ n + 1 ≤ xs.length ∧ Stp B G1 G2 H3 ∧ RepS X.K B G2 H3 δ2 σ2 ∧ forL i F (xs.drop (n + 1)) δ2 = some o :=
      fun {δ2 σ2 G2 H3} a r e => ⟨xs.length - (n + 1), by omega, δ2, G2, rfl, hlt, a1.trans a, r, e⟩
    cases eF : F (δ'.set i (some (.sh xs[n]))) with
    | none => rw [eF] at eo; cases eo
    | some o1 =>
      rw [eF] at eo
      refine kb B G' H2 _ _ o1 _ a1.s a1.b (rs'.set i rx) eF ?_
      cases o1 with
      | nx δ2 => exact fun σ2 G2 H3 a r => again a r eo
      | ct δ2 => exact fun σ2 G2 H3 a r => again a r eo
      | bk δ2 =>
        cases eo
        exact fun σ2 G2 H3 a r => w σ2 G2 H3 (st1.trans (a1.trans a)) r
      | rt r =>
        cases eo
        cases r with
        | sh d => exact fun v G2 H3 a r => w v G2 H3 (st1.trans (a1.trans a)) r
        | fr m => exact fun p vs G2 H3 a => w p vs G2 H3 (st1.trans (a1.trans a))
  · left
    have hnn : n = xs.length := by omega
    subst hnn
    rw [List.drop_of_length_le (Nat.le_refl _)] at eo
    cases eo
    exact ⟨wk.stop G' H' a1.g a1.s, w σ' G' H' (st1.trans a1) rs'⟩

/-! ### a list comprehension -/
def compL (c : D → Option Bool) (g : D → Option D) : List D → Option (List D)
  | [] => some []
  | x :: xs => (c x).bind fun b => if b = true then (g x).bind fun y => (compL c g xs).bind fun ys => some (y :: ys) else compL c g xs
/-- the block's slots: nl own ones (the target is i), then the def's js -/
@[simp] def csD (nl : Nat) (js : List Nat) (δ : En) : En := List.replicate nl none ++ js.map fun j => (δ[j]?).join
@[simp] def fComp (nl : Nat) (js : List Nat) (i : Nat) (it : En → Option (List D)) (c : En → Option Bool) (g : FE) : FR := fun δ => (it δ).bind fun xs =>
  if xs.length ≤ sizeLine then (compL (fun x => c ((csD nl js δ).set i (some (.sh x)))) (fun x => g ((csD nl js δ).set i (some (.sh x)))) xs).map fun ys => .fr (.lst ys) else none
/-- the tests -/
def PIfsD (X : Cx) (ifs : List Expr) (f : En → Option Bool) : Prop := ∃ t, PIfs X ifs t ∧ ∀ (B G H : Hp) (δ : En) (σ : St) (b : Bool) (Q : Bool → Hp → Prop), Same G H → RepS X.K B G H δ σ → f δ = some b →
  (∀ G' H', Grow G H G' H' → Q b H') → t σ H Q
@[simp] def bYes : En → Option Bool := fun _ => some true
theorem pifd_nil : PIfsD X [] bYes := ⟨_, pifs_nil, fun B G H δ σ b Q sG rs e k => by cases e; exact k G H (Grow.refl sG)⟩
theorem pifd_one {c : Expr} {fb : En → Option Bool} (h : PDT X c fb) : PIfsD X [c] fb := by
  obtain ⟨t, pt, k⟩ := h
  exact ⟨t, pifs_one pt, k⟩
theorem cs_at {nl : Nat} {js : List Nat} {α : Type} {l : List (Option α)} {i : Nat} {x : α} (e : (List.replicate nl none ++ js.map fun j => (l[j]?).join)[i]? = some (some x)) : ∃ j, nl ≤ i ∧ js[i - nl]? = some j ∧ l[j]? = some (some x) := by
  rcases Nat.lt_or_ge i nl with z | z
  · rw [List.getElem?_append_left (by simpa using z), List.getElem?_replicate, if_pos z] at e; cases e
  · rw [List.getElem?_append_right (by simpa using z), List.length_replicate, List.getElem?_map] at e
    obtain ⟨j, ej, e⟩ := Option.map_eq_some_iff.mp e
    refine ⟨j, z, ej, ?_⟩
    cases q : l[j]? with
    | none => rw [q] at e; cases e
    | some y => rw [q] at e; rw [show y = some x from e]
theorem cs_to {nl : Nat} {js : List Nat} {α : Type} {l : List (Option α)} {i j : Nat} {x : Option α} (z : nl ≤ i) (ej : js[i - nl]? = some j) (e : l[j]? = some x) : (List.replicate nl none ++ js.map fun j => (l[j]?).join)[i]? = some x := by
  rw [List.getElem?_append_right (by simpa using z), List.length_replicate, List.getElem?_map, ej, Option.map_some, e]
  rfl
theorem RepS.cs {K : PySem.W.Frag} {B G H : Hp} {δ : En} {σ : St} (r : RepS K B G H δ σ) (nl : Nat) (js : List Nat) (hj : js.Nodup) : RepS K B G H (csD nl js δ) (csOf nl js σ) := by
  refine ⟨by simp [csD, csOf], fun i x e => ?_, fun i j x y hij e1 e2 => ?_⟩
  · obtain ⟨j, z, ej, ed⟩ := cs_at e
    obtain ⟨v, h1, h2⟩ := r.at_ j _ ed
    exact ⟨v, cs_to z ej h1, h2⟩
  · obtain ⟨j1, z1, ej1, ed1⟩ := cs_at e1
    obtain ⟨j2, z2, ej2, ed2⟩ := cs_at e2
    have hne : j1 ≠ j2 := fun q => by
      subst q
      have h1 := (List.getElem?_eq_some_iff.mp ej1)
      have h2 := (List.getElem?_eq_some_iff.mp ej2)
      obtain ⟨l1, q1⟩ := h1
      obtain ⟨l2, q2⟩ := h2
      have := (List.getElem_inj hj).mp (q1.trans q2.symm)
      omega
    obtain ⟨v1, h1, _⟩ := r.at_ j1 _ ed1
    obtain ⟨v2, h2, _⟩ := r.at_ j2 _ ed2
    have := r.ap j1 j2 x y hne ed1 ed2
    rw [show (csOf nl js σ)[i]? = σ[j1]? from (cs_to z1 ej1 h1).trans h1.symm, show (csOf nl js σ)[j]? = σ[j2]? from (cs_to z2 ej2 h2).trans h2.symm]
    exact this
theorem compL_len {c : D → Option Bool} {g : D → Option D} : ∀ {xs ys : List D}, compL c g xs = some ys → ys.length ≤ xs.length
  | [], ys, e => by cases e; exact Nat.le_refl _
  | x :: xs, ys, e => by
    unfold compL at e
    obtain ⟨b, e1, e⟩ := Option.bind_eq_some_iff.mp e
    split at e
    · obtain ⟨y, e2, e⟩ := Option.bind_eq_some_iff.mp e
      obtain ⟨zs, e3, e⟩ := Option.bind_eq_some_iff.mp e
      cases e
      have := compL_len e3
      simp only [List.length_cons]; omega
    · have := compL_len e
      simp only [List.length_cons]; omega
theorem gives_comp {wi : TI} {ti : TT} {te : TE} {it : En → Option (List D)} {c : En → Option Bool} {g : FE} {nl i : Nat} {js : List Nat}
    (kw : ∀ (B G H : Hp) (δ : En) (σ : St) (xs : List D) (R : It → Hp → Prop), Same G H → RepS X.K B G H δ σ → it δ = some xs → (∀ J G' H', Grow G H G' H' → Wk X.K J G' xs → R J H') → wi σ H R)
    (kt : ∀ (B G H : Hp) (δ : En) (σ : St) (b : Bool) (Q : Bool → Hp → Prop), Same G H → RepS X.K B G H δ σ → c δ = some b → (∀ G' H', Grow G H G' H' → Q b H') → ti σ H Q) (ke : Gives X.K te g) (hjs : js.Nodup) :
    GivesR X.K (tComp wi (csOf nl js) (gName i) ti te) (fComp nl js i it c g) := fun B G H δ σ d Q sG rs e k => by
  unfold fComp at e
  obtain ⟨xs, e1, e⟩ := Option.bind_eq_some_iff.mp e
  split at e
  · rename_i hl
    obtain ⟨zs, e2, rfl⟩ := Option.map_eq_some_iff.mp e
    refine kw B G H δ σ xs _ sG rs e1 fun J G1 H1 g1 wk => ?_
    refine ⟨fun n m ys H' => ∃ G' ws us, m = xs.length - n ∧ n ≤ xs.length ∧ Grow G H G' H' ∧ Same G1 G' ∧ RepL X.K G' ws ys ∧ zs = ws ++ us ∧ compL (fun x => c ((csD nl js δ).set i (some (.sh x)))) (fun x => g ((csD nl js δ).set i (some (.sh x)))) (xs.drop n) = some us,
      ⟨_, G1, [], zs, rfl, Nat.zero_le _, g1, Same.refl _, by simp [RepL], rfl, by simpa using e2⟩, ?_⟩
    rintro n m ys H' ⟨G', ws, us, rfl, hn, gr, s1, rl, rfl, ec⟩
    have hwl : (ws ++ us).length ≤ xs.length := compL_len e2
    refine ⟨by rw [← rl.length]; rw [List.length_append] at hwl; omega, ?_⟩
    by_cases hlt : n < xs.length
    · right
      obtain ⟨go, yl⟩ := wk.go n xs[n] G' H' (by simp [hlt]) s1 gr.s
      rw [List.drop_eq_getElem_cons hlt] at ec
      unfold compL at ec
      obtain ⟨b, ec1, ec⟩ := Option.bind_eq_some_iff.mp ec
      refine ⟨go, fun x H2 y => ?_⟩
      obtain ⟨rfl, rx⟩ := yl x H2 y
      show ti ((csOf nl js σ).set i (some x)) H2 _
      have rs2 := ((rs.grow gr).cs nl js hjs).set i rx
      refine kt B G' H2 _ _ b _ gr.s rs2 ec1 fun G3 H3 g3 => ?_
      cases b with
      | true =>
        rw [if_pos rfl] at ec ⊢
        obtain ⟨y', ec2, ec⟩ := Option.bind_eq_some_iff.mp ec
        obtain ⟨us', ec3, ec⟩ := Option.bind_eq_some_iff.mp ec
        cases ec
        refine ke B G3 H3 _ _ y' _ g3.s (rs2.grow g3) ec2 fun v G4 H4 g4 r4 => ?_
        exact ⟨xs.length - (n + 1), by omega, G4, ws ++ [y'], us', rfl, hlt, (gr.trans g3).trans g4, s1.trans (g3.g.trans g4.g), (rl.mono (g3.g.trans g4.g)).snoc r4, by simp, ec3⟩
      | false =>
        rw [if_neg Bool.false_ne_true] at ec ⊢
        exact ⟨xs.length - (n + 1), by omega, G3, ws, us, rfl, hlt, gr.trans g3, s1.trans g3.g, rl.mono g3.g, rfl, ec⟩
    · left
      have hnn : n = xs.length := by omega
      subst hnn
      rw [List.drop_of_length_le (Nat.le_refl _)] at ec
      cases ec
      refine ⟨wk.stop G' H' s1 gr.s, fun p hp => ?_⟩
      rw [List.append_nil] at k
      exact k p ys G' H' gr hp True.intro rl
  · cases e
theorem pr_comp {N : List Str} {nl i : Nat} {js : List Nat} {scope : Scope} {cl : List (Str × Addr)} {elt iter : Expr} {ifs : List Expr} {x : Str} {px pos : Pos} {it : En → Option (List D)} {c : En → Option Bool} {g : FE}
    (hc : X.calm = true) (ok : CompOk X N nl js scope cl) (hi : PID X (.Name x px) iter it) (hin : i < nl) (hNd : N.Nodup) (hix : N[i]? = some x) (hx : scope.names.lookup x = some .local) (hjs : js.Nodup)
    (ht : ∃ ti, (∀ C s₀ H₀ ex, PIfs (compCx X N scope cl C s₀ H₀ ex) ifs ti) ∧ ∀ (B G H : Hp) (δ : En) (σ : St) (b : Bool) (Q : Bool → Hp → Prop), Same G H → RepS X.K B G H δ σ → c δ = some b → (∀ G' H', Grow G H G' H' → Q b H') → ti σ H Q)
    (he : ∃ te, (∀ C s₀ H₀ ex, PE (compCx X N scope cl C s₀ H₀ ex) elt te) ∧ Gives X.K te g)
    (hs : ∀ x, foldedSetIterable iter X.env x = pure x := by intro _; rfl) :
    PR X (.ListComp elt [⟨.Name x px, iter, ifs, 0⟩] scope pos) (fComp nl js i it c g) := by
  obtain ⟨wi, pw, kw⟩ := hi
  obtain ⟨ti, pt, kt⟩ := ht
  obtain ⟨te, pe, ke⟩ := he
  refine ⟨_, pe_comp hc ok pw (keeps_name hin) (fun C s₀ H₀ ex => pg_name hNd hix (.inl (lookup_relabel_local hx)) (.inr (lookup_relabel_local hx))) pt pe hs, gives_comp kw kt ke hjs⟩
end
end L2

-- part Ly4
set_option Elab.async false
set_option linter.all false
set_option maxRecDepth 100000
set_option maxHeartbeats 4000000
namespace L2
open PySem PySem.Spec PyProof.Rows

section
variable {X : Cx}
/-! ### + of lists and tuples that are read -/
theorem op_catL : OpR X (binaryOp .Add) (rCatL X.K) := by
  intro pins s σ H x y v u Q I rx ry h
  obtain ⟨l, b, xs, zs, rfl, rfl, hH, hB, hz, q⟩ := h
  cases rx
  cases ry
  obtain ⟨its, r, hl, hz1⟩ := I.list hH
  obtain ⟨its2, r2, hl2, hz2⟩ := I.list hB
  obtain ⟨⟨cls, dd, data, sl⟩, ho, hc, n, hd⟩ := hl.isList
  obtain ⟨⟨cls2, dd2, data2, sl2⟩, ho2, hc2, n2, hd2⟩ := hl2.isList
  simp only at hc hd hc2 hd2
  subst hc hd hc2 hd2
  have ea : its.toArray ++ its2.toArray = (its ++ its2).toArray := by simp
  have h1 := r.length
  have h2 := r2.length
  refine concat_meets ⟨_, ho, rfl⟩ ⟨_, ho2, rfl⟩ noFill_list_add seq_list_add PySem.F.slot_list_add PySem.F.entry_list_add (PySem.F.args_list_add_2 _ _) (list_addW l b its.toArray its2.toArray n n2 dd dd2 sl sl2 (by simp; omega)) ⟨ho, ho2, ?_⟩
  rw [ea]
  exact ⟨.ref _, _, I.lnew (t' := s.toks) (r.append r2) (by rw [List.length_append]; omega), rfl, q _ I.fresh⟩
/-- () + t is t -/
def rCatT0 (K : PySem.W.Frag) : R2 := fun x y H Q => ∃ a b ys, x = .ref a ∧ y = .ref b ∧ SqT K H a [] ∧ SqT K H b ys ∧ Q (.ref b) H
theorem op_catT0 : OpR X (binaryOp .Add) (rCatT0 X.K) := by
  intro pins s σ H x y v u Q I rx ry h
  obtain ⟨a, b, ys, rfl, rfl, ha, hb, q⟩ := h
  cases rx
  cases ry
  obtain ⟨its, r1, p1, _⟩ := I.tuple ha
  obtain ⟨its2, r2, p2, _⟩ := I.tuple hb
  cases r1
  obtain ⟨⟨cls, dd, data, sl⟩, ho, hc, n, hd⟩ := id p1
  obtain ⟨⟨cls2, dd2, data2, sl2⟩, ho2, hc2, n2, hd2⟩ := id p2
  simp only at hc hd hc2 hd2
  subst hc hd hc2 hd2
  exact concat_meets ⟨_, ho, rfl⟩ ⟨_, ho2, rfl⟩ noFill_tuple_add seq_tuple_add PySem.F.slot_tuple_add PySem.F.entry_tuple_add (PySem.F.args_tuple_add_2 _ _)
      (tuple_addW0 a b #[] its2.toArray n n2 dd dd2 sl sl2 rfl) ⟨ho, ho2, ⟨.ref b, H, I, rfl, q⟩⟩
def tupAdd : D → D → Option D | .tup i, .tup j => if i.length + j.length ≤ sizeLine then some (.tup (i ++ j)) else none | _, _ => none
theorem od_tadd : OpD X (binaryOp .Add) tupAdd := by
  refine ⟨_, op_catT0.or op_catT, fun G H x y v u d Q sG rx ry e k => ?_⟩
  unfold tupAdd at e
  split at e
  · rename_i i j
    split at e
    · rename_i hc
      cases e
      have rx := rx.tup
      have ry := ry.tup
      have rx0 := rx
      have ry0 := ry
      simp only [Rep] at rx ry
      obtain ⟨p1, xs, rfl, q1, r1⟩ := rx
      obtain ⟨p2, ys, rfl, q2, r2⟩ := ry
      cases i with
      | nil =>
        have : xs = [] := by simpa only [RepL] using r1
        subst this
        exact .inl ⟨p1, p2, ys, rfl, rfl, sG.sqT q1, sG.sqT q2, k _ G H (Grow.refl sG) (by simpa using ry0)⟩
      | cons i0 is =>
        refine .inr ⟨p1, p2, xs, ys, rfl, rfl, sG.sqT q1, sG.sqT q2, ?_, by rw [← r1.length, ← r2.length]; exact hc, fun hy => ?_, fun hy p hp => k _ _ _ (Grow.laid sG _ hp) (rep_tup (sG.free hp) (r1.append r2))⟩
        · intro z
          have := r1.length
          rw [z] at this
          cases this
        · have : j = [] := by
            have := r2.length
            rw [hy] at this
            exact List.length_eq_zero_iff.mp this
          subst this
          exact k _ G H (Grow.refl sG) (by simpa using rx0)
    · cases e
  · cases e
def addD (x y : D) : Option D := (iAdd x y).or ((sAdd x y).or ((tupAdd x y).or (lAdd x y)))
theorem od_add : OpD X (binaryOp .Add) addD := od_iadd.or (od_sadd.or (od_tadd.or (od_ladd op_catL)))

/-! ### is -/
theorem op_isB : OpR X (compareOp .Is) (fun x y H Q => ∃ i j, x = .bl i ∧ y = .bl j ∧ Q (.bl (i == j)) H) := by
  intro pins s σ H x y v u Q I rx ry h
  obtain ⟨i, j, rfl, rfl, q⟩ := h
  cases rx
  cases ry
  exact is_bool ⟨.bl _, H, I, rfl, q⟩
def isB : D → D → Option D | .bl i, .bl j => some (.bl (i == j)) | _, _ => none
theorem od_isB : OpD X (compareOp .Is) isB := by
  refine ⟨_, op_isB, fun G H x y v u d Q sG rx ry e k => ?_⟩
  unfold isB at e
  split at e
  · cases e
    have rx := rx.flat rfl
    have ry := ry.flat rfl
    simp only [Rep] at rx ry
    exact ⟨_, _, rx, ry, k _ G H (Grow.refl sG) (by simp [Rep])⟩
  · cases e

/-! ### == of two lists of scalars -/
def eqVs : List V → List V → Bool
  | [], [] => true
  | x :: xs, y :: ys => eqV x y && eqVs xs ys
  | _, _ => false
theorem eqVs_ne : ∀ {xs ys : List V}, xs.length ≠ ys.length → eqVs xs ys = false
  | [], [], h => absurd rfl h
  | [], _ :: _, _ => rfl
  | _ :: _, [], _ => rfl
  | x :: xs, y :: ys, h => by
    show (eqV x y && eqVs xs ys) = false
    rw [eqVs_ne (fun z => h (by simp [z])), Bool.and_false]
theorem eqVs_all : ∀ {xs ys : List V}, xs.length = ys.length → eqVs xs ys = (List.range xs.length).all fun j => eqV (xs.getD j .non) (ys.getD j .non)
  | [], [], _ => rfl
  | x :: xs, y :: ys, h => by
    show (eqV x y && eqVs xs ys) = _
    rw [eqVs_all (show xs.length = ys.length by simpa using h), List.length_cons, List.range_succ_eq_map, List.all_cons, List.all_map]
    rfl
theorem op_eqL (hu : X.A.units + 1 < cLine) : OpR X (compareOp .Eq) (fun x y H Q => ∃ a b xs ys, x = .ref a ∧ y = .ref b ∧ SqL X.K H a xs ∧ SqL X.K H b ys ∧ xs.all flatV = true ∧ ys.all flatV = true ∧ Q (.bl (eqVs xs ys)) H) := by
  intro pins s σ H x y v u Q I rx ry h
  obtain ⟨a, b, xs, ys, rfl, rfl, ha, hb, fa, fb, q⟩ := h
  cases rx
  cases ry
  obtain ⟨its, r, pl, hz⟩ := I.list ha
  obtain ⟨its2, r2, pl2, hz2⟩ := I.list hb
  have h1 := r.length
  have h2 := r2.length
  by_cases hl : xs.length = ys.length
  · refine SeqAt.eq_listAt (e := fun j => eqV (xs.getD j .non) (ys.getD j .non)) pl.isList pl2.isList (by simp; omega) (by omega) (fun j g1 g2 => ?_) ?_
    · have e1 : xs[j]? = some (xs.getD j .non) := by rw [List.getD_eq_getElem?_getD]; rw [List.getElem?_eq_getElem (by simp at g1; omega)]; rfl
      have e2 : ys[j]? = some (ys.getD j .non) := by rw [List.getD_eq_getElem?_getD]; rw [List.getElem?_eq_getElem (by simp at g2; omega)]; rfl
      obtain ⟨u1, k1, k2⟩ := r.get e1
      obtain ⟨u2, k3, k4⟩ := r2.get e2
      have w1 : its.toArray[j] = u1 := by
        obtain ⟨_, z⟩ := List.getElem?_eq_some_iff.mp k1
        simpa using z
      have w2 : its2.toArray[j] = u2 := by
        obtain ⟨_, z⟩ := List.getElem?_eq_some_iff.mp k3
        simpa using z
      rw [w1, w2]
      exact eqAt_V k2 k4 (List.all_eq_true.mp fa _ (List.mem_of_getElem? e1)) (List.all_eq_true.mp fb _ (List.mem_of_getElem? e2))
    · refine ⟨.bl _, H, I, rfl, ?_⟩
      rw [List.size_toArray, ← h1, ← eqVs_all hl]
      exact q
  · refine SeqAt.eq_list_lengthsAt pl.isList pl2.isList (by simp; omega) (by omega) ⟨.bl _, H, I, rfl, ?_⟩
    rw [eqVs_ne hl] at q
    exact q

/-! ### all -/
def truV : V → Option Bool | .bl b => some b | _ => none
theorem call_allL (hc : X.calm = true) : CallR X (.builtin "all") (fun xs H Q => ∃ (a : Addr) (bs : List Bool), xs = [.ref a] ∧ SqL X.K H a (bs.map V.bl) ∧ Q (.bl (bs.all id)) H) := by
  intro pins s σ H xs us Q I r h
  obtain ⟨a, bs, rfl, hq, q⟩ := h
  obtain ⟨u, rfl, rx⟩ := vals1 r
  cases rx
  obtain ⟨its, rv, pl, hz⟩ := I.list hq
  have hne : a ≠ s.heap.objs.size := by
    obtain ⟨o, n, e, _⟩ := pl
    exact Nat.ne_of_lt (Heap.lt_size e)
  have hlen : bs.length = its.length := by have := rv.length; simpa using this
  refine call_all_walk (wpAny_pyIter_list pl.isList ⟨s.heap.objs.size, [s.heap.objs.size, a], [s.heap.objs.size], its.toArray.size, fun i v => its.toArray[i]? = some v, _, fun i => bs.getD i false, rfl,
    Walks.list (A := X.A.in1) (I.ok.hd hc) s.heap.objs.size a hne its.toArray, ⟨⟨_, Heap.get?_push_size _ rfl, rfl, rfl⟩, ?_⟩, ?_, fun h' tk kk => ?_⟩)
  · obtain ⟨o, ho, c, n, d⟩ := pl.isList
    exact ⟨o, Heap.get?_push_of_some _ ho, c, n, d⟩
  · intro i v s' Q' E' hv hQ
    have hv' : its[i]? = some v := by simpa using hv
    have hi : i < bs.length := by rw [hlen]; exact (List.getElem?_eq_some_iff.mp hv').1
    have eb : (bs.map V.bl)[i]? = some (V.bl bs[i]) := by simp [hi]
    obtain ⟨w', k1, k2⟩ := rv.get eb
    rw [hv'] at k1
    cases k1
    cases (show v = Value.bool bs[i] from k2)
    have : bs.getD i false = bs[i] := by simp [hi]
    have hQ : Q' (bs.getD i false) s' := hQ
    rw [this] at hQ
    exact wpAny_truthy_bool hQ
  · refine ⟨.bl _, H, I.kept (t' := tk) (fun b o e => kk b o (by simpa using Nat.ne_of_lt (Heap.lt_size e)) (Heap.get?_push_of_some _ e)), rfl, ?_⟩
    have e : (List.range its.toArray.size).all (fun i => bs.getD i false) = bs.all id := by
      rw [List.size_toArray, ← hlen]
      clear q hlen hz pl rv hq
      induction bs with
      | nil => rfl
      | cons b bs ih => rw [List.length_cons, List.range_succ_eq_map, List.all_cons, List.all_map, List.all_cons, ← ih]; rfl
    rw [e]
    exact q
def bools : List D → Option (List Bool)
  | [] => some []
  | .bl b :: ds => (bools ds).map (b :: ·)
  | _ => none
theorem bools_rep {K : PySem.W.Frag} {G : Hp} : ∀ {ds : List D} {bs : List Bool} {vs : List V}, bools ds = some bs → RepL K G ds vs → vs = bs.map V.bl
  | [], bs, vs, e, r => by
    cases e
    simp only [RepL] at r
    exact r
  | .bl b :: ds, bs, vs, e, r => by
    simp only [bools] at e
    obtain ⟨cs, e1, rfl⟩ := Option.map_eq_some_iff.mp e
    simp only [RepL, Rep] at r
    obtain ⟨v, us, rfl, rfl, r2⟩ := r
    rw [bools_rep e1 r2]
    rfl
  | .non :: ds, bs, vs, e, r => nomatch e
  | .int _ :: ds, bs, vs, e, r => nomatch e
  | .str _ :: ds, bs, vs, e, r => nomatch e
  | .tup _ :: ds, bs, vs, e, r => nomatch e
  | .lst _ :: ds, bs, vs, e, r => nomatch e
  | .dic _ _ :: ds, bs, vs, e, r => nomatch e
def allD : List D → Option D
  | [.lst ds] => (bools ds).map fun bs => .bl (bs.all id)
  | _ => none
theorem cd_all (hc : X.calm = true) : CallD X (.builtin "all") allD := by
  refine ⟨_, call_allL hc, fun G H ds vs d Q sG r e k => ?_⟩
  unfold allD at e
  split at e
  · obtain ⟨bs, e1, rfl⟩ := Option.map_eq_some_iff.mp e
    obtain ⟨v, rfl, r1⟩ := repLB_one r
    obtain ⟨a, us, rfl, q, rl⟩ := r1.lst sG
    obtain rfl := bools_rep e1 rl
    exact ⟨a, bs, rfl, q, k _ G H (Grow.refl sG) (by simp [Rep])⟩
  · cases e

/-! ### isinstance with a built-in type -/
/-- the type's name -/
def tyD : D → String | .non => "NoneType" | .bl _ => "bool" | .int _ => "int" | .str _ => "str" | .tup _ => "tuple" | .lst _ => "list" | .dic _ _ => "dict"
theorem isinst_D {pins : List (Addr × Obj)} {σ : St} {G H : Hp} {s : Shared} {A : Around} {E : Value → Shared → Prop} {Q : Value → Shared → Prop} {c : Value} {b : Bool} {d : D} {x : V} {u : Value} (I : Inv X pins σ H s) (sG : Same G H) (r : Rep X.K G d x) (rx : RelV x u)
    (e : PySem.W.kitOne X.K (.type (tyD d)) c = some b) (h : ∀ tk, Q (.bool b) { s with toks := tk }) : wpAny (model X.prog X.w) A (call (.builtin "isinstance") [u, c]) Q E s := by
  cases d with
  | non => simp only [Rep] at r; subst r; exact isinst_ok I rx .non e h
  | bl y => simp only [Rep] at r; subst r; exact isinst_ok I rx (.bl _) e h
  | int i => simp only [Rep] at r; subst r; exact isinst_ok I rx (.int _) e h
  | str y => simp only [Rep] at r; subst r; exact isinst_ok I rx (.str _) e h
  | tup ds =>
    simp only [Rep] at r
    obtain ⟨a, vs, rfl, q, rl⟩ := r
    cases (show u = Value.ref a from rx)
    obtain ⟨its, _, ⟨o, h1, h2, _⟩, _⟩ := I.tuple (sG.sqT q)
    exact PySem.W.kia_one PySem.W.kitx_tuple I.kIn ⟨o, h1, h2⟩ e (fun z => nomatch z) h
  | lst ds =>
    simp only [Rep] at r
    obtain ⟨a, vs, rfl, q, rl⟩ := r
    cases (show u = Value.ref a from rx)
    obtain ⟨its, _, p, _⟩ := I.list (sG.sqL q)
    obtain ⟨o, h1, h2, _⟩ := p.isList
    exact PySem.W.kia_one PySem.W.kitx_list I.kIn ⟨o, h1, h2⟩ e (fun z => nomatch z) h
  | dic ks ds =>
    simp only [Rep] at r
    obtain ⟨a, vs, rfl, q, hl, nd, rl⟩ := r
    cases (show u = Value.ref a from rx)
    obtain ⟨_, _, us, _, dd⟩ := dk_rd I.hok (sG.rd q)
    obtain ⟨o, _, _, h1, h2, _⟩ := dd
    exact PySem.W.kia_one PySem.W.kitx_dict I.kIn ⟨o, h1, h2.1⟩ e (fun z => nomatch z) h
/-- the answer by the name of the class -/
def isTy (T : String) (d : D) : Bool := tyD d == T || (T == "int" && tyD d == "bool")
def IsTyOk (K : PySem.W.Frag) (T : String) : Prop := ∀ d : D, PySem.W.kitOne K (.type (tyD d)) (.type T) = some (isTy T d)
@[simp] def fIs (T : String) (f : FE) : FE := fun δ => (f δ).map fun d => .bl (isTy T d)
def tIs (K : PySem.W.Frag) (T : String) (ta : TE) : TE := fun σ H Q => ta σ H fun v H1 => ∃ G d, Same G H1 ∧ Rep K G d v ∧ Q (.bl (isTy T d)) H1
theorem pd_is {e : Expr} {f : FE} {T : Str} {p pT pos : Pos} (T' : String) (hT : IsTyOk X.K T') (hm : X.mg "isinstance" = none) (hmT : X.mg T = none) (hv : bootBuiltins T = some (.type T')) (he : PB X e f) (hg : Gl X "isinstance" := by rfl) (hgT : Gl X T := by rfl) (hn : T ≠ "__name__" := by decide) (hd : (T == ("__debug__" : Str)) = false := by decide)
    (hs : starEach [e, .Name T pT] X.env = (false, eval e X.env) :: starEach [.Name T pT] X.env := by rfl) (hs2 : starEach [.Name T pT] X.env = (false, eval (.Name T pT) X.env) :: starEach [] X.env := by rfl) (hpl : (backTo pos (starEach [.Name T pT] X.env)).any (·.1) = false := by rfl)
    (hb : bootBuiltins "isinstance" = some (.builtin "isinstance") := by decide +kernel) :
    PD X (.Call (.Name "isinstance" p) [e, .Name T pT] [] pos) (fIs T' f) := by
  obtain ⟨t, pt, k1⟩ := he
  have hc : CallR X (.builtin "isinstance") (fun xs H Q => ∃ G d v, Same G H ∧ Rep X.K G d v ∧ xs = [v, .ty T'] ∧ Q (.bl (isTy T' d)) H) := by
    intro pins s σ H xs us Q I r h
    obtain ⟨G, d, v, sG, rd, rfl, q⟩ := h
    obtain ⟨u, w', rfl, r1, r2⟩ := vals2 r
    cases (show w' = Value.type T' from r2)
    exact isinst_D I sG rd r1 (hT d) fun tk => ⟨.bl _, H, I.tok tk, rfl, q⟩
  refine ⟨_, pe_callB hc hg hm hb (pa_cons pt (pa_cons (pe_bltn (v := .ty T') hgT hmT hv rfl hn hd) pa_nil hs2) hs) (by decide) (by decide) hs hpl, fun B G H δ σ d Q sG rs ef k => ?_⟩
  unfold fIs at ef
  obtain ⟨x, e1, rfl⟩ := Option.map_eq_some_iff.mp ef
  exact k1 B G H δ σ x _ sG rs e1 fun v G1 H1 g1 r1 => ⟨H1, x, v, Same.refl _, r1.all g1.s, rfl, k _ G1 H1 g1 (by simp [Rep])⟩
theorem isTyOk_of {K : PySem.W.Frag} {T : String} (h : ∀ S : String, S ∈ ["NoneType", "bool", "int", "str", "tuple", "list", "dict"] → PySem.W.kitOne K (.type S) (.type T) = some (S == T || (T == "int" && S == "bool"))) : IsTyOk K T := fun d => h _ (by cases d <;> simp [tyD])

/-! ### canonical readings: for blocks -/
def tOf (K : PySem.W.Frag) (f : FE) : TE := fun σ H Q => ∃ B G δ d, Same G H ∧ RepS K B G H δ σ ∧ f δ = some d ∧ ∀ v G' H', Grow G H G' H' → Rep K G' d v → Q v H'
theorem PD.canon {e : Expr} {f : FE} (h : PD X e f) : PE X e (tOf X.K f) := by
  obtain ⟨t, pt, k⟩ := h
  intro pins s σ H Q I ⟨B, G, δ, d, sG, rs, ef, q⟩
  exact pt pins s σ H Q I (k B G H δ σ d Q sG rs ef q)
theorem gives_tOf {K : PySem.W.Frag} {f : FE} : Gives K (tOf K f) f := fun B G H δ σ d Q sG rs e k => ⟨B, G, δ, d, sG, rs, e, k⟩
def ttOf (K : PySem.W.Frag) (f : En → Option Bool) : TT := fun σ H Q => ∃ B G δ b, Same G H ∧ RepS K B G H δ σ ∧ f δ = some b ∧ ∀ G' H', Grow G H G' H' → Q b H'
theorem PIfsD.canon {ifs : List Expr} {f : En → Option Bool} (h : PIfsD X ifs f) : PIfs X ifs (ttOf X.K f) := by
  obtain ⟨t, pt, k⟩ := h
  intro pins s σ H Q I ⟨B, G, δ, b, sG, rs, ef, q⟩
  exact pt pins s σ H Q I (k B G H δ σ b Q sG rs ef q)
/-- a block without free names -/
theorem compOk0 {N : List Str} {nl : Nat} {scope : Scope} (hk : scope.kind = .function) (hn : ∀ y ∈ scope.names, y.2 ≠ .free ∧ y.2 ≠ .cell) (hl : ∀ y ∈ scope.names, y.2 = .local → scope.names.lookup y.1 = some .local) (hN : N.length = nl) : CompOk X N nl [] scope [] where
  clos := closureFor_none fun x hx => (hn x hx).1
  nocell := fun y hy => (hn y hy).2
  kind := hk
  names := hl
  cells := fun x c e => nomatch e
  has := fun x h => by
    exfalso
    have key : ∀ k, (relabel scope X.env).names.lookup x = some k → k = .cell ∨ k = .free → False := fun k e hk => by
      have hm := PySem.mem_of_lookup e
      unfold relabel at hm
      obtain ⟨⟨n, k0⟩, h1, h2⟩ := List.mem_map.mp hm
      have hf := hn _ h1
      have hc : (k0 == NameKind.free && X.env.scope.kind == .function && X.env.kindOf n == some .cell) = false := by
        have : (k0 == NameKind.free) = false := by simpa using hf.1
        rw [this]; rfl
      dsimp only at h2
      rw [hc] at h2
      have e2 : k0 = k := congrArg Prod.snd h2
      subst e2
      rcases hk with z | z
      · exact hf.2 z
      · exact hf.1 z
    rcases h with h | h
    · exact key _ h (.inl rfl)
    · exact key _ h (.inr rfl)
  len := by simpa using hN
  free := fun k j x e => by simp at e
theorem pr_comp' {N : List Str} {nl i : Nat} {js : List Nat} {scope : Scope} {cl : List (Str × Addr)} {elt iter : Expr} {ifs : List Expr} {x : Str} {px pos : Pos} {it : En → Option (List D)} {c : En → Option Bool} {g : FE}
    (hc : X.calm = true) (ok : CompOk X N nl js scope cl) (hi : PID X (.Name x px) iter it) (hin : i < nl) (hNd : N.Nodup) (hix : N[i]? = some x) (hx : scope.names.lookup x = some .local)
    (hjs : js.Nodup) (ht : ∀ C s₀ H₀ ex, PIfsD (compCx X N scope cl C s₀ H₀ ex) ifs c) (he : ∀ C s₀ H₀ ex, PD (compCx X N scope cl C s₀ H₀ ex) elt g)
    (hs : ∀ x, foldedSetIterable iter X.env x = pure x := by intro _; rfl) :
    PR X (.ListComp elt [⟨.Name x px, iter, ifs, 0⟩] scope pos) (fComp nl js i it c g) :=
  pr_comp hc ok hi hin hNd hix hx hjs ⟨ttOf X.K c, fun C s₀ H₀ ex => (ht C s₀ H₀ ex).canon, fun B G H δ σ b Q sG rs e k => ⟨B, G, δ, b, sG, rs, e, k⟩⟩ ⟨tOf X.K g, fun C s₀ H₀ ex => (he C s₀ H₀ ex).canon, gives_tOf⟩ hs
end

/-! ### a def -/
section
variable {P : Program} {w : World} {K : PySem.W.Frag} {mg : Str → Option Value} {base : Heap}
def startD (N : List Str) (ds : List D) : En := ds.map (fun d => some (.sh d)) ++ List.replicate (N.length - ds.length) none
theorem repS_start {N : List Str} {G H : Hp} {ds : List D} {vs : List V} (r : RepL K G ds vs) : RepS K H G H (startD N ds) (start N vs) := by
  have hl := r.length
  refine ⟨by simp [startD, start, hl], fun i x e => ?_, fun i j x y _ e => ?_⟩
  · unfold startD at e
    unfold start
    by_cases hi : i < ds.length
    · rw [List.getElem?_append_left (by simpa using hi), List.getElem?_map] at e
      obtain ⟨d, e1, e2⟩ := Option.map_eq_some_iff.mp e
      cases e2
      obtain ⟨v, h1, h2⟩ := r.get e1
      exact ⟨v, by rw [List.getElem?_append_left (by simp; omega), List.getElem?_map, h1]; rfl, h2⟩
    · rw [List.getElem?_append_right (by simpa using hi), List.getElem?_replicate] at e
      split at e <;> cases e
  · exfalso
    unfold startD at e
    by_cases hi : i < ds.length
    · rw [List.getElem?_append_left (by simpa using hi), List.getElem?_map] at e
      obtain ⟨d, e1, e2⟩ := Option.map_eq_some_iff.mp e
      cases e2
    · rw [List.getElem?_append_right (by simpa using hi), List.getElem?_replicate] at e
      split at e <;> cases e
/-- what a def is worth, by its body -/
def runF (N : List Str) (n : Nat) (fb : FS) : List D → Option Rs := fun ds => if ds.length = n then (match fb (startD N ds) with | some (.rt d) => some d | some (.nx _) => some (.sh .non) | _ => none) else none
def DefAt (K : PySem.W.Frag) (mg : Str → Option Value) (x : Str) (st : Stmt) : Prop := ∃ f fd, Fun K x x st f fd ∧ mg x = some (.ref f)
theorem defAt_mk {h : Heap} {x : Str} {st : Stmt} {f : Addr} {oc : Value} {od an : Option Addr} {osl : Array (Option Value)} {kV doc pm cdv ct : Value} (X : K.In h) (G : h.Ns mainGlobals mg) (a : PySem.W.nsIn K mainGlobals x = some (some (.ref f)))
    (l : K.lookup f = some ⟨oc, od, .func (PySem.W.fnOf x x (defArgs st) (defBody st) (defScope st) .none kV doc pm an cdv ct), osl⟩) (c : PySem.W.codeIn K cdv x = true) (k : PySem.W.keepIn K (.ref f) = true) : DefAt K mg x st :=
  ⟨f, _, fun_mk l c k, PySem.W.mg_of X G a⟩
/-- a constant of the module -/
def GlobAt (K : PySem.W.Frag) (mg : Str → Option Value) (x : Str) (d : D) : Prop := ∃ v u, mg x = some u ∧ RelV v u ∧ ∀ G, Rep K G d v
theorem GlobAt.pd {X : Cx} {x : Str} {d : D} {pos : Pos} (h : GlobAt X.K X.mg x d) (hg : Gl X x := by rfl) (hd : (x == ("__debug__" : Str)) = false := by decide) : PD X (.Name x pos) (fC d) := by
  obtain ⟨v, u, hm, r, rep⟩ := h
  exact pd_glob hg hm r rep hd
abbrev cxD (P : Program) (w : World) (K : PySem.W.Frag) (mg : Str → Option Value) (base : Heap) (N : List Str) (x : Str) (scope : Scope) (f : Addr) (cdv : Value) (A : Around) (outer : List Env) (s : Shared) (H : Hp) (E : XK) : Cx :=
  (cxOf CX0 P w K mg base N x scope f cdv A outer s H E).nox
theorem def_runF {x : Str} {st : Stmt} {N ps : List Str} {k : Nat} {fb : FS} {f : Addr} {fd : FuncData} (F : Fun K x x st f fd) (S : FnScope N ps (defScope st))
    (hbody : ∀ (f : Addr) (cdv : Value) (A : Around) (outer : List Env) (s : Shared) (H : Hp) (E : XK), Room k (A.deeper (envOfC x (defScope st) s.heap.objs.size f cdv)) → PSsD (cxD P w K mg base N x (defScope st) f cdv A outer s H E) (defBody st) fb) :
    FnOk P w K mg base CX0 (k + 1) f fd ps (spD K (runF N ps.length fb)) := by
  refine F.ok S (fun vs H Q E h => ?_) (fun cdv A outer s H vs Q E hr h => ?_)
  · obtain ⟨G, ds, d, sG, r, e, _⟩ := h
    rw [← r.length]
    unfold runF at e
    split at e
    · rename_i hl; exact hl
    · cases e
  · obtain ⟨G, ds, d, sG, r, e, q⟩ := h
    obtain ⟨t, pt, kt⟩ := hbody f cdv A outer s H E hr
    refine ⟨t, pt, ?_⟩
    have gr : ∀ {G' H' : Hp}, Stp H G G' H' → Grow G H G' H' := fun a => ⟨a.g, a.b, a.s, a.n⟩
    unfold runF at e
    split at e
    · split at e
      · rename_i eb
        cases e
        refine kt H G H _ _ _ _ sG (Same.refl _) (repS_start r) eb ?_
        cases d with
        | sh d => exact fun v G' H' a rv => q v G' H' (gr a) rv
        | fr m => exact fun p vs G' H' a => q p vs G' H' (gr a)
      · rename_i eb
        cases e
        exact kt H G H _ _ _ _ sG (Same.refl _) (repS_start r) eb fun σ' G' H' a rv => q _ G' H' (gr a) (by simp [Rep])
      · cases e
    · cases e
theorem def_run {x : Str} {st : Stmt} {N ps : List Str} {k : Nat} {fb : FS} (F : DefAt K mg x st) (S : FnScope N ps (defScope st))
    (hb : ∀ (kV doc pm : Value) (an : Option Addr) (cdv ct : Value) (us : List Value), us.length = ps.length → bindArgs (PySem.W.fnOf x x (defArgs st) (defBody st) (defScope st) .none kV doc pm an cdv ct) ⟨us, []⟩ = pure (ps.zip us))
    (hbody : ∀ (f : Addr) (cdv : Value) (A : Around) (outer : List Env) (s : Shared) (H : Hp) (E : XK), Room k (A.deeper (envOfC x (defScope st) s.heap.objs.size f cdv)) → PSsD (cxD P w K mg base N x (defScope st) f cdv A outer s H E) (defBody st) fb) :
    DefOk P w K mg base (k + 1) x ps (runF N ps.length fb) := by
  obtain ⟨f, fd, F, hm⟩ := F
  exact ⟨f, fd, def_runF F S hbody, F.binds hb, F.kp, hm⟩
/-- the law itself, for the head -/
theorem law_at {l : PySem.W.OpenLaw} {w : World} {K : PySem.W.Frag} {mg : Str → Option Value} {fa : Addr} {st : Stmt} {k : Nat} {x : Str} {M : List D → Option Rs} (hfa : mg "law" = some (.ref fa)) (F : DefAt K mg "law" st)
    (hb : ∀ (kV doc pm : Value) (an : Option Addr) (cdv ct : Value) (u : Value), bindArgs (PySem.W.fnOf "law" "law" (defArgs st) (defBody st) (defScope st) .none kV doc pm an cdv ct) ⟨[u], []⟩ = pure [(x, u)])
    (ok : ∀ (f : Addr) (fd : FuncData) (base : Heap), Fun K "law" "law" st f fd → FnOk l.prog w K mg base CX0 k f fd [x] (spD K M)) :
    ∃ fd : FuncData, (∀ (s : Shared) (v : Value), BindsTo s fd ⟨[v], []⟩ [(x, v)]) ∧ ∀ base : Heap, K.In base → base.Ns mainGlobals mg → FnOk l.prog w K mg base CX0 k fa fd [x] (spD K M) := by
  obtain ⟨f, fd, F, hm⟩ := F
  rw [hfa] at hm
  cases hm
  refine ⟨fd, fun s v => ?_, fun base _ _ => ok _ _ base F⟩
  obtain ⟨oc, od, kV, doc, pm, an, cdv, ct, osl, rfl, lk, hcd⟩ := F.ex
  exact .of_eq (hb kV doc pm an cdv ct v)
theorem repL_ints {K : PySem.W.Frag} {H : Hp} : ∀ (ns : List Int), RepL K H (ns.map D.int) (ns.map V.int)
  | [] => by simp [RepL]
  | n :: ns => by
    simp only [List.map_cons, RepL]
    exact ⟨_, _, rfl, by simp [Rep], repL_ints ns⟩
theorem law_sp {K : PySem.W.Frag} {H : Hp} {a : Addr} {ns : List Int} {M : List D → Option Rs} (h : SqL K H a (ns.map V.int)) (e : M [.lst (ns.map D.int)] = some (.sh (.bl true))) : spD K M [.ref a] H (fun v _ => v = .bl true) fun _ _ _ => False := by
  refine ⟨H, [.lst (ns.map D.int)], .sh (.bl true), Same.refl _, ?_, e, fun v G' H' g r => by simpa only [Rep] using r⟩
  simp only [RepL, Rep]
  exact ⟨_, _, rfl, ⟨a, _, rfl, h, repL_ints ns⟩, rfl⟩
theorem globAt_int {h : Heap} {x : Str} {i : Int} {t : Tok} (X : K.In h) (G : h.Ns mainGlobals mg) (a : PySem.W.nsIn K mainGlobals x = some (some (.int i t))) : GlobAt K mg x (.int i) :=
  ⟨.int i, _, PySem.W.mg_of X G a, ⟨t, rfl⟩, fun _ => by simp [Rep]⟩
theorem repL_strs {K : PySem.W.Frag} {H : Hp} : ∀ (ns : List Str), RepL K H (ns.map D.str) (ns.map V.str)
  | [] => by simp [RepL]
  | n :: ns => by
    simp only [List.map_cons, RepL]
    exact ⟨_, _, rfl, by simp [Rep], repL_strs ns⟩
theorem globAt_strs {h : Heap} {x : Str} {a : Addr} {its : Array Value} {n : Nat} {dd : Option Addr} {sl : Array (Option Value)} {ws : List Str} (X : K.In h) (G : h.Ns mainGlobals mg) (e : PySem.W.nsIn K mainGlobals x = some (some (.ref a)))
    (l : K.lookup a = some ⟨.type "tuple", dd, .seq its n, sl⟩) (hs : its.size ≤ sizeLine) (v : Vals (ws.map V.str) its.toList) : GlobAt K mg x (.tup (ws.map D.str)) := by
  refine ⟨.ref a, _, PySem.W.mg_of X G e, rfl, fun G => ?_⟩
  simp only [Rep]
  exact ⟨a, _, rfl, .inr ⟨_, its, n, l, rfl, rfl, hs, v⟩, repL_strs ws⟩
theorem tyOk_int {K : PySem.W.Frag} : IsTyOk K "int" := fun d => by cases d <;> rfl
theorem tyOk_bool {K : PySem.W.Frag} : IsTyOk K "bool" := fun d => by cases d <;> rfl
theorem tyOk_str {K : PySem.W.Frag} : IsTyOk K "str" := fun d => by cases d <;> rfl
theorem tyOk_tuple {K : PySem.W.Frag} : IsTyOk K "tuple" := fun d => by cases d <;> rfl
theorem tyOk_dict {K : PySem.W.Frag} : IsTyOk K "dict" := fun d => by cases d <;> rfl
theorem tyOk_list {K : PySem.W.Frag} : IsTyOk K "list" := fun d => by cases d <;> rfl
end

/-! ### names of the operations, as the generator writes them -/
section
variable {X : Cx}
def leD (x y : D) : Option D := (iCmp (fun i j => decide (i ≤ j)) x y).or (sLe x y)
theorem od_leD : OpD X (compareOp .LtE) leD := od_le.or od_sle
def gtD : D → D → Option D := iCmp fun i j => decide (j < i)
def ltD : D → D → Option D := iCmp fun i j => decide (i < j)
def geD : D → D → Option D := iCmp fun i j => decide (j ≤ i)
def eqLs : D → D → Option D | .lst i, .lst j => if i.all flatD = true ∧ j.all flatD = true then some (.bl (eqVs (i.map toV) (j.map toV))) else none | _, _ => none
theorem od_eqLs (hu : X.A.units + 1 < cLine) : OpD X (compareOp .Eq) eqLs := by
  refine ⟨_, op_eqL hu, fun G H x y v u d Q sG rx ry e k => ?_⟩
  unfold eqLs at e
  split at e
  · split at e
    · rename_i hc
      cases e
      obtain ⟨p1, xs, rfl, q1, r1⟩ := rx.lst sG
      obtain ⟨p2, ys, rfl, q2, r2⟩ := ry.lst sG
      obtain ⟨h1, h2⟩ := repL_flat hc.1 r1
      obtain ⟨h3, h4⟩ := repL_flat hc.2 r2
      subst h1 h3
      exact ⟨p1, p2, _, _, rfl, rfl, q1, q2, h2, h4, k _ G H (Grow.refl sG) (by simp [Rep])⟩
    · cases e
  · cases e
def eqD (x y : D) : Option D := (sEq false x y).or (eqLs x y)
theorem od_eq (hu : X.A.units + 1 < cLine) : OpD X (compareOp .Eq) eqD := od_seq.or (od_eqLs hu)
def neD : D → D → Option D := sEq true
theorem od_ne (hu : X.A.units + 1 < cLine) : OpD X (compareOp .NotEq) neD := od_sne
def mulD : D → D → Option D := iMul
theorem od_mul : OpD X (binaryOp .Mult) mulD := od_imul
def isO (n : Bool) : D → D → Option D := if n then fun _ _ => none else isB
theorem od_is : OpD X (compareOp .Is) (isO false) := od_isB
/-- a list, a tuple, a text, walked -/
theorem pi_any {tg l : Expr} {tl : TE} (hl : PE X l tl) : PI X tg l (fun σ H R => tl σ H fun x H1 => (∃ a, x = .ref a ∧ (∃ xs, SqL X.K H1 a xs) ∧ R (Itl X.K a) H1) ∨ (∃ a, x = .ref a ∧ (∃ xs, SqT X.K H1 a xs) ∧ R (Itt X.K a) H1) ∨ (∃ z, x = .str z ∧ R (Its z) H1)) := by
  intro pins s σ H R I h
  -- the value first, then the walk by its kind
  refine thn (hl pins s σ H _ I h) fun v s1 ⟨x, H1, I1, r1, q1⟩ => ?_
  have lift : ∀ {wi : (It → Hp → Prop) → Prop}, True := fun {_} => trivial
  rcases q1 with ⟨a, e, ⟨xs, hq⟩, q⟩ | ⟨a, e, ⟨xs, hq⟩, q⟩ | ⟨z, e, q⟩
  · subst e
    cases r1
    obtain ⟨its, rv, p, hz⟩ := I1.list hq
    refine wpAny_pyIter_list p.isList ?_
    refine ⟨s1.heap.objs.size, [s1.heap.objs.size], _, _, H1, rfl, I1.kept (t' := s1.toks) fun b o e => Heap.get?_push_of_some _ e, turn_list a _, ⟨_, Heap.get?_push_size _ rfl, rfl, rfl⟩, fun b hb => ?_, q⟩
    have e : b = s1.heap.objs.size := by simpa using hb
    subst e
    exact I1.fpOk (Nat.le_refl _) (I1.hok.fresh (Nat.le_refl _))
  · subst e
    cases r1
    obtain ⟨its, rv, p, hz⟩ := I1.tuple hq
    refine wpAny_pyIter_tuple (show s1.heap.IsTuple a its.toArray from p) ?_
    refine ⟨s1.heap.objs.size, [s1.heap.objs.size], _, _, H1, rfl, I1.kept (t' := s1.toks) fun b o e => Heap.get?_push_of_some _ e, turn_tuple a _, ⟨_, Heap.get?_push_size _ rfl, rfl, rfl⟩, fun b hb => ?_, q⟩
    have e : b = s1.heap.objs.size := by simpa using hb
    subst e
    exact I1.fpOk (Nat.le_refl _) (I1.hok.fresh (Nat.le_refl _))
  · subst e
    obtain ⟨t, rfl⟩ := r1
    have fin : ∀ (T : String) (o : Obj), Turn X.prog X.w X.K tg (Its z) [s1.heap.objs.size] s1.heap.objs.size (fun i h => h.IsStrIter s1.heap.objs.size T z t i) →
        (s1.heap.push o).IsStrIter s1.heap.objs.size T z t 0 → PIE X pins σ tg R (.ref s1.heap.objs.size) { s1 with heap := s1.heap.push o } := fun T o TT st => by
      refine ⟨s1.heap.objs.size, [s1.heap.objs.size], _, _, H1, rfl, I1.kept (t' := s1.toks) fun b o e => Heap.get?_push_of_some _ e, TT, st, fun b hb => ?_, q⟩
      have e : b = s1.heap.objs.size := by simpa using hb
      subst e
      exact I1.fpOk (Nat.le_refl _) (I1.hok.fresh (Nat.le_refl _))
    cases ha : z.cps.all (· < 128)
    · exact wpAny_pyIter_wide ha (fin "str_iterator" _ (turn_str _ _ z t (fun A hA => Walks.strWide hA _ z t) fun A i s Q E st h => wpAny_pyIter_striter_wide st h) ⟨_, Heap.get?_push_size _ rfl, rfl, rfl⟩)
    · exact wpAny_pyIter_ascii ha (fin "str_ascii_iterator" _ (turn_str _ _ z t (fun A hA => Walks.strAscii hA _ z t) fun A i s Q E st h => wpAny_pyIter_striter_ascii st h) ⟨_, Heap.get?_push_size _ rfl, rfl, rfl⟩)
@[simp] def oSeq (f : FE) : En → Option (List D) := fun δ => match f δ with | some (.lst ds) => some ds | some (.tup ds) => some ds | some (.str z) => some (signs z) | _ => none
theorem pid_seq {tg e : Expr} {f : FE} (he : PD X e f) : PID X tg e (oSeq f) := by
  obtain ⟨t, pt, k⟩ := he
  refine ⟨_, pi_any pt, fun B G H δ σ xs R sG rs e q => ?_⟩
  unfold oSeq at e
  split at e
  · rename_i ds e1
    cases e
    refine k B G H δ σ _ _ sG rs e1 fun v G1 H1 g1 r1 => .inl ?_
    simp only [Rep] at r1
    obtain ⟨a, vs, rfl, hq, rl⟩ := r1
    refine ⟨a, rfl, ⟨vs, g1.s.sqL hq⟩, q _ G1 H1 g1 ⟨fun i d G' H' ed a1 b1 => ?_, fun G' H' a1 b1 => ⟨vs, (a1.trans b1).sqL hq, by rw [rl.length]; exact Nat.le_refl _⟩⟩⟩
    obtain ⟨x, ex, rx⟩ := rl.get ed
    refine ⟨⟨vs, x, (a1.trans b1).sqL hq, ex⟩, fun x' H2 y => ⟨y.1, ?_⟩⟩
    have := y.2 vs ((a1.trans b1).sqL hq)
    rw [ex] at this
    cases this
    exact rx.mono a1
  · rename_i ds e1
    cases e
    refine k B G H δ σ _ _ sG rs e1 fun v G1 H1 g1 r1 => .inr (.inl ?_)
    simp only [Rep] at r1
    obtain ⟨a, vs, rfl, hq, rl⟩ := r1
    refine ⟨a, rfl, ⟨vs, g1.s.sqT hq⟩, q _ G1 H1 g1 ⟨fun i d G' H' ed a1 b1 => ?_, fun G' H' a1 b1 => ⟨vs, (a1.trans b1).sqT hq, by rw [rl.length]; exact Nat.le_refl _⟩⟩⟩
    obtain ⟨x, ex, rx⟩ := rl.get ed
    refine ⟨⟨vs, x, (a1.trans b1).sqT hq, ex⟩, fun x' H2 y => ⟨y.1, ?_⟩⟩
    have := y.2 vs ((a1.trans b1).sqT hq)
    rw [ex] at this
    cases this
    exact rx.mono a1
  · rename_i z e1
    cases e
    refine k B G H δ σ _ _ sG rs e1 fun v G1 H1 g1 r1 => .inr (.inr ?_)
    simp only [Rep] at r1
    refine ⟨z, r1, q _ G1 H1 g1 ⟨fun i d G' H' ed a1 b1 => ?_, fun G' H' a1 b1 => ?_⟩⟩
    · unfold signs at ed
      rw [List.getElem?_map] at ed
      obtain ⟨c, ec, rfl⟩ := Option.map_eq_some_iff.mp ed
      have ec' : z.cps[i]? = some c := by simpa using ec
      refine ⟨?_, fun x' H2 y => ?_⟩
      · show i < z.cps.size
        obtain ⟨hi, _⟩ := Array.getElem?_eq_some_iff.mp ec'
        exact hi
      · obtain ⟨y1, c', ec2, rfl⟩ := y
        rw [ec'] at ec2
        cases ec2
        exact ⟨y1, by simp [Rep]⟩
    · show (signs z).length = z.cps.size
      simp [signs]
  · cases e
/-- -i -/
@[simp] def f1 (o : D → Option D) (f : FE) : FE := fun δ => (f δ).bind o
def negD : D → Option D | .int i => some (.int (-i)) | _ => none
theorem pd_neg {e : Expr} {f : FE} {pos : Pos} (he : PD X e f) : PD X (.UnaryOp .USub e pos) (f1 negD f) := by
  obtain ⟨t, pt, k1⟩ := he
  refine ⟨_, pe_un un_neg pt, fun B G H δ σ d Q sG rs ef k => ?_⟩
  unfold f1 at ef
  obtain ⟨x, e1, ef⟩ := Option.bind_eq_some_iff.mp ef
  unfold negD at ef
  split at ef
  · cases ef
    exact k1 B G H δ σ _ _ sG rs e1 fun v G1 H1 g1 r1 => ⟨_, by simpa only [Rep] using r1, k _ G1 H1 g1 (by simp [Rep])⟩
  · cases ef
end
end L2

-- part Ly5
set_option Elab.async false
set_option linter.all false
set_option maxRecDepth 100000
set_option maxHeartbeats 4000000
namespace L2
open PySem PySem.Spec PyProof.Rows

/-! ### == of data, however deep -/
mutual
def eqA : D → D → Bool
  | .tup xs, y => match y with | .tup ys => eqAs xs ys | _ => false
  | .lst xs, y => match y with | .lst ys => eqAs xs ys | _ => false
  | .dic _ _, _ => false
  | .non, y => if flatD y = true then eqV .non (toV y) else false
  | .bl b, y => if flatD y = true then eqV (.bl b) (toV y) else false
  | .int i, y => if flatD y = true then eqV (.int i) (toV y) else false
  | .str x, y => if flatD y = true then eqV (.str x) (toV y) else false
def eqAs : List D → List D → Bool
  | [], ys => ys.isEmpty
  | x :: xs, ys => match ys with | [] => false | y :: ys => eqA x y && eqAs xs ys
end
/-- no dict in it, at most n deep -/
def plainN : Nat → D → Bool
  | _, .dic _ _ => false
  | 0, .tup _ => false
  | 0, .lst _ => false
  | n + 1, .tup xs => xs.all (plainN n)
  | n + 1, .lst xs => xs.all (plainN n)
  | _, _ => true
theorem eqA_flat {x y : D} (hx : flatD x = true) (hy : flatD y = true) : eqA x y = eqV (toV x) (toV y) := by
  cases x with
  | tup _ => cases hx
  | lst _ => cases hx
  | dic _ _ => cases hx
  | _ => simp only [eqA, hy, if_true, toV]
theorem eqA_flat' {x y : D} (hx : flatD x = true) (hy : flatD y = false) : eqA x y = false := by
  cases x with
  | tup _ => cases hx
  | lst _ => cases hx
  | dic _ _ => cases hx
  | _ => simp only [eqA, hy, Bool.false_eq_true, if_false]
theorem eqV_refl {v : V} (h : flatV v = true) : eqV v v = true := by
  cases v with
  | non => rfl
  | bl b => simp [eqV]
  | int b => simp [eqV]
  | str b => simp [eqV]
  | _ => cases h
theorem eqAs_ne : ∀ {xs ys : List D}, xs.length ≠ ys.length → eqAs xs ys = false
  | [], [], h => absurd rfl h
  | [], _ :: _, _ => by simp [eqAs]
  | _ :: _, [], _ => by simp [eqAs]
  | x :: xs, y :: ys, h => by
    simp only [eqAs]
    rw [eqAs_ne (fun z => h (by simp [z])), Bool.and_false]
theorem eqAs_all : ∀ {xs ys : List D}, xs.length = ys.length → eqAs xs ys = (List.range xs.length).all fun j => eqA (xs.getD j .non) (ys.getD j .non)
  | [], [], _ => by simp [eqAs]
  | x :: xs, y :: ys, h => by
    simp only [eqAs]
    rw [eqAs_all (show xs.length = ys.length by simpa using h), List.length_cons, List.range_succ_eq_map, List.all_cons, List.all_map]
    rfl
section
variable {X : Cx} {pins : List (Addr × Obj)} {σ : St} {H : Hp} {s : Shared}
theorem flat_of {x : D} (h1 : ∀ xs, x ≠ .tup xs) (h2 : ∀ xs, x ≠ .lst xs) (h3 : ∀ ks xs, x ≠ .dic ks xs) : flatD x = true := by
  cases x with
  | tup xs => exact absurd rfl (h1 xs)
  | lst xs => exact absurd rfl (h2 xs)
  | dic ks xs => exact absurd rfl (h3 ks xs)
  | _ => rfl
/-- two data at one value are equal -/
theorem eqA_same (I : Inv X pins σ H s) : ∀ (n : Nat) {x y : D} {v : V}, plainN n x = true → plainN n y = true → Rep X.K H x v → Rep X.K H y v → eqA x y = true := by
  intro n
  have flatcase : ∀ {x y : D} {v : V}, flatD x = true → Rep X.K H x v → Rep X.K H y v → eqA x y = true := fun {x y v} hx rx ry => by
    have h1 := rep_flat hx rx
    have hy : flatD y = true := by
      cases y with
      | tup ys => simp only [Rep] at ry; obtain ⟨a, us, e, _⟩ := ry; exact absurd (h1.1.symm.trans e) (by cases x with | tup _ => cases hx | lst _ => cases hx | dic _ _ => cases hx | _ => intro z; cases z)
      | lst ys => simp only [Rep] at ry; obtain ⟨a, us, e, _⟩ := ry; exact absurd (h1.1.symm.trans e) (by cases x with | tup _ => cases hx | lst _ => cases hx | dic _ _ => cases hx | _ => intro z; cases z)
      | dic ks ys => simp only [Rep] at ry; obtain ⟨a, us, e, _⟩ := ry; exact absurd (h1.1.symm.trans e) (by cases x with | tup _ => cases hx | lst _ => cases hx | dic _ _ => cases hx | _ => intro z; cases z)
      | _ => rfl
    have h2 := rep_flat hy ry
    rw [eqA_flat hx hy, ← h1.1, ← h2.1]
    exact eqV_refl h1.2
  induction n with
  | zero =>
    intro x y v px py rx ry
    cases x with
    | tup xs => cases px
    | lst xs => cases px
    | dic ks xs => cases px
    | _ => exact flatcase rfl rx ry
  | succ n ih =>
    intro x y v px py rx ry
    have lists : ∀ {xs ys : List D} {vs : List V}, xs.all (plainN n) = true → ys.all (plainN n) = true → RepL X.K H xs vs → RepL X.K H ys vs → eqAs xs ys = true := by
      intro xs
      induction xs with
      | nil =>
        intro ys vs _ _ r1 r2
        simp only [RepL] at r1
        subst r1
        cases ys with
        | nil => simp [eqAs]
        | cons y ys => simp only [RepL] at r2; obtain ⟨_, _, e, _⟩ := r2; cases e
      | cons x xs ih2 =>
        intro ys vs p1 p2 r1 r2
        simp only [RepL] at r1
        obtain ⟨v, us, rfl, q1, q2⟩ := r1
        cases ys with
        | nil => simp only [RepL] at r2; cases r2
        | cons y ys =>
          simp only [RepL] at r2
          obtain ⟨v2, us2, e, q3, q4⟩ := r2
          cases e
          rw [List.all_cons, Bool.and_eq_true] at p1 p2
          simp only [eqAs]
          rw [ih p1.1 p2.1 q1 q3, ih2 p1.2 p2.2 q2 q4]
          rfl
    cases x with
    | tup xs =>
      simp only [Rep] at rx
      obtain ⟨a, vs, rfl, h1, h2⟩ := rx
      cases y with
      | tup ys =>
        simp only [Rep] at ry
        obtain ⟨b, us, e, h3, h4⟩ := ry
        cases e
        obtain rfl := I.tuple_inj h1 h3
        simp only [eqA]
        exact lists px py h2 h4
      | lst ys =>
        simp only [Rep] at ry
        obtain ⟨b, us, e, h3, h4⟩ := ry
        cases e
        obtain ⟨_, _, p1, _⟩ := I.tuple h1
        obtain ⟨_, _, p2, _⟩ := I.list h3
        obtain ⟨o1, g1, c1, _⟩ := p1
        obtain ⟨o2, g2, c2, _⟩ := p2.isList
        rw [g1] at g2; cases g2; rw [c1] at c2; exact absurd (Value.type.inj c2) (by decide)
      | dic ks ys => cases py
      | _ => simp only [Rep] at ry; cases ry
    | lst xs =>
      simp only [Rep] at rx
      obtain ⟨a, vs, rfl, h1, h2⟩ := rx
      cases y with
      | lst ys =>
        simp only [Rep] at ry
        obtain ⟨b, us, e, h3, h4⟩ := ry
        cases e
        obtain rfl := I.list_inj h1 h3
        simp only [eqA]
        exact lists px py h2 h4
      | tup ys =>
        simp only [Rep] at ry
        obtain ⟨b, us, e, h3, h4⟩ := ry
        cases e
        obtain ⟨_, _, p1, _⟩ := I.tuple h3
        obtain ⟨_, _, p2, _⟩ := I.list h1
        obtain ⟨o1, g1, c1, _⟩ := p1
        obtain ⟨o2, g2, c2, _⟩ := p2.isList
        rw [g1] at g2; cases g2; rw [c1] at c2; exact absurd (Value.type.inj c2) (by decide)
      | dic ks ys => cases py
      | _ => simp only [Rep] at ry; cases ry
    | dic ks xs => cases px
    | _ => exact flatcase rfl rx ry
theorem in1_units (A : Around) : A.in1.units = A.units + 1 := rfl
/-- == at the machine's own test -/
theorem eqAt_A (I : Inv X pins σ H s) : ∀ (n : Nat) {x y : D} {v v' : V} {u u' : Value} {A : Around}, plainN n x = true → plainN n y = true → Rep X.K H x v → Rep X.K H y v' → RelV v u → RelV v' u' → A.units + n < cLine → SeqAt.EqAt A s u u' (eqA x y) := by
  intro n
  -- a scalar and anything of no depth
  have ff : ∀ {x y : D} {v v' : V} {u u' : Value} {A : Around}, flatD x = true → flatD y = true → Rep X.K H x v → Rep X.K H y v' → RelV v u → RelV v' u' → SeqAt.EqAt A s u u' (eqA x y) := fun {x y v v' u u' A} hx hy rx ry r r' => by
    have h1 := rep_flat hx rx
    have h2 := rep_flat hy ry
    rw [eqA_flat hx hy, ← h1.1, ← h2.1]
    exact eqAt_V r r' h1.2 h2.2
  induction n with
  | zero =>
    intro x y v v' u u' A px py rx ry r r' hu
    refine ff ?_ ?_ rx ry r r'
    · cases x <;> first | rfl | cases px
    · cases y <;> first | rfl | cases py
  | succ n ih =>
    intro x y v v' u u' A px py rx ry r r' hu
    have hu' : A.units < cLine := by omega
    have items : ∀ {xs ys : List D} {vs us : List V} {its its2 : List Value}, xs.all (plainN n) = true → ys.all (plainN n) = true → RepL X.K H xs vs → RepL X.K H ys us → Vals vs its → Vals us its2 →
        ∀ j (h1 : j < its.toArray.size) (h2 : j < its2.toArray.size), SeqAt.EqAt A.in1 s its.toArray[j] its2.toArray[j] (eqA (xs.getD j .non) (ys.getD j .non)) := fun {xs ys vs us its its2} p1 p2 r1 r2 v1 v2 j h1 h2 => by
      have l1 := r1.length
      have l2 := r2.length
      have l3 := v1.length
      have l4 := v2.length
      have j1 : j < xs.length := by simp at h1; omega
      have j2 : j < ys.length := by simp at h2; omega
      have e1 : xs[j]? = some (xs.getD j .non) := by rw [List.getD_eq_getElem?_getD, List.getElem?_eq_getElem j1]; rfl
      have e2 : ys[j]? = some (ys.getD j .non) := by rw [List.getD_eq_getElem?_getD, List.getElem?_eq_getElem j2]; rfl
      obtain ⟨w1, g1, q1⟩ := r1.get e1
      obtain ⟨w2, g2, q2⟩ := r2.get e2
      obtain ⟨u1, k1, k2⟩ := v1.get g1
      obtain ⟨u2, k3, k4⟩ := v2.get g2
      have t1 : its.toArray[j] = u1 := by
        obtain ⟨_, z⟩ := List.getElem?_eq_some_iff.mp k1
        simpa using z
      have t2 : its2.toArray[j] = u2 := by
        obtain ⟨_, z⟩ := List.getElem?_eq_some_iff.mp k3
        simpa using z
      rw [t1, t2]
      exact ih (List.all_eq_true.mp p1 _ (List.mem_of_getElem? e1)) (List.all_eq_true.mp p2 _ (List.mem_of_getElem? e2)) q1 q2 k2 k4 (by rw [in1_units]; omega)
    have tups : ∀ {xs ys : List D}, plainN (n + 1) (.tup xs) = true → plainN (n + 1) (.tup ys) = true → Rep X.K H (.tup xs) v → Rep X.K H (.tup ys) v' → SeqAt.EqAt A s u u' (eqA (.tup xs) (.tup ys)) := fun {xs ys} px py rx ry => by
      have rx0 := rx
      have ry0 := ry
      simp only [Rep] at rx ry
      obtain ⟨a, vs, rfl, h1, h2⟩ := rx
      obtain ⟨b, us, rfl, h3, h4⟩ := ry
      cases r
      cases r'
      by_cases hab : a = b
      · subst hab
        rw [eqA_same I (n + 1) px py rx0 ry0]
        exact SeqAt.EqAt.same _
      · obtain ⟨its, v1, p1, _⟩ := I.tuple h1
        obtain ⟨its2, v2, p2, _⟩ := I.tuple h3
        have q := SeqAt.RcAt.tuples (e := fun j => eqA (xs.getD j .non) (ys.getD j .non)) p1 p2 hu' (items px py h2 h4 v1 v2)
        have e : ((List.range (min its.toArray.size its2.toArray.size)).all (fun j => eqA (xs.getD j .non) (ys.getD j .non)) && its.toArray.size == its2.toArray.size) = eqA (.tup xs) (.tup ys) := by
          have l1 := h2.length
          have l2 := h4.length
          have l3 := v1.length
          have l4 := v2.length
          simp only [eqA]
          by_cases hl : xs.length = ys.length
          · rw [eqAs_all hl]
            have : min its.toArray.size its2.toArray.size = xs.length := by simp; omega
            rw [this]
            have : (its.toArray.size == its2.toArray.size) = true := by simp; omega
            rw [this, Bool.and_true]
          · rw [eqAs_ne hl]
            have : (its.toArray.size == its2.toArray.size) = false := by simp; omega
            rw [this, Bool.and_false]
        rw [e] at q
        exact SeqAt.EqAt.of_refs hab q
    have lsts : ∀ {xs ys : List D}, plainN (n + 1) (.lst xs) = true → plainN (n + 1) (.lst ys) = true → Rep X.K H (.lst xs) v → Rep X.K H (.lst ys) v' → SeqAt.EqAt A s u u' (eqA (.lst xs) (.lst ys)) := fun {xs ys} px py rx ry => by
      have rx0 := rx
      have ry0 := ry
      simp only [Rep] at rx ry
      obtain ⟨a, vs, rfl, h1, h2⟩ := rx
      obtain ⟨b, us, rfl, h3, h4⟩ := ry
      cases r
      cases r'
      by_cases hab : a = b
      · subst hab
        rw [eqA_same I (n + 1) px py rx0 ry0]
        exact SeqAt.EqAt.same _
      · obtain ⟨its, v1, p1, _⟩ := I.list h1
        obtain ⟨its2, v2, p2, _⟩ := I.list h3
        have l1 := h2.length
        have l2 := h4.length
        have l3 := v1.length
        have l4 := v2.length
        simp only [eqA]
        by_cases hl : xs.length = ys.length
        · have q := SeqAt.RcAt.lists (e := fun j => eqA (xs.getD j .non) (ys.getD j .non)) p1.isList p2.isList (by simp; omega) hu' (items px py h2 h4 v1 v2)
          rw [eqAs_all hl]
          have : its.toArray.size = xs.length := by simp; omega
          rw [this] at q
          exact SeqAt.EqAt.of_refs hab q
        · rw [eqAs_ne hl]
          exact SeqAt.EqAt.of_refs hab (SeqAt.RcAt.lists_lengths p1.isList p2.isList (by simp; omega) hu')
    have tupAt : ∀ {xs : List D} {v : V} {u : Value}, Rep X.K H (.tup xs) v → RelV v u → ∃ a its, u = .ref a ∧ s.heap.IsTuple a its := fun {xs v u} h r => by
      simp only [Rep] at h
      obtain ⟨a, vs, rfl, h1, h2⟩ := h
      cases r
      obtain ⟨its, _, p, _⟩ := I.tuple h1
      exact ⟨a, _, rfl, p⟩
    have lstAt : ∀ {xs : List D} {v : V} {u : Value}, Rep X.K H (.lst xs) v → RelV v u → ∃ a its, u = .ref a ∧ s.heap.IsList a its := fun {xs v u} h r => by
      simp only [Rep] at h
      obtain ⟨a, vs, rfl, h1, h2⟩ := h
      cases r
      obtain ⟨its, _, p, _⟩ := I.list h1
      exact ⟨a, _, rfl, p.isList⟩
    cases x with
    | dic ks xs => cases px
    | tup xs =>
      cases y with
      | dic ks ys => cases py
      | tup ys => exact tups px py rx ry
      | lst ys =>
        obtain ⟨a, i1, rfl, t1⟩ := tupAt rx r
        obtain ⟨b, i2, rfl, t2⟩ := lstAt ry r'
        exact SeqAt.EqAt.tuple_list t1 t2 hu'
      | non => obtain ⟨a, i1, rfl, t1⟩ := tupAt rx r; simp only [Rep] at ry; subst ry; cases r'; exact SeqAt.EqAt.tuple_none t1 hu'
      | bl b => obtain ⟨a, i1, rfl, t1⟩ := tupAt rx r; simp only [Rep] at ry; subst ry; cases r'; exact SeqAt.EqAt.tuple_bool b t1 hu'
      | int b => obtain ⟨a, i1, rfl, t1⟩ := tupAt rx r; simp only [Rep] at ry; subst ry; obtain ⟨t, rfl⟩ := r'; exact SeqAt.EqAt.tuple_int b t t1 hu'
      | str b => obtain ⟨a, i1, rfl, t1⟩ := tupAt rx r; simp only [Rep] at ry; subst ry; obtain ⟨t, rfl⟩ := r'; exact SeqAt.EqAt.tuple_str b t t1 hu'
    | lst xs =>
      cases y with
      | dic ks ys => cases py
      | lst ys => exact lsts px py rx ry
      | tup ys =>
        obtain ⟨a, i1, rfl, t1⟩ := lstAt rx r
        obtain ⟨b, i2, rfl, t2⟩ := tupAt ry r'
        exact SeqAt.EqAt.list_tuple t1 t2 hu'
      | non => obtain ⟨a, i1, rfl, t1⟩ := lstAt rx r; simp only [Rep] at ry; subst ry; cases r'; exact SeqAt.EqAt.list_none t1 hu'
      | bl b => obtain ⟨a, i1, rfl, t1⟩ := lstAt rx r; simp only [Rep] at ry; subst ry; cases r'; exact SeqAt.EqAt.list_bool b t1 hu'
      | int b => obtain ⟨a, i1, rfl, t1⟩ := lstAt rx r; simp only [Rep] at ry; subst ry; obtain ⟨t, rfl⟩ := r'; exact SeqAt.EqAt.list_int b t t1 hu'
      | str b => obtain ⟨a, i1, rfl, t1⟩ := lstAt rx r; simp only [Rep] at ry; subst ry; obtain ⟨t, rfl⟩ := r'; exact SeqAt.EqAt.list_str b t t1 hu'
    | non =>
      cases y with
      | dic ks ys => cases py
      | tup ys => obtain ⟨a, i1, rfl, t1⟩ := tupAt ry r'; simp only [Rep] at rx; subst rx; cases r; exact SeqAt.EqAt.none_tuple t1 hu'
      | lst ys => obtain ⟨a, i1, rfl, t1⟩ := lstAt ry r'; simp only [Rep] at rx; subst rx; cases r; exact SeqAt.EqAt.none_list t1 hu'
      | _ => exact ff rfl rfl rx ry r r'
    | bl b =>
      cases y with
      | dic ks ys => cases py
      | tup ys => obtain ⟨a, i1, rfl, t1⟩ := tupAt ry r'; simp only [Rep] at rx; subst rx; cases r; exact SeqAt.EqAt.bool_tuple b t1 hu'
      | lst ys => obtain ⟨a, i1, rfl, t1⟩ := lstAt ry r'; simp only [Rep] at rx; subst rx; cases r; exact SeqAt.EqAt.bool_list b t1 hu'
      | _ => exact ff rfl rfl rx ry r r'
    | int b =>
      cases y with
      | dic ks ys => cases py
      | tup ys => obtain ⟨a, i1, rfl, t1⟩ := tupAt ry r'; simp only [Rep] at rx; subst rx; obtain ⟨t, rfl⟩ := r; exact SeqAt.EqAt.int_tuple b t t1 hu'
      | lst ys => obtain ⟨a, i1, rfl, t1⟩ := lstAt ry r'; simp only [Rep] at rx; subst rx; obtain ⟨t, rfl⟩ := r; exact SeqAt.EqAt.int_list b t t1 hu'
      | _ => exact ff rfl rfl rx ry r r'
    | str b =>
      cases y with
      | dic ks ys => cases py
      | tup ys => obtain ⟨a, i1, rfl, t1⟩ := tupAt ry r'; simp only [Rep] at rx; subst rx; obtain ⟨t, rfl⟩ := r; exact SeqAt.EqAt.str_tuple b t t1 hu'
      | lst ys => obtain ⟨a, i1, rfl, t1⟩ := lstAt ry r'; simp only [Rep] at rx; subst rx; obtain ⟨t, rfl⟩ := r; exact SeqAt.EqAt.str_list b t t1 hu'
      | _ => exact ff rfl rfl rx ry r r'
end
end L2

-- part Ly6
set_option Elab.async false
set_option linter.all false
set_option maxRecDepth 100000
set_option maxHeartbeats 4000000
namespace L2
open PySem PySem.Spec PyProof.Rows
section
variable {X : Cx} {pins : List (Addr × Obj)} {σ : St} {H : Hp} {s : Shared}
theorem items_A (I : Inv X pins σ H s) (n : Nat) {A : Around} (hu : A.units + n < cLine) {xs ys : List D} {vs us : List V} {its its2 : List Value} (p1 : xs.all (plainN n) = true) (p2 : ys.all (plainN n) = true) (r1 : RepL X.K H xs vs) (r2 : RepL X.K H ys us) (v1 : Vals vs its) (v2 : Vals us its2) :
    ∀ j (h1 : j < its.toArray.size) (h2 : j < its2.toArray.size), SeqAt.EqAt A s its.toArray[j] its2.toArray[j] (eqA (xs.getD j .non) (ys.getD j .non)) := fun j h1 h2 => by
  have l1 := r1.length
  have l2 := r2.length
  have l3 := v1.length
  have l4 := v2.length
  have j1 : j < xs.length := by simp at h1; omega
  have j2 : j < ys.length := by simp at h2; omega
  have e1 : xs[j]? = some (xs.getD j .non) := by rw [List.getD_eq_getElem?_getD, List.getElem?_eq_getElem j1]; rfl
  have e2 : ys[j]? = some (ys.getD j .non) := by rw [List.getD_eq_getElem?_getD, List.getElem?_eq_getElem j2]; rfl
  obtain ⟨w1, g1, q1⟩ := r1.get e1
  obtain ⟨w2, g2, q2⟩ := r2.get e2
  obtain ⟨u1, k1, k2⟩ := v1.get g1
  obtain ⟨u2, k3, k4⟩ := v2.get g2
  have t1 : its.toArray[j] = u1 := by
    obtain ⟨_, z⟩ := List.getElem?_eq_some_iff.mp k1
    simpa using z
  have t2 : its2.toArray[j] = u2 := by
    obtain ⟨_, z⟩ := List.getElem?_eq_some_iff.mp k3
    simpa using z
  rw [t1, t2]
  exact eqAt_A I n (List.all_eq_true.mp p1 _ (List.mem_of_getElem? e1)) (List.all_eq_true.mp p2 _ (List.mem_of_getElem? e2)) q1 q2 k2 k4 hu
theorem tups_eq {xs ys : List D} {its its2 : List Value} (l1 : xs.length = its.length) (l2 : ys.length = its2.length) :
    ((List.range (min its.toArray.size its2.toArray.size)).all (fun j => eqA (xs.getD j .non) (ys.getD j .non)) && its.toArray.size == its2.toArray.size) = eqAs xs ys := by
  by_cases hl : xs.length = ys.length
  · rw [eqAs_all hl]
    have : min its.toArray.size its2.toArray.size = xs.length := by simp; omega
    rw [this]
    have : (its.toArray.size == its2.toArray.size) = true := by simp; omega
    rw [this, Bool.and_true]
  · rw [eqAs_ne hl]
    have : (its.toArray.size == its2.toArray.size) = false := by simp; omega
    rw [this, Bool.and_false]
end
section
variable {X : Cx}
/-- two tuples, two lists: == and != -/
def rEqT (K : PySem.W.Frag) (neg : Bool) : R2 := fun v u H Q => ∃ xs ys, Rep K H (.tup xs) v ∧ Rep K H (.tup ys) u ∧ xs.all (plainN 8) = true ∧ ys.all (plainN 8) = true ∧ Q (.bl (if neg then !eqAs xs ys else eqAs xs ys)) H
def rEqLs (K : PySem.W.Frag) (neg : Bool) : R2 := fun v u H Q => ∃ xs ys, Rep K H (.lst xs) v ∧ Rep K H (.lst ys) u ∧ xs.all (plainN 8) = true ∧ ys.all (plainN 8) = true ∧ Q (.bl (if neg then !eqAs xs ys else eqAs xs ys)) H
theorem op_eqT (hu : X.A.units + 20 < cLine) : OpR X (compareOp .Eq) (rEqT X.K false) := by
  intro pins s σ H x y v u Q I rx ry h
  obtain ⟨xs, ys, r1, r2, p1, p2, q⟩ := h
  simp only [Rep] at r1 r2
  obtain ⟨a, vs, rfl, h1, h2⟩ := r1
  obtain ⟨b, us, rfl, h3, h4⟩ := r2
  cases rx
  cases ry
  obtain ⟨its, v1, t1, _⟩ := I.tuple h1
  obtain ⟨its2, v2, t2, _⟩ := I.tuple h3
  refine SeqAt.eq_tupleAt (e := fun j => eqA (xs.getD j .non) (ys.getD j .non)) t1 t2 (by omega) (items_A I 8 (by rw [in1_units]; omega) p1 p2 h2 h4 v1 v2) ?_
  rw [tups_eq (h2.length.trans v1.length) (h4.length.trans v2.length)]
  exact ⟨.bl _, H, I, rfl, q⟩
theorem op_neT (hu : X.A.units + 20 < cLine) : OpR X (compareOp .NotEq) (rEqT X.K true) := by
  intro pins s σ H x y v u Q I rx ry h
  obtain ⟨xs, ys, r1, r2, p1, p2, q⟩ := h
  simp only [Rep] at r1 r2
  obtain ⟨a, vs, rfl, h1, h2⟩ := r1
  obtain ⟨b, us, rfl, h3, h4⟩ := r2
  cases rx
  cases ry
  obtain ⟨its, v1, t1, _⟩ := I.tuple h1
  obtain ⟨its2, v2, t2, _⟩ := I.tuple h3
  refine SeqAt.RcNeAt.tuples (e := fun j => eqA (xs.getD j .non) (ys.getD j .non)) t1 t2 (by omega) (items_A I 8 (by rw [in1_units]; omega) p1 p2 h2 h4 v1 v2) _ _ _ _ ?_
  rw [tups_eq (h2.length.trans v1.length) (h4.length.trans v2.length)]
  exact ⟨.bl _, H, I, rfl, q⟩
theorem op_eqLs' (hu : X.A.units + 20 < cLine) : OpR X (compareOp .Eq) (rEqLs X.K false) := by
  intro pins s σ H x y v u Q I rx ry h
  obtain ⟨xs, ys, r1, r2, p1, p2, q⟩ := h
  simp only [Rep] at r1 r2
  obtain ⟨a, vs, rfl, h1, h2⟩ := r1
  obtain ⟨b, us, rfl, h3, h4⟩ := r2
  cases rx
  cases ry
  obtain ⟨its, v1, t1, _⟩ := I.list h1
  obtain ⟨its2, v2, t2, _⟩ := I.list h3
  have l1 := h2.length.trans v1.length
  have l2 := h4.length.trans v2.length
  by_cases hl : xs.length = ys.length
  · refine SeqAt.eq_listAt (e := fun j => eqA (xs.getD j .non) (ys.getD j .non)) t1.isList t2.isList (by simp; omega) (by omega) (items_A I 8 (by rw [in1_units]; omega) p1 p2 h2 h4 v1 v2) ?_
    have e := eqAs_all hl
    have : its.toArray.size = xs.length := by simp; omega
    rw [this, ← e]
    exact ⟨.bl _, H, I, rfl, q⟩
  · refine SeqAt.eq_list_lengthsAt t1.isList t2.isList (by simp; omega) (by omega) ⟨.bl _, H, I, rfl, ?_⟩
    rw [eqAs_ne hl] at q
    exact q
theorem op_neLs' (hu : X.A.units + 20 < cLine) : OpR X (compareOp .NotEq) (rEqLs X.K true) := by
  intro pins s σ H x y v u Q I rx ry h
  obtain ⟨xs, ys, r1, r2, p1, p2, q⟩ := h
  simp only [Rep] at r1 r2
  obtain ⟨a, vs, rfl, h1, h2⟩ := r1
  obtain ⟨b, us, rfl, h3, h4⟩ := r2
  cases rx
  cases ry
  obtain ⟨its, v1, t1, _⟩ := I.list h1
  obtain ⟨its2, v2, t2, _⟩ := I.list h3
  have l1 := h2.length.trans v1.length
  have l2 := h4.length.trans v2.length
  by_cases hl : xs.length = ys.length
  · refine SeqAt.RcNeAt.lists (e := fun j => eqA (xs.getD j .non) (ys.getD j .non)) t1.isList t2.isList (by simp; omega) (by omega) (items_A I 8 (by rw [in1_units]; omega) p1 p2 h2 h4 v1 v2) _ _ _ _ ?_
    have e := eqAs_all hl
    have : its.toArray.size = xs.length := by simp; omega
    rw [this, ← e]
    exact ⟨.bl _, H, I, rfl, q⟩
  · refine SeqAt.RcNeAt.lists_lengths t1.isList t2.isList (by simp; omega) (by omega) _ _ _ _ ⟨.bl _, H, I, rfl, ?_⟩
    rw [eqAs_ne hl] at q
    exact q
def eqSeq (neg : Bool) : D → D → Option D
  | .tup xs, .tup ys => if xs.all (plainN 8) = true ∧ ys.all (plainN 8) = true then some (.bl (if neg then !eqAs xs ys else eqAs xs ys)) else none
  | .lst xs, .lst ys => if xs.all (plainN 8) = true ∧ ys.all (plainN 8) = true then some (.bl (if neg then !eqAs xs ys else eqAs xs ys)) else none
  | _, _ => none
theorem od_eqSeq {f : Value → Value → Sem Value} {neg : Bool} (h1 : OpR X f (rEqT X.K neg)) (h2 : OpR X f (rEqLs X.K neg)) : OpD X f (eqSeq neg) := by
  refine ⟨_, h1.or h2, fun G H x y v u d Q sG rx ry e k => ?_⟩
  unfold eqSeq at e
  split at e
  · split at e
    · rename_i hc
      cases e
      exact .inl ⟨_, _, rx.all sG, ry.all sG, hc.1, hc.2, k _ G H (Grow.refl sG) (by simp [Rep])⟩
    · cases e
  · split at e
    · rename_i hc
      cases e
      exact .inr ⟨_, _, rx.all sG, ry.all sG, hc.1, hc.2, k _ G H (Grow.refl sG) (by simp [Rep])⟩
    · cases e
  · cases e
/-! ### two dicts -/
def eqDic (ks : List Key) (xs : List D) (ls : List Key) (ys : List D) : Bool := xs.length == ys.length && (ks.zip xs).all fun kv => match valD ls ys kv.1 with | some y => eqA kv.2 y | none => false
theorem hits_D {pins : List (Addr × Obj)} {σ : St} {H : Hp} {s : Shared} (I : Inv X pins σ H s) {A : Around} (hu : A.units + 8 < cLine) {ls : List Key} {ys : List D} {ws : List V} {kb : List (Key × Value)} (hl : ls.length = ys.length) (r2 : RepL X.K H ys ws) (p2 : ys.all (plainN 8) = true) (vb : KV (ls.zip ws) kb) :
    ∀ {ks : List Key} {xs : List D} {vs : List V} {ka : List (Key × Value)}, ks.length = xs.length → RepL X.K H xs vs → xs.all (plainN 8) = true → KV (ks.zip vs) ka →
      PySem.W.KeqHits A s kb ka ((ks.zip xs).all fun kv => match valD ls ys kv.1 with | some y => eqA kv.2 y | none => false) := by
  intro ks
  induction ks with
  | nil =>
    intro xs vs ka _ _ _ va
    simp only [List.zip_nil_left] at va
    cases va
    exact .nil
  | cons k ks ih =>
    intro xs vs ka hl' r1 p1 va
    cases xs with
    | nil => cases hl'
    | cons x xs =>
      simp only [RepL] at r1
      obtain ⟨v, us, rfl, q1, q2⟩ := r1
      rw [List.all_cons, Bool.and_eq_true] at p1
      simp only [List.zip_cons_cons] at va
      cases va with
      | @cons p q l1 l2 hp ht =>
        obtain ⟨k', u⟩ := q
        obtain ⟨e1, ru⟩ := hp
        have e1 : k = k' := e1
        subst e1
        have ru : RelV v u := ru
        rw [List.zip_cons_cons, List.all_cons]
        dsimp only
        have hv := valD_rep k hl r2
        have hw := vb.val k
        cases ev : valD ls ys k with
        | none =>
          rw [hv.2 ev] at hw
          exact .miss hw.none_of
        | some y =>
          obtain ⟨w', e3, r3⟩ := hv.1 y ev
          rw [e3] at hw
          obtain ⟨u', e4, r4⟩ := hw.some_of
          have py : plainN 8 y = true := by
            refine List.all_eq_true.mp p2 y ?_
            unfold valD at ev
            obtain ⟨kv, hkv, rfl⟩ := Option.map_eq_some_iff.mp ev
            exact (List.of_mem_zip (List.mem_of_find?_eq_some hkv)).2
          exact .hit e4 (eqAt_A I 8 p1.1 py q1 r3 ru r4 hu) (ih (by simpa using hl') q2 p1.2 ht)
def rEqDc (K : PySem.W.Frag) (neg : Bool) : R2 := fun v u H Q => ∃ ks xs ls ys, Rep K H (.dic ks xs) v ∧ Rep K H (.dic ls ys) u ∧ xs.all (plainN 8) = true ∧ ys.all (plainN 8) = true ∧ Q (.bl (if neg then !eqDic ks xs ls ys else eqDic ks xs ls ys)) H
theorem dic_at {pins : List (Addr × Obj)} {σ : St} {H : Hp} {s : Shared} (I : Inv X pins σ H s) {ks : List Key} {xs : List D} {v : V} (h : Rep X.K H (.dic ks xs) v) : ∃ a vs ka, v = .ref a ∧ (a == sysModules) = false ∧ s.heap.DictOf (mixKind X.prog X.w) a ka ∧ KV (ks.zip vs) ka ∧ ks.length = xs.length ∧ RepL X.K H xs vs ∧ ka.length = xs.length := by
  simp only [Rep] at h
  obtain ⟨a, vs, rfl, h1, h2, h3, h4⟩ := h
  obtain ⟨_, h5, ka, h6, h7⟩ := dk_rd I.hok h1
  refine ⟨a, vs, ka, rfl, h5, h7, h6, h2, h4, ?_⟩
  have := h6.length
  rw [List.length_zip] at this
  have := h4.length
  omega
theorem op_eqDc (hu : X.A.units + 20 < cLine) : OpR X (compareOp .Eq) (rEqDc X.K false) := by
  intro pins s σ H x y v u Q I rx ry h
  obtain ⟨ks, xs, ls, ys, r1, r2, p1, p2, q⟩ := h
  obtain ⟨a, vs, ka, rfl, m1, d1, k1, l1, rl1, n1⟩ := dic_at I r1
  obtain ⟨b, us, kb, rfl, m2, d2, k2, l2, rl2, n2⟩ := dic_at I r2
  cases rx
  cases ry
  refine PySem.W.keq_eq m1 m2 d1 d2 (by omega) (fun _ => hits_D I (by rw [in1_units]; omega) l2 rl2 p2 k2 l1 rl1 p1 k1) ⟨.bl _, H, I, rfl, ?_⟩
  rw [n1, n2]
  exact q
theorem op_neDc (hu : X.A.units + 20 < cLine) : OpR X (compareOp .NotEq) (rEqDc X.K true) := by
  intro pins s σ H x y v u Q I rx ry h
  obtain ⟨ks, xs, ls, ys, r1, r2, p1, p2, q⟩ := h
  obtain ⟨a, vs, ka, rfl, m1, d1, k1, l1, rl1, n1⟩ := dic_at I r1
  obtain ⟨b, us, kb, rfl, m2, d2, k2, l2, rl2, n2⟩ := dic_at I r2
  cases rx
  cases ry
  refine PySem.W.keq_ne m1 m2 d1 d2 (by omega) (fun _ => hits_D I (by rw [in1_units]; omega) l2 rl2 p2 k2 l1 rl1 p1 k1) ⟨.bl _, H, I, rfl, ?_⟩
  rw [n1, n2]
  exact q
def eqDc (neg : Bool) : D → D → Option D
  | .dic ks xs, .dic ls ys => if xs.all (plainN 8) = true ∧ ys.all (plainN 8) = true then some (.bl (if neg then !eqDic ks xs ls ys else eqDic ks xs ls ys)) else none
  | _, _ => none
theorem od_eqDc {f : Value → Value → Sem Value} {neg : Bool} (h1 : OpR X f (rEqDc X.K neg)) : OpD X f (eqDc neg) := by
  refine ⟨_, h1, fun G H x y v u d Q sG rx ry e k => ?_⟩
  unfold eqDc at e
  split at e
  · split at e
    · rename_i hc
      cases e
      exact ⟨_, _, _, _, rx.all sG, ry.all sG, hc.1, hc.2, k _ G H (Grow.refl sG) (by simp [Rep])⟩
    · cases e
  · cases e
def eqO (neg : Bool) (x y : D) : Option D := (sEq neg x y).or ((eqSeq neg x y).or (eqDc neg x y))
theorem od_eqO (hu : X.A.units + 20 < cLine) : OpD X (compareOp .Eq) (eqO false) := od_seq.or ((od_eqSeq (op_eqT hu) (op_eqLs' hu)).or (od_eqDc (op_eqDc hu)))
theorem od_neO (hu : X.A.units + 20 < cLine) : OpD X (compareOp .NotEq) (eqO true) := od_sne.or ((od_eqSeq (op_neT hu) (op_neLs' hu)).or (od_eqDc (op_neDc hu)))
end
end L2

-- part Ly7
set_option Elab.async false
set_option linter.all false
set_option maxRecDepth 100000
set_option maxHeartbeats 4000000
namespace L2
open PySem PySem.Spec PyProof.Rows
/-! ### d[k] = v, as keys and values -/
def putVals {α : Type} : List Key → List α → Key → α → List α
  | k0 :: ks, y :: ys, k, x => if k0 = k then x :: ys else y :: putVals ks ys k x
  | _, _, _, x => [x]
instance memKey (k : Key) (ks : List Key) : Decidable (k ∈ ks) :=
  decidable_of_iff (ks.any (fun x => decide (x = k)) = true) ⟨fun h => by
    obtain ⟨x, hx, q⟩ := List.any_eq_true.mp h
    exact (of_decide_eq_true q) ▸ hx, fun h => List.any_eq_true.mpr ⟨k, h, decide_eq_true rfl⟩⟩
def putKeys (ks : List Key) (k : Key) : List Key := if k ∈ ks then ks else ks ++ [k]
theorem putVals_len {α : Type} : ∀ (ks : List Key) (ys : List α) (k : Key) (x : α), ks.length = ys.length → (putKeys ks k).length = (putVals ks ys k x).length
  | [], [], k, x, _ => by simp [putKeys, putVals]
  | k0 :: ks, y :: ys, k, x, h => by
    have ih := putVals_len ks ys k x (by simpa using h)
    unfold putVals
    by_cases e : k0 = k
    · subst e
      rw [if_pos rfl]
      unfold putKeys
      rw [if_pos List.mem_cons_self]
      simpa using h
    · rw [if_neg e, List.length_cons, ← ih]
      unfold putKeys
      by_cases m : k ∈ ks
      · rw [if_pos m, if_pos (List.mem_cons_of_mem _ m), List.length_cons]
      · rw [if_neg m, if_neg (by rw [List.mem_cons]; exact fun z => z.elim (fun q => e q.symm) m)]
        simp
theorem putKeys_nd {ks : List Key} (k : Key) (h : ks.Nodup) : (putKeys ks k).Nodup := by
  unfold putKeys
  by_cases m : k ∈ ks
  · rw [if_pos m]; exact h
  · rw [if_neg m]
    rw [List.nodup_append]
    refine ⟨h, by simp, fun a ha b hb => ?_⟩
    have : b = k := by simpa using hb
    subst this
    exact fun z => m (z ▸ ha)
theorem map_miss {α : Type} {k : Key} {f : α → α} : ∀ {l : List (Key × α)}, k ∉ l.map (·.1) → l.map (fun kv => if kv.1 = k then (kv.1, f kv.2) else kv) = l
  | [], _ => rfl
  | p :: l, h => by
    rw [List.map_cons, map_miss (fun z => h (List.mem_cons_of_mem _ z)), if_neg (fun z => h (by rw [List.map_cons, z]; exact List.mem_cons_self))]
theorem keys_zip {α : Type} : ∀ {ks : List Key} {vs : List α}, ks.length = vs.length → (ks.zip vs).map (·.1) = ks
  | [], [], _ => rfl
  | k :: ks, v :: vs, h => by
    simp only [List.zip_cons_cons, List.map_cons]
    rw [keys_zip (by simpa using h)]
theorem any_zip {vs : List V} {ks : List Key} (h : ks.length = vs.length) (k : Key) : ((ks.zip vs).any fun kv => decide (kv.1 = k)) = decide (k ∈ ks) := by
  have e := keys_zip h
  have : ((ks.zip vs).any fun kv => decide (kv.1 = k)) = ((ks.zip vs).map (·.1)).any fun x => decide (x = k) := by rw [List.any_map]; rfl
  rw [this, e]
  by_cases m : k ∈ ks
  · rw [decide_eq_true m]
    exact List.any_eq_true.mpr ⟨k, m, by simp⟩
  · rw [decide_eq_false m]
    refine Bool.eq_false_iff.mpr fun z => ?_
    obtain ⟨x, hx, q⟩ := List.any_eq_true.mp z
    exact m ((of_decide_eq_true q) ▸ hx)
theorem putK_zip : ∀ {ks : List Key} {vs : List V} (k : Key) (v : V), ks.length = vs.length → ks.Nodup → putK (ks.zip vs) k v = (putKeys ks k).zip (putVals ks vs k v) := by
  intro ks
  induction ks with
  | nil => intro vs k v h _; cases vs with | nil => rfl | cons _ _ => cases h
  | cons k0 ks ih =>
    intro vs k v h nd
    cases vs with
    | nil => cases h
    | cons v0 vs =>
      have h' : ks.length = vs.length := by simpa using h
      obtain ⟨n1, n2⟩ := List.nodup_cons.mp nd
      have e1 := ih k v h' n2
      unfold putK at e1 ⊢
      rw [any_zip h'] at e1
      rw [any_zip h]
      by_cases e : k0 = k
      · subst e
        rw [decide_eq_true (List.mem_cons_self), if_pos rfl]
        unfold putKeys putVals
        rw [if_pos List.mem_cons_self, if_pos rfl]
        simp only [List.zip_cons_cons, List.map_cons, if_true]
        congr 1
        exact map_miss (f := fun _ => v) (by rw [keys_zip h']; exact n1)
      · by_cases m : k ∈ ks
        · rw [decide_eq_true m, if_pos rfl] at e1
          rw [decide_eq_true (List.mem_cons_of_mem _ m), if_pos rfl]
          unfold putKeys at e1 ⊢
          rw [if_pos m] at e1
          rw [if_pos (List.mem_cons_of_mem _ m)]
          unfold putVals
          rw [if_neg e]
          simp only [List.zip_cons_cons, List.map_cons, if_neg e]
          rw [e1]
        · have m' : k ∉ k0 :: ks := by rw [List.mem_cons]; exact fun z => z.elim (fun q => e q.symm) m
          rw [decide_eq_false m, if_neg Bool.false_ne_true] at e1
          rw [decide_eq_false m', if_neg Bool.false_ne_true]
          unfold putKeys at e1 ⊢
          rw [if_neg m] at e1
          rw [if_neg m']
          unfold putVals
          rw [if_neg e]
          simp only [List.zip_cons_cons, List.cons_append]
          rw [e1]
theorem repL_put {K : PySem.W.Frag} {G : Hp} {d : D} {v : V} (k : Key) (r : Rep K G d v) : ∀ {ks : List Key} {xs : List D} {vs : List V}, RepL K G xs vs → RepL K G (putVals ks xs k d) (putVals ks vs k v) := by
  intro ks
  induction ks with
  | nil => intro xs vs _; unfold putVals; simp only [RepL]; exact ⟨v, [], rfl, r, rfl⟩
  | cons k0 ks ih =>
    intro xs vs h
    cases xs with
    | nil =>
      simp only [RepL] at h
      subst h
      unfold putVals
      simp only [RepL]
      exact ⟨v, [], rfl, r, rfl⟩
    | cons x xs =>
      simp only [RepL] at h
      obtain ⟨w, us, rfl, h1, h2⟩ := h
      unfold putVals
      by_cases e : k0 = k
      · rw [if_pos e, if_pos e]
        simp only [RepL]
        exact ⟨v, us, rfl, r, h2⟩
      · rw [if_neg e, if_neg e]
        simp only [RepL]
        exact ⟨w, _, rfl, h1, ih h2⟩
section
variable {X : Cx} {e : Expr} {f : FE} {pos : Pos}
/-- x[k] = v, x one's own dict -/
@[simp] def sDPutM (i : Nat) (fk fv : FE) : FS := fun δ => match δ[i]? with
  | some (some (.pv (.dic ks ds))) => (fv δ).bind fun d => (fk δ).bind fun kd => (keyD kd).bind fun k => if ds.length < sizeLine then some (.nx (δ.set i (some (.pv (.dic (putKeys ks k) (putVals ks ds k d)))))) else none
  | _ => none
theorem psd_dput (i : Nat) {x : Str} {k value : Expr} {fk fv : FE} {p p1 : Pos} (hu : X.A.units + 1 < cLine) (hk : PD X k fk) (hv : PD X value fv) (hN : X.N[i]? = some x := by rfl) (hvi : Vis X.env.scope x := by first | exact Or.inl rfl | exact Or.inr (Or.inl rfl) | exact Or.inr (Or.inr rfl))
    (hd : (x == ("__debug__" : Str)) = false := by decide) (hcd : (x == ("__classdict__" : Str)) = false := by decide) (hs : swapsWith value (some (.Subscript (.Name x p) k p1)) pos.line X.env = pure false := by rfl) (hns : NoSl k := by intro _ _; rfl) :
    PSD X (.Assign [.Subscript (.Name x p) k p1] value pos) (sDPutM i fk fv) := by
  obtain ⟨tk, pk, kk⟩ := hk
  obtain ⟨tv, pv, kv⟩ := hv
  refine ⟨_, ps_dput hu (pe_var hN hvi hd hcd) pk pv hs, fun B G H δ σ o D sG sB rs e w => ?_⟩
  unfold sDPutM at e
  split at e
  · rename_i ks ds em
    obtain ⟨d, e1, e⟩ := Option.bind_eq_some_iff.mp e
    obtain ⟨kd, e2, e⟩ := Option.bind_eq_some_iff.mp e
    obtain ⟨key, e3, e⟩ := Option.bind_eq_some_iff.mp e
    split at e
    · rename_i hl
      cases e
      refine kv B G H δ σ d _ sG rs e1 fun u G1 H1 g1 r1 => ?_
      obtain ⟨v, h1, a, vs, rfl, h2, h3, h4, h5, h6⟩ := (rs.grow g1).at_ i _ em
      refine ⟨_, h1, kk B G1 H1 δ σ kd _ g1.s (rs.grow g1) e2 fun ku G2 H2 g2 r2 => ?_⟩
      have hH : H2 a = some (.dK (ks.zip vs)) := g2.h _ _ h4
      have hG2 : G2 a = none := g2.n a _ h4 h3
      obtain rfl := keyD_rep e3 (RepB.of (H := H2) r2)
      have h6 : RepL X.K G1 ds vs := h6
      have lv : ks.length = vs.length := h5.1.trans h6.length
      refine ⟨a, _, rfl, DPut.k (k := key) hH (by rw [List.length_zip]; have := h6.length; have := h5.1; omega), ?_⟩
      rw [putK_zip key u lv h5.2]
      have g12 := g1.trans g2
      refine w σ G2 _ ((g12.stp sB).trans (stp_own g2.s (sB.trans g12.h) h2 hG2)) ((rs.grow g12).upd (m' := .dic (putKeys ks key) (putVals ks ds key d)) (us := putVals ks vs key u) em h1 h2 hG2 ⟨putVals_len ks ds key d h5.1, putKeys_nd key h5.2⟩ ?_)
      exact repL_put key (r1.mono g2.g) (h6.mono g2.g)
    · cases e
  · cases e
/-- d.get(k, x) -/
def get2D : D → D → D → Option D
  | .dic ks ds, k, x => (keyD k).bind fun key => some ((valD ks ds key).getD x)
  | _, _, _ => none
@[simp] def fGet2 (fd fk fx : FE) : FE := fun δ => (fd δ).bind fun d => (fk δ).bind fun k => (fx δ).bind fun x => get2D d k x
theorem pd_get2 {o a b : Expr} {fd fk fx : FE} {p1 p2 : Pos} (hu : X.A.units + 1 < cLine) (ho : PB X o fd) (ha : PB X a fk) (hb : PD X b fx) (hm : M2 X o "get" p1 a b p2 := by exact ⟨rfl, rfl, rfl, rfl⟩) : PD X (.Call (.Attribute o "get" p1) [a, b] [] p2) (fGet2 fd fk fx) := by
  obtain ⟨t1, q1, k1⟩ := ho
  obtain ⟨t2, q2, k2⟩ := ha
  obtain ⟨t3, q3, k3⟩ := hb
  refine ⟨_, pe_dget2 hu q1 q2 q3 hm, fun B G H δ σ d Q sG rs ef k => ?_⟩
  unfold fGet2 at ef
  obtain ⟨dd, e1, ef⟩ := Option.bind_eq_some_iff.mp ef
  obtain ⟨kd, e2, ef⟩ := Option.bind_eq_some_iff.mp ef
  obtain ⟨xd, e3, ef⟩ := Option.bind_eq_some_iff.mp ef
  unfold get2D at ef
  split at ef
  · rename_i ks ds kd' xd'
    obtain ⟨key, e4, ef⟩ := Option.bind_eq_some_iff.mp ef
    cases ef
    refine k1 B G H δ σ _ _ sG rs e1 fun v G1 H1 g1 r1 => ?_
    obtain ⟨a, vs, rfl, hd, _, _, _⟩ := r1.dic g1.s
    refine ⟨a, rfl, .inl ⟨_, hd⟩, k2 B G1 H1 δ σ _ _ g1.s (rs.grow g1) e2 fun kv G2 H2 g2 r2 => k3 B G2 H2 δ σ _ _ g2.s (rs.grow (g1.trans g2)) e3 fun xv G3 H3 g3 r3 => ?_⟩
    obtain ⟨a', vs', e5, hd', hl, nd, rl⟩ := (r1.grow (g2.trans g3)).dic g3.s
    cases e5
    obtain rfl := keyD_rep e4 r2
    refine ⟨valV (ks.zip vs') key, .inl ⟨_, key, hd', rfl, rfl⟩, k _ G3 H3 ((g1.trans g2).trans g3) ?_⟩
    have hv := valD_rep key hl rl
    cases ev : valD ks ds key with
    | none => rw [hv.2 ev]; exact r3
    | some y =>
      obtain ⟨w', e6, r6⟩ := hv.1 y ev
      rw [e6]
      exact r6
  · cases ef
end
end L2

-- part Ly8
set_option Elab.async false
set_option linter.all false
set_option maxRecDepth 100000
set_option maxHeartbeats 4000000
namespace L2
open PySem PySem.Spec PyProof.Rows
/-! ### a block with free names -/
def closL (cells : List (Str × Addr)) : List (Str × NameKind) → List (Str × Addr) → List (Str × Addr)
  | [], acc => acc
  | (n, k) :: r, acc => closL cells r (if (k == .free) = true then (n, (cells.lookup n).getD 0) :: acc else acc)
theorem closureFor_eq {scope : Scope} {env : Env} (h : ∀ y ∈ scope.names, y.2 = .free → (env.cells.lookup y.1).isSome = true) : closureFor scope env = pure (closL env.cells scope.names []) := by
  simp only [closureFor]
  have key : ∀ (names : List (Str × NameKind)) (acc : List (Str × Addr)), (∀ y ∈ names, y.2 = .free → (env.cells.lookup y.1).isSome = true) →
      (forIn names acc fun (x : Str × NameKind) (r : List (Str × Addr)) => (if (x.snd == NameKind.free) = true then do
        let c ← cellOf env x.fst
        pure (ForInStep.yield ((x.fst, c) :: r)) else pure (ForInStep.yield r) : Sem (ForInStep (List (Str × Addr))))) = pure (closL env.cells names acc) := by
    intro names
    induction names with
    | nil => intro acc _; rfl
    | cons x r ih =>
      intro acc hh
      obtain ⟨n, k⟩ := x
      rw [List.forIn_cons]
      cases hk : (k == NameKind.free) with
      | false =>
        simp only [hk, Bool.false_eq_true, if_false, pure_bind, closL]
        exact ih acc fun y hy => hh y (List.mem_cons_of_mem _ hy)
      | true =>
        have hs := hh (n, k) List.mem_cons_self (by simpa using hk)
        obtain ⟨c, ec⟩ := Option.isSome_iff_exists.mp hs
        have ec : env.cells.lookup n = some c := ec
        have e1 : cellOf env n = pure c := by unfold cellOf; rw [ec]
        simp only [hk, if_true, e1, pure_bind, closL, ec, Option.getD_some]
        exact ih _ fun y hy => hh y (List.mem_cons_of_mem _ hy)
  have := key scope.names [] h
  first
    | exact this
    | (rw [this]; rfl)
    | (simp only [this, pure_bind])
theorem closL_mem {cells : List (Str × Addr)} : ∀ (names : List (Str × NameKind)) (acc : List (Str × Addr)) (p : Str × Addr), p ∈ closL cells names acc → p ∈ acc ∨ ((p.1, NameKind.free) ∈ names ∧ p.2 = (cells.lookup p.1).getD 0)
  | [], acc, p, h => .inl h
  | (n, k) :: r, acc, p, h => by
    unfold closL at h
    rcases closL_mem r _ p h with h | ⟨h, e⟩
    · cases hk : (k == NameKind.free) with
      | false => rw [hk] at h; simp only [Bool.false_eq_true, if_false] at h; exact .inl h
      | true =>
        rw [hk] at h
        simp only [if_true, List.mem_cons] at h
        rcases h with h | h
        · subst h
          have : k = NameKind.free := by simpa using hk
          subst this
          exact .inr ⟨List.mem_cons_self, rfl⟩
        · exact .inl h
    · exact .inr ⟨List.mem_cons_of_mem _ h, e⟩
theorem closL_has {cells : List (Str × Addr)} : ∀ (names : List (Str × NameKind)) (acc : List (Str × Addr)) (x : Str), ((x, NameKind.free) ∈ names ∨ ∃ c, (x, c) ∈ acc) → ∃ c, (x, c) ∈ closL cells names acc
  | [], acc, x, h => h.elim (fun z => by cases z) id
  | (n, k) :: r, acc, x, h => by
    unfold closL
    refine closL_has r _ x ?_
    rcases h with h | ⟨c, h⟩
    · rcases List.mem_cons.mp h with h | h
      · cases h
        exact .inr ⟨(cells.lookup n).getD 0, by simp⟩
      · exact .inl h
    · refine .inr ⟨c, ?_⟩
      split
      · exact List.mem_cons_of_mem _ h
      · exact h
theorem lookup_of_mem {l : List (Str × Addr)} {x : Str} {c : Addr} (h : (x, c) ∈ l) : ∃ c', l.lookup x = some c' := by
  induction l with
  | nil => cases h
  | cons p l ih =>
    obtain ⟨y, d⟩ := p
    rw [List.lookup_cons]
    cases e : x == y with
    | true => exact ⟨d, rfl⟩
    | false =>
      rcases List.mem_cons.mp h with q | q
      · cases q; simp at e
      · exact ih q
/-- hcell: the def's own names that the block reads are cells -/
theorem compOkF {X : Cx} {N : List Str} {nl : Nat} {js : List Nat} {scope : Scope} {n0 : Nat} (hce : X.env.cells = cellsFrom n0 X.env.scope.names []) (hk : scope.kind = .function) (hn : ∀ y ∈ scope.names, y.2 ≠ .cell)
    {sn : List (Str × NameKind)} (hsn : X.env.scope.names = sn) (hf : ∀ y ∈ scope.names, y.2 = .free → sn.lookup y.1 = some .cell) (hl : ∀ y ∈ scope.names, y.2 = .local → scope.names.lookup y.1 = some .local) (hN : N.length = nl + js.length)
    (free : ∀ k j x, js[k]? = some j → N[nl + k]? = some x → X.N[j]? = some x ∧ (X.env.kindOf x = some .cell ∨ X.env.kindOf x = some .free) ∧ Vis X.env.scope x ∧ ((relabel scope X.env).names.lookup x = some .cell ∨ (relabel scope X.env).names.lookup x = some .free)) :
    CompOk X N nl js scope (closL X.env.cells scope.names []) where
  clos := closureFor_eq fun y hy e => by
    obtain ⟨c, ec⟩ := cell_has (n := n0) (by rw [hsn]; exact hf y hy e)
    rw [hce, ec]; rfl
  nocell := hn
  kind := hk
  names := hl
  cells := fun x c e => by
    rcases closL_mem _ _ _ (PySem.mem_of_lookup e) with z | ⟨z, q⟩
    · cases z
    · obtain ⟨c', ec⟩ := cell_has (n := n0) (by rw [hsn]; exact hf _ z rfl)
      have ec : X.env.cells.lookup x = some c' := by rw [hce]; exact ec
      have q : c = (X.env.cells.lookup x).getD 0 := q
      rw [ec] at q
      rw [ec, q]; rfl
  has := fun x h => by
    have key : ∀ k, (relabel scope X.env).names.lookup x = some k → k = .cell ∨ k = .free → (x, NameKind.free) ∈ scope.names := fun k e hk => by
      have hm := PySem.mem_of_lookup e
      unfold relabel at hm
      obtain ⟨⟨n, k0⟩, h1, h2⟩ := List.mem_map.mp hm
      dsimp only at h2
      cases hc : (k0 == NameKind.free && X.env.scope.kind == .function && X.env.kindOf n == some .cell) with
      | true =>
        rw [hc] at h2
        simp only [if_true] at h2
        have e2 : n = x := congrArg Prod.fst h2
        subst e2
        have : k0 = NameKind.free := by
          rw [Bool.and_eq_true, Bool.and_eq_true] at hc
          simpa using hc.1.1
        rw [← this]; exact h1
      | false =>
        rw [hc] at h2
        have e2 : k0 = k := congrArg Prod.snd h2
        have e3 : n = x := congrArg Prod.fst h2
        subst e2 e3
        rcases hk with z | z
        · exact absurd z (hn _ h1)
        · rw [← z]; exact h1
    have hx : (x, NameKind.free) ∈ scope.names := by
      rcases h with h | h
      · exact key _ h (.inl rfl)
      · exact key _ h (.inr rfl)
    obtain ⟨c, hc⟩ := closL_has (cells := X.env.cells) scope.names [] x (.inl hx)
    exact lookup_of_mem hc
  len := hN
  free := free
end L2

-- part Ly9
set_option Elab.async false
set_option linter.all false
set_option maxRecDepth 100000
set_option maxHeartbeats 4000000
namespace L2
open PySem PySem.Spec PyProof.Rows
section
variable {X : Cx}
/-! ### x is None, x is not None -/
def nonD : D → Bool | .non => true | _ => false
theorem nonD_rep {K : PySem.W.Frag} {G H : Hp} {d : D} {v : V} (r : RepB K G H d v) : decide (v = .non) = nonD d := by
  rcases r with r | ⟨m, a, vs, h1, h2, _⟩
  · cases d with
    | non => simp only [Rep] at r; subst r; rfl
    | bl b => simp only [Rep] at r; subst r; rfl
    | int b => simp only [Rep] at r; subst r; rfl
    | str b => simp only [Rep] at r; subst r; rfl
    | tup b => simp only [Rep] at r; obtain ⟨_, _, rfl, _⟩ := r; rfl
    | lst b => simp only [Rep] at r; obtain ⟨_, _, rfl, _⟩ := r; rfl
    | dic b c => simp only [Rep] at r; obtain ⟨_, _, rfl, _⟩ := r; rfl
  · subst h1 h2; cases m <;> rfl
def isN (n : Bool) : D → D → Option D | x, .non => some (.bl (if n then !nonD x else nonD x)) | _, _ => none
theorem od_isN : OpD X (compareOp .Is) (isN false) := by
  refine ⟨_, op_isN, fun G H x y v u d Q sG rx ry e k => ?_⟩
  unfold isN at e
  split at e
  · cases e
    have ry := ry.flat rfl
    simp only [Rep] at ry
    refine ⟨ry, ?_⟩
    rw [nonD_rep rx]
    exact k _ G H (Grow.refl sG) (by simp [Rep])
  · cases e
theorem od_notN : OpD X (compareOp .IsNot) (isN true) := by
  refine ⟨_, op_notN, fun G H x y v u d Q sG rx ry e k => ?_⟩
  unfold isN at e
  split at e
  · cases e
    have ry := ry.flat rfl
    simp only [Rep] at ry
    refine ⟨ry, ?_⟩
    rw [nonD_rep rx]
    exact k _ G H (Grow.refl sG) (by simp [Rep])
  · cases e
def isA (x y : D) : Option D := (isN false x y).or (isB x y)
theorem od_isA : OpD X (compareOp .Is) isA := od_isN.or od_isB
/-! ### int(x), max(a, b), min(a, b) -/
theorem repLB_two {K : PySem.W.Frag} {G H : Hp} {d e : D} {vs : List V} (r : RepLB K G H [d, e] vs) : ∃ v u, vs = [v, u] ∧ RepB K G H d v ∧ RepB K G H e u := by
  obtain ⟨v, us, rfl, r1, u, us, rfl, r2, r3⟩ := r
  simp only [RepLB] at r3
  subst r3
  exact ⟨v, u, rfl, r1, r2⟩
def intD : List D → Option D | [.int i] => some (.int i) | [.bl b] => some (.int (if b then 1 else 0)) | _ => none
theorem cd_int : CallD X (.type "int") intD := by
  refine ⟨_, call_int1, fun G H ds vs d Q sG r e k => ?_⟩
  unfold intD at e
  split at e
  · cases e
    obtain ⟨v, rfl, r1⟩ := repLB_one r
    have r1 := r1.flat rfl
    simp only [Rep] at r1
    subst r1
    exact .inl ⟨_, rfl, k _ G H (Grow.refl sG) (by simp [Rep])⟩
  · cases e
    obtain ⟨v, rfl, r1⟩ := repLB_one r
    have r1 := r1.flat rfl
    simp only [Rep] at r1
    subst r1
    exact .inr ⟨_, rfl, k _ G H (Grow.refl sG) (by simp [Rep])⟩
  · cases e
def maxD : List D → Option D | [.int i, .int j] => some (.int (if j > i then j else i)) | _ => none
def minD : List D → Option D | [.int i, .int j] => some (.int (if j < i then j else i)) | _ => none
theorem cd_max (hc : X.calm = true) : CallD X (.builtin "max") maxD := by
  refine ⟨_, call_max2 hc, fun G H ds vs d Q sG r e k => ?_⟩
  unfold maxD at e
  split at e
  · cases e
    obtain ⟨v, u, rfl, r1, r2⟩ := repLB_two r
    have r1 := r1.flat rfl
    have r2 := r2.flat rfl
    simp only [Rep] at r1 r2
    subst r1 r2
    exact ⟨_, _, rfl, k _ G H (Grow.refl sG) (by simp [Rep])⟩
  · cases e
theorem cd_min (hc : X.calm = true) : CallD X (.builtin "min") minD := by
  refine ⟨_, call_min2 hc, fun G H ds vs d Q sG r e k => ?_⟩
  unfold minD at e
  split at e
  · cases e
    obtain ⟨v, u, rfl, r1, r2⟩ := repLB_two r
    have r1 := r1.flat rfl
    have r2 := r2.flat rfl
    simp only [Rep] at r1 r2
    subst r1 r2
    exact ⟨_, _, rfl, k _ G H (Grow.refl sG) (by simp [Rep])⟩
  · cases e
end
end L2

-- part Ly10
set_option Elab.async false
set_option linter.all false
set_option maxRecDepth 100000
set_option maxHeartbeats 4000000
namespace L2
open PySem PySem.Spec PyProof.Rows
/-! ### d.setdefault(k, x) -/
section
variable {X : Cx} {pins : List (Addr × Obj)} {σ : St} {H : Hp} {s : Shared} {a : Addr} {kvs : List (Key × V)} {k : Key} {d : V} {u r : Value} {A : Around} {E : Value → Shared → Prop}
theorem d_setd {Q : Value → Shared → Prop} (I : Inv X pins σ H s) (e : H a = some (.dK kvs)) (ry : RelV (kV k) u) (rd : RelV d r) (hl : kvs.length < sizeLine)
    (h1 : ∀ v w' s', valV kvs k = some v → Inv X pins σ H s' → RelV v w' → Q w' s') (h2 : ∀ s', valV kvs k = none → Inv X pins σ (upd H a (.dK (putK kvs k d))) s' → Q r s') :
    wpAny (model X.prog X.w) A (call (.builtin "dict.setdefault") [.ref a, u, r]) Q E s := by
  obtain ⟨z, hd, vs, rel, dd⟩ := dk_of I.hok e
  refine call_meetsIn PySem.F.slot_dict_setdefault dd.typeIs PySem.F.entry_dict_setdefault (PySem.F.args_dict_setdefault_3 _ _ _) (kt_meets_setdefault (mixKind X.prog X.w) a (kV_is ry) hd r) ⟨vs, dd, by rw [← rel.length]; exact z, fun v hv => ?_, fun hn h' dd' hs => ?_⟩
  · cases ev : valV kvs k with
    | none =>
      have hn : valueAt vs k = none := RelO.none_of (by rw [← ev]; exact rel.val k)
      rw [hn] at hv; cases hv
    | some v0 =>
      obtain ⟨w', hw, rw'⟩ := RelO.some_of (v := v0) (o := valueAt vs k) (by rw [← ev]; exact rel.val k)
      rw [hw] at hv
      cases hv
      exact h1 v0 _ _ ev (I.tok _) rw'
  · have ev : valV kvs k = none := by
      cases ev : valV kvs k with
      | none => rfl
      | some v0 =>
        obtain ⟨w', hw, rw'⟩ := RelO.some_of (v := v0) (o := valueAt vs k) (by rw [← ev]; exact rel.val k)
        rw [hw] at hn; cases hn
    have hl' : (putK kvs k d).length ≤ sizeLine := by have := length_putK kvs k d; omega
    have he : ∃ q, h'.get? a = some q := let ⟨q, _, _, hq, _⟩ := dd'; ⟨q, hq⟩
    exact h2 _ ev (d_write I (by rw [e]; exact True.intro) hs he (dk_new hl' hd (rel.put k rd) dd'))
end
def tDSetd (td ty tx : TE) : TE := fun σ H Q => td σ H fun x H1 => ∃ a, x = .ref a ∧ IsD H1 a ∧ ty σ H1 fun y H2 => tx σ H2 fun z H3 => ∃ kvs k, H3 a = some (.dK kvs) ∧ y = kV k ∧ kvs.length < sizeLine ∧
  (∀ v, valV kvs k = some v → Q v H3) ∧ (valV kvs k = none → Q z (upd H3 a (.dK (putK kvs k z))))
section
variable {X : Cx} {o e f : Expr} {apos cpos : Pos} {td ty tx : TE}
theorem pe_dsetd (ho : PE X o td) (he : PE X e ty) (hf : PE X f tx) (m : M2 X o "setdefault" apos e f cpos) : PE X (.Call (.Attribute o "setdefault" apos) [e, f] [] cpos) (tDSetd td ty tx) := by
  intro pins s σ H Q I h
  refine wpAny_Call_method m.base m.few m.line PySem.F.plainAttrs_dict PySem.F.slot_dict_setdefault PySem.F.type_dict_setdefault (thn (ho pins s σ H _ I h) fun u s1 ⟨x, H1, I1, rx, a, ex, d, q1⟩ => ?_)
  subst ex
  obtain rfl : u = Value.ref a := rx
  obtain ⟨t1, t2, _⟩ := isD_at I1 d
  refine ⟨t1, t2, ?_⟩
  rw [m.trees]
  refine Calls.callWith_builtin rfl (Calls.evalArgs_plain (Calls.spliced_cons (thn (he pins s1 σ H1 _ I1 q1) fun iv s2 ⟨y, H2, I2, ry, q2⟩ =>
    Calls.spliced_cons (thn (hf pins s2 σ H2 _ I2 q2) fun fv s3 ⟨z, H3, I3, rz, kvs, k, ea, ey, hl, q3, q4⟩ => Calls.spliced_nil ?_))))
  subst ey
  exact d_setd I3 ea ry rz hl (fun v w' s' ev I' r' => ⟨v, H3, I', r', q3 v ev⟩) fun s' ev I' => ⟨z, _, I', rz, q4 ev⟩
end
/-! ### expressions that change one's own objects -/
abbrev FX := En → Option (D × En)
def GivesX (K : PySem.W.Frag) (t : TE) (f : FX) : Prop := ∀ (B G H : Hp) (δ : En) (σ : St) (d : D) (δ' : En) (Q : VK), Same G H → Same B H → RepS K B G H δ σ → f δ = some (d, δ') →
  (∀ v G' H', Stp B G G' H' → RepS K B G' H' δ' σ → Rep K G' d v → Q v H') → t σ H Q
def PX (X : Cx) (e : Expr) (f : FX) : Prop := ∃ t, PE X e t ∧ GivesX X.K t f
section
variable {X : Cx} {e a b : Expr} {pos : Pos}
@[simp] def xD (f : FE) : FX := fun δ => (f δ).map fun d => (d, δ)
theorem PD.px {f : FE} (h : PD X e f) : PX X e (xD f) := by
  obtain ⟨t, pt, k⟩ := h
  refine ⟨t, pt, fun B G H δ σ d δ' Q sG sB rs ef q => ?_⟩
  unfold xD at ef
  obtain ⟨d', e1, e2⟩ := Option.map_eq_some_iff.mp ef
  cases e2
  exact k B G H δ σ _ Q sG rs e1 fun v G' H' g r => q v G' H' (g.stp sB) (rs.grow g) r
@[simp] def xIf (c : En → Option Bool) (f g : FX) : FX := fun δ => (c δ).bind fun x => if x = true then f δ else g δ
theorem px_if {c : Expr} {fb : En → Option Bool} {f g : FX} (hc : PDT X c fb) (ha : PX X a f) (hb : PX X b g) : PX X (.IfExp c a b pos) (xIf fb f g) := by
  obtain ⟨tc, pc, kc⟩ := hc
  obtain ⟨ta, pa, ka⟩ := ha
  obtain ⟨tb, pb, kb⟩ := hb
  refine ⟨_, pe_ifExp pc pa pb, fun B G H δ σ d δ' Q sG sB rs ef k => ?_⟩
  unfold xIf at ef
  obtain ⟨x, e1, ef⟩ := Option.bind_eq_some_iff.mp ef
  refine kc B G H δ σ x _ sG rs e1 fun G1 H1 g1 => ?_
  cases x with
  | true => rw [if_pos rfl] at ef ⊢; exact ka B G1 H1 δ σ d δ' Q g1.s (sB.trans g1.h) (rs.grow g1) ef fun v G' H' g2 => k v G' H' ((g1.stp sB).trans g2)
  | false => rw [if_neg Bool.false_ne_true] at ef ⊢; exact kb B G1 H1 δ σ d δ' Q g1.s (sB.trans g1.h) (rs.grow g1) ef fun v G' H' g2 => k v G' H' ((g1.stp sB).trans g2)
/-- x.setdefault(k, y), x one's own dict -/
@[simp] def xSetd (i : Nat) (fk fv : FE) : FX := fun δ => match δ[i]? with
  | some (some (.pv (.dic ks ds))) => (fk δ).bind fun kd => (fv δ).bind fun d => (keyD kd).bind fun k => if ds.length < sizeLine then some (match valD ks ds k with
      | some y => (y, δ)
      | none => (d, δ.set i (some (.pv (.dic (putKeys ks k) (putVals ks ds k d)))))) else none
  | _ => none
theorem px_setd (i : Nat) {x : Str} {k value : Expr} {fk fv : FE} {p p1 : Pos} (hk : PD X k fk) (hv : PD X value fv) (hN : X.N[i]? = some x := by rfl) (hvi : Vis X.env.scope x := by first | exact Or.inl rfl | exact Or.inr (Or.inl rfl) | exact Or.inr (Or.inr rfl))
    (hd : (x == ("__debug__" : Str)) = false := by decide) (hcd : (x == ("__classdict__" : Str)) = false := by decide) (hm : M2 X (.Name x p) "setdefault" p1 k value pos := by exact ⟨rfl, rfl, rfl, rfl⟩) :
    PX X (.Call (.Attribute (.Name x p) "setdefault" p1) [k, value] [] pos) (xSetd i fk fv) := by
  obtain ⟨tk, pk, kk⟩ := hk
  obtain ⟨tv, pv, kv⟩ := hv
  refine ⟨_, pe_dsetd (pe_var hN hvi hd hcd) pk pv hm, fun B G H δ σ d δ' Q sG sB rs e q => ?_⟩
  unfold xSetd at e
  split at e
  · rename_i ks ds em
    obtain ⟨kd, e2, e⟩ := Option.bind_eq_some_iff.mp e
    obtain ⟨dv, e1, e⟩ := Option.bind_eq_some_iff.mp e
    obtain ⟨key, e3, e⟩ := Option.bind_eq_some_iff.mp e
    split at e
    · rename_i hl
      obtain ⟨v, h1, a, vs, rfl, h2, h3, h4, h5, h6⟩ := rs.at_ i _ em
      refine ⟨_, h1, a, rfl, .inl ⟨_, .inl h4⟩, kk B G H δ σ kd _ sG rs e2 fun ku G1 H1 g1 r1 => kv B G1 H1 δ σ dv _ g1.s (rs.grow g1) e1 fun u G2 H2 g2 r2 => ?_⟩
      have g12 := g1.trans g2
      have hH : H2 a = some (.dK (ks.zip vs)) := g12.h _ _ h4
      have hG2 : G2 a = none := g12.n a _ h4 h3
      obtain rfl := keyD_rep e3 (RepB.of (H := H2) r1)
      have h6 : RepL X.K G ds vs := h6
      have lv : ks.length = vs.length := h5.1.trans h6.length
      have hvd := valD_rep key h5.1 h6
      refine ⟨_, key, hH, rfl, by rw [List.length_zip]; have := h6.length; have := h5.1; omega, fun v0 ev => ?_, fun ev => ?_⟩
      · cases ed : valD ks ds key with
        | none => rw [hvd.2 ed] at ev; cases ev
        | some y =>
          obtain ⟨w', e6, r6⟩ := hvd.1 y ed
          rw [e6] at ev
          cases ev
          rw [ed] at e
          cases e
          exact q _ G2 H2 (g12.stp sB) (rs.grow g12) (r6.mono g12.g)
      · cases ed : valD ks ds key with
        | some y =>
          obtain ⟨w', e6, r6⟩ := hvd.1 y ed
          rw [e6] at ev
          cases ev
        | none =>
          rw [ed] at e
          cases e
          rw [putK_zip key u lv h5.2]
          refine q _ G2 _ ((g12.stp sB).trans (stp_own g2.s (sB.trans g12.h) h2 hG2)) ((rs.grow g12).upd (m' := .dic (putKeys ks key) (putVals ks ds key d)) (us := putVals ks vs key u) em h1 h2 hG2 ⟨putVals_len ks ds key d h5.1, putKeys_nd key h5.2⟩ ?_) r2
          exact repL_put key r2 (h6.mono g12.g)
    · cases e
  · cases e
@[simp] def sSetX (i : Nat) (f : FX) : FS := fun δ => (f δ).map fun r => .nx (r.2.set i (some (.sh r.1)))
theorem psd_setX (i : Nat) {x : Str} {pos' : Pos} {f : FX} (hN : X.N.Nodup) (he : PX X e f) (hi : X.N[i]? = some x := by rfl) (hx : Loc X.env.scope x := by first | exact Or.inl rfl | exact Or.inr rfl)
    (hs : swapsWith e (some (.Name x pos')) pos.line X.env = pure false := by rfl) (hf : X.fn x = true ∨ X.env.scope.names.lookup x = some .local := by first | exact .inl rfl | exact .inr rfl) : PSD X (.Assign [.Name x pos'] e pos) (sSetX i f) := by
  obtain ⟨t, pt, k⟩ := he
  refine ⟨_, ps_set hN hi hx pt hs hf, fun B G H δ σ o D sG sB rs e w => ?_⟩
  unfold sSetX at e
  obtain ⟨⟨d, δ'⟩, e1, rfl⟩ := Option.map_eq_some_iff.mp e
  exact k B G H δ σ d δ' _ sG sB rs e1 fun v G' H' g rs' r => w _ G' H' g (rs'.set i r)
end
end L2

-- part Ly11
set_option Elab.async false
set_option linter.all false
set_option maxRecDepth 100000
set_option maxHeartbeats 4000000
namespace HT
open PySem PySem.Spec PyProof.Rows
variable {prog : Program} {w : World} {A : Around} {E : Value → Shared → Prop} {s : Shared}
theorem getItem_tuple_all {t sl : Addr} {items : Array Value} {vl vu : Value} {lo hi : Option Int} {Q : Value → Shared → Prop} (ht : IsTup s.heap t items) (hs : s.heap.IsSliceOf sl vl vu .none) (pl : IsPart vl lo) (pu : IsPart vu hi)
    (hw : sIx items.size 0 lo = 0 ∧ sIx items.size items.size hi = items.size) (h : Q (.ref t) s) : wpAny (model prog w) A (getItem (.ref t) (.ref sl)) Q E s := by
  obtain ⟨os, hos, hcs, hds⟩ := id hs
  have hTs : s.TypeIs (.ref sl) "slice" := ⟨os, hos, hcs⟩
  unfold getItem
  try with_reducible refine wpAny_holding ?_
  first | refine wpAny_bind (wpAny_pure ?_) | skip
  refine wpAny_bind (wpAny_sequenceKey ht.typeIs (by decide) ?_)
  refine wpAny_bind (wpAny_callSpecial?_slot (name := Str.ofString "__getitem__") ht.typeIs PyProof.Rows.slot_tuple_getitem
    (wpAny_call_entry PyProof.Rows.slot_tuple_getitem ht.typeIs entry_tuple_getitem ?_ (args_tuple_getitem _ _)))
  show wpAny _ _ (Builtin.Tuple.tupleItemsOf (.ref t) >>= _) _ _ s
  refine wpAny_bind (tupleItemsOf_ ht ?_)
  refine wpAny_bind (wpAny_typeOf hTs ?_)
  rw [if_pos (by decide)]
  refine wpAny_bind (sliceApplied_gen hs pl pu ?_)
  have hno : (((sIx items.size 0 lo : Nat) : Int) == 0 && (1 : Int) == 1 && (sIx items.size items.size hi - sIx items.size 0 lo) == items.size) = true := by
    rw [hw.1, hw.2]; simp
  show wpAny _ _ (if (((sIx items.size 0 lo : Nat) : Int) == 0 && (1 : Int) == 1 && (sIx items.size items.size hi - sIx items.size 0 lo) == items.size) = true then _ else _) _ _ s
  rw [if_pos hno]
  refine wpAny_bind ?_
  unfold Builtin.Tuple.tupleIsExact
  refine wpAny_bind (wpAny_typeOf ht.typeIs (wpAny_pure ?_))
  rw [if_pos (by decide)]
  refine wpAny_bind (wpAny_rule ?_)
  first
    | exact wpAny_pure ⟨_, rfl, wpAny_pure h⟩
    | exact wpAny_bind (wpAny_pure ⟨_, rfl, wpAny_pure h⟩)
    | exact wpAny_pure (wpAny_pure ⟨_, rfl, wpAny_pure h⟩)
    | exact wpAny_pure (wpAny_pure h)
end HT
namespace L2
open PySem PySem.Spec PyProof.Rows
section
variable {X : Cx}
def rSlTA (K : PySem.W.Frag) : V → Option Int → Option Int → Hp → VK → Prop := fun x lo hi H Q => ∃ a xs, x = .ref a ∧ SqT K H a xs ∧
  (HT.sIx xs.length 0 lo = 0 ∧ HT.sIx xs.length xs.length hi = xs.length) ∧ Q (.ref a) H
theorem sl_tupA : SlR X (rSlTA X.K) := by
  intro pins s σ H x v vl vu lo hi sl Q I rx hs pl pu h
  obtain ⟨a, xs, rfl, hx, hw, q⟩ := h
  cases rx
  obtain ⟨its, r, ht, hz⟩ := I.tuple hx
  have hlen : its.toArray.size = xs.length := by rw [List.size_toArray]; exact r.length.symm
  refine ⟨"tuple", _, PyProof.Rows.slot_tuple_getitem.lookup, ht.typeIs, ?_⟩
  exact HT.getItem_tuple_all ht hs pl pu (by rw [hlen]; exact hw) ⟨.ref a, H, I, rfl, q⟩
/-- x[lo:hi] of lists (new), tuples -/
def slA (x : D) (lo hi : Option Int) : Option Rs := match x with
  | .lst ds => some (.fr (.lst (cutD ds lo hi)))
  | .tup ds => some (.sh (.tup (cutD ds lo hi)))
  | _ => none
theorem cutD_all {ds : List D} {lo hi : Option Int} (h : HT.sIx ds.length 0 lo = 0 ∧ HT.sIx ds.length ds.length hi = ds.length) : cutD ds lo hi = ds := by
  unfold cutD
  rw [h.1, h.2]
  simp
@[simp] def fSlA (f : FE) (l h : En → Option (Option Int)) : FR := fun δ => (f δ).bind fun x => (l δ).bind fun lo => (h δ).bind fun hi => slA x lo hi
theorem pr_slA {e : Expr} {f : FE} {lo hi : Option Expr} {fl fh : En → Option (Option Int)} {pos p2 : Pos} (he : PB X e f) (hl : POD X lo fl) (hh : POD X hi fh) : PR X (.Subscript e (.Slice lo hi none p2) pos) (fSlA f fl fh) := by
  obtain ⟨t, pt, k1⟩ := he
  obtain ⟨tl, pl, kl⟩ := hl
  obtain ⟨th, ph, kh⟩ := hh
  refine ⟨_, pe_slice ((sl_list.or sl_tup).or sl_tupA) pt pl ph, fun B G H δ σ d Q sG rs e k => ?_⟩
  unfold fSlA at e
  obtain ⟨x, e1, e⟩ := Option.bind_eq_some_iff.mp e
  obtain ⟨l, e2, e⟩ := Option.bind_eq_some_iff.mp e
  obtain ⟨h, e3, e⟩ := Option.bind_eq_some_iff.mp e
  refine k1 B G H δ σ x _ sG rs e1 fun v G1 H1 g1 r1 => kl B G1 H1 δ σ l _ g1.s (rs.grow g1) e2 fun G2 H2 g2 => kh B G2 H2 δ σ h _ g2.s (rs.grow (g1.trans g2)) e3 fun G3 H3 g3 => ?_
  have g13 := (g1.trans g2).trans g3
  have r3 := r1.grow (g2.trans g3)
  unfold slA at e
  split at e
  · cases e
    obtain ⟨a, vs, rfl, q, rl⟩ := r3.lst g3.s
    exact .inl (.inl ⟨a, vs, rfl, q, fun p hp => k p _ G3 H3 g13 hp True.intro (rl.cut l h)⟩)
  · rename_i ds _ _
    cases e
    have r3 := r3.tup
    have r4 := r3
    simp only [Rep] at r4
    obtain ⟨a, vs, rfl, q, rl⟩ := r4
    by_cases hw : HT.sIx ds.length 0 l = 0 ∧ HT.sIx ds.length ds.length h = ds.length
    · rw [cutD_all hw] at k
      exact .inr ⟨a, vs, rfl, g3.s.sqT q, by rw [← rl.length]; exact hw, k _ _ _ g13 r3⟩
    · exact .inl (.inr ⟨a, vs, rfl, g3.s.sqT q, by rw [← rl.length]; exact hw, fun p hp => k _ _ _ (g13.trans (Grow.laid g3.s _ hp)) (rep_tup (g3.s.free hp) (rl.cut l h))⟩)
  · cases e
/-! ### ''.join(list) -/
def rJoin (K : PySem.W.Frag) : V → List V → Hp → VK → Prop := fun x vs H Q => ∃ z a ys, x = .str z ∧ vs = [.ref a] ∧ SqL K H a (ys.map V.str) ∧ (ys.map fun y => y.length).sum + ys.length * z.length ≤ 16777216 ∧ Q (.str (Txt.join z ys)) H
theorem strsAre_of : ∀ {ys : List Str} {us : List Value}, Vals (ys.map V.str) us → StrsAre us ys
  | [], _, h => by cases h; exact .nil
  | y :: ys, _, h => by
    cases h with
    | cons r rr =>
      obtain ⟨t, rfl⟩ := r
      exact .cons y t (strsAre_of rr)
theorem mt_join : MtR X "str.join" (rJoin X.K) := by
  intro pins s σ H x vs v us Q I rx rv h
  obtain ⟨z, a, ys, rfl, rfl, hq, hl, q⟩ := h
  obtain ⟨t, rfl⟩ := rx
  obtain ⟨u, rfl, ru⟩ := rv.one
  cases ru
  obtain ⟨its, r, p, hz⟩ := I.list hq
  refine join_list p.isList (by simpa using strsAre_of r) hl fun t' k => ?_
  exact ⟨.str (Txt.join z ys), H, I.tok _, ⟨t', rfl⟩, q⟩
def strsD : List D → Option (List Str)
  | [] => some []
  | .str x :: r => (strsD r).map (x :: ·)
  | _ => none
theorem strsD_rep {K : PySem.W.Frag} {G : Hp} : ∀ {ds : List D} {ys : List Str} {vs : List V}, strsD ds = some ys → RepL K G ds vs → vs = ys.map V.str
  | [], _, _, e, r => by cases e; simp only [RepL] at r; exact r
  | d :: ds, ys, vs, e, r => by
    cases d with
    | str x =>
      simp only [strsD] at e
      obtain ⟨zs, e1, rfl⟩ := Option.map_eq_some_iff.mp e
      simp only [RepL] at r
      obtain ⟨v, us, rfl, r1, r2⟩ := r
      simp only [Rep] at r1
      subst r1
      rw [strsD_rep e1 r2]; rfl
    | non => cases e
    | bl b => cases e
    | int b => cases e
    | tup b => cases e
    | lst b => cases e
    | dic b c => cases e
def joinD : D → D → Option D
  | .str z, .lst ds => (strsD ds).bind fun ys => if (ys.map fun y => y.length).sum + ys.length * z.length ≤ 16777216 then some (.str (Txt.join z ys)) else none
  | _, _ => none
theorem pd_join {o a : Expr} {fo fa : FE} {p1 p2 : Pos} (ho : PD X o fo) (ha : PB X a fa)
    (hb : ∀ {to ta : TE}, PE X o to → PE X a ta → PE X (.Call (.Attribute o "join" p1) [a] [] p2) (tBM X.K "str" (rJoin X.K) to (tCons ta tNil)) := by
      intro to ta hx ht; exact pe_bm PySem.F.plainAttrs_str PySem.F.slot_str_join PySem.F.type_str_join mt_join hx (pa_cons ht pa_nil)) :
    PD X (.Call (.Attribute o "join" p1) [a] [] p2) (f2 joinD fo fa) := by
  obtain ⟨t1, q1, k1⟩ := ho
  obtain ⟨t2, q2, k2⟩ := ha
  refine ⟨_, hb q1 q2, fun B G H δ σ d Q sG rs ef k => ?_⟩
  unfold f2 at ef
  obtain ⟨x, e1, ef⟩ := Option.bind_eq_some_iff.mp ef
  obtain ⟨y, e2, ef⟩ := Option.bind_eq_some_iff.mp ef
  unfold joinD at ef
  split at ef
  · rename_i z ds _
    obtain ⟨ys, e3, ef⟩ := Option.bind_eq_some_iff.mp ef
    split at ef
    · rename_i hl
      cases ef
      refine k1 B G H δ σ _ _ sG rs e1 fun v G1 H1 g1 r1 => ?_
      simp only [Rep] at r1
      subst r1
      refine ⟨rfl, k2 B G1 H1 δ σ _ _ g1.s (rs.grow g1) e2 fun u G2 H2 g2 r2 => ?_⟩
      obtain ⟨a, vs, rfl, hq, rl⟩ := r2.lst g2.s
      obtain rfl := strsD_rep e3 rl
      exact ⟨z, a, ys, rfl, rfl, hq, hl, k _ G2 H2 (g1.trans g2) (by simp [Rep])⟩
    · cases ef
  · cases ef
/-! ### range(a, b) -/
@[simp] def oRng2 (f g : FE) : En → Option (List D) := fun δ => (f δ).bind fun x => (g δ).bind fun y => match x, y with
  | .int i, .int j => if -(2 ^ 62) ≤ i ∧ i < 2 ^ 62 ∧ -(2 ^ 62) ≤ j ∧ j < 2 ^ 62 then some (rngD i (j - i).toNat) else none
  | _, _ => none
theorem pid_range2 {tg a b : Expr} {f g : FE} {p pos : Pos} (hm : X.mg "range" = none) (ha : PD X a f) (hb : PD X b g) (hg : Gl X "range" := by rfl) (hs : starEach [a, b] X.env = [(false, eval a X.env), (false, eval b X.env)] := by rfl) (hs2 : starEach [b] X.env = [(false, eval b X.env)] := by rfl) (hs3 : starEach [] X.env = [] := by rfl) : PID X tg (.Call (.Name "range" p) [a, b] [] pos) (oRng2 f g) := by
  obtain ⟨t1, q1, k1⟩ := ha
  obtain ⟨t2, q2, k2⟩ := hb
  refine ⟨_, pi_range2 hg hm (pa_cons q1 (pa_cons q2 pa_nil (by rw [hs2, hs3])) (by rw [hs, hs2])) hs hs2, fun B G H δ σ xs R sG rs e q => ?_⟩
  unfold oRng2 at e
  obtain ⟨x, e1, e⟩ := Option.bind_eq_some_iff.mp e
  obtain ⟨y, e2, e⟩ := Option.bind_eq_some_iff.mp e
  split at e
  · rename_i i j _
    split at e
    · rename_i hj
      cases e
      refine k1 B G H δ σ _ _ sG rs e1 fun v G1 H1 g1 r1 => k2 B G1 H1 δ σ _ _ g1.s (rs.grow g1) e2 fun u G2 H2 g2 r2 => ?_
      simp only [Rep] at r1 r2
      subst r1 r2
      refine ⟨i, j, rfl, hj, q _ G2 H2 (g1.trans g2) ⟨fun m d G' H' ed a1 b1 => ?_, fun G' H' a1 b1 => ?_⟩⟩
      · unfold rngD at ed
        rw [List.getElem?_map] at ed
        obtain ⟨c, ec, rfl⟩ := Option.map_eq_some_iff.mp ed
        obtain ⟨hi, hc⟩ := List.getElem?_eq_some_iff.mp ec
        rw [List.length_range] at hi
        rw [List.getElem_range] at hc
        subst hc
        refine ⟨hi, fun x' H2 y => ⟨y.1, ?_⟩⟩
        rw [y.2]
        simp [Rep]
      · show (j - i).toNat ≤ (rngD i (j - i).toNat).length
        simp [rngD]
    · cases e
  · cases e
end
end L2

-- part Lz
set_option Elab.async false
set_option linter.all false
set_option maxRecDepth 100000
set_option maxHeartbeats 4000000
namespace L2
open PySem PySem.Spec PyProof.Rows
section
variable {prog : Program} {w : World} {A : Around} {E : Value → Shared → Prop} {s : Shared}
theorem nextOf_tuple_item {it t : Addr} {i : Nat} {items : Array Value} {x : Value} {Q : Value → Shared → Prop} (hit : s.heap.IsTupleIter it t i) (ht : s.heap.IsTuple t items) (hx : items[i]? = some x)
    (hQ : ∀ h' : Heap, h'.IsTupleIter it t (i + 1) → Heap.SameBut it s.heap h' → Q x { s with heap := h' }) : wpAny (model prog w) A (Builtin.SmallTypes.nextOf (.ref it)) Q E s := by
  obtain ⟨o, ho, hc, hd⟩ := id hit
  obtain ⟨ol, hol, _, nl, hdl⟩ := ht
  unfold Builtin.SmallTypes.nextOf
  refine wpAny_bind (wpAny_callSpecial?_slot (Heap.IsTupleIter.typeIs hit) F.slot_tuple_iterator_next (wpAny_call_entry F.slot_tuple_iterator_next (Heap.IsTupleIter.typeIs hit) F.entry_tuple_iterator_next ?_ (F.args_tuple_iterator_next_1 _)))
  refine wpAny_bind (show wpAny _ _ (pure (Value.ref it, [])) _ _ _ from wpAny_pure ?_)
  refine wpAny_bind (wpAny_field ho hd rfl ?_)
  refine Eq.mpr (congrArg (fun m => wpAny (model prog w) A.in1 m _ _ s) (if_neg Bool.false_ne_true)) ?_
  refine wpAny_bind (wpAny_field ho hd rfl ?_)
  refine wpAny_bind (wpAny_seqItems hol hdl ?_)
  show wpAny _ _ (match items[i]? with | some x => _ | none => _) _ _ s
  rw [hx]
  refine wpAny_bind (wpAny_setField ho hd (by simp) (wpAny_pure ⟨x, rfl, wpAny_pure (hQ _ ?_ (Heap.SameBut.update _ _ _))⟩))
  exact ⟨_, Heap.get?_update_self _ ho (Obj.isFreed_of_fields (Obj.data_mapFields hd _)), (Obj.cls_mapFields o _).trans hc, by rw [Obj.data_mapFields hd]; simp [rawInt]⟩
end
end L2

-- part Lz2
set_option Elab.async false
set_option linter.all false
set_option maxRecDepth 100000
set_option maxHeartbeats 4000000
namespace L2
open PySem PySem.Spec PyProof.Rows
section
variable {prog : Program} {w : World} {A : Around} {E : Value → Shared → Prop} {s : Shared}
theorem stopIter {α : Type} {Q : α → Shared → Prop} (hh : A.handled = none) (hE : ∀ (h' : Heap) (e : Addr), (∀ c o, s.heap.get? c = some o → h'.get? c = some o) → (∃ o, h'.get? e = some o ∧ o.cls = .type "StopIteration") → E (.ref e) { s with heap := h' }) :
    wpAny (model prog w) A (Builtin.SmallTypes.stopIteration (α := α)) Q E s := by
  unfold Builtin.SmallTypes.stopIteration
  refine wpAny_bind ?_
  unfold newExc
  refine wpAny_bind (wpAny_newObj_type ?_ (by show (0 : Nat) ≤ sizeLine; exact Nat.zero_le _))
  refine wpAny_bind (wpAny_of_eq (Eq.refl (firstArgMember (Value.type "StopIteration") [])) ?_)
  refine wpAny_newObj_type ?_ (sizeOk_excFields _ _ _ _ _ _ _ _)
  unfold raiseNew
  refine wpAny_bind (wpAny_handled ?_)
  rw [hh]
  refine wpAny_throw (hE _ _ (fun c o e => Heap.get?_push_of_some _ (Heap.get?_push_of_some _ e)) ⟨_, Heap.get?_push_size _ rfl, rfl⟩)
theorem nextOf_tuple_end {it t : Addr} {i : Nat} {items : Array Value} {Q : Value → Shared → Prop} (hh : A.handled = none) (hit : s.heap.IsTupleIter it t i) (ht : s.heap.IsTuple t items) (hx : items[i]? = none)
    (hE : ∀ (h' : Heap) (e : Addr), Heap.ExtBut it s.heap h' → (∃ o, h'.get? e = some o ∧ o.cls = .type "StopIteration") → E (.ref e) { s with heap := h' }) : wpAny (model prog w) A (Builtin.SmallTypes.nextOf (.ref it)) Q E s := by
  obtain ⟨o, ho, hc, hd⟩ := id hit
  obtain ⟨ol, hol, _, nl, hdl⟩ := ht
  unfold Builtin.SmallTypes.nextOf
  refine wpAny_bind (wpAny_callSpecial?_slot (Heap.IsTupleIter.typeIs hit) F.slot_tuple_iterator_next (wpAny_call_entry F.slot_tuple_iterator_next (Heap.IsTupleIter.typeIs hit) F.entry_tuple_iterator_next ?_ (F.args_tuple_iterator_next_1 _)))
  refine wpAny_bind (show wpAny _ _ (pure (Value.ref it, [])) _ _ _ from wpAny_pure ?_)
  refine wpAny_bind (wpAny_field ho hd rfl ?_)
  refine Eq.mpr (congrArg (fun m => wpAny (model prog w) A.in1 m _ _ s) (if_neg Bool.false_ne_true)) ?_
  refine wpAny_bind (wpAny_field ho hd rfl ?_)
  refine wpAny_bind (wpAny_seqItems hol hdl ?_)
  show wpAny _ _ (match items[i]? with | some x => _ | none => _) _ _ s
  rw [hx]
  refine wpAny_bind (wpAny_rule (wpAny_bind (wpAny_setField ho hd (by simp) ?_)))
  refine stopIter (A := A.in1) hh fun h' e k he => hE h' e (fun c q hc' e' => k c q ?_) he
  exact (Heap.SameBut.update s.heap it _).extBut c q hc' e'
/-- a list or a tuple that is walked -/
def QIter (tp : Bool) (h : Heap) (it l : Addr) (i : Nat) : Prop := match tp with | true => h.IsTupleIter it l i | false => h.IsListIter it l i
def QSeq (tp : Bool) (h : Heap) (l : Addr) (xs : Array Value) : Prop := match tp with | true => h.IsTuple l xs | false => h.IsList l xs
theorem QIter.keep {tp : Bool} {h h' : Heap} {it l : Addr} {i : Nat} (q : QIter tp h it l i) (k : ∀ o, h.get? it = some o → h'.get? it = some o) : QIter tp h' it l i := by
  cases tp with
  | true => obtain ⟨o, e, r⟩ := q; exact ⟨o, k o e, r⟩
  | false => obtain ⟨o, e, r⟩ := q; exact ⟨o, k o e, r⟩
theorem QSeq.keep {tp : Bool} {h h' : Heap} {l : Addr} {xs : Array Value} (q : QSeq tp h l xs) (k : ∀ o, h.get? l = some o → h'.get? l = some o) : QSeq tp h' l xs := by
  cases tp with
  | true => obtain ⟨o, e, r⟩ := q; exact ⟨o, k o e, r⟩
  | false => obtain ⟨o, e, r⟩ := q; exact ⟨o, k o e, r⟩
theorem nextOf_q_item {tp : Bool} {it t : Addr} {i : Nat} {items : Array Value} {x : Value} {Q : Value → Shared → Prop} (hit : QIter tp s.heap it t i) (ht : QSeq tp s.heap t items) (hx : items[i]? = some x)
    (hQ : ∀ h' : Heap, QIter tp h' it t (i + 1) → Heap.SameBut it s.heap h' → Q x { s with heap := h' }) : wpAny (model prog w) A (Builtin.SmallTypes.nextOf (.ref it)) Q E s := by
  cases tp with
  | true => exact nextOf_tuple_item hit ht hx hQ
  | false => exact wpAny_nextOf_list_item hit ht hx hQ
theorem nextOf_q_end {tp : Bool} {it t : Addr} {i : Nat} {items : Array Value} {Q : Value → Shared → Prop} (hh : A.handled = none) (hit : QIter tp s.heap it t i) (ht : QSeq tp s.heap t items) (hx : items[i]? = none)
    (hE : ∀ (h' : Heap) (e : Addr), Heap.ExtBut it s.heap h' → (∃ o, h'.get? e = some o ∧ o.cls = .type "StopIteration") → E (.ref e) { s with heap := h' }) : wpAny (model prog w) A (Builtin.SmallTypes.nextOf (.ref it)) Q E s := by
  cases tp with
  | true => exact nextOf_tuple_end hh hit ht hx hE
  | false => exact wpAny_nextOf_list_end hh hit ht hx hE
end
end L2

-- part Lz3
set_option Elab.async false
set_option linter.all false
set_option maxRecDepth 100000
set_option maxHeartbeats 4000000
namespace L2
open PySem PySem.Spec PyProof.Rows
section
variable {prog : Program} {w : World} {A : Around} {E : Value → Shared → Prop} {s : Shared}
theorem zipq_item {z TI TO i1 i2 l1 l2 : Addr} {t1 t2 : Bool} {k1 k2 : Nat} {xs ys : Array Value} {x y a b : Value} {Q : Value → Shared → Prop} (D : ZipApart z TI TO i1 i2 l1 l2) (hz : IsZip s.heap z TI TO .none)
    (hTI : IsPair s.heap TI (.ref i1) (.ref i2)) (hTO : IsPair s.heap TO a b) (h1 : QIter t1 s.heap i1 l1 k1) (h2 : QIter t2 s.heap i2 l2 k2) (hl1 : QSeq t1 s.heap l1 xs) (hl2 : QSeq t2 s.heap l2 ys) (hx : xs[k1]? = some x) (hy : ys[k2]? = some y)
    (hQ : ∀ h' : Heap, IsZip h' z TI TO (rawInt s.heap.objs.size) → IsPair h' TO x y → QIter t1 h' i1 l1 (k1 + 1) → QIter t2 h' i2 l2 (k2 + 1) → IsPair h' s.heap.objs.size x y →
      (∀ c o, c ≠ z → c ≠ TO → c ≠ i1 → c ≠ i2 → s.heap.get? c = some o → h'.get? c = some o) → Q (.ref s.heap.objs.size) { s with heap := h' }) :
    wpAny (model prog w) A (Builtin.«zip.__next__» { pos := [.ref z] }) (fun fin s' => ∃ v, fin = Fin.done (Flow.ret v) ∧ Q v s') E s := by
  unfold Builtin.«zip.__next__»
  refine wpAny_bind (show wpAny _ _ (pure (Value.ref z, [])) _ _ _ from wpAny_pure ?_)
  refine wpAny_bind (wpAny_field hz rfl rfl ?_)
  refine wpAny_bind (wpAny_field hz rfl rfl ?_)
  refine wpAny_bind (wpAny_seqItems hTI rfl ?_)
  dsimp only
  refine Eq.mpr (congrArg (fun m => wpAny (model prog w) A m _ _ s) (if_neg (show ¬ (#[Value.ref i1, Value.ref i2].isEmpty = true) by simp))) ?_
  refine wpAny_bind (show wpAny _ _ (Builtin.SmallTypes.ownedTupleIsFree (.ref z)) _ _ _ from ?_)
  unfold Builtin.SmallTypes.ownedTupleIsFree
  refine wpAny_bind (wpAny_field hz rfl rfl (wpAny_pure ?_))
  refine Eq.mpr (congrArg (fun m => wpAny (model prog w) A m _ _ s) (if_pos rfl)) ?_
  refine wpAny_bind (wpAny_rule (wpAny_bind (wpAny_field hz rfl rfl ?_)))
  refine wpAny_bind (wpAny_setField hz rfl (by simp) ?_)
  have hs1 := Heap.SameBut.update s.heap z (Obj.mapFields fun x => x.setIfInBounds 0 Value.ellipsis)
  have hz1 : IsZip (s.heap.update z (Obj.mapFields fun x => x.setIfInBounds 0 Value.ellipsis)) z TI TO .ellipsis := Heap.get?_update_self _ hz rfl
  generalize s.heap.update z (Obj.mapFields fun x => x.setIfInBounds 0 Value.ellipsis) = H1 at hs1 hz1 ⊢
  refine wpAny_bind ?_
  show wpAny _ _ (forIn [(Value.ref i1, 0), (Value.ref i2, 1)] _ _) _ _ _
  rw [List.forIn_cons]
  refine wpAny_bind (wpAny_bind (wpAny_onRaise ?_))
  show wpAny _ _ (Builtin.SmallTypes.nextOf (.ref i1) >>= fun v => pure (some v)) _ _ _
  refine wpAny_bind (nextOf_q_item (tp := t1) (t := l1) (i := k1) (items := xs) (x := x) (h1.keep fun o e => (hs1.2 i1 D.i1z).trans e) (hl1.keep fun o e => (hs1.2 l1 D.l1z).trans e) hx fun H2 q2 hs2 => wpAny_pure ?_)
  have hTO2 : IsPair H2 TO a b := (hs2.2 TO D.TOi1).trans ((hs1.2 TO D.TOz).trans hTO)
  refine wpAny_bind (wpAny_seqItems hTO2 rfl (wpAny_bind (wpAny_updateSeq_pair hTO2 fun H3 hTO3 hs3 => wpAny_bind (wpAny_letGo (wpAny_pure ?_)))))
  have hTO3 : IsPair H3 TO x b := hTO3
  show wpAny _ _ (forIn [(Value.ref i2, 1)] _ _) _ _ _
  rw [List.forIn_cons]
  refine wpAny_bind (wpAny_bind (wpAny_onRaise ?_))
  show wpAny _ _ (Builtin.SmallTypes.nextOf (.ref i2) >>= fun v => pure (some v)) _ _ _
  have k3 : ∀ c o, c ≠ z → c ≠ i1 → c ≠ TO → s.heap.get? c = some o → H3.get? c = some o := fun c o a1 a2 a3 e => (hs3.2 c a3).trans ((hs2.2 c a2).trans ((hs1.2 c a1).trans e))
  refine wpAny_bind (nextOf_q_item (tp := t2) (t := l2) (i := k2) (items := ys) (x := y) (h2.keep fun o e => k3 _ _ D.i2z D.i12.symm D.TOi2.symm e) (hl2.keep fun o e => k3 _ _ D.l2z D.l2i1 D.l2TO e) hy fun H4 q4 hs4 => wpAny_pure ?_)
  have hTO4 : IsPair H4 TO x b := (hs4.2 TO D.TOi2).trans hTO3
  refine wpAny_bind (wpAny_seqItems hTO4 rfl (wpAny_bind (wpAny_updateSeq_pair hTO4 fun H5 hTO5 hs5 => wpAny_bind (wpAny_letGo (wpAny_pure ?_)))))
  have hTO5 : IsPair H5 TO x y := hTO5
  show wpAny _ _ (forIn [] _ _) _ _ _
  rw [List.forIn_nil]
  refine wpAny_pure ?_
  refine wpAny_bind (wpAny_seqItems hTO5 rfl ?_)
  have hz5 : IsZip H5 z TI TO .ellipsis := (hs5.2 z D.TOz.symm).trans ((hs4.2 z D.i2z.symm).trans ((hs3.2 z D.TOz.symm).trans ((hs2.2 z D.i1z.symm).trans hz1)))
  have sz : H5.objs.size = s.heap.objs.size := by
    have a1 := hs1.1; have a2 := hs2.1; have a3 := hs3.1; have a4 := hs4.1; have a5 := hs5.1
    dsimp only at a2 a3 a4 a5
    omega
  refine wpAny_bind (wpAny_newObj_type (T := "tuple") (data := .seq #[x, y]) ?_ (by show (2 : Nat) ≤ sizeLine; decide))
  have nz : H5.objs.size ≠ z := fun e => absurd (Heap.lt_size hz5) (by rw [e]; exact Nat.lt_irrefl _)
  have hz6 : IsZip (H5.push { cls := .type "tuple", data := .seq #[x, y] }) z TI TO .ellipsis := Heap.get?_push_of_some _ hz5
  have hT6 : IsPair (H5.push { cls := .type "tuple", data := .seq #[x, y] }) H5.objs.size x y := Heap.get?_push_size _ rfl
  have k6 : ∀ c o, H5.get? c = some o → (H5.push { cls := .type "tuple", data := .seq #[x, y] }).get? c = some o := fun c o e => Heap.get?_push_of_some _ e
  show wpAny _ _ (Builtin.SmallTypes.ownedTupleHandOut (.ref z) (.ref H5.objs.size) >>= fun _ => ret (.ref H5.objs.size)) _ _ { s with heap := H5.push { cls := .type "tuple", data := .seq #[x, y] } }
  generalize H5.push { cls := .type "tuple", data := .seq #[x, y] } = H6 at hz6 hT6 k6 ⊢
  rw [sz] at hT6 nz ⊢
  refine wpAny_bind ?_
  unfold Builtin.SmallTypes.ownedTupleHandOut
  refine wpAny_bind (wpAny_setField hz6 rfl (by simp) ?_)
  have hs7 := Heap.SameBut.update H6 z (Obj.mapFields fun x => x.setIfInBounds 0 (rawInt s.heap.objs.size))
  have hz7 : IsZip (H6.update z (Obj.mapFields fun x => x.setIfInBounds 0 (rawInt s.heap.objs.size))) z TI TO (rawInt s.heap.objs.size) := Heap.get?_update_self _ hz6 rfl
  generalize H6.update z (Obj.mapFields fun x => x.setIfInBounds 0 (rawInt s.heap.objs.size)) = H7 at hs7 hz7 ⊢
  refine wpAny_setField hz7 rfl (by simp) ?_
  have hs8 := Heap.SameBut.update H7 z (Obj.mapFields fun x => x.setIfInBounds 1 (Value.bool false))
  have hz8 : IsZip (H7.update z (Obj.mapFields fun x => x.setIfInBounds 1 (Value.bool false))) z TI TO (rawInt s.heap.objs.size) := Heap.get?_update_self _ hz7 rfl
  show wpAny _ _ _ _ _ { s with heap := H7.update z (Obj.mapFields fun x => x.setIfInBounds 1 (Value.bool false)) }
  generalize H7.update z (Obj.mapFields fun x => x.setIfInBounds 1 (Value.bool false)) = H8 at hs8 hz8 ⊢
  have k8 : ∀ c o, c ≠ z → H5.get? c = some o → H8.get? c = some o := fun c o n e => (hs8.2 c n).trans ((hs7.2 c n).trans (k6 c o e))
  have q2' : QIter t1 H8 i1 l1 (k1 + 1) := q2.keep fun o e => k8 _ _ D.i1z ((hs5.2 i1 D.TOi1.symm).trans ((hs4.2 i1 D.i12).trans ((hs3.2 i1 D.TOi1.symm).trans e)))
  have q4' : QIter t2 H8 i2 l2 (k2 + 1) := q4.keep fun o e => k8 _ _ D.i2z ((hs5.2 i2 D.TOi2.symm).trans e)
  refine wpAny_pure ⟨_, rfl, hQ H8 hz8 (k8 _ _ D.TOz hTO5) q2' q4' ((hs8.2 _ nz).trans ((hs7.2 _ nz).trans hT6)) fun c o n1 n2 n3 n4 e => ?_⟩
  exact k8 c o n1 ((hs5.2 c n2).trans ((hs4.2 c n4).trans (k3 c o n1 n3 n2 e)))
end
end L2

-- part Lz4
set_option Elab.async false
set_option linter.all false
set_option maxRecDepth 100000
set_option maxHeartbeats 4000000
namespace L2
open PySem PySem.Spec PyProof.Rows
section
variable {prog : Program} {w : World} {A : Around} {E : Value → Shared → Prop} {s : Shared}
theorem zipq_end {z TI TO i1 i2 l1 l2 : Addr} {t1 t2 : Bool} {k1 k2 : Nat} {xs ys : Array Value} {a b : Value} {Q : PySem.Fin → Shared → Prop} (hh : A.handled = none) (D : ZipApart z TI TO i1 i2 l1 l2) (hz : IsZip s.heap z TI TO .none)
    (hTI : IsPair s.heap TI (.ref i1) (.ref i2)) (hTO : IsPair s.heap TO a b) (h1 : QIter t1 s.heap i1 l1 k1) (h2 : QIter t2 s.heap i2 l2 k2) (hl1 : QSeq t1 s.heap l1 xs) (hl2 : QSeq t2 s.heap l2 ys) (hend : xs[k1]? = none ∨ ys[k2]? = none)
    (hE : ∀ (h' : Heap) (e : Addr), (∀ c o, c ≠ z → c ≠ TO → c ≠ i1 → c ≠ i2 → s.heap.get? c = some o → h'.get? c = some o) → (∃ o, h'.get? e = some o ∧ o.cls = .type "StopIteration") → E (.ref e) { s with heap := h' }) :
    wpAny (model prog w) A (Builtin.«zip.__next__» { pos := [.ref z] }) Q E s := by
  unfold Builtin.«zip.__next__»
  refine wpAny_bind (show wpAny _ _ (pure (Value.ref z, [])) _ _ _ from wpAny_pure ?_)
  refine wpAny_bind (wpAny_field hz rfl rfl ?_)
  refine wpAny_bind (wpAny_field hz rfl rfl ?_)
  refine wpAny_bind (wpAny_seqItems hTI rfl ?_)
  dsimp only
  refine Eq.mpr (congrArg (fun m => wpAny (model prog w) A m _ _ s) (if_neg (show ¬ (#[Value.ref i1, Value.ref i2].isEmpty = true) by simp))) ?_
  refine wpAny_bind (show wpAny _ _ (Builtin.SmallTypes.ownedTupleIsFree (.ref z)) _ _ _ from ?_)
  unfold Builtin.SmallTypes.ownedTupleIsFree
  refine wpAny_bind (wpAny_field hz rfl rfl (wpAny_pure ?_))
  refine Eq.mpr (congrArg (fun m => wpAny (model prog w) A m _ _ s) (if_pos rfl)) ?_
  refine wpAny_bind (wpAny_rule (wpAny_bind (wpAny_field hz rfl rfl ?_)))
  refine wpAny_bind (wpAny_setField hz rfl (by simp) ?_)
  have hs1 := Heap.SameBut.update s.heap z (Obj.mapFields fun x => x.setIfInBounds 0 Value.ellipsis)
  have hz1 : IsZip (s.heap.update z (Obj.mapFields fun x => x.setIfInBounds 0 Value.ellipsis)) z TI TO .ellipsis := Heap.get?_update_self _ hz rfl
  generalize s.heap.update z (Obj.mapFields fun x => x.setIfInBounds 0 Value.ellipsis) = H1 at hs1 hz1 ⊢
  refine wpAny_bind ?_
  show wpAny _ _ (forIn [(Value.ref i1, 0), (Value.ref i2, 1)] _ _) _ _ _
  rw [List.forIn_cons]
  -- once a StopIteration has come
  have fin : ∀ (H' : Heap) (e : Addr), IsZip H' z TI TO .ellipsis → (∀ c o, c ≠ z → c ≠ TO → c ≠ i1 → c ≠ i2 → s.heap.get? c = some o → H'.get? c = some o) → (∃ o, H'.get? e = some o ∧ o.cls = .type "StopIteration") →
      wpAny (model prog w) A (setField (.ref z) 0 Value.none) (fun _ s'' => E (.ref e) s'') E { s with heap := H' } := fun H' e hz' k he => by
    refine wpAny_setField hz' rfl (by simp) (hE _ e (fun c o n1 n2 n3 n4 e' => ((Heap.SameBut.update H' z _).2 c n1).trans (k c o n1 n2 n3 n4 e')) ?_)
    obtain ⟨o, ho, hc⟩ := he
    have ne : e ≠ z := fun z' => by
      subst z'
      have hz'' : some o = _ := ho.symm.trans hz'
      have := Option.some.inj hz''
      subst this
      exact absurd (show (Value.type "zip" : Value) = Value.type "StopIteration" from hc) (by intro q; injection q with q; exact absurd q (by decide))
    exact ⟨o, ((Heap.SameBut.update H' z _).2 e ne).trans ho, hc⟩
  cases hx : xs[k1]? with
  | none =>
    refine wpAny_bind (wpAny_bind (wpAny_onRaise ?_))
    show wpAny _ _ (Builtin.SmallTypes.nextOf (.ref i1) >>= fun v => pure (some v)) _ _ _
    refine wpAny_bind (nextOf_q_end hh (tp := t1) (t := l1) (i := k1) (items := xs) (h1.keep fun o e => (hs1.2 i1 D.i1z).trans e) (hl1.keep fun o e => (hs1.2 l1 D.l1z).trans e) hx fun H2 e hs2 he => ?_)
    exact fin H2 e (hs2 z _ D.i1z.symm hz1) (fun c o n1 n2 n3 n4 e' => hs2 c o n3 ((hs1.2 c n1).trans e')) he
  | some x =>
    have hy : ys[k2]? = none := hend.resolve_left (by rw [hx]; exact fun z => nomatch z)
    refine wpAny_bind (wpAny_bind (wpAny_onRaise ?_))
    show wpAny _ _ (Builtin.SmallTypes.nextOf (.ref i1) >>= fun v => pure (some v)) _ _ _
    refine wpAny_bind (nextOf_q_item (tp := t1) (t := l1) (i := k1) (items := xs) (x := x) (h1.keep fun o e => (hs1.2 i1 D.i1z).trans e) (hl1.keep fun o e => (hs1.2 l1 D.l1z).trans e) hx fun H2 q2 hs2 => wpAny_pure ?_)
    have hTO2 : IsPair H2 TO a b := (hs2.2 TO D.TOi1).trans ((hs1.2 TO D.TOz).trans hTO)
    refine wpAny_bind (wpAny_seqItems hTO2 rfl (wpAny_bind (wpAny_updateSeq_pair hTO2 fun H3 hTO3 hs3 => wpAny_bind (wpAny_letGo (wpAny_pure ?_)))))
    show wpAny _ _ (forIn [(Value.ref i2, 1)] _ _) _ _ _
    rw [List.forIn_cons]
    refine wpAny_bind (wpAny_bind (wpAny_onRaise ?_))
    show wpAny _ _ (Builtin.SmallTypes.nextOf (.ref i2) >>= fun v => pure (some v)) _ _ _
    have k3 : ∀ c o, c ≠ z → c ≠ i1 → c ≠ TO → s.heap.get? c = some o → H3.get? c = some o := fun c o a1 a2 a3 e => (hs3.2 c a3).trans ((hs2.2 c a2).trans ((hs1.2 c a1).trans e))
    have hz3 : IsZip H3 z TI TO .ellipsis := (hs3.2 z D.TOz.symm).trans ((hs2.2 z D.i1z.symm).trans hz1)
    refine wpAny_bind (nextOf_q_end hh (tp := t2) (t := l2) (i := k2) (items := ys) (h2.keep fun o e => k3 _ _ D.i2z D.i12.symm D.TOi2.symm e) (hl2.keep fun o e => k3 _ _ D.l2z D.l2i1 D.l2TO e) hy fun H4 e hs4 he => ?_)
    exact fin H4 e (hs4 z _ D.i2z.symm hz3) (fun c o n1 n2 n3 n4 e' => hs4 c o n4 (k3 c o n1 n3 n2 e')) he
/-- next(zip) -/
theorem pyNext_zipq_item {z TI TO i1 i2 l1 l2 : Addr} {t1 t2 : Bool} {k1 k2 : Nat} {xs ys : Array Value} {x y a b : Value} {Q : Option Value → Shared → Prop} (D : ZipApart z TI TO i1 i2 l1 l2) (hz : IsZip s.heap z TI TO .none)
    (hTI : IsPair s.heap TI (.ref i1) (.ref i2)) (hTO : IsPair s.heap TO a b) (h1 : QIter t1 s.heap i1 l1 k1) (h2 : QIter t2 s.heap i2 l2 k2) (hl1 : QSeq t1 s.heap l1 xs) (hl2 : QSeq t2 s.heap l2 ys) (hx : xs[k1]? = some x) (hy : ys[k2]? = some y)
    (hQ : ∀ h' : Heap, IsZip h' z TI TO (rawInt s.heap.objs.size) → IsPair h' TO x y → QIter t1 h' i1 l1 (k1 + 1) → QIter t2 h' i2 l2 (k2 + 1) → IsPair h' s.heap.objs.size x y →
      (∀ c o, c ≠ z → c ≠ TO → c ≠ i1 → c ≠ i2 → s.heap.get? c = some o → h'.get? c = some o) → Q (some (.ref s.heap.objs.size)) { s with heap := h' }) :
    wpAny (model prog w) A (pyNext (.ref z)) Q E s := by
  have hT : s.TypeIs (.ref z) "zip" := ⟨_, hz, rfl⟩
  refine wpAny_bind (wpAny_attempt (wpAny_callSpecial?_slot hT F.slot_zip_next (wpAny_call_entry F.slot_zip_next hT F.entry_zip_next ?_ (F.args_zip_next_1 _))))
  exact zipq_item (A := A.in1) D hz hTI hTO h1 h2 hl1 hl2 hx hy fun h' a1 a2 a3 a4 a5 a6 => wpAny_pure (hQ h' a1 a2 a3 a4 a5 a6)
theorem pyNext_zipq_end {z TI TO i1 i2 l1 l2 : Addr} {t1 t2 : Bool} {k1 k2 : Nat} {xs ys : Array Value} {a b : Value} {Q : Option Value → Shared → Prop} (hh : A.handled = none) (D : ZipApart z TI TO i1 i2 l1 l2) (hz : IsZip s.heap z TI TO .none)
    (hTI : IsPair s.heap TI (.ref i1) (.ref i2)) (hTO : IsPair s.heap TO a b) (h1 : QIter t1 s.heap i1 l1 k1) (h2 : QIter t2 s.heap i2 l2 k2) (hl1 : QSeq t1 s.heap l1 xs) (hl2 : QSeq t2 s.heap l2 ys) (hend : xs[k1]? = none ∨ ys[k2]? = none)
    (hQ : ∀ h' : Heap, (∀ c o, c ≠ z → c ≠ TO → c ≠ i1 → c ≠ i2 → s.heap.get? c = some o → h'.get? c = some o) → Q none { s with heap := h' }) :
    wpAny (model prog w) A (pyNext (.ref z)) Q E s := by
  have hT : s.TypeIs (.ref z) "zip" := ⟨_, hz, rfl⟩
  refine wpAny_bind (wpAny_attempt (wpAny_callSpecial?_slot hT F.slot_zip_next (wpAny_call_entry F.slot_zip_next hT F.entry_zip_next ?_ (F.args_zip_next_1 _))))
  refine zipq_end (A := A.in1) hh D hz hTI hTO h1 h2 hl1 hl2 hend fun h' e hk he => ?_
  obtain ⟨o, ho, hc⟩ := he
  exact wpAny_bind (wpAny_isInstance ⟨o, ho, hc⟩ isSubtype_stop (wpAny_pure (hQ h' hk)))
end
end L2

-- part Lz5
set_option Elab.async false
set_option linter.all false
set_option maxRecDepth 100000
set_option maxHeartbeats 4000000
namespace L2
open PySem PySem.Spec PyProof.Rows
section
variable {prog : Program} {w : World} {A : Around} {E : Value → Shared → Prop} {s : Shared}
theorem pyIter_q {tp : Bool} {l : Addr} {xs : Array Value} {Q : Value → Shared → Prop} (h : QSeq tp s.heap l xs)
    (hQ : ∀ h' : Heap, h'.objs.size = s.heap.objs.size + 1 → QIter tp h' s.heap.objs.size l 0 → (∀ c o, s.heap.get? c = some o → h'.get? c = some o) → Q (.ref s.heap.objs.size) { s with heap := h' }) :
    wpAny (model prog w) A (pyIter (.ref l)) Q E s := by
  cases tp with
  | true => exact wpAny_pyIter_tuple h (hQ _ (Heap.size_push _ _) ⟨_, Heap.get?_push_size _ rfl, rfl, rfl⟩ fun c o e => Heap.get?_push_of_some _ e)
  | false => exact wpAny_pyIter_list h (hQ _ (Heap.size_push _ _) ⟨_, Heap.get?_push_size _ rfl, rfl, rfl⟩ fun c o e => Heap.get?_push_of_some _ e)
theorem meets_zipq (t1 t2 : Bool) (l1 l2 : Addr) (xs ys : Array Value) : Meets (Builtin.«zip.__new__» { pos := [.type "zip", .ref l1, .ref l2] }) fun _ R s => QSeq t1 s.heap l1 xs ∧ QSeq t2 s.heap l2 ys ∧
    ∀ h' : Heap, IsZip h' (s.heap.objs.size + 4) (s.heap.objs.size + 2) (s.heap.objs.size + 3) .none → IsPair h' (s.heap.objs.size + 2) (.ref s.heap.objs.size) (.ref (s.heap.objs.size + 1)) → IsPair h' (s.heap.objs.size + 3) .none .none →
      QIter t1 h' s.heap.objs.size l1 0 → QIter t2 h' (s.heap.objs.size + 1) l2 0 → h'.objs.size = s.heap.objs.size + 5 → (∀ c o, s.heap.get? c = some o → h'.get? c = some o) → R (.ok (.ret (.ref (s.heap.objs.size + 4)))) { s with heap := h' } := by
  refine Meets.of_wp fun prog w A R s h => ?_
  obtain ⟨q1, q2, h⟩ := h
  unfold Builtin.«zip.__new__»
  have e0 : Builtin.SmallTypes.newClass "zip" { pos := [Value.type "zip", Value.ref l1, Value.ref l2] } = (do
      let b ← isSubtype (.type "zip") (.type "zip")
      if (!b) = true then do
          rule (toString "zip" ++ toString ".__new__.no-subtype")
          let a ← typeName (.type "zip")
          let b ← typeName (.type "zip")
          let __r ← raiseErrorMade "TypeError" (toString "zip" ++ toString ".__new__(" ++ toString a ++ toString "): " ++ toString b ++ toString " is not a subtype of " ++ toString "zip")
          (fun (_ : Unit) => (pure (Value.type "zip", [Value.ref l1, Value.ref l2]) : Sem (Value × List Value))) __r
        else pure (Value.type "zip", [Value.ref l1, Value.ref l2])) := rfl
  rw [e0]
  refine wpAny_bind (wpAny_bind (wpAny_of_eq sub_zip (wpAny_ite_false rfl (wpAny_pure ?_))))
  dsimp only
  refine wpAny_ite_false rfl ?_
  clear e0
  refine wpAny_bind ?_
  unfold Builtin.SmallTypes.iterAll
  dsimp only
  refine wpAny_bind ?_
  rw [List.forIn_cons]
  refine wpAny_bind (wpAny_bind (wpAny_holding (pyIter_q q1 fun H1 z1 i1 k1 => wpAny_pure ?_)))
  show wpAny _ _ (forIn [Value.ref l2] _ _) _ _ _
  rw [List.forIn_cons]
  refine wpAny_bind (wpAny_bind (wpAny_holding (pyIter_q (s := { s with heap := H1 }) (q2.keep fun o e => k1 _ _ e) fun H2 z2 i2 k2 => wpAny_pure ?_)))
  show wpAny _ _ (forIn [] _ _) _ _ _
  rw [List.forIn_nil]
  refine wpAny_pure (wpAny_pure ?_)
  dsimp only at z1 z2 i2 k2
  rw [z1] at i2 z2
  refine wpAny_bind (wpAny_newObj_type (T := "tuple") (data := .seq #[.ref s.heap.objs.size, .ref H1.objs.size]) ?_ (by show (2 : Nat) ≤ sizeLine; decide))
  show wpAny _ _ _ _ _ { s with heap := H2.push { cls := .type "tuple", data := .seq #[.ref s.heap.objs.size, .ref H1.objs.size] } }
  rw [z1]
  have z3 : (H2.push { cls := .type "tuple", data := .seq #[.ref s.heap.objs.size, .ref (s.heap.objs.size + 1)] }).objs.size = s.heap.objs.size + 3 := by rw [Heap.size_push]; omega
  have g3 : IsPair (H2.push { cls := .type "tuple", data := .seq #[.ref s.heap.objs.size, .ref (s.heap.objs.size + 1)] }) (s.heap.objs.size + 2) (.ref s.heap.objs.size) (.ref (s.heap.objs.size + 1)) := by
    have := Heap.get?_push_size H2 (o := { cls := .type "tuple", data := .seq #[.ref s.heap.objs.size, .ref (s.heap.objs.size + 1)] }) rfl
    rw [z2] at this
    exact this
  have k3 : ∀ c o, H2.get? c = some o → (H2.push { cls := .type "tuple", data := .seq #[.ref s.heap.objs.size, .ref (s.heap.objs.size + 1)] }).get? c = some o := fun c o e => Heap.get?_push_of_some _ e
  have eH2 : H2.objs.size = s.heap.objs.size + 2 := by omega
  show wpAny _ _ (newTuple (List.map (fun _ => Value.none) [Value.ref s.heap.objs.size, Value.ref H1.objs.size]) >>= fun t => Builtin.SmallTypes.newRecord (Value.type "zip") (Builtin.SmallTypes.ownedTupleFields ++ [Value.bool false, .ref H2.objs.size, t]) >>= fun r => ret r) _ _ _
  rw [eH2]
  generalize H2.push { cls := .type "tuple", data := .seq #[.ref s.heap.objs.size, .ref (s.heap.objs.size + 1)] } = H3 at z3 g3 k3 ⊢
  refine wpAny_bind (wpAny_newObj_type (T := "tuple") (data := .seq #[.none, .none]) ?_ (by show (2 : Nat) ≤ sizeLine; decide))
  have z4 : (H3.push { cls := .type "tuple", data := .seq #[.none, .none] }).objs.size = s.heap.objs.size + 4 := by rw [Heap.size_push]; omega
  have g4 : IsPair (H3.push { cls := .type "tuple", data := .seq #[.none, .none] }) (s.heap.objs.size + 3) .none .none := by
    have := Heap.get?_push_size H3 (o := { cls := .type "tuple", data := .seq #[.none, .none] }) rfl
    rw [z3] at this
    exact this
  have k4 : ∀ c o, H3.get? c = some o → (H3.push { cls := .type "tuple", data := .seq #[.none, .none] }).get? c = some o := fun c o e => Heap.get?_push_of_some _ e
  show wpAny _ _ (newObj (.type "zip") (.fields #[.none, .bool false, .bool false, .ref (s.heap.objs.size + 2), .ref H3.objs.size]) none >>= fun r => ret r) _ _ { s with heap := H3.push { cls := .type "tuple", data := .seq #[.none, .none] } }
  rw [z3]
  generalize H3.push { cls := .type "tuple", data := .seq #[.none, .none] } = H4 at z4 g4 k4 ⊢
  refine wpAny_bind (wpAny_newObj_type ?_ (by show (5 : Nat) ≤ sizeLine + 2; decide))
  refine wpAny_pure ⟨_, rfl, ?_⟩
  have g5 := Heap.get?_push_size H4 (o := { cls := .type "zip", data := .fields #[.none, .bool false, .bool false, .ref (s.heap.objs.size + 2), .ref (s.heap.objs.size + 3)] }) rfl
  rw [z4] at g5
  show R (.ok (.ret (.ref H4.objs.size))) { s with heap := H4.push _ }
  rw [z4]
  have k5 : ∀ c o, H4.get? c = some o → (H4.push { cls := .type "zip", data := .fields #[.none, .bool false, .bool false, .ref (s.heap.objs.size + 2), .ref (s.heap.objs.size + 3)] }).get? c = some o := fun c o e => Heap.get?_push_of_some _ e
  exact h _ g5 (k5 _ _ (k4 _ _ g3)) (k5 _ _ g4) (i1.keep fun o e => k5 _ _ (k4 _ _ (k3 _ _ (k2 _ _ e)))) (i2.keep fun o e => k5 _ _ (k4 _ _ (k3 _ _ e))) (by rw [Heap.size_push]; omega) fun c o e => k5 _ _ (k4 _ _ (k3 _ _ (k2 _ _ (k1 _ _ e))))
theorem call_zipq {t1 t2 : Bool} {l1 l2 : Addr} {xs ys : Array Value} {Q : Value → Shared → Prop} (q1 : QSeq t1 s.heap l1 xs) (q2 : QSeq t2 s.heap l2 ys)
    (h : ∀ h' : Heap, IsZip h' (s.heap.objs.size + 4) (s.heap.objs.size + 2) (s.heap.objs.size + 3) .none → IsPair h' (s.heap.objs.size + 2) (.ref s.heap.objs.size) (.ref (s.heap.objs.size + 1)) → IsPair h' (s.heap.objs.size + 3) .none .none →
      QIter t1 h' s.heap.objs.size l1 0 → QIter t2 h' (s.heap.objs.size + 1) l2 0 → h'.objs.size = s.heap.objs.size + 5 → (∀ c o, s.heap.get? c = some o → h'.get? c = some o) → Q (.ref (s.heap.objs.size + 4)) { s with heap := h' }) :
    wpAny (model prog w) A (call (.type "zip") [.ref l1, .ref l2]) Q E s :=
  callType_new F.called_zip (by decide) (F.typeCall_zip_2 _ _) (F.newCall_zip_2 _ _) (fun obj => F.args_object_init_3 obj _ _) F.entry_zip_new (meets_zipq t1 t2 l1 l2 xs ys)
    ⟨q1, q2, fun h' a1 a2 a3 a4 a5 a6 a7 => ⟨⟨_, a1, rfl⟩, h h' a1 a2 a3 a4 a5 a6 a7⟩⟩
end
end L2

-- part Lz6
set_option Elab.async false
set_option linter.all false
set_option maxRecDepth 100000
set_option maxHeartbeats 4000000
namespace L2
open PySem PySem.Spec PyProof.Rows
section
variable {X : Cx} {pins : List (Addr × Obj)} {σ : List (Option V)} {H H' : Hp} {s : Shared} {h' : Heap}
theorem Inv.turnedL {t' : Nat} {its : List Addr} (I : Inv X pins σ H s) (k : ∀ b o, b ∉ its → s.heap.get? b = some o → h'.get? b = some o) (hf : ∀ it ∈ its, FpOk X pins H it) : Inv X pins σ H { s with heap := h', toks := t' } := by
  have nit : ∀ b u, H b = some u → b ∉ its := fun b u e z => by rw [(hf b z).1] at e; cases e
  have hL : X.env.locals ∉ its := fun z => (hf _ z).2.1 rfl
  refine I.step (g' := s.gens) (d' := s.drawn) (ch := its) (fun b hb => ?_) (fun b o _ _ hc e _ => k b o hc e) (fun b o _ _ hc e _ => ⟨o.slots, k b o hc e⟩) (fun _ _ _ _ n => n)
    (fun b o hc e => ⟨o, k b o hc e⟩) (fun _ _ e => e) (fun _ _ _ e => e) (fun b ps e => ⟨#[], by rw [e]; simp⟩) (fun m hm => ?_) (fun b u e => ?_) I.bare
  · obtain ⟨f0, f1, f2, f3, f4, f5⟩ := hf b hb
    exact ⟨f3, f1, f4, f5⟩
  · obtain ⟨o, es, ep, ho, r⟩ := hm
    exact ⟨o, es, ep, k _ o hL ho, r⟩
  · refine (I.hok b u e).stay (fun c v hc q => k c v ?_ q) (fun _ q => q) fun _ _ q => q
    rcases hc with z | z
    · rw [z]; exact nit b u e
    · exact nit c _ z
end
def SqQ (tp : Bool) (K : PySem.W.Frag) (H : Hp) (a : Addr) (xs : List V) : Prop := match tp with | true => SqT K H a xs | false => SqL K H a xs
section
variable {X : Cx} {pins : List (Addr × Obj)} {σ : St} {H : Hp} {s : Shared}
theorem SqQ.at {tp : Bool} {a : Addr} {xs : List V} (I : Inv X pins σ H s) (h : SqQ tp X.K H a xs) : ∃ its : List Value, Vals xs its ∧ QSeq tp s.heap a its.toArray ∧ xs.length ≤ sizeLine := by
  cases tp with
  | true => obtain ⟨its, r, p, z⟩ := I.tuple h; exact ⟨its, r, p, z⟩
  | false => obtain ⟨its, r, p, z⟩ := I.list h; exact ⟨its, r, p.isList, z⟩
theorem SqQ.inj {tp : Bool} {a : Addr} {xs ys : List V} (I : Inv X pins σ H s) (h : SqQ tp X.K H a xs) (h' : SqQ tp X.K H a ys) : xs = ys := by
  cases tp with
  | true => exact I.tuple_inj h h'
  | false => exact I.list_inj h h'
end
def Itz (K : PySem.W.Frag) (t1 t2 : Bool) (l1 l2 : Addr) : It := ⟨
  fun i H => ∃ xs ys x y, SqQ t1 K H l1 xs ∧ SqQ t2 K H l2 ys ∧ xs[i]? = some x ∧ ys[i]? = some y,
  fun i H v H' => ∃ p x y, v = .ref p ∧ H p = none ∧ H' = upd H p (.tup [x, y]) ∧ (∀ xs, SqQ t1 K H l1 xs → xs[i]? = some x) ∧ ∀ ys, SqQ t2 K H l2 ys → ys[i]? = some y,
  fun i H => ∃ xs ys, SqQ t1 K H l1 xs ∧ SqQ t2 K H l2 ys ∧ (xs.length ≤ i ∨ ys.length ≤ i)⟩
def ZipSt (t1 t2 : Bool) (z TI TO i1 i2 l1 l2 : Addr) (i : Nat) (h : Heap) : Prop := IsZip h z TI TO .none ∧ IsPair h TI (.ref i1) (.ref i2) ∧ (∃ a b, IsPair h TO a b) ∧ QIter t1 h i1 l1 i ∧ QIter t2 h i2 l2 i
theorem QIter.obj {tp : Bool} {h : Heap} {it l : Addr} {i : Nat} (q : QIter tp h it l i) : ∃ o, h.get? it = some o ∧ ∀ v, o.data ≠ .cell v := by
  cases tp with
  | true => obtain ⟨o, e, c, d⟩ := q; exact ⟨o, e, fun v z => by rw [d] at z; cases z⟩
  | false => obtain ⟨o, e, c, d⟩ := q; exact ⟨o, e, fun v z => by rw [d] at z; cases z⟩
theorem turn_zipq {P : Program} {w : World} {K : PySem.W.Frag} {elts : List Expr} {k : Nat} {pos : Pos} {z TI TO i1 i2 l1 l2 : Addr} {t1 t2 : Bool} (D : ZipApart z TI TO i1 i2 l1 l2) :
    Turn P w K (.Tuple elts k pos) (Itz K t1 t2 l1 l2) [z, TI, TO, i1, i2] z (ZipSt t1 t2 z TI TO i1 i2 l1 l2) where
  mem := by simp
  obj := fun i h ⟨a1, a2, ⟨a, b, a3⟩, a4, a5⟩ c hc => by
    simp only [List.mem_cons, List.not_mem_nil, or_false] at hc
    rcases hc with rfl | rfl | rfl | rfl | rfl
    · exact ⟨_, a1, fun v q => nomatch q⟩
    · exact ⟨_, a2, fun v q => nomatch q⟩
    · exact ⟨_, a3, fun v q => nomatch q⟩
    · exact a4.obj
    · exact a5.obj
  keep := fun i h h' ⟨a1, a2, ⟨a, b, a3⟩, a4, a5⟩ k => ⟨k z (by simp) _ a1, k TI (by simp) _ a2, ⟨a, b, k TO (by simp) _ a3⟩, a4.keep fun o e => k i1 (by simp) o e, a5.keep fun o e => k i2 (by simp) o e⟩
  item := by
    intro X hP hw hK hc i pins s σ H E I hf st hg
    subst hP hw hK
    obtain ⟨a1, a2, ⟨a, b, a3⟩, a4, a5⟩ := st
    obtain ⟨xs, ys, x, y, q1, q2, hx, hy⟩ := hg
    obtain ⟨us, r1, p1, _⟩ := q1.at I
    obtain ⟨vs, r2, p2, _⟩ := q2.at I
    obtain ⟨u, hu, ru⟩ := r1.get hx
    obtain ⟨v, hv, rv⟩ := r2.get hy
    refine pyNext_zipq_item D a1 a2 a3 a4 a5 p1 p2 (x := u) (y := v) (by simpa using hu) (by simpa using hv) fun h1 b1 b2 b3 b4 b5 b6 => ⟨_, rfl, ?_⟩
    refine wpAny_letOwnedTupleGo_zip (s := { s with heap := h1 }) b1 fun h2 c1 c2 => ?_
    have nT : ∀ c ∈ [z, TI, TO, i1, i2], c ≠ s.heap.objs.size := fun c hc e => by
      obtain ⟨o, ho, _⟩ : ∃ o, s.heap.get? c = some o ∧ True := by
        simp only [List.mem_cons, List.not_mem_nil, or_false] at hc
        rcases hc with rfl | rfl | rfl | rfl | rfl
        · exact ⟨_, a1, trivial⟩
        · exact ⟨_, a2, trivial⟩
        · exact ⟨_, a3, trivial⟩
        · obtain ⟨o, e, _⟩ := a4.obj; exact ⟨o, e, trivial⟩
        · obtain ⟨o, e, _⟩ := a5.obj; exact ⟨o, e, trivial⟩
      exact absurd (Heap.lt_size ho) (by rw [e]; exact Nat.lt_irrefl _)
    have I1 : Inv X pins σ (upd H s.heap.objs.size (.tup [x, y])) { s with heap := s.heap.push { cls := .type "tuple", data := .seq #[u, v] } } :=
      I.laid (t' := s.toks) (o := .tup [x, y]) (fun b ob q => Heap.get?_push_of_some _ q) (Nat.le_refl _) ⟨by show (2 : Nat) ≤ sizeLine; decide, [u, v], .cons ru (.cons rv .nil), IsTup.new _ _⟩
    have I2 : Inv X pins σ (upd H s.heap.objs.size (.tup [x, y])) { s with heap := h2 } := by
      refine Inv.turnedL (s := { s with heap := s.heap.push { cls := .type "tuple", data := .seq #[u, v] } }) (t' := s.toks) (its := [z, TI, TO, i1, i2]) I1 (fun c o nc e => ?_) fun c hc => ?_
      · have ne : ∀ d ∈ [z, TI, TO, i1, i2], c ≠ d := fun d hd q => nc (q ▸ hd)
        refine (c2.2 c (ne z (by simp))).trans ?_
        by_cases hcs : c = s.heap.objs.size
        · subst hcs
          have e' : some _ = some o := (Heap.get?_push_size s.heap (o := { cls := .type "tuple", data := .seq #[u, v] }) rfl).symm.trans e
          rw [← e']
          exact b5
        · refine b6 c o (ne z (by simp)) (ne TO (by simp)) (ne i1 (by simp)) (ne i2 (by simp)) ?_
          exact (Heap.get?_push_ne s.heap c _ hcs).symm.trans e
      · obtain ⟨f0, f⟩ := hf c hc
        exact ⟨by rw [upd_ne (nT c hc)]; exact f0, f⟩
    refine ⟨.ref s.heap.objs.size, _, I2, rfl, ⟨_, x, y, rfl, I.hok.fresh (Nat.le_refl _), rfl, fun zs hz => by rw [SqQ.inj I hz q1]; exact hx, fun zs hz => by rw [SqQ.inj I hz q2]; exact hy⟩, ⟨c1, ?_, ⟨u, v, ?_⟩, ?_, ?_⟩, fun c hc => ?_⟩
    · exact (c2.2 TI D.TIz).trans (b6 _ _ D.TIz D.TITO D.TIi1 D.TIi2 a2)
    · exact (c2.2 TO D.TOz).trans b2
    · exact b3.keep fun o e => (c2.2 i1 D.i1z).trans e
    · exact b4.keep fun o e => (c2.2 i2 D.i2z).trans e
    · rw [upd_ne (nT c hc)]; exact (hf c hc).1
  done := by
    intro X hP hw hK hc i pins s σ H E I hf st hg
    subst hP hw hK
    obtain ⟨a1, a2, ⟨a, b, a3⟩, a4, a5⟩ := st
    obtain ⟨xs, ys, q1, q2, hx⟩ := hg
    obtain ⟨us, r1, p1, _⟩ := q1.at I
    obtain ⟨vs, r2, p2, _⟩ := q2.at I
    have l1 := r1.length
    have l2 := r2.length
    refine pyNext_zipq_end (I.ok.hd hc) D a1 a2 a3 a4 a5 p1 p2 (by simp; omega) fun h1 b6 => ⟨rfl, I.turnedL (t' := s.toks) (its := [z, TI, TO, i1, i2]) (fun c o nc e => ?_) hf⟩
    have ne : ∀ d ∈ [z, TI, TO, i1, i2], c ≠ d := fun d hd q => nc (q ▸ hd)
    exact b6 c o (ne z (by simp)) (ne TO (by simp)) (ne i1 (by simp)) (ne i2 (by simp)) e
  self := fun _ _ _ _ _ st h => wpAny_pyIter_zip st.1 h
end L2


-- part Lz7
set_option Elab.async false
set_option linter.all false
set_option maxRecDepth 100000
set_option maxHeartbeats 4000000
namespace L2
open PySem PySem.Spec PyProof.Rows
section
variable {X : Cx}
def iZip (K : PySem.W.Frag) (ta : TA) : TI := fun σ H R => ta σ H fun vs H1 => ∃ t1 t2 l1 l2 xs ys, vs = [.ref l1, .ref l2] ∧ SqQ t1 K H1 l1 xs ∧ SqQ t2 K H1 l2 ys ∧ R (Itz K t1 t2 l1 l2) H1
theorem pi_zip {elts : List Expr} {k : Nat} {p' : Pos} {a b : Expr} {ta : TA} {p pos : Pos} (hg : Gl X "zip") (hm : X.mg "zip" = none) (ha : PA X [a, b] ta) (hs : starEach [a, b] X.env = [(false, eval a X.env), (false, eval b X.env)] := by rfl) (hs2 : starEach [b] X.env = [(false, eval b X.env)] := by rfl) :
    PI X (.Tuple elts k p') (.Call (.Name "zip" p) [a, b] [] pos) (iZip X.K ta) := by
  intro pins s σ H R I h
  refine Call_ (ld_blt I hg hm boot_zip (PyProof.Rows.callWith_type1 (thn (ha pos pins s σ H _ I h) fun us s1 ⟨vs, H1, I1, r1, q1⟩ => ?_) (by rw [hs, hs2]) (by rw [hs2]; rfl)))
  obtain ⟨t1, t2, l1, l2, xs, ys, e, z1, z2, q⟩ := q1
  subst e
  cases r1 with
  | cons r rr =>
    cases rr with
    | cons r' rr =>
      cases rr
      cases r
      cases r'
      obtain ⟨us, _, p1, _⟩ := z1.at I1
      obtain ⟨vs, _, p2, _⟩ := z2.at I1
      have lt : ∀ {tp : Bool} {l : Addr} {zs : Array Value}, QSeq tp s1.heap l zs → l < s1.heap.objs.size := fun {tp l zs} q => by
        cases tp with
        | true => obtain ⟨o, e, _⟩ := q; exact Heap.lt_size e
        | false => obtain ⟨o, e, _⟩ := q; exact Heap.lt_size e
      refine call_zipq p1 p2 fun h' a1 a2 a3 a4 a5 a6 a7 => ?_
      refine wpAny_pyIter_zip (s := { s1 with heap := h' }) a1 ?_
      refine ⟨_, _, _, _, H1, rfl, I1.kept (t' := s1.toks) a7, turn_zipq (zipApart_new (lt p1) (lt p2)), ⟨a1, a2, ⟨_, _, a3⟩, a4, a5⟩, fun c hc => ?_, q⟩
      have hge : s1.heap.objs.size ≤ c := by
        simp only [List.mem_cons, List.not_mem_nil, or_false] at hc
        rcases hc with rfl | rfl | rfl | rfl | rfl
        · exact Nat.le_add_right _ _
        · exact Nat.le_add_right _ _
        · exact Nat.le_add_right _ _
        · exact Nat.le_refl _
        · exact Nat.le_add_right _ _
      exact I1.fpOk hge (I1.hok.fresh hge)
/-! ### for x, y in zip(a, b) -/
def seqD : D → Option (Bool × List D) | .lst ds => some (false, ds) | .tup ds => some (true, ds) | _ => none
theorem seqD_rep {K : PySem.W.Frag} {G H : Hp} {d : D} {tp : Bool} {ds : List D} {v : V} (e : seqD d = some (tp, ds)) (r : Rep K G d v) (s : Same G H) : ∃ a vs, v = .ref a ∧ SqQ tp K H a vs ∧ RepL K G ds vs := by
  cases d with
  | lst xs =>
    cases e
    simp only [Rep] at r
    obtain ⟨a, vs, h1, h2, h3⟩ := r
    exact ⟨a, vs, h1, s.sqL h2, h3⟩
  | tup xs =>
    cases e
    simp only [Rep] at r
    obtain ⟨a, vs, h1, h2, h3⟩ := r
    exact ⟨a, vs, h1, s.sqT h2, h3⟩
  | non => cases e
  | bl b => cases e
  | int b => cases e
  | str b => cases e
  | dic b c => cases e
theorem SqQ.mono {tp : Bool} {K : PySem.W.Frag} {H H' : Hp} {a : Addr} {vs : List V} (q : SqQ tp K H a vs) (s : Same H H') : SqQ tp K H' a vs := by
  cases tp with
  | true => exact s.sqT q
  | false => exact s.sqL q
@[simp] def oZip (f g : FE) : En → Option (List (D × D)) := fun δ => (f δ).bind fun x => (g δ).bind fun y => (seqD x).bind fun xs => (seqD y).map fun ys => xs.2.zip ys.2
def forL2 (i j : Nat) (F : FS) : List (D × D) → FS
  | [], δ => some (.nx δ)
  | x :: xs, δ => match F ((δ.set i (some (.sh x.1))).set j (some (.sh x.2))) with
    | some (.nx δ') => forL2 i j F xs δ'
    | some (.ct δ') => forL2 i j F xs δ'
    | some (.bk δ') => some (.nx δ')
    | some (.rt d) => some (.rt d)
    | none => none
@[simp] def sForZ (i j : Nat) (f : En → Option (List (D × D))) (F : FS) : FS := fun δ => (f δ).bind fun xs => forL2 i j F xs δ
theorem psd_forZ (i j : Nat) {x y : Str} {px py pt p pos pf : Pos} {k : Nat} {a b : Expr} {fa fb : FE} {F : FS} {body : List Stmt} (hN : X.N.Nodup) (hc : X.calm = true) (hp : PassesOwn (model X.prog X.w) X.A X.env X.xe) (hm : X.mg "zip" = none)
    (ha : PD X a fa) (hb : PD X b fb) (hbody : PSsD X body F)
    (hix : X.N[i]? = some x := by rfl) (hx : Loc X.env.scope x := by first | exact Or.inl rfl | exact Or.inr rfl) (hfx : X.fn x = true ∨ X.env.scope.names.lookup x = some .local := by first | exact .inl rfl | exact .inr rfl)
    (hjy : X.N[j]? = some y := by rfl) (hy : Loc X.env.scope y := by first | exact Or.inl rfl | exact Or.inr rfl) (hfy : X.fn y = true ∨ X.env.scope.names.lookup y = some .local := by first | exact .inl rfl | exact .inr rfl)
    (hg : Gl X "zip" := by rfl) (hs : starEach [a, b] X.env = [(false, eval a X.env), (false, eval b X.env)] := by rfl) (hs2 : starEach [b] X.env = [(false, eval b X.env)] := by rfl) (hs3 : starEach [] X.env = [] := by rfl)
    (ht1 : (assignEach [.Name x px, .Name y py] X.env).map (·.2) = assign (.Name x px) X.env :: (assignEach [.Name y py] X.env).map (·.2) := by rfl) (ht2 : (assignEach [.Name y py] X.env).map (·.2) = assign (.Name y py) X.env :: (assignEach [] X.env).map (·.2) := by rfl)
    (hn : (assignEach [.Name x px, .Name y py] X.env).length = 2 := by rfl) (hst : (assignEach [.Name x px, .Name y py] X.env).findIdx? (·.1) = none := by rfl)
    (hfold : ∀ x, foldedSetIterable (.Call (.Name "zip" p) [a, b] [] pos) X.env x = pure x := by intro _; rfl) :
    PSD X (.For (.Tuple [.Name x px, .Name y py] k pt) (.Call (.Name "zip" p) [a, b] [] pos) body [] pf) (sForZ i j (oZip fa fb) F) := by
  obtain ⟨t1, q1, k1⟩ := ha
  obtain ⟨t2, q2, k2⟩ := hb
  obtain ⟨tb, pb, kb⟩ := hbody
  refine ⟨_, ps_for hp hc (pi_zip hg hm (pa_cons q1 (pa_cons q2 pa_nil (by rw [hs2, hs3])) (by rw [hs, hs2])) hs hs2) (pg_tup (n := 2) hc (pgs_cons (pg_name hN hix hx hfx) (pgs_cons (pg_name hN hjy hy hfy) pgs_nil ht2) ht1) hn hst) pb hfold, fun B G H δ σ o D sG sB rs e w => ?_⟩
  unfold sForZ at e
  obtain ⟨ps, e0, e⟩ := Option.bind_eq_some_iff.mp e
  unfold oZip at e0
  obtain ⟨dx, e1, e0⟩ := Option.bind_eq_some_iff.mp e0
  obtain ⟨dy, e2, e0⟩ := Option.bind_eq_some_iff.mp e0
  obtain ⟨⟨tp1, xs⟩, e3, e0⟩ := Option.bind_eq_some_iff.mp e0
  obtain ⟨⟨tp2, ys⟩, e4, e0⟩ := Option.map_eq_some_iff.mp e0
  dsimp only at e0
  refine k1 B G H δ σ _ _ sG rs e1 fun v1 G1 H1 g1 r1 => k2 B G1 H1 δ σ _ _ g1.s (rs.grow g1) e2 fun v2 G2 H2 g2 r2 => ?_
  obtain ⟨l1, vs, rfl, z1, rl1⟩ := seqD_rep e3 (r1.mono g2.g) (Same.refl G2)
  obtain ⟨l2, us, rfl, z2, rl2⟩ := seqD_rep e4 r2 (Same.refl G2)
  refine ⟨tp1, tp2, l1, l2, vs, us, rfl, z1.mono g2.s, z2.mono g2.s, ?_⟩
  have g12 := g1.trans g2
  have st1 : Stp B G G2 H2 := g12.stp sB
  have len : ps.length = min vs.length us.length := by rw [← e0, List.length_zip, rl1.length, rl2.length]
  refine ⟨fun n m σ' H' => ∃ δ' G', m = ps.length - n ∧ n ≤ ps.length ∧ Stp B G2 G' H' ∧ RepS X.K B G' H' δ' σ' ∧ forL2 i j F (ps.drop n) δ' = some o, ⟨_, δ, G2, rfl, Nat.zero_le _, Stp.refl st1.s st1.b, rs.grow g12, by simpa using e⟩, ?_⟩
  rintro n m σ' H' ⟨δ', G', rfl, hn', a1, rs', eo⟩
  have z1' := z1.mono (a1.g.trans a1.s)
  have z2' := z2.mono (a1.g.trans a1.s)
  by_cases hlt : n < ps.length
  · right
    obtain ⟨dx', dy', ep⟩ : ∃ p q, ps[n] = (p, q) := ⟨_, _, rfl⟩
    have en : ps[n]? = some (dx', dy') := by rw [List.getElem?_eq_getElem hlt, ep]
    rw [← e0] at en
    obtain ⟨ex, ey⟩ := List.getElem?_zip_eq_some.mp en
    obtain ⟨vx, hvx, rvx⟩ := rl1.get ex
    obtain ⟨vy, hvy, rvy⟩ := rl2.get ey
    rw [List.drop_eq_getElem_cons hlt, ep] at eo
    unfold forL2 at eo
    refine ⟨⟨vs, us, vx, vy, z1', z2', hvx, hvy⟩, fun σ2 H2 => ∃ m', m' < ps.length - n ∧ ∃ δ2 G3, m' = ps.length - (n + 1) ∧ n + 1 ≤ ps.length ∧ Stp B G2 G3 H2 ∧ RepS X.K B G3 H2 δ2 σ2 ∧ forL2 i j F (ps.drop (n + 1)) δ2 = some o, fun σ2 H2 z => z, fun x H3 y => ?_⟩
    obtain ⟨p, ux, uy, rfl, hpn, rfl, y1, y2⟩ := y
    have eux : ux = vx := Option.some.inj ((y1 _ z1').symm.trans hvx)
    have euy : uy = vy := Option.some.inj ((y2 _ z2').symm.trans hvy)
    subst eux euy
    refine ⟨p, [ux, uy], rfl, SqT.of upd_same, rfl, ux, [uy], rfl, uy, [], rfl, rfl, ?_⟩
    have gN : Grow G' H' G' (upd H' p (.tup [ux, uy])) := ⟨Same.refl _, same_new _ hpn, a1.s.trans (same_new _ hpn), fun _ _ _ n => n⟩
    have stN : Stp B G' G' (upd H' p (.tup [ux, uy])) := gN.stp a1.b
    have again : ∀ {δ2 : En} {σ2 : St} {G3 H3 : Hp}, Stp B G' G3 H3 → RepS X.K B G3 H3 δ2 σ2 → forL2 i j F (ps.drop (n + 1)) δ2 = some o →
        ∃ m', m' < ps.length - n ∧ ∃ δ2 G3, m' = ps.length - (n + 1) ∧ n + 1 ≤ ps.length ∧ Stp B G2 G3 H3 ∧ RepS X.K B G3 H3 δ2 σ2 ∧ forL2 i j F (ps.drop (n + 1)) δ2 = some o :=
      fun {δ2 σ2 G3 H3} a r e => ⟨ps.length - (n + 1), by omega, δ2, G3, rfl, hlt, a1.trans a, r, e⟩
    cases eF : F ((δ'.set i (some (.sh dx'))).set j (some (.sh dy'))) with
    | none => rw [eF] at eo; cases eo
    | some o1 =>
      rw [eF] at eo
      refine kb B G' _ _ _ o1 _ gN.s (a1.b.trans gN.h) (((rs'.grow gN).set i (rvx.mono a1.g)).set j (rvy.mono a1.g)) eF ?_
      cases o1 with
      | nx δ2 => exact fun σ2 G3 H3 a r => again (stN.trans a) r eo
      | ct δ2 => exact fun σ2 G3 H3 a r => again (stN.trans a) r eo
      | bk δ2 =>
        cases eo
        exact fun σ2 G3 H3 a r => w σ2 G3 H3 (st1.trans (a1.trans (stN.trans a))) r
      | rt r =>
        cases eo
        cases r with
        | sh d => exact fun v G3 H3 a r => w v G3 H3 (st1.trans (a1.trans (stN.trans a))) r
        | fr m => exact fun p vs G3 H3 a => w p vs G3 H3 (st1.trans (a1.trans (stN.trans a)))
  · left
    have hnn : n = ps.length := by omega
    subst hnn
    rw [List.drop_of_length_le (Nat.le_refl _)] at eo
    cases eo
    exact ⟨⟨vs, us, z1', z2', by omega⟩, w σ' G' H' (st1.trans a1) rs'⟩
end
end L2

-- part Ly12
set_option Elab.async false
set_option linter.all false
set_option maxRecDepth 100000
set_option maxHeartbeats 4000000
namespace L2
open PySem PySem.Spec PyProof.Rows
/-! ### own objects handed in to a def: what comes back has no list or dict inside -/
mutual
def noMut : D → Bool
  | .tup ds => noMutL ds
  | .lst _ => false
  | .dic _ _ => false
  | _ => true
def noMutL : List D → Bool
  | [] => true
  | d :: ds => noMut d && noMutL ds
end
def isMut : HO → Bool | .lst _ => true | .dK _ => true | _ => false
theorem rd_noMut {G G' : Hp} (h : ∀ a o, isMut o = false → G a = some o → G' a = some o) {a : Addr} {xs : List V} (r : Rd G a (.tup xs)) : Rd G' a (.tup xs) := by
  rcases r with r | ⟨o, r⟩
  · exact .inl (h _ _ rfl r)
  · exact .inr ⟨o, h _ _ rfl r⟩
mutual
theorem rep_noMut {K : PySem.W.Frag} {G G' : Hp} (h : ∀ a o, isMut o = false → G a = some o → G' a = some o) : ∀ {d : D} {v : V}, noMut d = true → Rep K G d v → Rep K G' d v
  | .non, _, _, r => by simp only [Rep] at r ⊢; exact r
  | .bl _, _, _, r => by simp only [Rep] at r ⊢; exact r
  | .int _, _, _, r => by simp only [Rep] at r ⊢; exact r
  | .str _, _, _, r => by simp only [Rep] at r ⊢; exact r
  | .tup ds, _, e, r => by
    simp only [Rep] at r ⊢
    obtain ⟨a, vs, h1, h2, h3⟩ := r
    simp only [noMut] at e
    exact ⟨a, vs, h1, h2.elim (fun z => .inl (rd_noMut h z)) .inr, repL_noMut h e h3⟩
  | .lst _, _, e, _ => by simp [noMut] at e
  | .dic _ _, _, e, _ => by simp [noMut] at e
theorem repL_noMut {K : PySem.W.Frag} {G G' : Hp} (h : ∀ a o, isMut o = false → G a = some o → G' a = some o) : ∀ {ds : List D} {vs : List V}, noMutL ds = true → RepL K G ds vs → RepL K G' ds vs
  | [], _, _, r => by simp only [RepL] at r ⊢; exact r
  | d :: ds, _, e, r => by
    simp only [RepL] at r ⊢
    simp only [noMutL, Bool.and_eq_true] at e
    obtain ⟨v, us, h1, h2, h3⟩ := r
    exact ⟨v, us, h1, rep_noMut h e.1 h2, repL_noMut h e.2 h3⟩
end
def noMutR : Rs → Bool | .sh d => noMut d | .fr m => noMutL m.vals
/-- G with the lists and dicts of H -/
def withMut (G H : Hp) : Hp := fun a => match G a with | some o => some o | none => match H a with | some o => if isMut o = true then some o else none | none => none
/-- G' without the lists and dicts that G has not -/
def lessMut (G G' : Hp) : Hp := fun a => match G' a with | some o => if isMut o = true ∧ G a = none then none else some o | none => none
theorem withMut_same {G H : Hp} (s : Same G H) : Same (withMut G H) H := fun a o e => by
  unfold withMut at e
  cases eg : G a with
  | some u => rw [eg] at e; cases e; exact s a _ eg
  | none =>
    rw [eg] at e
    cases eh : H a with
    | none => rw [eh] at e; cases e
    | some u => rw [eh] at e; dsimp only at e; split at e <;> cases e; rfl
theorem same_withMut {G H : Hp} : Same G (withMut G H) := fun a o e => by unfold withMut; rw [e]
theorem repLB_with {K : PySem.W.Frag} {G H : Hp} (s : Same G H) : ∀ {ds : List D} {vs : List V}, RepLB K G H ds vs → RepL K (withMut G H) ds vs
  | [], _, h => by simp only [RepLB] at h; simp only [RepL]; exact h
  | d :: ds, _, h => by
    obtain ⟨v, r, h1, h2, h3⟩ := h
    simp only [RepL]
    refine ⟨v, r, h1, ?_, repLB_with s h3⟩
    rcases h2 with h2 | ⟨m, a, us, e1, e2, e3, e4, e5⟩
    · exact h2.mono same_withMut
    · subst e1 e2
      have key : withMut G H a = some (m.ho us) := by
        unfold withMut
        cases eg : G a with
        | some u => exact (s a u eg).symm.trans e3
        | none => rw [e3]; cases m <;> rfl
      cases m with
      | lst xs => simp only [Mo.d, Rep]; exact ⟨a, us, rfl, SqL.of key, e5.mono same_withMut⟩
      | dic ks xs => simp only [Mo.d, Rep]; exact ⟨a, us, rfl, .inl key, e4.1, e4.2, e5.mono same_withMut⟩
theorem grow_less {G H G' H' : Hp} (s : Same G H) (g : Grow (withMut G H) H G' H') : Grow G H (lessMut G G') H' where
  g := fun a o e => by
    unfold lessMut
    rw [g.g a o (same_withMut a o e)]
    dsimp only
    rw [if_neg (by rw [e]; exact fun z => nomatch z.2)]
  h := g.h
  s := fun a o e => by
    unfold lessMut at e
    cases eg : G' a with
    | none => rw [eg] at e; cases e
    | some u =>
      rw [eg] at e
      dsimp only at e
      split at e
      · cases e
      · cases e; exact g.s a _ eg
  n := fun a o e n => by
    unfold lessMut
    cases eg : G' a with
    | none => rfl
    | some u =>
      dsimp only
      have e1 : H' a = some u := g.s a u eg
      have e2 : u = o := Option.some.inj (e1.symm.trans (g.h a o e))
      subst e2
      cases hm : isMut u with
      | true => rw [if_pos ⟨rfl, n⟩]
      | false =>
        have : withMut G H a = none := by unfold withMut; rw [n, e]; dsimp only; rw [hm]; rfl
        rw [g.n a u e this] at eg
        cases eg
theorem less_keep {G G' : Hp} : ∀ a o, isMut o = false → G' a = some o → lessMut G G' a = some o := fun a o e h => by
  unfold lessMut; rw [h]; dsimp only; rw [if_neg (by rw [e]; exact fun z => nomatch z.1)]
section
variable {X : Cx} {e : Expr} {es : List Expr} {pos p : Pos}
@[simp] def fCallG (M : List D → Option Rs) (g : En → Option (List D)) : FR := fun δ => (g δ).bind fun ds => (M ds).bind fun r => if noMutR r = true then some r else none
theorem pr_callG {k : Nat} {x : Str} {ps : List Str} {M : List D → Option Rs} {g : En → Option (List D)} (F : DefOk X.prog X.w X.K X.mg X.base k x ps M) (hr : Room k X.A) (ha : PAB X (e :: es) g) (hg : Gl X x := by rfl)
    (hdb : (x == ("__debug__" : Str)) = false := by decide) (he : starEach (e :: es) X.env = (false, eval e X.env) :: starEach es X.env := by rfl) (hpl : (backTo pos (starEach es X.env)).any (·.1) = false := by rfl) :
    PR X (.Call (.Name x p) (e :: es) [] pos) (fCallG M g) := by
  obtain ⟨f, fd, F, hb, hk, hm⟩ := F
  obtain ⟨ta, pa, ka⟩ := ha
  refine ⟨_, pe_call F hr hg hm hk hb .nil pass0 pa hdb he hpl, fun B G H δ σ r Q sG rs ef k => ?_⟩
  unfold fCallG at ef
  obtain ⟨ds, e1, ef⟩ := Option.bind_eq_some_iff.mp ef
  obtain ⟨r', e2, ef⟩ := Option.bind_eq_some_iff.mp ef
  split at ef
  · rename_i hmut
    cases ef
    refine ka B G H δ σ ds _ sG rs e1 fun vs G1 H1 g1 r1 => ?_
    rw [List.append_nil]
    refine ⟨withMut G1 H1, ds, r, withMut_same g1.s, repLB_with g1.s r1, e2, ?_⟩
    cases r with
    | sh d => exact fun v G' H' g2 r2 => k v _ H' (g1.trans (grow_less g1.s g2)) (rep_noMut less_keep hmut r2)
    | fr m => exact fun p vs G' H' g2 hp ok rl => k p vs _ H' (g1.trans (grow_less g1.s g2)) hp ok (repL_noMut less_keep hmut rl)
  · cases ef
end
end L2

-- part Ly13
set_option Elab.async false
set_option linter.all false
set_option maxRecDepth 100000
set_option maxHeartbeats 4000000
namespace L2
open PySem PySem.Spec PyProof.Rows
theorem givesS_setR {K : PySem.W.Frag} {t : TE} {f : FR} (i : Nat) (k : GivesR K t f) : GivesS K (tAsg t (gName i)) (sSetR i f) := fun B G H δ σ o D sG sB rs e w => by
  unfold sSetR at e
  obtain ⟨d, e1, rfl⟩ := Option.map_eq_some_iff.mp e
  refine k B G H δ σ d _ sG rs e1 ?_
  cases d with
  | sh d => exact fun v G' H' g r => w _ G' H' (g.stp sB) ((rs.grow g).set i r)
  | fr m =>
    intro p vs G' H' g hp ok rl
    have g2 : Grow G' H' G' (upd H' p (m.ho vs)) := ⟨Same.refl _, same_new _ hp, g.s.trans (same_new _ hp), fun _ _ _ n => n⟩
    have g3 := g.trans g2
    refine w _ G' _ (g3.stp sB) ((rs.grow g3).put i (x := .pv m) ⟨p, vs, rfl, (sB.trans g.h).free hp, g.s.free hp, upd_same, ok, rl⟩ fun m' _ j y hj ej q => ?_)
    obtain ⟨v, h1, a, us, rfl, _, _, h4, _, _⟩ := (rs.grow g).at_ j _ ej
    rw [h1] at q
    cases q
    rw [hp] at h4
    cases h4
theorem givesS_set {K : PySem.W.Frag} {t : TE} {f : FR} (i : Nat) (k : GivesR K t f) : GivesS K (tAsg t (gName i)) (sSet i (fPub f)) := fun B G H δ σ o D sG sB rs e w => by
  unfold sSet fPub at e
  obtain ⟨d, e1, rfl⟩ := Option.map_eq_some_iff.mp e
  obtain ⟨r, e2, rfl⟩ := Option.map_eq_some_iff.mp e1
  exact k B G H δ σ r _ sG rs e2 (WantR.of fun v G' H' g r => w _ G' H' (g.stp sB) ((rs.grow g).set i r))
section
variable {X : Cx}
theorem ps_setcomp' {N : List Str} {nl i n : Nat} {y : Str} {js : List Nat} {scope : Scope} {cl : List (Str × Addr)} {elt iter : Expr} {ifs : List Expr} {x : Str} {px pos spos py : Pos} {it : En → Option (List D)} {c : En → Option Bool} {g : FE}
    (hN : X.N.Nodup) (hi' : X.N[n]? = some y) (hy : Loc X.env.scope y) (hyl : X.env.scope.names.lookup y = some .local)
    (hc : X.calm = true) (ok : CompOk X N nl js scope cl) (hi : PID X (.Name x px) iter it) (hin : i < nl) (hNd : N.Nodup) (hix : N[i]? = some x) (hx : scope.names.lookup x = some .local)
    (hjs : js.Nodup) (ht : ∀ C s₀ H₀ ex, PIfsD (compCx X N scope cl C s₀ H₀ ex) ifs c) (he : ∀ C s₀ H₀ ex, PD (compCx X N scope cl C s₀ H₀ ex) elt g)
    (hsw : swapsWith (.ListComp elt [⟨.Name x px, iter, ifs, 0⟩] scope pos) (some (.Name y py)) spos.line X.env = pure true)
    (hs : ∀ x, foldedSetIterable iter X.env x = pure x) :
    ∃ t, PS X (.Assign [.Name y py] (.ListComp elt [⟨.Name x px, iter, ifs, 0⟩] scope pos) spos) (tAsg t (gName n)) ∧ GivesR X.K t (fComp nl js i it c g) := by
  obtain ⟨wi, pw, kw⟩ := hi
  exact ⟨_, ps_setcomp (ti := ttOf X.K c) (te := tOf X.K g) hN hi' hy hyl hc ok pw (keeps_name hin) (fun C s₀ H₀ ex => pg_name hNd hix (.inl (lookup_relabel_local hx)) (.inr (lookup_relabel_local hx))) (fun C s₀ H₀ ex => (ht C s₀ H₀ ex).canon) (fun C s₀ H₀ ex => (he C s₀ H₀ ex).canon) hsw hs,
    gives_comp (ti := ttOf X.K c) (te := tOf X.K g) kw (fun B G H δ σ b Q sG rs e k => ⟨B, G, δ, b, sG, rs, e, k⟩) gives_tOf hjs⟩
theorem psd_setC {N : List Str} {nl i : Nat} (n : Nat) {y : Str} {js : List Nat} {scope : Scope} {cl : List (Str × Addr)} {elt iter : Expr} {ifs : List Expr} {x : Str} {px pos spos py : Pos} {it : En → Option (List D)} {c : En → Option Bool} {g : FE}
    (hN : X.N.Nodup) (hc : X.calm = true) (ok : CompOk X N nl js scope cl) (hi : PID X (.Name x px) iter it) (hin : i < nl) (hNd : N.Nodup) (hix : N[i]? = some x) (hx : scope.names.lookup x = some .local)
    (hjs : js.Nodup) (ht : ∀ C s₀ H₀ ex, PIfsD (compCx X N scope cl C s₀ H₀ ex) ifs c) (he : ∀ C s₀ H₀ ex, PD (compCx X N scope cl C s₀ H₀ ex) elt g)
    (hi' : X.N[n]? = some y := by rfl) (hy : Loc X.env.scope y := by first | exact Or.inl rfl | exact Or.inr rfl) (hyl : X.env.scope.names.lookup y = some .local := by rfl)
    (hsw : swapsWith (.ListComp elt [⟨.Name x px, iter, ifs, 0⟩] scope pos) (some (.Name y py)) spos.line X.env = pure true := by rfl)
    (hs : ∀ x, foldedSetIterable iter X.env x = pure x := by intro _; rfl) :
    PSD X (.Assign [.Name y py] (.ListComp elt [⟨.Name x px, iter, ifs, 0⟩] scope pos) spos) (sSet n (fPub (fComp nl js i it c g))) := by
  obtain ⟨t, p, k⟩ := ps_setcomp' hN hi' hy hyl hc ok hi hin hNd hix hx hjs ht he hsw hs
  exact ⟨_, p, givesS_set n k⟩
theorem psd_setRC {N : List Str} {nl i : Nat} (n : Nat) {y : Str} {js : List Nat} {scope : Scope} {cl : List (Str × Addr)} {elt iter : Expr} {ifs : List Expr} {x : Str} {px pos spos py : Pos} {it : En → Option (List D)} {c : En → Option Bool} {g : FE}
    (hN : X.N.Nodup) (hc : X.calm = true) (ok : CompOk X N nl js scope cl) (hi : PID X (.Name x px) iter it) (hin : i < nl) (hNd : N.Nodup) (hix : N[i]? = some x) (hx : scope.names.lookup x = some .local)
    (hjs : js.Nodup) (ht : ∀ C s₀ H₀ ex, PIfsD (compCx X N scope cl C s₀ H₀ ex) ifs c) (he : ∀ C s₀ H₀ ex, PD (compCx X N scope cl C s₀ H₀ ex) elt g)
    (hi' : X.N[n]? = some y := by rfl) (hy : Loc X.env.scope y := by first | exact Or.inl rfl | exact Or.inr rfl) (hyl : X.env.scope.names.lookup y = some .local := by rfl)
    (hsw : swapsWith (.ListComp elt [⟨.Name x px, iter, ifs, 0⟩] scope pos) (some (.Name y py)) spos.line X.env = pure true := by rfl)
    (hs : ∀ x, foldedSetIterable iter X.env x = pure x := by intro _; rfl) :
    PSD X (.Assign [.Name y py] (.ListComp elt [⟨.Name x px, iter, ifs, 0⟩] scope pos) spos) (sSetR n (fComp nl js i it c g)) := by
  obtain ⟨t, p, k⟩ := ps_setcomp' hN hi' hy hyl hc ok hi hin hNd hix hx hjs ht he hsw hs
  exact ⟨_, p, givesS_setR n k⟩
end
end L2

-- part Lm2
set_option Elab.async false
set_option linter.all false
set_option maxRecDepth 100000
set_option maxHeartbeats 4000000
namespace L2
open PySem PySem.Spec PyProof.Rows
theorem compL_yes {g : D → Option D} {h : D → D} : ∀ {xs : List D}, (∀ x ∈ xs, g x = some (h x)) → compL (fun _ => some true) g xs = some (xs.map h)
  | [], _ => rfl
  | x :: xs, hg => by
    unfold compL
    rw [hg x List.mem_cons_self, compL_yes fun y hy => hg y (List.mem_cons_of_mem _ hy)]
    rfl
theorem compL_if {c : D → Option Bool} {g : D → Option D} {p : D → Bool} {h : D → D} : ∀ {xs : List D}, (∀ x ∈ xs, c x = some (p x)) → (∀ x ∈ xs, p x = true → g x = some (h x)) → compL c g xs = some ((xs.filter p).map h)
  | [], _, _ => rfl
  | x :: xs, hc, hg => by
    have ih := compL_if (xs := xs) (fun y hy => hc y (List.mem_cons_of_mem _ hy)) fun y hy => hg y (List.mem_cons_of_mem _ hy)
    unfold compL
    rw [hc x List.mem_cons_self]
    show (if p x = true then _ else _) = _
    cases e : p x with
    | true => rw [if_pos rfl, hg x List.mem_cons_self e, ih, List.filter_cons, if_pos e]; rfl
    | false => rw [if_neg Bool.false_ne_true, ih, List.filter_cons, if_neg (by rw [e]; exact Bool.false_ne_true)]
theorem bools_map {α : Type} (p : α → Bool) : ∀ (xs : List α), bools (xs.map fun x => D.bl (p x)) = some (xs.map p)
  | [] => rfl
  | x :: xs => by
    show (bools (xs.map fun x => D.bl (p x))).map (p x :: ·) = _
    rw [bools_map p xs]
    rfl
theorem forL_each {i : Nat} {F : FS} (P : En → Prop) : ∀ (xs : List D) (δ : En), P δ → (∀ x ∈ xs, ∀ δ, P δ → ∃ δ', F (δ.set i (some (.sh x))) = some (.nx δ') ∧ P δ') → ∃ δ', forL i F xs δ = some (.nx δ') ∧ P δ'
  | [], δ, h0, _ => ⟨δ, rfl, h0⟩
  | x :: xs, δ, h0, st => by
    obtain ⟨δ', e, h1⟩ := st x List.mem_cons_self δ h0
    unfold forL
    rw [e]
    exact forL_each P xs δ' h1 fun y hy => st y (List.mem_cons_of_mem _ hy)
theorem forL_test {i : Nat} {F : FS} (P : En → Prop) (p : D → Bool) (d : Rs) : ∀ (xs : List D) (δ : En), P δ →
    (∀ x ∈ xs, ∀ δ, P δ → (p x = true → ∃ δ', F (δ.set i (some (.sh x))) = some (.nx δ') ∧ P δ') ∧ (p x = false → F (δ.set i (some (.sh x))) = some (.rt d))) →
    (xs.all p = true → ∃ δ', forL i F xs δ = some (.nx δ') ∧ P δ') ∧ (xs.all p = false → forL i F xs δ = some (.rt d))
  | [], δ, h0, _ => ⟨fun _ => ⟨δ, rfl, h0⟩, fun z => nomatch z⟩
  | x :: xs, δ, h0, st => by
    obtain ⟨h1, h2⟩ := st x List.mem_cons_self δ h0
    rw [List.all_cons]
    cases e : p x with
    | true =>
      obtain ⟨δ', e1, h3⟩ := h1 e
      have ih := forL_test P p d xs δ' h3 fun y hy => st y (List.mem_cons_of_mem _ hy)
      unfold forL
      rw [e1, Bool.true_and]
      exact ih
    | false =>
      refine ⟨fun z => (by rw [Bool.false_and] at z; cases z), fun _ => ?_⟩
      unfold forL
      rw [h2 e]
/-! evaluation, step by step -/
section
variable {F F' : FS} {f : FE} {fr : FR} {δ δ' : En} {d : D} {r : Rs} {o : Option Out} {c : En → Option Bool} {i : Nat}
theorem ev_run {N : List Str} {n : Nat} {fb : FS} {ds : List D} (hl : ds.length = n) (e : fb (startD N ds) = some (.rt r)) : runF N n fb ds = some r := by
  unfold runF
  rw [if_pos hl, e]
theorem ev_seqN (e : F δ = some (.nx δ')) (e' : F' δ' = o) : sSeq F F' δ = o := by
  unfold sSeq
  rw [e]
  exact e'
theorem ev_seqR (e : F δ = some (.rt r)) : sSeq F F' δ = some (.rt r) := by
  unfold sSeq
  rw [e]
theorem ev_ifT (e : c δ = some true) (e' : F δ = o) : sIf c F F' δ = o := by
  unfold sIf
  rw [e]
  exact e'
theorem ev_ifF (e : c δ = some false) (e' : F' δ = o) : sIf c F F' δ = o := by
  unfold sIf
  rw [e]
  exact e'
theorem ev_set (e : f δ = some d) : sSet i f δ = some (.nx (δ.set i (some (.sh d)))) := by
  unfold sSet
  rw [e]
  rfl
theorem ev_ret (e : fr δ = some r) : sRet fr δ = some (.rt r) := by
  unfold sRet
  rw [e]
  rfl
theorem ev_nil : sNil δ = some (.nx δ) := rfl
theorem ev_for {it : En → Option (List D)} {xs : List D} (e : it δ = some xs) (e' : forL i F xs δ = o) : sFor i it F δ = o := by
  unfold sFor
  rw [e]
  exact e'
/-- if c: return d -/
theorem ev_guT (e : c δ = some true) (e' : fr δ = some r) : sIf c (sSeq (sRet fr) sNil) sNil δ = some (.rt r) := ev_ifT e (ev_seqR (ev_ret e'))
theorem ev_guF (e : c δ = some false) : sIf c (sSeq (sRet fr) sNil) sNil δ = some (.nx δ) := ev_ifF e ev_nil
theorem ev_call {M : List D → Option Rs} {g : En → Option (List D)} {ds : List D} (e : g δ = some ds) : fCallR M g δ = M ds := by
  unfold fCallR
  rw [e]
  rfl
theorem ev_cons {g : En → Option (List D)} {ds : List D} (e : f δ = some d) (e' : g δ = some ds) : fCons f g δ = some (d :: ds) := by
  unfold fCons
  rw [e, e']
  rfl
theorem ev_f2 {o : D → D → Option D} {f g : FE} {x y : D} (e : f δ = some x) (e' : g δ = some y) : f2 o f g δ = o x y := by
  unfold f2
  rw [e, e']
  rfl
theorem ev_lstI {ds : List D} (e : f δ = some (.lst ds)) : oSeq f δ = some ds := by
  unfold oSeq
  rw [e]
theorem ev_tupI {ds : List D} (e : f δ = some (.tup ds)) : oSeq f δ = some ds := by
  unfold oSeq
  rw [e]
theorem ev_comp {nl i : Nat} {js : List Nat} {it : En → Option (List D)} {g : FE} {xs ys : List D} (e : it δ = some xs) (hl : xs.length ≤ sizeLine)
    (e' : compL (fun x => c ((csD nl js δ).set i (some (.sh x)))) (fun x => g ((csD nl js δ).set i (some (.sh x)))) xs = some ys) : fComp nl js i it c g δ = some (.fr (.lst ys)) := by
  unfold fComp
  rw [e, Option.bind_some, if_pos hl, e']
  rfl
theorem ev_tup {g : En → Option (List D)} {ds : List D} (e : g δ = some ds) (hl : ds.length ≤ sizeLine) : fTup g δ = some (.tup ds) := by
  unfold fTup
  rw [e, Option.bind_some, if_pos hl]
theorem ev_lst {g : En → Option (List D)} {ds : List D} (e : g δ = some ds) (hl : ds.length ≤ sizeLine) : fLstR g δ = some (.fr (.lst ds)) := by
  unfold fLstR
  rw [e, Option.bind_some, if_pos hl]
theorem ev_callB {M : List D → Option D} {g : En → Option (List D)} {ds : List D} (e : g δ = some ds) : fCallB M g δ = M ds := by
  unfold fCallB
  rw [e]
  rfl
theorem ev_callN {M : List D → Option Mo} {g : En → Option (List D)} {ds : List D} {m : Mo} (e : g δ = some ds) (e' : M ds = some m) : fCallN M g δ = some (.fr m) := by
  unfold fCallN
  rw [e, Option.bind_some, e']
  rfl
theorem ev_pub (e : fr δ = some r) : fPub fr δ = some r.d := by unfold fPub; rw [e]; rfl
theorem ev_sh (e : f δ = some d) : fSh f δ = some (.sh d) := by unfold fSh; rw [e]; rfl
theorem ev_setR (e : fr δ = some r) : sSetR i fr δ = some (.nx (δ.set i (some r.sl))) := by
  unfold sSetR
  rw [e]
  rfl
theorem ev_app {ds : List D} (h : δ[i]? = some (some (.pv (.lst ds)))) (e : f δ = some d) (hl : ds.length < sizeLine) : sApp i f δ = some (.nx (δ.set i (some (.pv (.lst (ds ++ [d])))))) := by
  unfold sApp
  rw [h]
  dsimp only
  rw [e, Option.bind_some, if_pos hl]
theorem forL_ix {F : FS} {i : Nat} (P : Nat → En → Prop) : ∀ (xs : List D) (δ : En) (k0 : Nat), P k0 δ → (∀ k x, xs[k]? = some x → ∀ δ, P (k0 + k) δ → ∃ δ', F (δ.set i (some (.sh x))) = some (.nx δ') ∧ P (k0 + k + 1) δ') → ∃ δ', forL i F xs δ = some (.nx δ') ∧ P (k0 + xs.length) δ'
  | [], δ, k0, h0, _ => ⟨δ, rfl, h0⟩
  | x :: xs, δ, k0, h0, st => by
    obtain ⟨δ', e, h1⟩ := st 0 x rfl δ h0
    unfold forL
    rw [e]
    obtain ⟨δ2, e2, h2⟩ := forL_ix P xs δ' (k0 + 1) h1 fun k y hy δ hp => by
      obtain ⟨δ3, e3, h3⟩ := st (k + 1) y (by simpa using hy) δ (by rw [show k0 + (k + 1) = k0 + 1 + k by omega]; exact hp)
      exact ⟨δ3, e3, by rw [show k0 + 1 + k + 1 = k0 + (k + 1) + 1 by omega]; exact h3⟩
    exact ⟨δ2, e2, by rw [List.length_cons, show k0 + (xs.length + 1) = k0 + 1 + xs.length by omega]; exact h2⟩
end
end L2

-- part Lw
set_option Elab.async false
set_option linter.all false
set_option maxRecDepth 100000
set_option maxHeartbeats 4000000
namespace L2
open PySem PySem.Spec PyProof.Rows
/-! ### what holds of what a program at data level gives, step by step -/
def Op {α : Type} (o : Option α) (R : α → Prop) : Prop := ∃ d, o = some d ∧ R d
def So (o : Option Out) (N : En → Prop) (T : Rs → Prop) : Prop := ∃ u, o = some u ∧ match u with | .nx δ => N δ | .rt r => T r | _ => False
theorem op_some {α : Type} {d : α} {R : α → Prop} (k : R d) : Op (some d) R := ⟨d, rfl, k⟩
theorem Op.mono {α : Type} {o : Option α} {R S : α → Prop} (h : Op o R) (k : ∀ d, R d → S d) : Op o S := let ⟨d, e, r⟩ := h; ⟨d, e, k d r⟩
theorem Op.eq {α : Type} {o : Option α} {d : α} (h : Op o fun x => x = d) : o = some d := by obtain ⟨x, e, rfl⟩ := h; exact e
theorem op_of {α : Type} {o : Option α} {d : α} {R : α → Prop} (e : o = some d) (h : R d) : Op o R := ⟨d, e, h⟩
theorem So.mono {o : Option Out} {N N' : En → Prop} {T T' : Rs → Prop} (h : So o N T) (k : ∀ δ, N δ → N' δ) (k' : ∀ r, T r → T' r) : So o N' T' := by
  obtain ⟨u, e, h⟩ := h
  refine ⟨u, e, ?_⟩
  cases u with
  | nx δ => exact k δ h
  | rt r => exact k' r h
  | bk δ => exact h
  | ct δ => exact h
/-- a truth -/
def IsBl (R : Bool → Prop) : D → Prop | .bl b => R b | _ => False
def IsIn (R : Int → Prop) : D → Prop | .int b => R b | _ => False
def IsSq (R : List D → Prop) : D → Prop | .lst xs => R xs | .tup xs => R xs | .str z => R (signs z) | _ => False
def PubR (R : D → Prop) (r : Rs) : Prop := R r.d
def SetK (N : En → Prop) (δ : En) (i : Nat) (x : Sl) : Prop := N (δ.set i (some x))
def SetR (N : En → Prop) (δ : En) (i : Nat) (r : Rs) : Prop := N (δ.set i (some r.sl))
theorem pub_sh {R : D → Prop} {d : D} (k : R d) : PubR R (.sh d) := k
theorem pub_l {R : D → Prop} {xs : List D} (k : R (.lst xs)) : PubR R (.fr (.lst xs)) := k
theorem pub_d {R : D → Prop} {ks : List Key} {xs : List D} (k : R (.dic ks xs)) : PubR R (.fr (.dic ks xs)) := k
theorem setK {N : En → Prop} {δ δ' : En} {i : Nat} {x : Sl} (e : δ.set i (some x) = δ') (k : N δ') : SetK N δ i x := by unfold SetK; rw [e]; exact k
theorem setR_sh {N : En → Prop} {δ : En} {i : Nat} {d : D} (k : SetK N δ i (.sh d)) : SetR N δ i (.sh d) := k
theorem setR_fr {N : En → Prop} {δ : En} {i : Nat} {m : Mo} (k : SetK N δ i (.pv m)) : SetR N δ i (.fr m) := k
theorem ite_t {A B : Prop} (h : A) : if true = true then A else B := h
theorem ite_f {A B : Prop} (h : B) : if false = true then A else B := h
theorem ite_rt {b : Bool} {A B : Prop} (e : b = true) (h : A) : if b = true then A else B := by rw [if_pos e]; exact h
theorem ite_rf {b : Bool} {A B : Prop} (e : b = false) (h : B) : if b = true then A else B := by rw [if_neg (by rw [e]; exact Bool.false_ne_true)]; exact h
theorem isBl_k {R : Bool → Prop} {b : Bool} (k : R b) : IsBl R (.bl b) := k
theorem isIn_k {R : Int → Prop} {b : Int} (k : R b) : IsIn R (.int b) := k
theorem isSq_l {R : List D → Prop} {b : List D} (k : R b) : IsSq R (.lst b) := k
theorem isSq_t {R : List D → Prop} {b : List D} (k : R b) : IsSq R (.tup b) := k
theorem isSq_s {R : List D → Prop} {b : Str} (k : R (signs b)) : IsSq R (.str b) := k
section
variable {f g h : FE} {fr : FR} {F F' : FS} {c c' : En → Option Bool} {δ : En} {i j : Nat} {ga : En → Option (List D)} {R : D → Prop} {Rr : Rs → Prop} {N : En → Prop} {T : Rs → Prop}
theorem op_f2 {o : D → D → Option D} (k : Op (f δ) fun x => Op (g δ) fun y => Op (o x y) R) : Op (f2 o f g δ) R := by
  obtain ⟨x, e1, y, e2, z, e3, k⟩ := k
  exact ⟨z, by unfold f2; rw [e1, Option.bind_some, e2, Option.bind_some, e3], k⟩
theorem op_f1 {o : D → Option D} (k : Op (f δ) fun x => Op (o x) R) : Op (f1 o f δ) R := by
  obtain ⟨x, e1, z, e3, k⟩ := k
  exact ⟨z, by unfold f1; rw [e1, Option.bind_some, e3], k⟩
theorem op_varB {x : Sl} (e : δ[i]? = some (some x)) (k : R x.d) : Op (fVarB i δ) R := ⟨x.d, by unfold fVarB; rw [e], k⟩
theorem op_var {x : D} (e : δ[i]? = some (some (.sh x))) (k : R x) : Op (fVar i δ) R := ⟨x, by unfold fVar; rw [e], k⟩
theorem op_varBs {d : D} (e : δ[i]? = some (some (.sh d))) (k : R d) : Op (fVarB i δ) R := op_varB e k
theorem op_varBl {xs : List D} (e : δ[i]? = some (some (.pv (.lst xs)))) (k : R (.lst xs)) : Op (fVarB i δ) R := op_varB e k
theorem op_varBd {ks : List Key} {xs : List D} (e : δ[i]? = some (some (.pv (.dic ks xs)))) (k : R (.dic ks xs)) : Op (fVarB i δ) R := op_varB e k
theorem op_C {d : D} (k : R d) : Op (fC d δ) R := ⟨d, rfl, k⟩
theorem op_nil {R : List D → Prop} (k : R []) : Op (fNil δ) R := ⟨_, rfl, k⟩
theorem op_cons {R : List D → Prop} (k : Op (f δ) fun d => Op (ga δ) fun ds => R (d :: ds)) : Op (fCons f ga δ) R := by
  obtain ⟨x, e1, y, e2, k⟩ := k
  exact ⟨_, by unfold fCons; rw [e1, Option.bind_some, e2, Option.bind_some], k⟩
theorem op_callR {M : List D → Option Rs} (k : Op (ga δ) fun ds => Op (M ds) Rr) : Op (fCallR M ga δ) Rr := by
  obtain ⟨x, e1, y, e2, k⟩ := k
  exact ⟨_, by unfold fCallR; rw [e1, Option.bind_some, e2], k⟩
theorem op_callB {M : List D → Option D} (k : Op (ga δ) fun ds => Op (M ds) R) : Op (fCallB M ga δ) R := by
  obtain ⟨x, e1, y, e2, k⟩ := k
  exact ⟨_, by unfold fCallB; rw [e1, Option.bind_some, e2], k⟩
theorem op_callN {M : List D → Option Mo} (k : Op (ga δ) fun ds => Op (M ds) fun m => Rr (.fr m)) : Op (fCallN M ga δ) Rr := by
  obtain ⟨x, e1, y, e2, k⟩ := k
  exact ⟨_, by unfold fCallN; rw [e1, Option.bind_some, e2]; rfl, k⟩
theorem op_callG {M : List D → Option Rs} (k : Op (ga δ) fun ds => Op (M ds) fun r => noMutR r = true ∧ Rr r) : Op (fCallG M ga δ) Rr := by
  obtain ⟨x, e1, y, e2, k0, k⟩ := k
  exact ⟨_, by unfold fCallG; rw [e1, Option.bind_some, e2, Option.bind_some, if_pos k0], k⟩
theorem op_pub (k : Op (fr δ) (PubR R)) : Op (fPub fr δ) R := by
  obtain ⟨x, e1, k⟩ := k
  exact ⟨_, by unfold fPub; rw [e1]; rfl, k⟩
theorem op_sh (k : Op (f δ) fun d => Rr (.sh d)) : Op (fSh f δ) Rr := by
  obtain ⟨x, e1, k⟩ := k
  exact ⟨_, by unfold fSh; rw [e1]; rfl, k⟩
theorem op_fB {R : Bool → Prop} (k : Op (f δ) (IsBl R)) : Op (fB f δ) R := by
  obtain ⟨x, e1, k⟩ := k
  cases x with
  | bl b => exact ⟨b, by unfold fB; rw [e1], k⟩
  | _ => exact k.elim
theorem op_f3 {o o' : D → D → Option D} (k : Op (f δ) fun x => Op (g δ) fun y => Op (o x y) (IsBl fun z => if z = true then Op (h δ) fun w => Op (o' y w) R else R (.bl false))) : Op (f3 o o' f g h δ) R := by
  obtain ⟨x, e1, y, e2, z, e3, k⟩ := k
  cases z with
  | bl b =>
    cases b with
    | true =>
      obtain ⟨w, e4, v, e5, k⟩ := (show Op (h δ) fun w => Op (o' y w) R from k)
      exact ⟨v, by unfold f3; rw [e1, Option.bind_some, e2, Option.bind_some, e3, Option.bind_some]; dsimp only; rw [e4, Option.bind_some, e5], k⟩
    | false => exact ⟨_, by unfold f3; rw [e1, Option.bind_some, e2, Option.bind_some, e3, Option.bind_some], k⟩
  | _ => exact k.elim
theorem op_bAnd {R : Bool → Prop} (k : Op (c δ) fun x => if x = true then Op (c' δ) R else R false) : Op (bAnd c c' δ) R := by
  obtain ⟨x, e1, k⟩ := k
  cases x with
  | true => obtain ⟨y, e2, k⟩ := (show Op (c' δ) R from k); exact ⟨y, by unfold bAnd; rw [e1, Option.bind_some, if_pos rfl, e2], k⟩
  | false => exact ⟨false, by unfold bAnd; rw [e1, Option.bind_some, if_neg Bool.false_ne_true], k⟩
theorem op_bOr {R : Bool → Prop} (k : Op (c δ) fun x => if x = true then R true else Op (c' δ) R) : Op (bOr c c' δ) R := by
  obtain ⟨x, e1, k⟩ := k
  cases x with
  | false => obtain ⟨y, e2, k⟩ := (show Op (c' δ) R from k); exact ⟨y, by unfold bOr; rw [e1, Option.bind_some, if_neg Bool.false_ne_true, e2], k⟩
  | true => exact ⟨true, by unfold bOr; rw [e1, Option.bind_some, if_pos rfl], k⟩
theorem op_bNot {R : Bool → Prop} (k : Op (c δ) fun x => R (!x)) : Op (bNot c δ) R := by
  obtain ⟨x, e1, k⟩ := k
  exact ⟨_, by unfold bNot; rw [e1]; rfl, k⟩
theorem op_fAnd (k : Op (f δ) (IsBl fun x => if x = true then Op (g δ) R else R (.bl false))) : Op (fAnd f g δ) R := by
  obtain ⟨x, e1, k⟩ := k
  cases x with
  | bl b =>
    cases b with
    | true => obtain ⟨y, e2, k⟩ := (show Op (g δ) R from k); exact ⟨y, by unfold fAnd; rw [e1]; exact e2, k⟩
    | false => exact ⟨_, by unfold fAnd; rw [e1], k⟩
  | _ => exact k.elim
theorem op_fOr (k : Op (f δ) (IsBl fun x => if x = true then R (.bl true) else Op (g δ) R)) : Op (fOr f g δ) R := by
  obtain ⟨x, e1, k⟩ := k
  cases x with
  | bl b =>
    cases b with
    | false => obtain ⟨y, e2, k⟩ := (show Op (g δ) R from k); exact ⟨y, by unfold fOr; rw [e1]; exact e2, k⟩
    | true => exact ⟨_, by unfold fOr; rw [e1], k⟩
  | _ => exact k.elim
theorem op_fNot (k : Op (f δ) (IsBl fun x => R (.bl (!x)))) : Op (fNot f δ) R := by
  obtain ⟨x, e1, k⟩ := k
  cases x with
  | bl b => exact ⟨_, by unfold fNot; rw [e1], k⟩
  | _ => exact k.elim
theorem op_fIf (k : Op (c δ) fun x => if x = true then Op (f δ) R else Op (g δ) R) : Op (fIf c f g δ) R := by
  obtain ⟨x, e1, k⟩ := k
  cases x with
  | true => obtain ⟨y, e2, k⟩ := (show Op (f δ) R from k); exact ⟨y, by unfold fIf; rw [e1, Option.bind_some, if_pos rfl, e2], k⟩
  | false => obtain ⟨y, e2, k⟩ := (show Op (g δ) R from k); exact ⟨y, by unfold fIf; rw [e1, Option.bind_some, if_neg Bool.false_ne_true, e2], k⟩
theorem op_bYes {R : Bool → Prop} (k : R true) : Op (bYes δ) R := ⟨_, rfl, k⟩
theorem op_tup (k : Op (ga δ) fun ds => ds.length ≤ sizeLine ∧ R (.tup ds)) : Op (fTup ga δ) R := by
  obtain ⟨x, e1, k0, k⟩ := k
  exact ⟨_, by unfold fTup; rw [e1, Option.bind_some, if_pos k0], k⟩
theorem op_lstR (k : Op (ga δ) fun ds => ds.length ≤ sizeLine ∧ Rr (.fr (.lst ds))) : Op (fLstR ga δ) Rr := by
  obtain ⟨x, e1, k0, k⟩ := k
  exact ⟨_, by unfold fLstR; rw [e1, Option.bind_some, if_pos k0], k⟩
theorem op_dicR (k : Rr (.fr (.dic [] []))) : Op (fDicR δ) Rr := ⟨_, rfl, k⟩
theorem op_is {s : String} (k : Op (f δ) fun d => R (.bl (isTy s d))) : Op (fIs s f δ) R := by
  obtain ⟨x, e1, k⟩ := k
  exact ⟨_, by unfold fIs; rw [e1]; rfl, k⟩
theorem op_oInt {R : Option Int → Prop} (k : Op (f δ) (IsIn fun i => R (some i))) : Op (oInt f δ) R := by
  obtain ⟨x, e1, k⟩ := k
  cases x with
  | int b => exact ⟨_, by unfold oInt; rw [e1], k⟩
  | _ => exact k.elim
theorem op_sl {l h : En → Option (Option Int)} (k : Op (f δ) fun x => Op (l δ) fun lo => Op (h δ) fun hi => Op (slA x lo hi) Rr) : Op (fSlA f l h δ) Rr := by
  obtain ⟨x, e1, y, e2, z, e3, w, e4, k⟩ := k
  exact ⟨w, by unfold fSlA; rw [e1, Option.bind_some, e2, Option.bind_some, e3, Option.bind_some, e4], k⟩
theorem op_none {R : Option Int → Prop} (k : R none) : Op ((fun _ => some none : En → Option (Option Int)) δ) R := ⟨_, rfl, k⟩
theorem op_get2 (k : Op (f δ) fun d => Op (g δ) fun k => Op (h δ) fun x => Op (get2D d k x) R) : Op (fGet2 f g h δ) R := by
  obtain ⟨x, e1, y, e2, z, e3, w, e4, k⟩ := k
  exact ⟨w, by unfold fGet2; rw [e1, Option.bind_some, e2, Option.bind_some, e3, Option.bind_some, e4], k⟩
theorem op_oSeq {R : List D → Prop} (k : Op (f δ) (IsSq R)) : Op (oSeq f δ) R := by
  obtain ⟨x, e1, k⟩ := k
  cases x with
  | lst xs => exact ⟨_, by unfold oSeq; rw [e1], k⟩
  | tup xs => exact ⟨_, by unfold oSeq; rw [e1], k⟩
  | str xs => exact ⟨_, by unfold oSeq; rw [e1], k⟩
  | _ => exact k.elim
theorem op_oRng {R : List D → Prop} (k : Op (f δ) (IsIn fun i => (-(2 ^ 62) ≤ i ∧ i < 2 ^ 62) ∧ R (rngD 0 i.toNat))) : Op (oRng f δ) R := by
  obtain ⟨x, e1, k⟩ := k
  cases x with
  | int b => obtain ⟨k0, k⟩ := k; exact ⟨_, by unfold oRng; rw [e1]; dsimp only; rw [if_pos k0], k⟩
  | _ => exact k.elim
theorem op_oRng2 {R : List D → Prop} (k : Op (f δ) (IsIn fun i => Op (g δ) (IsIn fun j => (-(2 ^ 62) ≤ i ∧ i < 2 ^ 62 ∧ -(2 ^ 62) ≤ j ∧ j < 2 ^ 62) ∧ R (rngD i (j - i).toNat)))) : Op (oRng2 f g δ) R := by
  obtain ⟨x, e1, k⟩ := k
  cases x with
  | int b =>
    obtain ⟨y, e2, k⟩ := k
    cases y with
    | int b' => obtain ⟨k0, k⟩ := k; exact ⟨_, by unfold oRng2; rw [e1, Option.bind_some, e2, Option.bind_some]; dsimp only; rw [if_pos k0], k⟩
    | _ => exact k.elim
  | _ => exact k.elim
/-! comprehensions -/
theorem op_comp {nl : Nat} {js : List Nat} {it : En → Option (List D)} {Rr : Rs → Prop} (k : Op (it δ) fun xs => xs.length ≤ sizeLine ∧ Op (compL (fun x => c ((csD nl js δ).set i (some (.sh x)))) (fun x => g ((csD nl js δ).set i (some (.sh x)))) xs) fun ys => Rr (.fr (.lst ys))) : Op (fComp nl js i it c g δ) Rr := by
  obtain ⟨x, e1, k0, y, e2, k⟩ := k
  exact ⟨_, by unfold fComp; rw [e1, Option.bind_some, if_pos k0, e2]; rfl, k⟩
theorem op_compY {α : Type} {k : α → D} {hh : α → D} {g : D → Option D} {xs : List α} {R : List D → Prop} (h1 : ∀ x ∈ xs, Op (g (k x)) fun d => d = hh x) (q : R (xs.map hh)) : Op (compL (fun x => some true) g (xs.map k)) R := by
  refine ⟨_, ?_, q⟩
  clear q
  induction xs with
  | nil => rfl
  | cons x xs ih =>
    rw [List.map_cons]
    unfold compL
    rw [(h1 x List.mem_cons_self).eq, ih fun y hy => h1 y (List.mem_cons_of_mem _ hy)]
    rfl
theorem op_compI {α : Type} {k : α → D} {p : α → Bool} {hh : α → D} {c : D → Option Bool} {g : D → Option D} {xs : List α} {R : List D → Prop} (h0 : ∀ x ∈ xs, Op (c (k x)) fun b => b = p x) (h1 : ∀ x ∈ xs, p x = true → Op (g (k x)) fun d => d = hh x) (q : R ((xs.filter p).map hh)) : Op (compL c g (xs.map k)) R := by
  refine ⟨_, ?_, q⟩
  clear q
  induction xs with
  | nil => rfl
  | cons x xs ih =>
    rw [List.map_cons]
    unfold compL
    rw [(h0 x List.mem_cons_self).eq, Option.bind_some, ih (fun y hy => h0 y (List.mem_cons_of_mem _ hy)) fun y hy => h1 y (List.mem_cons_of_mem _ hy)]
    cases e : p x with
    | true => rw [if_pos rfl, (h1 x List.mem_cons_self e).eq, Option.bind_some, Option.bind_some, List.filter_cons, if_pos e]; rfl
    | false => rw [if_neg Bool.false_ne_true, List.filter_cons, if_neg (by rw [e]; exact Bool.false_ne_true)]
theorem op_compY' {hh : D → D} {g : D → Option D} {xs : List D} {R : List D → Prop} (h1 : ∀ x ∈ xs, Op (g x) fun d => d = hh x) (q : R (xs.map hh)) : Op (compL (fun x => some true) g xs) R := by
  have := op_compY (k := id) (hh := hh) (g := g) (xs := xs) (R := R) h1 q
  rwa [List.map_id] at this
/-- only what all items have in common -/
theorem op_compQ {g : D → Option D} {xs : List D} {Q : D → Prop} {R : List D → Prop} (h1 : ∀ x ∈ xs, Op (g x) Q) (q : ∀ ys : List D, ys.length = xs.length → (∀ y ∈ ys, Q y) → R ys) : Op (compL (fun x => some true) g xs) R := by
  have key : ∃ ys, compL (fun x => some true) g xs = some ys ∧ ys.length = xs.length ∧ ∀ y ∈ ys, Q y := by
    clear q
    induction xs with
    | nil => exact ⟨[], rfl, rfl, fun y hy => nomatch hy⟩
    | cons x xs ih =>
      obtain ⟨y, e1, q1⟩ := h1 x List.mem_cons_self
      obtain ⟨ys, e2, l2, q2⟩ := ih fun y hy => h1 y (List.mem_cons_of_mem _ hy)
      refine ⟨y :: ys, ?_, by simp [l2], fun z hz => ?_⟩
      · unfold compL; rw [e1, e2]; rfl
      · rcases List.mem_cons.mp hz with rfl | hz
        · exact q1
        · exact q2 z hz
  obtain ⟨ys, e, l, q'⟩ := key
  exact ⟨ys, e, q ys l q'⟩
/-- a comprehension with a test, told by its members -/
theorem op_compS {α : Type} {k : α → D} {C : α → Prop} {G : α → D} {c : D → Option Bool} {g : D → Option D} {xs : List α} {R : List D → Prop}
    (h1 : ∀ x ∈ xs, Op (c (k x)) fun b => (b = true ↔ C x) ∧ (b = true → Op (g (k x)) fun d => d = G x)) (q : ∀ ys : List D, ys.length ≤ xs.length → (∀ y, y ∈ ys ↔ ∃ x ∈ xs, C x ∧ y = G x) → R ys) : Op (compL c g (xs.map k)) R := by
  have key : ∃ ys, compL c g (xs.map k) = some ys ∧ ys.length ≤ xs.length ∧ ∀ y, y ∈ ys ↔ ∃ x ∈ xs, C x ∧ y = G x := by
    clear q
    induction xs with
    | nil => exact ⟨[], rfl, Nat.le_refl _, fun y => Iff.intro (fun h => by cases h) (fun ⟨_, h, _⟩ => by cases h)⟩
    | cons x xs ih =>
      obtain ⟨ys, e2, l2, q2⟩ := ih fun y hy => h1 y (List.mem_cons_of_mem _ hy)
      obtain ⟨b, e1, hb, hg⟩ := h1 x List.mem_cons_self
      cases b with
      | true =>
        refine ⟨G x :: ys, ?_, by simp only [List.length_cons]; omega, fun y => ?_⟩
        · rw [List.map_cons]; unfold compL; rw [e1, Option.bind_some, if_pos rfl, (hg rfl).eq, e2]; rfl
        · rw [List.mem_cons, q2]
          constructor
          · rintro (rfl | ⟨z, hz, cz, rfl⟩)
            · exact ⟨x, List.mem_cons_self, hb.mp rfl, rfl⟩
            · exact ⟨z, List.mem_cons_of_mem _ hz, cz, rfl⟩
          · rintro ⟨z, hz, cz, rfl⟩
            rcases List.mem_cons.mp hz with rfl | hz
            · exact .inl rfl
            · exact .inr ⟨z, hz, cz, rfl⟩
      | false =>
        refine ⟨ys, ?_, by simp only [List.length_cons]; omega, fun y => ?_⟩
        · rw [List.map_cons]; unfold compL; rw [e1, Option.bind_some, if_neg Bool.false_ne_true, e2]
        · rw [q2]
          constructor
          · rintro ⟨z, hz, cz, rfl⟩
            exact ⟨z, List.mem_cons_of_mem _ hz, cz, rfl⟩
          · rintro ⟨z, hz, cz, rfl⟩
            rcases List.mem_cons.mp hz with rfl | hz
            · exact absurd (hb.mpr cz) Bool.false_ne_true
            · exact ⟨z, hz, cz, rfl⟩
  obtain ⟨ys, e, l, h⟩ := key
  exact ⟨ys, e, q ys l h⟩
theorem op_compS' {C : D → Prop} {c : D → Option Bool} {g : D → Option D} {xs : List D} {R : List D → Prop}
    (h1 : ∀ x ∈ xs, Op (c x) fun b => (b = true ↔ C x) ∧ (b = true → Op (g x) fun d => d = x)) (q : ∀ ys : List D, ys.length ≤ xs.length → (∀ y, y ∈ ys ↔ y ∈ xs ∧ C y) → R ys) : Op (compL c g xs) R := by
  have := op_compS (k := id) (C := C) (G := id) (c := c) (g := g) (xs := xs) (R := R) h1 fun ys l h => q ys l fun y => (h y).trans ⟨fun ⟨x, hx, cx, e⟩ => by cases e; exact ⟨hx, cx⟩, fun ⟨hy, cy⟩ => ⟨y, hy, cy, rfl⟩⟩
  rwa [List.map_id] at this
/-! statements -/
theorem so_seq (k : So (F δ) (fun δ' => So (F' δ') N T) T) : So (sSeq F F' δ) N T := by
  obtain ⟨u, e, k⟩ := k
  cases u with
  | nx δ' => obtain ⟨w, e2, k⟩ := k; exact ⟨w, by unfold sSeq; rw [e]; exact e2, k⟩
  | rt r => exact ⟨.rt r, by unfold sSeq; rw [e], k⟩
  | bk δ => exact k.elim
  | ct δ => exact k.elim
theorem so_cut (P : En → Prop) (k : So (F δ) P T) (k' : ∀ δ', P δ' → So (F' δ') N T) : So (sSeq F F' δ) N T := so_seq (k.mono k' fun _ h => h)
theorem so_mid (P : En → Prop) {o : Option Out} (k : So o P T) (k' : ∀ δ', P δ' → N δ') : So o N T := k.mono k' fun _ h => h
theorem so_if (k : Op (c δ) fun x => if x = true then So (F δ) N T else So (F' δ) N T) : So (sIf c F F' δ) N T := by
  obtain ⟨x, e1, k⟩ := k
  cases x with
  | true => obtain ⟨y, e2, k⟩ := (show So (F δ) N T from k); exact ⟨y, by unfold sIf; rw [e1]; exact e2, k⟩
  | false => obtain ⟨y, e2, k⟩ := (show So (F' δ) N T from k); exact ⟨y, by unfold sIf; rw [e1]; exact e2, k⟩
theorem so_nil (k : N δ) : So (sNil δ) N T := ⟨_, rfl, k⟩
theorem so_set (k : Op (f δ) fun d => SetK N δ i (.sh d)) : So (sSet i f δ) N T := by
  obtain ⟨x, e1, k⟩ := k
  exact ⟨_, by unfold sSet; rw [e1]; rfl, k⟩
theorem so_setR (k : Op (fr δ) fun r => SetR N δ i r) : So (sSetR i fr δ) N T := by
  obtain ⟨x, e1, k⟩ := k
  exact ⟨_, by unfold sSetR; rw [e1]; rfl, k⟩
theorem so_ret (k : Op (fr δ) T) : So (sRet fr δ) N T := by
  obtain ⟨x, e1, k⟩ := k
  exact ⟨_, by unfold sRet; rw [e1]; rfl, k⟩
theorem so_app {ds : List D} (e : δ[i]? = some (some (.pv (.lst ds)))) (k : Op (f δ) fun d => ds.length < sizeLine ∧ SetK N δ i (.pv (.lst (ds ++ [d])))) : So (sApp i f δ) N T := by
  obtain ⟨x, e1, k0, k⟩ := k
  exact ⟨_, ev_app e e1 k0, k⟩
theorem so_dput {ks : List Key} {ds : List D} (e : δ[i]? = some (some (.pv (.dic ks ds)))) (k : Op (g δ) fun d => Op (f δ) fun kd => Op (keyD kd) fun k => ds.length < sizeLine ∧ SetK N δ i (.pv (.dic (putKeys ks k) (putVals ks ds k d)))) : So (sDPutM i f g δ) N T := by
  obtain ⟨x, e1, y, e2, z, e3, k0, k⟩ := k
  exact ⟨_, by unfold sDPutM; rw [e]; dsimp only; rw [e1, Option.bind_some, e2, Option.bind_some, e3, Option.bind_some, if_pos k0], k⟩
theorem so_setX {fx : FX} (k : Op (fx δ) fun r => SetK N r.2 i (.sh r.1)) : So (sSetX i fx δ) N T := by
  obtain ⟨x, e1, k⟩ := k
  exact ⟨_, by unfold sSetX; rw [e1]; rfl, k⟩
theorem op_xD {R : D × En → Prop} (k : Op (f δ) fun d => R (d, δ)) : Op (xD f δ) R := by
  obtain ⟨x, e1, k⟩ := k
  exact ⟨_, by unfold xD; rw [e1]; rfl, k⟩
theorem op_xIf {f g : FX} {R : D × En → Prop} (k : Op (c δ) fun x => if x = true then Op (f δ) R else Op (g δ) R) : Op (xIf c f g δ) R := by
  obtain ⟨x, e1, k⟩ := k
  cases x with
  | true => obtain ⟨y, e2, k⟩ := (show Op (f δ) R from k); exact ⟨y, by unfold xIf; rw [e1, Option.bind_some, if_pos rfl, e2], k⟩
  | false => obtain ⟨y, e2, k⟩ := (show Op (g δ) R from k); exact ⟨y, by unfold xIf; rw [e1, Option.bind_some, if_neg Bool.false_ne_true, e2], k⟩
theorem op_xSetd {ks : List Key} {ds : List D} {R : D × En → Prop} (e : δ[i]? = some (some (.pv (.dic ks ds)))) (k : Op (f δ) fun kd => Op (g δ) fun d => Op (keyD kd) fun k => ds.length < sizeLine ∧ R (match valD ks ds k with
      | some y => (y, δ)
      | none => (d, δ.set i (some (.pv (.dic (putKeys ks k) (putVals ks ds k d))))))) : Op (xSetd i f g δ) R := by
  obtain ⟨x, e1, y, e2, z, e3, k0, k⟩ := k
  exact ⟨_, by unfold xSetd; rw [e]; dsimp only; rw [e1, Option.bind_some, e2, Option.bind_some, e3, Option.bind_some, if_pos k0]; try (cases valD ks ds z <;> rfl), k⟩
theorem so_for {it : En → Option (List D)} (k : Op (it δ) fun xs => So (forL i F xs δ) N T) : So (sFor i it F δ) N T := by
  obtain ⟨x, e1, u, e2, k⟩ := k
  exact ⟨u, by unfold sFor; rw [e1]; exact e2, k⟩
theorem so_forL (I : Nat → En → Prop) {xs : List D} (h0 : I 0 δ) (st : ∀ k x, xs[k]? = some x → ∀ δ, I k δ → So (F (δ.set i (some (.sh x)))) (I (k + 1)) T) (q : ∀ δ, I xs.length δ → N δ) : So (forL i F xs δ) N T := by
  have key : ∀ (ys : List D) (k : Nat) (δ : En), xs.drop k = ys → k ≤ xs.length → I k δ → So (forL i F ys δ) (I xs.length) T := by
    intro ys
    induction ys with
    | nil =>
      intro k δ e hle h
      have hk : xs.length ≤ k := by simpa using e
      have : k = xs.length := by omega
      subst this
      exact ⟨_, rfl, h⟩
    | cons y ys ih =>
      intro k δ e hle h
      have hk : xs[k]? = some y := by
        have := congrArg (·[0]?) e
        simpa using this
      have hlt : k < xs.length := (List.getElem?_eq_some_iff.mp hk).1
      have hd : xs.drop (k + 1) = ys := by rw [← List.drop_drop, e]; rfl
      obtain ⟨u, e1, k1⟩ := st k y hk δ h
      cases u with
      | nx δ' =>
        obtain ⟨w, e2, k2⟩ := ih (k + 1) δ' hd hlt k1
        exact ⟨w, by unfold forL; rw [e1]; exact e2, k2⟩
      | rt r => exact ⟨.rt r, by unfold forL; rw [e1], k1⟩
      | bk δ => exact k1.elim
      | ct δ => exact k1.elim
  exact (key xs 0 δ rfl (Nat.zero_le _) h0).mono q fun _ h => h
theorem so_forL2 (I : Nat → En → Prop) {xs : List (D × D)} (h0 : I 0 δ) (st : ∀ k x, xs[k]? = some x → ∀ δ, I k δ → So (F ((δ.set i (some (.sh x.1))).set j (some (.sh x.2)))) (I (k + 1)) T) (q : ∀ δ, I xs.length δ → N δ) : So (forL2 i j F xs δ) N T := by
  have key : ∀ (ys : List (D × D)) (k : Nat) (δ : En), xs.drop k = ys → k ≤ xs.length → I k δ → So (forL2 i j F ys δ) (I xs.length) T := by
    intro ys
    induction ys with
    | nil =>
      intro k δ e hle h
      have hk : xs.length ≤ k := by simpa using e
      have : k = xs.length := by omega
      subst this
      exact ⟨_, rfl, h⟩
    | cons y ys ih =>
      intro k δ e hle h
      have hk : xs[k]? = some y := by
        have := congrArg (·[0]?) e
        simpa using this
      have hlt : k < xs.length := (List.getElem?_eq_some_iff.mp hk).1
      have hd : xs.drop (k + 1) = ys := by rw [← List.drop_drop, e]; rfl
      obtain ⟨u, e1, k1⟩ := st k y hk δ h
      cases u with
      | nx δ' =>
        obtain ⟨w, e2, k2⟩ := ih (k + 1) δ' hd hlt k1
        exact ⟨w, by unfold forL2; rw [e1]; exact e2, k2⟩
      | rt r => exact ⟨.rt r, by unfold forL2; rw [e1], k1⟩
      | bk δ => exact k1.elim
      | ct δ => exact k1.elim
  exact (key xs 0 δ rfl (Nat.zero_le _) h0).mono q fun _ h => h
theorem so_forZ {z : En → Option (List (D × D))} (k : Op (z δ) fun xs => So (forL2 i j F xs δ) N T) : So (sForZ i j z F δ) N T := by
  obtain ⟨x, e1, u, e2, k⟩ := k
  exact ⟨u, by unfold sForZ; rw [e1]; exact e2, k⟩
theorem op_zip {R : List (D × D) → Prop} (k : Op (f δ) fun x => Op (g δ) fun y => Op (seqD x) fun xs => Op (seqD y) fun ys => R (xs.2.zip ys.2)) : Op (oZip f g δ) R := by
  obtain ⟨x, e1, y, e2, z, e3, w, e4, k⟩ := k
  exact ⟨_, by unfold oZip; rw [e1, Option.bind_some, e2, Option.bind_some, e3, Option.bind_some, e4]; rfl, k⟩
theorem so_retVs {d : D} (e : δ[i]? = some (some (.sh d))) (k : T (.sh d)) : So (sRetV i δ) N T := ⟨_, by unfold sRetV; rw [e], k⟩
theorem so_retVp {m : Mo} (e : δ[i]? = some (some (.pv m))) (k : T (.fr m)) : So (sRetV i δ) N T := ⟨_, by unfold sRetV; rw [e], k⟩
theorem so_pub {m : Mo} (e : δ[i]? = some (some (.pv m))) (k : So (F (δ.set i (some (.sh m.d)))) N T) : So (F (pubS i δ)) N T := by
  unfold pubS
  rw [e]
  exact k
/-! operations on ints -/
theorem o_add {i j : Int} (k : R (.int (i + j))) : Op (addD (.int i) (.int j)) R := ⟨_, rfl, k⟩
theorem o_sub {i j : Int} (k : R (.int (i - j))) : Op (subD (.int i) (.int j)) R := ⟨_, rfl, k⟩
theorem o_mul {i j : Int} (h : CMul i j) (k : R (.int (i * j))) : Op (mulD (.int i) (.int j)) R := ⟨_, by show (if CMul i j then _ else _) = _; rw [if_pos h], k⟩
theorem o_div {i j : Int} (h : CDiv i j) (k : R (.int (i / j))) : Op (fdivD (.int i) (.int j)) R := ⟨_, by show (if CDiv i j then _ else _) = _; rw [if_pos h], k⟩
theorem o_mod {i j : Int} (h : 0 < j) (k : R (.int (i % j))) : Op (modD (.int i) (.int j)) R := ⟨_, by show (if 0 < j then _ else _) = _; rw [if_pos h], k⟩
theorem o_pow {i j : Int} (h : CPow i j) (k : R (.int (i ^ j.toNat))) : Op (powD (.int i) (.int j)) R := ⟨_, by show (if CPow i j then _ else _) = _; rw [if_pos h], k⟩
theorem o_neg {i : Int} (k : R (.int (-i))) : Op (negD (.int i)) R := ⟨_, rfl, k⟩
theorem o_lt {i j : Int} (k : R (.bl (decide (i < j)))) : Op (ltD (.int i) (.int j)) R := ⟨_, rfl, k⟩
theorem o_gt {i j : Int} (k : R (.bl (decide (j < i)))) : Op (gtD (.int i) (.int j)) R := ⟨_, rfl, k⟩
theorem o_ge {i j : Int} (k : R (.bl (decide (j ≤ i)))) : Op (geD (.int i) (.int j)) R := ⟨_, rfl, k⟩
theorem o_le {i j : Int} (k : R (.bl (decide (i ≤ j)))) : Op (leD (.int i) (.int j)) R := ⟨_, rfl, k⟩
theorem dec_intV {i j : Int} : decide (V.int i = V.int j) = decide (i = j) := decide_eq_decide.mpr ⟨V.int.inj, fun e => e ▸ rfl⟩
theorem o_eqI {i j : Int} (k : R (.bl (decide (i = j)))) : Op (eqO false (.int i) (.int j)) R := ⟨_, by show some (D.bl (decide (V.int i = V.int j))) = _; rw [dec_intV], k⟩
theorem o_neI {i j : Int} (k : R (.bl (!decide (i = j)))) : Op (eqO true (.int i) (.int j)) R := ⟨_, by show some (D.bl (!decide (V.int i = V.int j))) = _; rw [dec_intV], k⟩
theorem o_lenL {xs : List D} (k : R (.int xs.length)) : Op (lenD [.lst xs]) R := ⟨_, rfl, k⟩
theorem o_lenT {xs : List D} (k : R (.int xs.length)) : Op (lenD [.tup xs]) R := ⟨_, rfl, k⟩
theorem o_tupL {xs : List D} (k : R (.tup xs)) : Op (tupD [.lst xs]) R := ⟨_, rfl, k⟩
theorem o_tupT {xs : List D} (k : R (.tup xs)) : Op (tupD [.tup xs]) R := ⟨_, rfl, k⟩
theorem o_intI {i : Int} (k : R (.int i)) : Op (intD [.int i]) R := ⟨_, rfl, k⟩
theorem o_intB {b : Bool} (k : R (.int (if b then 1 else 0))) : Op (intD [.bl b]) R := ⟨_, rfl, k⟩
theorem o_isN {x : D} (k : R (.bl (nonD x))) : Op (isA x .non) R := ⟨_, rfl, k⟩
theorem o_slL {xs : List D} {lo hi : Option Int} {Rr : Rs → Prop} (k : Rr (.fr (.lst (cutD xs lo hi)))) : Op (slA (.lst xs) lo hi) Rr := ⟨_, rfl, k⟩
theorem o_slT {xs : List D} {lo hi : Option Int} {Rr : Rs → Prop} (k : Rr (.sh (.tup (cutD xs lo hi)))) : Op (slA (.tup xs) lo hi) Rr := ⟨_, rfl, k⟩
theorem o_keyI {i : Int} {R : Key → Prop} (k : R (.inl i)) : Op (keyD (.int i)) R := ⟨_, rfl, k⟩
theorem o_keyS {z : Str} {R : Key → Prop} (k : R (.inr z)) : Op (keyD (.str z)) R := ⟨_, rfl, k⟩
theorem o_seqT {xs : List D} {R : Bool × List D → Prop} (k : R (true, xs)) : Op (seqD (.tup xs)) R := ⟨_, rfl, k⟩
theorem o_seqL {xs : List D} {R : Bool × List D → Prop} (k : R (false, xs)) : Op (seqD (.lst xs)) R := ⟨_, rfl, k⟩
theorem o_dicN {ks : List Key} {xs : List D} {R : Mo → Prop} (k : R (.dic ks xs)) : Op (dicN [.dic ks xs]) R := ⟨_, rfl, k⟩
theorem o_max {i j : Int} (k : R (.int (if j > i then j else i))) : Op (maxD [.int i, .int j]) R := ⟨_, rfl, k⟩
theorem o_min {i j : Int} (k : R (.int (if j < i then j else i))) : Op (minD [.int i, .int j]) R := ⟨_, rfl, k⟩
theorem o_ixL {xs : List D} {k : Nat} {x : D} (e : xs[k]? = some x) (q : R x) : Op (ixA (.lst xs) (.int k)) R := ⟨x, atI_nat e, q⟩
theorem o_ixT {xs : List D} {k : Nat} {x : D} (e : xs[k]? = some x) (q : R x) : Op (ixA (.tup xs) (.int k)) R := ⟨x, atI_nat e, q⟩
theorem o_ixLm {xs : List D} {i : Int} (h0 : 0 ≤ i) (h1 : i < xs.length) (q : ∀ x ∈ xs, R x) : Op (ixA (.lst xs) (.int i)) R := by
  obtain ⟨n, rfl⟩ : ∃ n : Nat, i = n := ⟨i.toNat, by omega⟩
  have hn : n < xs.length := by omega
  exact o_ixL (List.getElem?_eq_getElem hn) (q _ (List.getElem_mem hn))
theorem op_runE {N : List Str} {n : Nat} {fb : FS} {ds : List D} {R : Rs → Prop} {δ : En} (hl : ds.length = n) (hs : startD N ds = δ) (k : So (fb δ) (fun _ => R (.sh .non)) R) : Op (runF N n fb ds) R := by
  subst hs
  obtain ⟨u, e, k⟩ := k
  cases u with
  | nx δ => exact ⟨_, by unfold runF; rw [if_pos hl, e], k⟩
  | rt r => exact ⟨_, by unfold runF; rw [if_pos hl, e], k⟩
  | bk δ => exact k.elim
  | ct δ => exact k.elim
theorem op_run {N : List Str} {n : Nat} {fb : FS} {ds : List D} {R : Rs → Prop} (hl : ds.length = n) (k : So (fb (startD N ds)) (fun _ => R (.sh .non)) R) : Op (runF N n fb ds) R := by
  obtain ⟨u, e, k⟩ := k
  cases u with
  | nx δ => exact ⟨_, by unfold runF; rw [if_pos hl, e], k⟩
  | rt r => exact ⟨_, by unfold runF; rw [if_pos hl, e], k⟩
  | bk δ => exact k.elim
  | ct δ => exact k.elim
end
end L2
local macro_rules | `(tactic| walk_at "wp1") => `(tactic| first
  | with_reducible refine L2.so_seq ?_
  | with_reducible refine L2.so_set ?_
  | with_reducible refine L2.so_setR ?_
  | with_reducible refine L2.so_setX ?_
  | with_reducible refine L2.so_ret ?_
  | with_reducible refine L2.so_nil ?_
  | with_reducible refine L2.so_for ?_
  | with_reducible refine L2.so_forZ ?_
  | ((with_reducible refine L2.so_retVs (d := ?d) ?h ?_); case h => exact rfl)
  | ((with_reducible refine L2.so_retVp (m := ?m) ?h ?_); case h => exact rfl)
  | ((with_reducible refine L2.so_app (ds := ?ds) ?h ?_); case h => exact rfl)
  | ((with_reducible refine L2.so_dput (ks := ?ks) (ds := ?ds) ?h ?_); case h => exact rfl)
  | ((with_reducible refine L2.setK (δ' := ?δ2) ?h ?_); case h => dsimp only [List.set]; exact rfl)
  | with_reducible refine L2.setR_sh ?_
  | with_reducible refine L2.setR_fr ?_
  | with_reducible refine L2.pub_sh ?_
  | with_reducible refine L2.pub_l ?_
  | with_reducible refine L2.pub_d ?_
  | with_reducible refine L2.ite_t ?_
  | with_reducible refine L2.ite_f ?_
  | ((with_reducible refine L2.ite_rt ?h ?_); case h => exact rfl)
  | ((with_reducible refine L2.ite_rf ?h ?_); case h => exact rfl)
  | with_reducible refine L2.isBl_k ?_
  | with_reducible refine L2.isIn_k ?_
  | with_reducible refine L2.isSq_l ?_
  | with_reducible refine L2.isSq_t ?_
  | with_reducible refine L2.isSq_s ?_
  | with_reducible refine L2.op_f2 ?_
  | with_reducible refine L2.op_f1 ?_
  | ((with_reducible refine L2.op_varBs (d := ?d) ?h ?_); case h => exact rfl)
  | ((with_reducible refine L2.op_varBl (xs := ?xs) ?h ?_); case h => exact rfl)
  | ((with_reducible refine L2.op_varBd (ks := ?ks) (xs := ?xs) ?h ?_); case h => exact rfl)
  | ((with_reducible refine L2.op_var (x := ?x) ?h ?_); case h => exact rfl)
  | ((with_reducible refine L2.op_xSetd (ks := ?ks) (ds := ?ds) ?h ?_); case h => exact rfl)
  | with_reducible refine L2.op_C ?_
  | with_reducible refine L2.op_nil ?_
  | with_reducible refine L2.op_cons ?_
  | with_reducible refine L2.op_callR ?_
  | with_reducible refine L2.op_callB ?_
  | with_reducible refine L2.op_callN ?_
  | with_reducible refine L2.op_callG ?_
  | with_reducible refine L2.op_pub ?_
  | with_reducible refine L2.op_sh ?_
  | with_reducible refine L2.op_fB ?_
  | with_reducible refine L2.op_f3 ?_
  | with_reducible refine L2.op_bAnd ?_
  | with_reducible refine L2.op_bOr ?_
  | with_reducible refine L2.op_bNot ?_
  | with_reducible refine L2.op_fAnd ?_
  | with_reducible refine L2.op_fOr ?_
  | with_reducible refine L2.op_fNot ?_
  | with_reducible refine L2.op_fIf ?_
  | with_reducible refine L2.op_bYes ?_
  | with_reducible refine L2.op_tup ?_
  | with_reducible refine L2.op_lstR ?_
  | with_reducible refine L2.op_dicR ?_
  | with_reducible refine L2.op_is ?_
  | with_reducible refine L2.op_oInt ?_
  | with_reducible refine L2.op_sl ?_
  | with_reducible refine L2.op_none ?_
  | with_reducible refine L2.op_some ?_
  | with_reducible refine L2.op_get2 ?_
  | with_reducible refine L2.op_oSeq ?_
  | with_reducible refine L2.op_oRng ?_
  | with_reducible refine L2.op_oRng2 ?_
  | with_reducible refine L2.op_comp ?_
  | with_reducible refine L2.op_xD ?_
  | with_reducible refine L2.op_xIf ?_
  | with_reducible refine L2.op_zip ?_
  | with_reducible refine L2.o_add ?_
  | with_reducible refine L2.o_sub ?_
  | with_reducible refine L2.o_neg ?_
  | with_reducible refine L2.o_lt ?_
  | with_reducible refine L2.o_gt ?_
  | with_reducible refine L2.o_ge ?_
  | with_reducible refine L2.o_le ?_
  | with_reducible refine L2.o_eqI ?_
  | with_reducible refine L2.o_neI ?_
  | with_reducible refine L2.o_lenL ?_
  | with_reducible refine L2.o_lenT ?_
  | with_reducible refine L2.o_tupL ?_
  | with_reducible refine L2.o_tupT ?_
  | with_reducible refine L2.o_intI ?_
  | with_reducible refine L2.o_intB ?_
  | with_reducible refine L2.o_isN ?_
  | with_reducible refine L2.o_slL ?_
  | with_reducible refine L2.o_slT ?_
  | with_reducible refine L2.o_keyI ?_
  | with_reducible refine L2.o_keyS ?_
  | with_reducible refine L2.o_seqT ?_
  | with_reducible refine L2.o_seqL ?_
  | with_reducible refine L2.o_dicN ?_
  | with_reducible refine L2.o_max ?_
  | with_reducible refine L2.o_min ?_
  | ((with_reducible refine L2.o_mul ?h ?_); case h => first | decide | exact Or.inr (by decide) | exact Or.inl (by decide) | exact ⟨by decide, by decide⟩ | omega)
  | ((with_reducible refine L2.o_div ?h ?_); case h => first | decide | exact Or.inr (by decide) | exact Or.inl (by decide) | exact ⟨by decide, by decide⟩ | omega)
  | ((with_reducible refine L2.o_mod ?h ?_); case h => first | decide | exact Or.inr (by decide) | exact Or.inl (by decide) | exact ⟨by decide, by decide⟩ | omega)
  | ((with_reducible refine L2.o_pow ?h ?_); case h => first | decide | exact Or.inr (by decide) | exact Or.inl (by decide) | exact ⟨by decide, by decide⟩ | omega))
local macro_rules | `(tactic| walk_at "wp") => `(tactic| repeat first | walk_at "wp1" | with_reducible refine L2.so_if ?_)
local macro_rules | `(tactic| walk_at "wpn") => `(tactic| repeat walk_at "wp1")
local macro_rules | `(tactic| walk_at "wrun") => `(tactic| (refine L2.op_runE (δ := ?d) rfl ?h ?_; case h => simp only [L2.startD, List.map_cons, List.map_nil, List.length_cons, List.length_nil, List.replicate, List.cons_append, List.nil_append, Nat.reduceAdd, Nat.reduceSub]; exact rfl))

-- part K11a
set_option Elab.async false
set_option linter.all false
set_option maxRecDepth 100000
set_option maxHeartbeats 4000000
namespace K11
open PySem PySem.Spec PyProof.Rows L2
def top (i : Nat) : Stmt := PySem.Challenge.pw_reason_k11_replaced_and_met.main.body.getD i (.Pass ⟨0, 0, 0, 0⟩)
def g_LONGEST : D := (.int 8)
structure Txt (K : PySem.W.Frag) (mg : Str → Option Value) : Prop where
  d_is_small : DefAt K mg "is_small" (top 2)
  d_is_big : DefAt K mg "is_big" (top 3)
  d_is_figure : DefAt K mg "is_figure" (top 4)
  d_is_short_text : DefAt K mg "is_short_text" (top 5)
  d_is_variable : DefAt K mg "is_variable" (top 6)
  d_replaced_by : DefAt K mg "replaced_by" (top 8)
  d_met_by : DefAt K mg "met_by" (top 9)
  d__law_cell : DefAt K mg "_law_cell" (top 11)
  d__law_stream : DefAt K mg "_law_stream" (top 12)
  d__law_names : DefAt K mg "_law_names" (top 13)
  d__law_constants : DefAt K mg "_law_constants" (top 14)
  d__law_variables : DefAt K mg "_law_variables" (top 15)
  d__law_free : DefAt K mg "_law_free" (top 17)
  d__law_due : DefAt K mg "_law_due" (top 16)
  d__law_places : DefAt K mg "_law_places" (top 18)
  d__law_right : DefAt K mg "_law_right" (top 19)
  d_law : DefAt K mg "law" (top 20)
  m_all : mg "all" = none
  m_dict : mg "dict" = none
  m_int : mg "int" = none
  m_isinstance : mg "isinstance" = none
  m_len : mg "len" = none
  m_max : mg "max" = none
  m_min : mg "min" = none
  m_range : mg "range" = none
  m_str : mg "str" = none
  m_tuple : mg "tuple" = none
  m_zip : mg "zip" = none
  t_dict : IsTyOk K "dict"
  t_int : IsTyOk K "int"
  t_str : IsTyOk K "str"
  t_tuple : IsTyOk K "tuple"
  c_LONGEST : GlobAt K mg "LONGEST" g_LONGEST
def fb_is_small : FS := (sSeq (sRet (fSh (f3 (leD) (leD) (fC (.str "a")) (fVarB 0) (fC (.str "z")))))
    sNil)
def M_is_small : List D → Option Rs := runF ["sign"] 1 fb_is_small
def fb_is_big : FS := (sSeq (sRet (fSh (f3 (leD) (leD) (fC (.str "A")) (fVarB 0) (fC (.str "Z")))))
    sNil)
def M_is_big : List D → Option Rs := runF ["sign"] 1 fb_is_big
def fb_is_figure : FS := (sSeq (sRet (fSh (f3 (leD) (leD) (fC (.str "0")) (fVarB 0) (fC (.str "9")))))
    sNil)
def M_is_figure : List D → Option Rs := runF ["sign"] 1 fb_is_figure
def fb_is_short_text : FS := (sSeq (sRet (fSh (fAnd (fIs "str" (fVarB 0)) (f3 (leD) (leD) (fC (.int 1)) (fCallB lenD (fCons (fVarB 0) fNil)) (fC g_LONGEST)))))
    sNil)
def M_is_short_text : List D → Option Rs := runF ["thing"] 1 fb_is_short_text
def fb_is_variable : FS := (sSeq (sIf (bOr (bNot (fB (fPub (fCallR M_is_short_text (fCons (fVar 0) fNil))))) (bNot (fB (fPub (fCallR M_is_big (fCons (f2 ixA (fVarB 0) (fC (.int 0))) fNil)))))) (sSeq (sRet (fSh (fC (.bl false))))
    sNil) sNil)
    (sSeq (sRet (fSh (fCallB allD (fCons (fPub (fComp 1 [] 0 (oSeq (fVar 0)) bYes (fOr (fPub (fCallR M_is_small (fCons (fVar 0) fNil))) (fOr (fPub (fCallR M_is_big (fCons (fVar 0) fNil))) (fPub (fCallR M_is_figure (fCons (fVar 0) fNil))))))) fNil))))
    sNil))
def M_is_variable : List D → Option Rs := runF ["thing"] 1 fb_is_variable
def fb_replaced_by : FS := (sSeq (sRet (fSh (fCallB tupD (fCons (fPub (fComp 1 [1] 0 (oSeq (fVar 0)) bYes (fGet2 (fVarB 1) (fVarB 0) (fVar 0)))) fNil))))
    sNil)
def M_replaced_by : List D → Option Rs := runF ["terms", "binding"] 2 fb_replaced_by
def fb_met_by : FS := (sSeq (sIf (fB (f2 (eqO true) (fCallB lenD (fCons (fVarB 0) fNil)) (fCallB lenD (fCons (fVarB 1) fNil)))) (sSeq (sRet (fSh (fC .non)))
    sNil) sNil)
    (sSeq (sSetR 3 (fCallN dicN (fCons (fVarB 2) fNil)))
    (sSeq (sForZ 4 5 (oZip (fVar 0) (fVar 1)) (sSeq (sSetX 6 (xIf (fB (fPub (fCallR M_is_variable (fCons (fVar 4) fNil)))) (xSetd 3 (fVar 4) (fVar 5)) (xD (fVar 4))))
    (sSeq (sIf (fB (f2 (eqO true) (fVarB 6) (fVarB 5))) (sSeq (sRet (fSh (fC .non)))
    sNil) sNil)
    sNil)))
    (sSeq (sRetV 3)
    sNil))))
def M_met_by : List D → Option Rs := runF ["terms", "places", "binding", "met", "term", "place", "constant"] 3 fb_met_by
def fb__law_cell : FS := (sSeq (sIf (fB (f2 (ltD) (fVarB 1) (fCallB lenD (fCons (fVarB 0) fNil)))) (sSeq (sRet (fSh (f2 ixA (fVarB 0) (fVarB 1))))
    sNil) sNil)
    (sSeq (sSet 2 (f2 addD (f2 mulD (fVarB 1) (fC (.int 7919))) (fC (.int 5))))
    (sSeq (sIf (fB (f2 (gtD) (fCallB lenD (fCons (fVarB 0) fNil)) (fC (.int 0)))) (sSeq (sSet 2 (f2 modD (f2 addD (f2 mulD (f2 ixA (fVarB 0) (f2 modD (f2 mulD (fVarB 1) (fC (.int 7))) (fCallB lenD (fCons (fVarB 0) fNil)))) (fC (.int 48271))) (f2 mulD (fVarB 1) (fC (.int 7919)))) (fC (.int 2147483647))))
    sNil) sNil)
    (sSeq (sRet (fSh (f2 modD (f2 mulD (fVarB 2) (fVarB 2)) (fC (.int 2147483629)))))
    sNil))))
def M__law_cell : List D → Option Rs := runF ["_law_script", "_law_k", "_law_number"] 2 fb__law_cell
def fb__law_stream : FS := (sSeq (sSetR 2 (fLstR fNil))
    (sSeq (sSet 3 (f2 fdivD (fVarB 0) (fC (.int 2))))
    (sSeq (sFor 4 (oRng (fVar 1)) (sSeq (sIf (fB (f2 (eqO false) (f2 modD (fVarB 0) (fC (.int 2))) (fC (.int 1)))) (sSeq (sApp 2 (f2 modD (fVarB 3) (f2 powD (fC (.int 10)) (fC (.int 4)))))
    (sSeq (sSet 3 (f2 fdivD (fVarB 3) (f2 powD (fC (.int 10)) (fC (.int 4)))))
    sNil)) (sSeq (sSet 3 (f2 modD (f2 addD (f2 mulD (fVarB 3) (fC (.int 48271))) (fC (.int 12345))) (fC (.int 2147483647))))
    (sSeq (sApp 2 (f2 modD (f2 mulD (fVarB 3) (fC (.int 69621))) (fC (.int 2147483629))))
    sNil)))
    sNil))
    (sSeq (sRetV 2)
    sNil))))
def M__law_stream : List D → Option Rs := runF ["_law_cell_here", "_law_many", "_law_xs", "_law_number", "_law_k"] 2 fb__law_stream
def fb__law_names : FS := (sSeq (sSet 2 (fC (.str "abcdefghijklmnopqrstuvwxyz")))
    (sSeq (sSet 3 (f2 addD (fC (.int 1)) (f2 modD (fVarB 0) (fC (.int 8)))))
    (sSeq (sSet 4 (f2 modD (f2 fdivD (fVarB 0) (fC (.int 8))) (fVarB 3)))
    (sSeq (sSet 5 (fPub (fComp 1 [] 0 (oSeq (fPub (fCallR M__law_stream (fCons (f2 fdivD (fVarB 0) (fC (.int 64))) (fCons (fC (.int 8)) fNil))))) bYes (f2 modD (fVarB 0) (fC (.int 26))))))
    (sSeq (sSetR 6 (fLstR fNil))
    (sSeq (sFor 7 (oRng (fVar 1)) (sSeq (sSet 8 (f2 joinD (fC (.str "")) (fPub (fComp 1 [2, 4, 5, 7] 0 (oRng (fVar 3)) bYes (f2 ixA (fVarB 1) (f2 modD (f2 addD (f2 ixA (fVarB 3) (fVarB 0)) (f2 mulD (f2 mulD (fC (.int 3)) (fVarB 4)) (fCallB intD (fCons (f2 (eqO false) (fVarB 0) (fVarB 2)) fNil)))) (fC (.int 26))))))))
    (sSeq (sIf (fB (f2 (inD false) (fVarB 8) (fTup (fCons (fC (.str "not")) (fCons (fC (.str "if")) (fCons (fC (.str "under")) (fCons (fC (.str "unlike")) (fCons (fC (.str "sum")) (fCons (fC (.str "least")) (fCons (fC (.str "count")) fNil)))))))))) (sSeq (sSet 8 (f2 addD (fC (.str "x")) (fVarB 8)))
    sNil) sNil)
    (sSeq (sApp 6 (fVar 8))
    sNil))))
    (sSeq (sRetV 6)
    sNil)))))))
def M__law_names : List D → Option Rs := runF ["_law_cell_here", "_law_many", "_law_some", "_law_size", "_law_at", "_law_base", "_law_names_here", "_law_k", "_law_name"] 2 fb__law_names
def fb__law_constants : FS := (sSeq (sSet 2 (fPub (fCallR M__law_names (fCons (f2 fdivD (fVarB 0) (fC (.int 81))) (fCons (fVar 1) fNil)))))
    (sSeq (sSetR 3 (fLstR fNil))
    (sSeq (sFor 4 (oRng (fVar 1)) (sSeq (sSet 5 (f2 modD (f2 ixA (fPub (fLstR (fCons (fVar 0) (fCons (f2 fdivD (fVarB 0) (fC (.int 3))) (fCons (f2 fdivD (fVarB 0) (fC (.int 9))) (fCons (f2 fdivD (fVarB 0) (fC (.int 27))) fNil)))))) (f2 modD (fVarB 4) (fC (.int 4)))) (fC (.int 3))))
    (sSeq (sSet 6 (f2 ixA (fVarB 2) (fVarB 4)))
    (sSeq (sIf (fB (f2 (eqO false) (fVarB 5) (fC (.int 1)))) (sSeq (sSet 6 (f2 subD (f2 addD (fVarB 4) (f2 modD (f2 fdivD (fVarB 0) (fC (.int 81))) (fC (.int 3)))) (fC (.int 2))))
    sNil) sNil)
    (sSeq (sIf (fB (f2 (eqO false) (fVarB 5) (fC (.int 2)))) (sSeq (sSet 6 (f2 subD (f2 subD (f2 modD (f2 fdivD (fVarB 0) (fC (.int 81))) (f2 powD (fC (.int 10)) (fC (.int 29)))) (f2 mulD (fVarB 4) (fVarB 4))) (fC (.int 5))))
    sNil) sNil)
    (sSeq (sIf (fB (f2 (inD false) (fVarB 6) (fVarB 3))) (sSeq (sSet 6 (f2 ixA (fVarB 2) (fVarB 4)))
    sNil) sNil)
    (sSeq (sApp 3 (fVar 6))
    sNil)))))))
    (sSeq (sRetV 3)
    sNil))))
def M__law_constants : List D → Option Rs := runF ["_law_cell_here", "_law_many", "_law_names_here", "_law_some", "_law_k", "_law_way", "_law_one"] 2 fb__law_constants
def fb__law_variables : FS := (sSeq (sSet 1 (fC (.str "ABCDEFGHIJKLMNOPQRSTUVWXYZ")))
    (sSeq (sSet 2 (fC (.str "abcdefghijklmnopqrstuvwxyz0123456789ABCDEFGHIJKLMNOPQRSTUVWXYZ")))
    (sSeq (sSet 3 (f2 addD (fC (.int 1)) (f2 modD (fVarB 0) (fC (.int 8)))))
    (sSeq (sSet 4 (f2 modD (f2 fdivD (fVarB 0) (fC (.int 8))) (fVarB 3)))
    (sSeq (sSet 5 (fPub (fCallR M__law_stream (fCons (f2 fdivD (fVarB 0) (fC (.int 64))) (fCons (fC (.int 8)) fNil)))))
    (sSeq (sSetR 6 (fLstR fNil))
    (sSeq (sFor 7 (oRng (fC (.int 4))) (sSeq (sSet 8 (f2 ixA (fVarB 1) (f2 modD (f2 addD (f2 ixA (fVarB 5) (fC (.int 0))) (f2 mulD (f2 mulD (fC (.int 5)) (fVarB 7)) (fCallB intD (fCons (f2 (eqO false) (fVarB 4) (fC (.int 0))) fNil)))) (fC (.int 26)))))
    (sSeq (sFor 9 (oRng2 (fC (.int 1)) (fVar 3)) (sSeq (sSet 8 (f2 addD (fVarB 8) (f2 ixA (fVarB 2) (f2 modD (f2 addD (f2 ixA (fVarB 5) (fVarB 9)) (f2 mulD (f2 mulD (fC (.int 5)) (fVarB 7)) (fCallB intD (fCons (f2 (eqO false) (fVarB 4) (fVarB 9)) fNil)))) (fC (.int 62))))))
    sNil))
    (sSeq (sApp 6 (fVar 8))
    sNil))))
    (sSeq (sRetV 6)
    sNil))))))))
def M__law_variables : List D → Option Rs := runF ["_law_cell_here", "_law_great", "_law_some", "_law_size", "_law_at", "_law_xs", "_law_names_here", "_law_k", "_law_name", "_law_j"] 1 fb__law_variables
def fb__law_free : FS := (sSeq (sRet (fComp 1 [] 0 (oSeq (fVar 0)) (bAnd (fB (fIs "str" (fVarB 0))) (fB (f3 (leD) (leD) (fC (.str "A")) (f2 ixA (fVarB 0) (fC (.int 0))) (fC (.str "Z"))))) (fVar 0)))
    sNil)
def M__law_free : List D → Option Rs := runF ["_law_terms"] 1 fb__law_free
def fb__law_due : FS := (sSeq (sIf (fB (f2 (eqO true) (fCallB lenD (fCons (fVarB 0) fNil)) (fCallB lenD (fCons (fVarB 1) fNil)))) (sSeq (sRet (fSh (fC .non)))
    sNil) sNil)
    (sSeq (sSetR 3 (fCallN dicN (fCons (fVarB 2) fNil)))
    (sSeq (sFor 4 (oRng (fCallB lenD (fCons (fVarB 0) fNil))) (sSeq (sIf (fB (f2 (inD false) (f2 ixA (fVarB 0) (fVarB 4)) (fPub (fCallR M__law_free (fCons (fVar 0) fNil))))) (sSeq (sSet 5 (fPub (fComp 1 [0, 1, 4] 0 (oRng (fCallB lenD (fCons (fVarB 0) fNil))) (fB (f2 (eqO false) (f2 ixA (fVarB 1) (fVarB 0)) (f2 ixA (fVarB 1) (fVarB 3)))) (f2 ixA (fVarB 2) (fVarB 0)))))
    (sSeq (sIf (bOr (fB (f2 (eqO true) (fPub (fComp 1 [1, 4] 0 (oSeq (fVar 5)) (fB (f2 (eqO true) (fVarB 0) (f2 ixA (fVarB 1) (fVarB 2)))) (fVar 0))) (fPub (fLstR fNil)))) (fB (f2 (eqO true) (fGet2 (fVarB 2) (f2 ixA (fVarB 0) (fVarB 4)) (f2 ixA (fVarB 1) (fVarB 4))) (f2 ixA (fVarB 1) (fVarB 4))))) (sSeq (sRet (fSh (fC .non)))
    sNil) sNil)
    (sSeq (sDPutM 3 (f2 ixA (fVarB 0) (fVarB 4)) (f2 ixA (fVarB 1) (fVarB 4)))
    sNil))) (sSeq (sIf (fB (f2 (eqO true) (f2 ixA (fVarB 0) (fVarB 4)) (f2 ixA (fVarB 1) (fVarB 4)))) (sSeq (sRet (fSh (fC .non)))
    sNil) sNil)
    sNil))
    sNil))
    (sSeq (sRetV 3)
    sNil))))
def M__law_due : List D → Option Rs := runF ["_law_terms", "_law_places_here", "_law_binding", "_law_due_here", "_law_k", "_law_same"] 3 fb__law_due
def fb__law_places : FS := (sSeq (sSet 4 (fPub (fComp 1 [2] 0 (oSeq (fVar 0)) bYes (f2 ixA (fVarB 1) (f2 modD (fVarB 0) (fCallB lenD (fCons (fVarB 1) fNil)))))))
    (sSeq (sSet 5 (fCallB tupD (fCons (fPub (fSlA (fVarB 4) (fun _ => some none) (oInt (fCallB lenD (fCons (fVarB 1) fNil))))) fNil)))
    (sSeq (sIf (fB (f2 (eqO false) (f2 modD (f2 ixA (fVarB 0) (fC (.int 8))) (fC (.int 2))) (fC (.int 1)))) (sSeq (sSetR 6 fDicR)
    (sSeq (sFor 7 (oRng (fC (.int 4))) (sSeq (sDPutM 6 (f2 ixA (fVarB 3) (fVarB 7)) (f2 ixA (fVarB 4) (fVarB 7)))
    sNil))
    (sSeq (sSet 5 (fCallB tupD (fCons (fPub (fComp 1 [6] 0 (oSeq (fVar 1)) bYes (fGet2 (fVarB 1) (fVarB 0) (fVar 0)))) fNil)))
    sNil))) sNil)
    (sSeq (sIf (fB (f2 (eqO false) (f2 modD (f2 ixA (fVarB 0) (fC (.int 9))) (fC (.int 8))) (fC (.int 1)))) (sSeq (sSet 5 (fPub (fSlA (f2 addD (fVarB 5) (fTup (fCons (f2 ixA (fVarB 4) (fC (.int 4))) fNil))) (fun _ => some none) (oInt (fC (.int 4))))))
    sNil) sNil)
    (sSeq (sIf (fB (f2 (eqO false) (f2 modD (f2 ixA (fVarB 0) (fC (.int 9))) (fC (.int 8))) (fC (.int 2)))) (sSeq (sSet 5 (fPub (fSlA (fVarB 5) (fun _ => some none) (oInt (f1 negD (fC (.int 1)))))))
    sNil) sNil)
    (sSeq (sRetV 5)
    sNil))))))
def M__law_places : List D → Option Rs := runF ["_law_xs", "_law_terms", "_law_constants_here", "_law_variables_here", "_law_drawn", "_law_places_here", "_law_own", "_law_k"] 4 fb__law_places
def fb__law_right : FS := (sSeq (sSet 3 (fPub (fCallN dicN (fCons (fVarB 2) fNil))))
    (sSeq (sSetR 4 (fCallR M_met_by (fCons (fVar 0) (fCons (fVar 1) (fCons (fVar 3) fNil)))))
    (sSeq (sSet 5 (fPub (fCallR M__law_due (fCons (fVar 0) (fCons (fVar 1) (fCons (fVar 2) fNil))))))
    (sSeq (sIf (bOr (fB (f2 (eqO true) (fVarB 3) (fVarB 2))) (fB (f2 (isA) (fVarB 5) (fC .non)))) (sSeq (sRet (fSh (fAnd (f2 (isA) (fVarB 4) (fC .non)) (f2 (isA) (fVarB 5) (fC .non)))))
    sNil) sNil)
    (sSeq (sIf (bOr (bNot (fB (fIs "dict" (fVarB 4)))) (fB (f2 (eqO true) (fVarB 4) (fVarB 5)))) (sSeq (sRet (fSh (fC (.bl false))))
    sNil) sNil)
    (sSeq (sSet 6 (fPub (fCallG M_replaced_by (fCons (fVarB 0) (fCons (fVarB 4) fNil)))))
    (sSeq (sIf (bOr (bNot (fB (fIs "tuple" (fVarB 6)))) (fB (f2 (eqO true) (fVarB 6) (fVarB 1)))) (sSeq (sRet (fSh (fC (.bl false))))
    sNil) sNil)
    (sSeq (sDPutM 4 (fC (.str "Zz")) (fC (.int 1)))
    (sSeq (sRet (fSh (fAnd (f2 (eqO false) (fVarB 3) (fVarB 2)) (f2 (eqO false) (fPub (fCallR M_met_by (fCons (fVar 0) (fCons (fVar 1) (fCons (fVar 3) fNil))))) (fVarB 5)))))
    sNil)))))))))
def M__law_right : List D → Option Rs := runF ["_law_terms", "_law_places_here", "_law_binding", "_law_handed", "_law_told", "_law_due_here", "_law_again"] 3 fb__law_right
def fb_law : FS := (sSeq (sSet 1 (fPub (fCallR M__law_constants (fCons (fPub (fCallR M__law_cell (fCons (fVar 0) (fCons (fC (.int 0)) fNil)))) (fCons (f2 addD (fC (.int 2)) (f2 modD (fPub (fCallR M__law_cell (fCons (fVar 0) (fCons (fC (.int 1)) fNil)))) (fC (.int 3)))) fNil)))))
    (sSeq (sSet 2 (fPub (fCallR M__law_variables (fCons (fPub (fCallR M__law_cell (fCons (fVar 0) (fCons (fC (.int 2)) fNil)))) fNil))))
    (sSeq (sFor 3 (oRng2 (fC (.int 3)) (fCallB maxD (fCons (fC (.int 7)) (fCons (fCallB minD (fCons (fC (.int 23)) (fCons (fCallB lenD (fCons (fVarB 0) fNil)) fNil))) fNil)))) (sSeq (sSet 4 (fPub (fCallR M__law_stream (fCons (fPub (fCallR M__law_cell (fCons (fVar 0) (fCons (fVar 3) fNil)))) (fCons (fC (.int 19)) fNil)))))
    (sSeq (sSet 5 (fCallB tupD (fCons (fPub (fComp 1 [1, 2] 0 (oSeq (fPub (fSlA (fVarB 4) (oInt (fC (.int 14))) (oInt (f2 addD (fC (.int 14)) (f2 modD (f2 ixA (fVarB 4) (fC (.int 10))) (fC (.int 5)))))))) bYes (f2 ixA (f2 addD (fVarB 2) (fVarB 1)) (f2 modD (fVarB 0) (f2 addD (fC (.int 4)) (fCallB lenD (fCons (fVarB 1) fNil))))))) fNil)))
    (sSeq (sSet 6 (fPub (fCallR M__law_places (fCons (fVar 4) (fCons (fVar 5) (fCons (fVar 1) (fCons (fVar 2) fNil)))))))
    (sSeq (sSetR 7 fDicR)
    (sSeq (sFor 8 (oRng (fC (.int 4))) (sSeq (sIf (fB (f2 (eqO false) (f2 modD (f2 fdivD (f2 ixA (fVarB 4) (fC (.int 11))) (f2 addD (fVarB 8) (fC (.int 1)))) (fC (.int 3))) (fC (.int 1)))) (sSeq (sSet 9 (f2 modD (f2 fdivD (f2 ixA (fVarB 4) (fC (.int 12))) (f2 addD (fVarB 8) (fC (.int 1)))) (fCallB lenD (fCons (fVarB 1) fNil))))
    (sSeq (sDPutM 7 (f2 ixA (fVarB 2) (fVarB 8)) (f2 ixA (fVarB 1) (fVarB 9)))
    sNil)) sNil)
    sNil))
    (sSeq (fun δ => (sIf (bOr (bNot (fB (fPub (fCallR M__law_right (fCons (fVar 5) (fCons (fVar 6) (fCons (fVar 7) fNil))))))) (bNot (fB (fPub (fCallR M__law_right (fCons (fVar 5) (fCons (fVar 6) (fCons (fPub fDicR) fNil)))))))) (sSeq (sRet (fSh (fC (.bl false))))
    sNil) sNil) (pubS 7 δ))
    sNil)))))))
    (sSeq (sRet (fSh (fC (.bl true))))
    sNil))))
def M_law : List D → Option Rs := runF ["_law_script", "_law_constants_here", "_law_variables_here", "_law_k", "_law_xs", "_law_terms", "_law_places_here", "_law_binding", "_law_j", "_law_at"] 1 fb_law
theorem hu_of2 {k : Nat} {A : Around} (r : Room k A) : A.units + 20 < cLine := by have := r.un; omega
end K11

-- part K11b
set_option Elab.async false
set_option linter.all false
set_option maxRecDepth 100000
set_option maxHeartbeats 4000000
namespace K11
open PySem PySem.Spec PyProof.Rows L2
theorem sc_is_small : FnScope ["sign"] ["sign"] (defScope (top 2)) := ⟨rfl, rfl, rfl, by decide +kernel, rfl, by decide +kernel, by decide +kernel⟩
theorem mk_is_small {P : Program} {w : World} {K : PySem.W.Frag} {mg : Str → Option Value} {base : Heap} (T : Txt K mg)  : DefOk P w K mg base 1 "is_small" ["sign"] M_is_small :=
  def_run T.d_is_small sc_is_small (fun _ _ _ _ _ _ us hl => match us, hl with | [_], _ => rfl) fun f cdv A outer s H E hr => by
    have nd : (["sign"] : List Str).Nodup := sc_is_small.nd
    have hu := hu_of2 hr
    exact (psd_cons (psd_ret (PD.pr (pd_chain od_leD od_leD (PD.pb pd_str) (pb_var 0) (PD.pb pd_str))))
    psd_nil)

theorem sc_is_big : FnScope ["sign"] ["sign"] (defScope (top 3)) := ⟨rfl, rfl, rfl, by decide +kernel, rfl, by decide +kernel, by decide +kernel⟩
theorem mk_is_big {P : Program} {w : World} {K : PySem.W.Frag} {mg : Str → Option Value} {base : Heap} (T : Txt K mg)  : DefOk P w K mg base 1 "is_big" ["sign"] M_is_big :=
  def_run T.d_is_big sc_is_big (fun _ _ _ _ _ _ us hl => match us, hl with | [_], _ => rfl) fun f cdv A outer s H E hr => by
    have nd : (["sign"] : List Str).Nodup := sc_is_big.nd
    have hu := hu_of2 hr
    exact (psd_cons (psd_ret (PD.pr (pd_chain od_leD od_leD (PD.pb pd_str) (pb_var 0) (PD.pb pd_str))))
    psd_nil)

theorem sc_is_figure : FnScope ["sign"] ["sign"] (defScope (top 4)) := ⟨rfl, rfl, rfl, by decide +kernel, rfl, by decide +kernel, by decide +kernel⟩
theorem mk_is_figure {P : Program} {w : World} {K : PySem.W.Frag} {mg : Str → Option Value} {base : Heap} (T : Txt K mg)  : DefOk P w K mg base 1 "is_figure" ["sign"] M_is_figure :=
  def_run T.d_is_figure sc_is_figure (fun _ _ _ _ _ _ us hl => match us, hl with | [_], _ => rfl) fun f cdv A outer s H E hr => by
    have nd : (["sign"] : List Str).Nodup := sc_is_figure.nd
    have hu := hu_of2 hr
    exact (psd_cons (psd_ret (PD.pr (pd_chain od_leD od_leD (PD.pb pd_str) (pb_var 0) (PD.pb pd_str))))
    psd_nil)

theorem sc_is_short_text : FnScope ["thing"] ["thing"] (defScope (top 5)) := ⟨rfl, rfl, rfl, by decide +kernel, rfl, by decide +kernel, by decide +kernel⟩
theorem mk_is_short_text {P : Program} {w : World} {K : PySem.W.Frag} {mg : Str → Option Value} {base : Heap} (T : Txt K mg)  : DefOk P w K mg base 1 "is_short_text" ["thing"] M_is_short_text :=
  def_run T.d_is_short_text sc_is_short_text (fun _ _ _ _ _ _ us hl => match us, hl with | [_], _ => rfl) fun f cdv A outer s H E hr => by
    have nd : (["thing"] : List Str).Nodup := sc_is_short_text.nd
    have hu := hu_of2 hr
    exact (psd_cons (psd_ret (PD.pr (pd_and (pd_is "str" T.t_str T.m_isinstance T.m_str boot_str (pb_var 0)) (pd_one (pd_chain od_leD od_leD (PD.pb pd_int) (PD.pb (pd_callB cd_len T.m_len boot_len (pab_cons (pb_var 0) pab_nil))) (PD.pb (T.c_LONGEST.pd)))))))
    psd_nil)

theorem sc_is_variable : FnScope ["thing"] ["thing"] (defScope (top 6)) := ⟨rfl, rfl, rfl, by decide +kernel, rfl, by decide +kernel, by decide +kernel⟩
theorem mk_is_variable {P : Program} {w : World} {K : PySem.W.Frag} {mg : Str → Option Value} {base : Heap} (T : Txt K mg) (ok_is_big : DefOk P w K mg base 1 "is_big" ["sign"] M_is_big) (ok_is_figure : DefOk P w K mg base 1 "is_figure" ["sign"] M_is_figure) (ok_is_short_text : DefOk P w K mg base 1 "is_short_text" ["thing"] M_is_short_text) (ok_is_small : DefOk P w K mg base 1 "is_small" ["sign"] M_is_small) : DefOk P w K mg base 2 "is_variable" ["thing"] M_is_variable :=
  def_run T.d_is_variable sc_is_variable (fun _ _ _ _ _ _ us hl => match us, hl with | [_], _ => rfl) fun f cdv A outer s H E hr => by
    have nd : (["thing"] : List Str).Nodup := sc_is_variable.nd
    have hu := hu_of2 hr
    exact (psd_cons (psd_if (PDW.pdt (pdw_or (pdt_not (pdt_val (PR.pd (pr_call ok_is_short_text (hr.mono (by decide)) (pad_cons (pd_var 0) pad_nil))))) (pdw_or1 (pdt_not (pdt_val (PR.pd (pr_call ok_is_big (hr.mono (by decide)) (pad_cons (pd_ix (Nat.lt_of_le_of_lt (Nat.add_le_add_left (by decide) _) hu) (pb_var 0) (PD.pb pd_int)) pad_nil)))))))) (psd_cons (psd_ret (PD.pr pd_bl))
    psd_nil) psd_nil)
    (psd_cons (psd_ret (PD.pr (pd_callB (cd_all rfl) T.m_all boot_all (pab_cons (PD.pb (PR.pd (pr_comp' (N := ["sign"]) (js := []) (i := 0) rfl (compOk0 rfl (by decide +kernel) (by decide +kernel) rfl) (pid_seq (pd_var 0)) (by decide) (by decide) rfl rfl (by decide) (fun _ _ _ _ => pifd_nil) (fun _ _ _ _ => (pd_or (PR.pd (pr_call ok_is_small (hr.mono (by decide)) (pad_cons (pd_var 0) pad_nil))) (pd_or (PR.pd (pr_call ok_is_big (hr.mono (by decide)) (pad_cons (pd_var 0) pad_nil))) (pd_one (PR.pd (pr_call ok_is_figure (hr.mono (by decide)) (pad_cons (pd_var 0) pad_nil)))))))))) pab_nil))))
    psd_nil))

theorem sc_replaced_by : FnScope ["terms", "binding"] ["terms", "binding"] (defScope (top 8)) := ⟨rfl, rfl, rfl, by decide +kernel, rfl, by decide +kernel, by decide +kernel⟩
theorem mk_replaced_by {P : Program} {w : World} {K : PySem.W.Frag} {mg : Str → Option Value} {base : Heap} (T : Txt K mg)  : DefOk P w K mg base 1 "replaced_by" ["terms", "binding"] M_replaced_by :=
  def_run T.d_replaced_by sc_replaced_by (fun _ _ _ _ _ _ us hl => match us, hl with | [_, _], _ => rfl) fun f cdv A outer s H E hr => by
    have nd : (["terms", "binding"] : List Str).Nodup := sc_replaced_by.nd
    have hu := hu_of2 hr
    exact (psd_cons (psd_ret (PD.pr (pd_callTy cd_tuple T.m_tuple boot_tuple (pab_cons (PD.pb (PR.pd (pr_comp' (N := ["term", "binding"]) (js := [1]) (i := 0) rfl (compOkF (sn := (defScope (top 8)).names) rfl rfl (by decide +kernel) rfl (by decide +kernel) (by decide +kernel) rfl (by intro k j x e1 e2; rcases k with _ | k <;> first | (cases e1; cases e2; exact ⟨rfl, (by first | exact Or.inl rfl | exact Or.inr rfl), (by first | exact Or.inl rfl | exact Or.inr (Or.inl rfl) | exact Or.inr (Or.inr rfl)), (by first | exact Or.inl rfl | exact Or.inr rfl)⟩) | (simp at e1))) (pid_seq (pd_var 0)) (by decide) (by decide) rfl rfl (by decide) (fun _ _ _ _ => pifd_nil) (fun _ _ _ _ => (pd_get2 (Nat.lt_of_le_of_lt (Nat.add_le_add_left (by decide) _) hu) (pb_var 1) (pb_var 0) (pd_var 0)))))) pab_nil))))
    psd_nil)

theorem sc_met_by : FnScope ["terms", "places", "binding", "met", "term", "place", "constant"] ["terms", "places", "binding"] (defScope (top 9)) := ⟨rfl, rfl, rfl, by decide +kernel, rfl, by decide +kernel, by decide +kernel⟩
theorem mk_met_by {P : Program} {w : World} {K : PySem.W.Frag} {mg : Str → Option Value} {base : Heap} (T : Txt K mg) (ok_is_variable : DefOk P w K mg base 2 "is_variable" ["thing"] M_is_variable) : DefOk P w K mg base 3 "met_by" ["terms", "places", "binding"] M_met_by :=
  def_run T.d_met_by sc_met_by (fun _ _ _ _ _ _ us hl => match us, hl with | [_, _, _], _ => rfl) fun f cdv A outer s H E hr => by
    have nd : (["terms", "places", "binding", "met", "term", "place", "constant"] : List Str).Nodup := sc_met_by.nd
    have hu := hu_of2 hr
    exact (psd_cons (psd_if (pdt_cmp (od_neO hu) (PD.pb (pd_callB cd_len T.m_len boot_len (pab_cons (pb_var 0) pab_nil))) (PD.pb (pd_callB cd_len T.m_len boot_len (pab_cons (pb_var 1) pab_nil)))) (psd_cons (psd_ret (PD.pr pd_non))
    psd_nil) psd_nil)
    (psd_cons (psd_setR 3 nd (pr_callTy cn_dict T.m_dict boot_dict (pab_cons (pb_var 2) pab_nil)))
    (psd_cons (psd_forZ 4 5 nd rfl PassesOwn.never T.m_zip (pd_var 0) (pd_var 1) (psd_cons (psd_setX 6 nd (px_if (pdt_val (PR.pd (pr_call ok_is_variable (hr.mono (by decide)) (pad_cons (pd_var 4) pad_nil)))) (px_setd 3 (pd_var 4) (pd_var 5)) (PD.px (pd_var 4))))
    (psd_cons (psd_if (pdt_cmp (od_neO hu) (pb_var 6) (pb_var 5)) (psd_cons (psd_ret (PD.pr pd_non))
    psd_nil) psd_nil)
    psd_nil)))
    (psd_cons (psd_retV 3)
    psd_nil))))

theorem sc__law_cell : FnScope ["_law_script", "_law_k", "_law_number"] ["_law_script", "_law_k"] (defScope (top 11)) := ⟨rfl, rfl, rfl, by decide +kernel, rfl, by decide +kernel, by decide +kernel⟩
theorem mk__law_cell {P : Program} {w : World} {K : PySem.W.Frag} {mg : Str → Option Value} {base : Heap} (T : Txt K mg)  : DefOk P w K mg base 1 "_law_cell" ["_law_script", "_law_k"] M__law_cell :=
  def_run T.d__law_cell sc__law_cell (fun _ _ _ _ _ _ us hl => match us, hl with | [_, _], _ => rfl) fun f cdv A outer s H E hr => by
    have nd : (["_law_script", "_law_k", "_law_number"] : List Str).Nodup := sc__law_cell.nd
    have hu := hu_of2 hr
    exact (psd_cons (psd_if (pdt_cmp od_lt (pb_var 1) (PD.pb (pd_callB cd_len T.m_len boot_len (pab_cons (pb_var 0) pab_nil)))) (psd_cons (psd_ret (PD.pr (pd_ix (Nat.lt_of_le_of_lt (Nat.add_le_add_left (by decide) _) hu) (pb_var 0) (pb_var 1))))
    psd_nil) psd_nil)
    (psd_cons (psd_set 2 nd (pd_op od_add (PD.pb (pd_op od_mul (pb_var 1) (PD.pb pd_int))) (PD.pb pd_int)))
    (psd_cons (psd_if (pdt_cmp od_gt (PD.pb (pd_callB cd_len T.m_len boot_len (pab_cons (pb_var 0) pab_nil))) (PD.pb pd_int)) (psd_cons (psd_set 2 nd (pd_op od_mod (PD.pb (pd_op od_add (PD.pb (pd_op od_mul (PD.pb (pd_ix (Nat.lt_of_le_of_lt (Nat.add_le_add_left (by decide) _) hu) (pb_var 0) (PD.pb (pd_op od_mod (PD.pb (pd_op od_mul (pb_var 1) (PD.pb pd_int))) (PD.pb (pd_callB cd_len T.m_len boot_len (pab_cons (pb_var 0) pab_nil))))))) (PD.pb pd_int))) (PD.pb (pd_op od_mul (pb_var 1) (PD.pb pd_int))))) (PD.pb pd_int)))
    psd_nil) psd_nil)
    (psd_cons (psd_ret (PD.pr (pd_op od_mod (PD.pb (pd_op od_mul (pb_var 2) (pb_var 2))) (PD.pb pd_int))))
    psd_nil))))

theorem sc__law_stream : FnScope ["_law_cell_here", "_law_many", "_law_xs", "_law_number", "_law_k"] ["_law_cell_here", "_law_many"] (defScope (top 12)) := ⟨rfl, rfl, rfl, by decide +kernel, rfl, by decide +kernel, by decide +kernel⟩
theorem mk__law_stream {P : Program} {w : World} {K : PySem.W.Frag} {mg : Str → Option Value} {base : Heap} (T : Txt K mg)  : DefOk P w K mg base 1 "_law_stream" ["_law_cell_here", "_law_many"] M__law_stream :=
  def_run T.d__law_stream sc__law_stream (fun _ _ _ _ _ _ us hl => match us, hl with | [_, _], _ => rfl) fun f cdv A outer s H E hr => by
    have nd : (["_law_cell_here", "_law_many", "_law_xs", "_law_number", "_law_k"] : List Str).Nodup := sc__law_stream.nd
    have hu := hu_of2 hr
    exact (psd_cons (psd_setR 2 nd (pr_lst pad_nil))
    (psd_cons (psd_set 3 nd (pd_op od_fdiv (pb_var 0) (PD.pb pd_int)))
    (psd_cons (psd_for 4 nd rfl PassesOwn.never (pid_range T.m_range (pd_var 1)) (psd_cons (psd_if (pdt_cmp (od_eqO hu) (PD.pb (pd_op od_mod (pb_var 0) (PD.pb pd_int))) (PD.pb pd_int)) (psd_cons (psd_app 2 (pd_op od_mod (pb_var 3) (PD.pb (pd_op od_pow (PD.pb pd_int) (PD.pb pd_int)))))
    (psd_cons (psd_set 3 nd (pd_op od_fdiv (pb_var 3) (PD.pb (pd_op od_pow (PD.pb pd_int) (PD.pb pd_int)))))
    psd_nil)) (psd_cons (psd_set 3 nd (pd_op od_mod (PD.pb (pd_op od_add (PD.pb (pd_op od_mul (pb_var 3) (PD.pb pd_int))) (PD.pb pd_int))) (PD.pb pd_int)))
    (psd_cons (psd_app 2 (pd_op od_mod (PD.pb (pd_op od_mul (pb_var 3) (PD.pb pd_int))) (PD.pb pd_int)))
    psd_nil)))
    psd_nil))
    (psd_cons (psd_retV 2)
    psd_nil))))

theorem sc__law_names : FnScope ["_law_cell_here", "_law_many", "_law_some", "_law_size", "_law_at", "_law_base", "_law_names_here", "_law_k", "_law_name"] ["_law_cell_here", "_law_many"] (defScope (top 13)) := ⟨rfl, rfl, rfl, by decide +kernel, rfl, by decide +kernel, by decide +kernel⟩
theorem mk__law_names {P : Program} {w : World} {K : PySem.W.Frag} {mg : Str → Option Value} {base : Heap} (T : Txt K mg) (ok__law_stream : DefOk P w K mg base 1 "_law_stream" ["_law_cell_here", "_law_many"] M__law_stream) : DefOk P w K mg base 2 "_law_names" ["_law_cell_here", "_law_many"] M__law_names :=
  def_run T.d__law_names sc__law_names (fun _ _ _ _ _ _ us hl => match us, hl with | [_, _], _ => rfl) fun f cdv A outer s H E hr => by
    have nd : (["_law_cell_here", "_law_many", "_law_some", "_law_size", "_law_at", "_law_base", "_law_names_here", "_law_k", "_law_name"] : List Str).Nodup := sc__law_names.nd
    have hu := hu_of2 hr
    exact (psd_cons (psd_set 2 nd pd_str)
    (psd_cons (psd_set 3 nd (pd_op od_add (PD.pb pd_int) (PD.pb (pd_op od_mod (pb_var 0) (PD.pb pd_int)))))
    (psd_cons (psd_set 4 nd (pd_op od_mod (PD.pb (pd_op od_fdiv (pb_var 0) (PD.pb pd_int))) (pb_var 3)))
    (psd_cons (psd_set 5 nd (PR.pd (pr_comp' (N := ["_law_x"]) (js := []) (i := 0) rfl (compOk0 rfl (by decide +kernel) (by decide +kernel) rfl) (pid_seq (PR.pd (pr_call ok__law_stream (hr.mono (by decide)) (pad_cons (pd_op od_fdiv (pb_var 0) (PD.pb pd_int)) (pad_cons pd_int pad_nil))))) (by decide) (by decide) rfl rfl (by decide) (fun _ _ _ _ => pifd_nil) (fun _ _ _ _ => (pd_op od_mod (pb_var 0) (PD.pb pd_int))))))
    (psd_cons (psd_setR 6 nd (pr_lst pad_nil))
    (psd_cons (psd_for 7 nd rfl PassesOwn.never (pid_range T.m_range (pd_var 1)) (psd_cons (psd_set 8 nd (pd_join pd_str (PD.pb (PR.pd (pr_comp' (N := ["_law_j", "_law_some", "_law_at", "_law_base", "_law_k"]) (js := [2, 4, 5, 7]) (i := 0) rfl (compOkF (sn := (defScope (top 13)).names) rfl rfl (by decide +kernel) rfl (by decide +kernel) (by decide +kernel) rfl (by intro k j x e1 e2; rcases k with _ | _ | _ | _ | k <;> first | (cases e1; cases e2; exact ⟨rfl, (by first | exact Or.inl rfl | exact Or.inr rfl), (by first | exact Or.inl rfl | exact Or.inr (Or.inl rfl) | exact Or.inr (Or.inr rfl)), (by first | exact Or.inl rfl | exact Or.inr rfl)⟩) | (simp at e1))) (pid_range T.m_range (pd_var 3)) (by decide) (by decide) rfl rfl (by decide) (fun _ _ _ _ => pifd_nil) (fun _ _ _ _ => (pd_ix (Nat.lt_of_le_of_lt (Nat.add_le_add_left (by decide) _) hu) (pb_var 1) (PD.pb (pd_op od_mod (PD.pb (pd_op od_add (PD.pb (pd_ix (Nat.lt_of_le_of_lt (Nat.add_le_add_left (by decide) _) hu) (pb_var 3) (pb_var 0))) (PD.pb (pd_op od_mul (PD.pb (pd_op od_mul (PD.pb pd_int) (pb_var 4))) (PD.pb (pd_callTy cd_int T.m_int boot_int (pab_cons (PD.pb (pd_cmp (od_eqO hu) (pb_var 0) (pb_var 2))) pab_nil))))))) (PD.pb pd_int))))))))))
    (psd_cons (psd_if (pdt_cmp od_in (pb_var 8) (PD.pb (pd_tup (pad_cons pd_str (pad_cons pd_str (pad_cons pd_str (pad_cons pd_str (pad_cons pd_str (pad_cons pd_str (pad_cons pd_str pad_nil)))))))))) (psd_cons (psd_set 8 nd (pd_op od_add (PD.pb pd_str) (pb_var 8)))
    psd_nil) psd_nil)
    (psd_cons (psd_app 6 (pd_var 8))
    psd_nil))))
    (psd_cons (psd_retV 6)
    psd_nil)))))))

theorem sc__law_constants : FnScope ["_law_cell_here", "_law_many", "_law_names_here", "_law_some", "_law_k", "_law_way", "_law_one"] ["_law_cell_here", "_law_many"] (defScope (top 14)) := ⟨rfl, rfl, rfl, by decide +kernel, rfl, by decide +kernel, by decide +kernel⟩
theorem mk__law_constants {P : Program} {w : World} {K : PySem.W.Frag} {mg : Str → Option Value} {base : Heap} (T : Txt K mg) (ok__law_names : DefOk P w K mg base 2 "_law_names" ["_law_cell_here", "_law_many"] M__law_names) : DefOk P w K mg base 3 "_law_constants" ["_law_cell_here", "_law_many"] M__law_constants :=
  def_run T.d__law_constants sc__law_constants (fun _ _ _ _ _ _ us hl => match us, hl with | [_, _], _ => rfl) fun f cdv A outer s H E hr => by
    have nd : (["_law_cell_here", "_law_many", "_law_names_here", "_law_some", "_law_k", "_law_way", "_law_one"] : List Str).Nodup := sc__law_constants.nd
    have hu := hu_of2 hr
    exact (psd_cons (psd_set 2 nd (PR.pd (pr_call ok__law_names (hr.mono (by decide)) (pad_cons (pd_op od_fdiv (pb_var 0) (PD.pb pd_int)) (pad_cons (pd_var 1) pad_nil)))))
    (psd_cons (psd_setR 3 nd (pr_lst pad_nil))
    (psd_cons (psd_for 4 nd rfl PassesOwn.never (pid_range T.m_range (pd_var 1)) (psd_cons (psd_set 5 nd (pd_op od_mod (PD.pb (pd_ix (Nat.lt_of_le_of_lt (Nat.add_le_add_left (by decide) _) hu) (PD.pb (PR.pd (pr_lst (pad_cons (pd_var 0) (pad_cons (pd_op od_fdiv (pb_var 0) (PD.pb pd_int)) (pad_cons (pd_op od_fdiv (pb_var 0) (PD.pb pd_int)) (pad_cons (pd_op od_fdiv (pb_var 0) (PD.pb pd_int)) pad_nil))))))) (PD.pb (pd_op od_mod (pb_var 4) (PD.pb pd_int))))) (PD.pb pd_int)))
    (psd_cons (psd_set 6 nd (pd_ix (Nat.lt_of_le_of_lt (Nat.add_le_add_left (by decide) _) hu) (pb_var 2) (pb_var 4)))
    (psd_cons (psd_if (pdt_cmp (od_eqO hu) (pb_var 5) (PD.pb pd_int)) (psd_cons (psd_set 6 nd (pd_op od_sub (PD.pb (pd_op od_add (pb_var 4) (PD.pb (pd_op od_mod (PD.pb (pd_op od_fdiv (pb_var 0) (PD.pb pd_int))) (PD.pb pd_int))))) (PD.pb pd_int)))
    psd_nil) psd_nil)
    (psd_cons (psd_if (pdt_cmp (od_eqO hu) (pb_var 5) (PD.pb pd_int)) (psd_cons (psd_set 6 nd (pd_op od_sub (PD.pb (pd_op od_sub (PD.pb (pd_op od_mod (PD.pb (pd_op od_fdiv (pb_var 0) (PD.pb pd_int))) (PD.pb (pd_op od_pow (PD.pb pd_int) (PD.pb pd_int))))) (PD.pb (pd_op od_mul (pb_var 4) (pb_var 4))))) (PD.pb pd_int)))
    psd_nil) psd_nil)
    (psd_cons (psd_if (pdt_cmp od_in (pb_var 6) (pb_var 3)) (psd_cons (psd_set 6 nd (pd_ix (Nat.lt_of_le_of_lt (Nat.add_le_add_left (by decide) _) hu) (pb_var 2) (pb_var 4)))
    psd_nil) psd_nil)
    (psd_cons (psd_app 3 (pd_var 6))
    psd_nil)))))))
    (psd_cons (psd_retV 3)
    psd_nil))))

theorem sc__law_variables : FnScope ["_law_cell_here", "_law_great", "_law_some", "_law_size", "_law_at", "_law_xs", "_law_names_here", "_law_k", "_law_name", "_law_j"] ["_law_cell_here"] (defScope (top 15)) := ⟨rfl, rfl, rfl, by decide +kernel, rfl, by decide +kernel, by decide +kernel⟩
theorem mk__law_variables {P : Program} {w : World} {K : PySem.W.Frag} {mg : Str → Option Value} {base : Heap} (T : Txt K mg) (ok__law_stream : DefOk P w K mg base 1 "_law_stream" ["_law_cell_here", "_law_many"] M__law_stream) : DefOk P w K mg base 2 "_law_variables" ["_law_cell_here"] M__law_variables :=
  def_run T.d__law_variables sc__law_variables (fun _ _ _ _ _ _ us hl => match us, hl with | [_], _ => rfl) fun f cdv A outer s H E hr => by
    have nd : (["_law_cell_here", "_law_great", "_law_some", "_law_size", "_law_at", "_law_xs", "_law_names_here", "_law_k", "_law_name", "_law_j"] : List Str).Nodup := sc__law_variables.nd
    have hu := hu_of2 hr
    exact (psd_cons (psd_set 1 nd pd_str)
    (psd_cons (psd_set 2 nd pd_str)
    (psd_cons (psd_set 3 nd (pd_op od_add (PD.pb pd_int) (PD.pb (pd_op od_mod (pb_var 0) (PD.pb pd_int)))))
    (psd_cons (psd_set 4 nd (pd_op od_mod (PD.pb (pd_op od_fdiv (pb_var 0) (PD.pb pd_int))) (pb_var 3)))
    (psd_cons (psd_set 5 nd (PR.pd (pr_call ok__law_stream (hr.mono (by decide)) (pad_cons (pd_op od_fdiv (pb_var 0) (PD.pb pd_int)) (pad_cons pd_int pad_nil)))))
    (psd_cons (psd_setR 6 nd (pr_lst pad_nil))
    (psd_cons (psd_for 7 nd rfl PassesOwn.never (pid_range T.m_range pd_int) (psd_cons (psd_set 8 nd (pd_ix (Nat.lt_of_le_of_lt (Nat.add_le_add_left (by decide) _) hu) (pb_var 1) (PD.pb (pd_op od_mod (PD.pb (pd_op od_add (PD.pb (pd_ix (Nat.lt_of_le_of_lt (Nat.add_le_add_left (by decide) _) hu) (pb_var 5) (PD.pb pd_int))) (PD.pb (pd_op od_mul (PD.pb (pd_op od_mul (PD.pb pd_int) (pb_var 7))) (PD.pb (pd_callTy cd_int T.m_int boot_int (pab_cons (PD.pb (pd_cmp (od_eqO hu) (pb_var 4) (PD.pb pd_int))) pab_nil))))))) (PD.pb pd_int)))))
    (psd_cons (psd_for 9 nd rfl PassesOwn.never (pid_range2 T.m_range pd_int (pd_var 3)) (psd_cons (psd_set 8 nd (pd_op od_add (pb_var 8) (PD.pb (pd_ix (Nat.lt_of_le_of_lt (Nat.add_le_add_left (by decide) _) hu) (pb_var 2) (PD.pb (pd_op od_mod (PD.pb (pd_op od_add (PD.pb (pd_ix (Nat.lt_of_le_of_lt (Nat.add_le_add_left (by decide) _) hu) (pb_var 5) (pb_var 9))) (PD.pb (pd_op od_mul (PD.pb (pd_op od_mul (PD.pb pd_int) (pb_var 7))) (PD.pb (pd_callTy cd_int T.m_int boot_int (pab_cons (PD.pb (pd_cmp (od_eqO hu) (pb_var 4) (pb_var 9))) pab_nil))))))) (PD.pb pd_int)))))))
    psd_nil))
    (psd_cons (psd_app 6 (pd_var 8))
    psd_nil))))
    (psd_cons (psd_retV 6)
    psd_nil))))))))

theorem sc__law_free : FnScope ["_law_terms"] ["_law_terms"] (defScope (top 17)) := ⟨rfl, rfl, rfl, by decide +kernel, rfl, by decide +kernel, by decide +kernel⟩
theorem mk__law_free {P : Program} {w : World} {K : PySem.W.Frag} {mg : Str → Option Value} {base : Heap} (T : Txt K mg)  : DefOk P w K mg base 1 "_law_free" ["_law_terms"] M__law_free :=
  def_run T.d__law_free sc__law_free (fun _ _ _ _ _ _ us hl => match us, hl with | [_], _ => rfl) fun f cdv A outer s H E hr => by
    have nd : (["_law_terms"] : List Str).Nodup := sc__law_free.nd
    have hu := hu_of2 hr
    exact (psd_cons (psd_ret (pr_comp' (N := ["_law_term"]) (js := []) (i := 0) rfl (compOk0 rfl (by decide +kernel) (by decide +kernel) rfl) (pid_seq (pd_var 0)) (by decide) (by decide) rfl rfl (by decide) (fun _ _ _ _ => pifd_one (PDW.pdt (pdw_and (pdt_val (pd_is "str" T.t_str T.m_isinstance T.m_str boot_str (pb_var 0))) (pdw_and1 (pdt_chain od_leD od_leD (PD.pb pd_str) (PD.pb (pd_ix (Nat.lt_of_le_of_lt (Nat.add_le_add_left (by decide) _) hu) (pb_var 0) (PD.pb pd_int))) (PD.pb pd_str)))))) (fun _ _ _ _ => (pd_var 0))))
    psd_nil)

theorem sc__law_due : FnScope ["_law_terms", "_law_places_here", "_law_binding", "_law_due_here", "_law_k", "_law_same"] ["_law_terms", "_law_places_here", "_law_binding"] (defScope (top 16)) := ⟨rfl, rfl, rfl, by decide +kernel, rfl, by decide +kernel, by decide +kernel⟩
theorem mk__law_due {P : Program} {w : World} {K : PySem.W.Frag} {mg : Str → Option Value} {base : Heap} (T : Txt K mg) (ok__law_free : DefOk P w K mg base 1 "_law_free" ["_law_terms"] M__law_free) : DefOk P w K mg base 2 "_law_due" ["_law_terms", "_law_places_here", "_law_binding"] M__law_due :=
  def_run T.d__law_due sc__law_due (fun _ _ _ _ _ _ us hl => match us, hl with | [_, _, _], _ => rfl) fun f cdv A outer s H E hr => by
    have nd : (["_law_terms", "_law_places_here", "_law_binding", "_law_due_here", "_law_k", "_law_same"] : List Str).Nodup := sc__law_due.nd
    have hu := hu_of2 hr
    exact (psd_cons (psd_if (pdt_cmp (od_neO hu) (PD.pb (pd_callB cd_len T.m_len boot_len (pab_cons (pb_var 0) pab_nil))) (PD.pb (pd_callB cd_len T.m_len boot_len (pab_cons (pb_var 1) pab_nil)))) (psd_cons (psd_ret (PD.pr pd_non))
    psd_nil) psd_nil)
    (psd_cons (psd_setR 3 nd (pr_callTy cn_dict T.m_dict boot_dict (pab_cons (pb_var 2) pab_nil)))
    (psd_cons (psd_for 4 nd rfl PassesOwn.never (pid_range T.m_range (pd_callB cd_len T.m_len boot_len (pab_cons (pb_var 0) pab_nil))) (psd_cons (psd_if (pdt_cmp od_in (PD.pb (pd_ix (Nat.lt_of_le_of_lt (Nat.add_le_add_left (by decide) _) hu) (pb_var 0) (pb_var 4))) (PD.pb (PR.pd (pr_call ok__law_free (hr.mono (by decide)) (pad_cons (pd_var 0) pad_nil))))) (psd_cons (psd_setC 5 (N := ["_law_j", "_law_terms", "_law_places_here", "_law_k"]) (js := [0, 1, 4]) (i := 0) nd rfl (compOkF (sn := (defScope (top 16)).names) rfl rfl (by decide +kernel) rfl (by decide +kernel) (by decide +kernel) rfl (by intro k j x e1 e2; rcases k with _ | _ | _ | k <;> first | (cases e1; cases e2; exact ⟨rfl, (by first | exact Or.inl rfl | exact Or.inr rfl), (by first | exact Or.inl rfl | exact Or.inr (Or.inl rfl) | exact Or.inr (Or.inr rfl)), (by first | exact Or.inl rfl | exact Or.inr rfl)⟩) | (simp at e1))) (pid_range T.m_range (pd_callB cd_len T.m_len boot_len (pab_cons (pb_var 0) pab_nil))) (by decide) (by decide) rfl rfl (by decide) (fun _ _ _ _ => pifd_one (pdt_cmp (od_eqO hu) (PD.pb (pd_ix (Nat.lt_of_le_of_lt (Nat.add_le_add_left (by decide) _) hu) (pb_var 1) (pb_var 0))) (PD.pb (pd_ix (Nat.lt_of_le_of_lt (Nat.add_le_add_left (by decide) _) hu) (pb_var 1) (pb_var 3))))) (fun _ _ _ _ => (pd_ix (Nat.lt_of_le_of_lt (Nat.add_le_add_left (by decide) _) hu) (pb_var 2) (pb_var 0))))
    (psd_cons (psd_if (PDW.pdt (pdw_or (pdt_cmp (od_neO hu) (PD.pb (PR.pd (pr_comp' (N := ["_law_one", "_law_places_here", "_law_k"]) (js := [1, 4]) (i := 0) rfl (compOkF (sn := (defScope (top 16)).names) rfl rfl (by decide +kernel) rfl (by decide +kernel) (by decide +kernel) rfl (by intro k j x e1 e2; rcases k with _ | _ | k <;> first | (cases e1; cases e2; exact ⟨rfl, (by first | exact Or.inl rfl | exact Or.inr rfl), (by first | exact Or.inl rfl | exact Or.inr (Or.inl rfl) | exact Or.inr (Or.inr rfl)), (by first | exact Or.inl rfl | exact Or.inr rfl)⟩) | (simp at e1))) (pid_seq (pd_var 5)) (by decide) (by decide) rfl rfl (by decide) (fun _ _ _ _ => pifd_one (pdt_cmp (od_neO hu) (pb_var 0) (PD.pb (pd_ix (Nat.lt_of_le_of_lt (Nat.add_le_add_left (by decide) _) hu) (pb_var 1) (pb_var 2))))) (fun _ _ _ _ => (pd_var 0))))) (PD.pb (PR.pd (pr_lst pad_nil)))) (pdw_or1 (pdt_cmp (od_neO hu) (PD.pb (pd_get2 (Nat.lt_of_le_of_lt (Nat.add_le_add_left (by decide) _) hu) (pb_var 2) (PD.pb (pd_ix (Nat.lt_of_le_of_lt (Nat.add_le_add_left (by decide) _) hu) (pb_var 0) (pb_var 4))) (pd_ix (Nat.lt_of_le_of_lt (Nat.add_le_add_left (by decide) _) hu) (pb_var 1) (pb_var 4)))) (PD.pb (pd_ix (Nat.lt_of_le_of_lt (Nat.add_le_add_left (by decide) _) hu) (pb_var 1) (pb_var 4))))))) (psd_cons (psd_ret (PD.pr pd_non))
    psd_nil) psd_nil)
    (psd_cons (psd_dput 3 (Nat.lt_of_le_of_lt (Nat.add_le_add_left (by decide) _) hu) (pd_ix (Nat.lt_of_le_of_lt (Nat.add_le_add_left (by decide) _) hu) (pb_var 0) (pb_var 4)) (pd_ix (Nat.lt_of_le_of_lt (Nat.add_le_add_left (by decide) _) hu) (pb_var 1) (pb_var 4)))
    psd_nil))) (psd_cons (psd_if (pdt_cmp (od_neO hu) (PD.pb (pd_ix (Nat.lt_of_le_of_lt (Nat.add_le_add_left (by decide) _) hu) (pb_var 0) (pb_var 4))) (PD.pb (pd_ix (Nat.lt_of_le_of_lt (Nat.add_le_add_left (by decide) _) hu) (pb_var 1) (pb_var 4)))) (psd_cons (psd_ret (PD.pr pd_non))
    psd_nil) psd_nil)
    psd_nil))
    psd_nil))
    (psd_cons (psd_retV 3)
    psd_nil))))

theorem sc__law_places : FnScope ["_law_xs", "_law_terms", "_law_constants_here", "_law_variables_here", "_law_drawn", "_law_places_here", "_law_own", "_law_k"] ["_law_xs", "_law_terms", "_law_constants_here", "_law_variables_here"] (defScope (top 18)) := ⟨rfl, rfl, rfl, by decide +kernel, rfl, by decide +kernel, by decide +kernel⟩
theorem mk__law_places {P : Program} {w : World} {K : PySem.W.Frag} {mg : Str → Option Value} {base : Heap} (T : Txt K mg)  : DefOk P w K mg base 1 "_law_places" ["_law_xs", "_law_terms", "_law_constants_here", "_law_variables_here"] M__law_places :=
  def_run T.d__law_places sc__law_places (fun _ _ _ _ _ _ us hl => match us, hl with | [_, _, _, _], _ => rfl) fun f cdv A outer s H E hr => by
    have nd : (["_law_xs", "_law_terms", "_law_constants_here", "_law_variables_here", "_law_drawn", "_law_places_here", "_law_own", "_law_k"] : List Str).Nodup := sc__law_places.nd
    have hu := hu_of2 hr
    exact (psd_cons (psd_setC 4 (N := ["_law_x", "_law_constants_here"]) (js := [2]) (i := 0) nd rfl (compOkF (sn := (defScope (top 18)).names) rfl rfl (by decide +kernel) rfl (by decide +kernel) (by decide +kernel) rfl (by intro k j x e1 e2; rcases k with _ | k <;> first | (cases e1; cases e2; exact ⟨rfl, (by first | exact Or.inl rfl | exact Or.inr rfl), (by first | exact Or.inl rfl | exact Or.inr (Or.inl rfl) | exact Or.inr (Or.inr rfl)), (by first | exact Or.inl rfl | exact Or.inr rfl)⟩) | (simp at e1))) (pid_seq (pd_var 0)) (by decide) (by decide) rfl rfl (by decide) (fun _ _ _ _ => pifd_nil) (fun _ _ _ _ => (pd_ix (Nat.lt_of_le_of_lt (Nat.add_le_add_left (by decide) _) hu) (pb_var 1) (PD.pb (pd_op od_mod (pb_var 0) (PD.pb (pd_callB cd_len T.m_len boot_len (pab_cons (pb_var 1) pab_nil))))))))
    (psd_cons (psd_set 5 nd (pd_callTy cd_tuple T.m_tuple boot_tuple (pab_cons (PD.pb (PR.pd (pr_slA (pb_var 4) pod_none (pod_some (pd_callB cd_len T.m_len boot_len (pab_cons (pb_var 1) pab_nil)))))) pab_nil)))
    (psd_cons (psd_if (pdt_cmp (od_eqO hu) (PD.pb (pd_op od_mod (PD.pb (pd_ix (Nat.lt_of_le_of_lt (Nat.add_le_add_left (by decide) _) hu) (pb_var 0) (PD.pb pd_int))) (PD.pb pd_int))) (PD.pb pd_int)) (psd_cons (psd_setR 6 nd pr_dnew)
    (psd_cons (psd_for 7 nd rfl PassesOwn.never (pid_range T.m_range pd_int) (psd_cons (psd_dput 6 (Nat.lt_of_le_of_lt (Nat.add_le_add_left (by decide) _) hu) (pd_ix (Nat.lt_of_le_of_lt (Nat.add_le_add_left (by decide) _) hu) (pb_var 3) (pb_var 7)) (pd_ix (Nat.lt_of_le_of_lt (Nat.add_le_add_left (by decide) _) hu) (pb_var 4) (pb_var 7)))
    psd_nil))
    (psd_cons (psd_set 5 nd (pd_callTy cd_tuple T.m_tuple boot_tuple (pab_cons (PD.pb (PR.pd (pr_comp' (N := ["_law_term", "_law_own"]) (js := [6]) (i := 0) rfl (compOkF (sn := (defScope (top 18)).names) rfl rfl (by decide +kernel) rfl (by decide +kernel) (by decide +kernel) rfl (by intro k j x e1 e2; rcases k with _ | k <;> first | (cases e1; cases e2; exact ⟨rfl, (by first | exact Or.inl rfl | exact Or.inr rfl), (by first | exact Or.inl rfl | exact Or.inr (Or.inl rfl) | exact Or.inr (Or.inr rfl)), (by first | exact Or.inl rfl | exact Or.inr rfl)⟩) | (simp at e1))) (pid_seq (pd_var 1)) (by decide) (by decide) rfl rfl (by decide) (fun _ _ _ _ => pifd_nil) (fun _ _ _ _ => (pd_get2 (Nat.lt_of_le_of_lt (Nat.add_le_add_left (by decide) _) hu) (pb_var 1) (pb_var 0) (pd_var 0)))))) pab_nil)))
    psd_nil))) psd_nil)
    (psd_cons (psd_if (pdt_cmp (od_eqO hu) (PD.pb (pd_op od_mod (PD.pb (pd_ix (Nat.lt_of_le_of_lt (Nat.add_le_add_left (by decide) _) hu) (pb_var 0) (PD.pb pd_int))) (PD.pb pd_int))) (PD.pb pd_int)) (psd_cons (psd_set 5 nd (PR.pd (pr_slA (PD.pb (pd_op od_add (pb_var 5) (PD.pb (pd_tup (pad_cons (pd_ix (Nat.lt_of_le_of_lt (Nat.add_le_add_left (by decide) _) hu) (pb_var 4) (PD.pb pd_int)) pad_nil))))) pod_none (pod_some pd_int))))
    psd_nil) psd_nil)
    (psd_cons (psd_if (pdt_cmp (od_eqO hu) (PD.pb (pd_op od_mod (PD.pb (pd_ix (Nat.lt_of_le_of_lt (Nat.add_le_add_left (by decide) _) hu) (pb_var 0) (PD.pb pd_int))) (PD.pb pd_int))) (PD.pb pd_int)) (psd_cons (psd_set 5 nd (PR.pd (pr_slA (pb_var 5) pod_none (pod_some (pd_neg pd_int)))))
    psd_nil) psd_nil)
    (psd_cons (psd_retV 5)
    psd_nil))))))

theorem sc__law_right : FnScope ["_law_terms", "_law_places_here", "_law_binding", "_law_handed", "_law_told", "_law_due_here", "_law_again"] ["_law_terms", "_law_places_here", "_law_binding"] (defScope (top 19)) := ⟨rfl, rfl, rfl, by decide +kernel, rfl, by decide +kernel, by decide +kernel⟩
theorem mk__law_right {P : Program} {w : World} {K : PySem.W.Frag} {mg : Str → Option Value} {base : Heap} (T : Txt K mg) (ok__law_due : DefOk P w K mg base 2 "_law_due" ["_law_terms", "_law_places_here", "_law_binding"] M__law_due) (ok_met_by : DefOk P w K mg base 3 "met_by" ["terms", "places", "binding"] M_met_by) (ok_replaced_by : DefOk P w K mg base 1 "replaced_by" ["terms", "binding"] M_replaced_by) : DefOk P w K mg base 4 "_law_right" ["_law_terms", "_law_places_here", "_law_binding"] M__law_right :=
  def_run T.d__law_right sc__law_right (fun _ _ _ _ _ _ us hl => match us, hl with | [_, _, _], _ => rfl) fun f cdv A outer s H E hr => by
    have nd : (["_law_terms", "_law_places_here", "_law_binding", "_law_handed", "_law_told", "_law_due_here", "_law_again"] : List Str).Nodup := sc__law_right.nd
    have hu := hu_of2 hr
    exact (psd_cons (psd_set 3 nd (PR.pd (pr_callTy cn_dict T.m_dict boot_dict (pab_cons (pb_var 2) pab_nil))))
    (psd_cons (psd_setR 4 nd (pr_call ok_met_by (hr.mono (by decide)) (pad_cons (pd_var 0) (pad_cons (pd_var 1) (pad_cons (pd_var 3) pad_nil)))))
    (psd_cons (psd_set 5 nd (PR.pd (pr_call ok__law_due (hr.mono (by decide)) (pad_cons (pd_var 0) (pad_cons (pd_var 1) (pad_cons (pd_var 2) pad_nil))))))
    (psd_cons (psd_if (PDW.pdt (pdw_or (pdt_cmp (od_neO hu) (pb_var 3) (pb_var 2)) (pdw_or1 (pdt_cmp od_isA (pb_var 5) (PD.pb pd_non))))) (psd_cons (psd_ret (PD.pr (pd_and (pd_cmp od_isA (pb_var 4) (PD.pb pd_non)) (pd_one (pd_cmp od_isA (pb_var 5) (PD.pb pd_non))))))
    psd_nil) psd_nil)
    (psd_cons (psd_if (PDW.pdt (pdw_or (pdt_not (pdt_val (pd_is "dict" T.t_dict T.m_isinstance T.m_dict boot_dict (pb_var 4)))) (pdw_or1 (pdt_cmp (od_neO hu) (pb_var 4) (pb_var 5))))) (psd_cons (psd_ret (PD.pr pd_bl))
    psd_nil) psd_nil)
    (psd_cons (psd_set 6 nd (PR.pd (pr_callG ok_replaced_by (hr.mono (by decide)) (pab_cons (pb_var 0) (pab_cons (pb_var 4) pab_nil)))))
    (psd_cons (psd_if (PDW.pdt (pdw_or (pdt_not (pdt_val (pd_is "tuple" T.t_tuple T.m_isinstance T.m_tuple boot_tuple (pb_var 6)))) (pdw_or1 (pdt_cmp (od_neO hu) (pb_var 6) (pb_var 1))))) (psd_cons (psd_ret (PD.pr pd_bl))
    psd_nil) psd_nil)
    (psd_cons (psd_dput 4 (Nat.lt_of_le_of_lt (Nat.add_le_add_left (by decide) _) hu) pd_str pd_int)
    (psd_cons (psd_ret (PD.pr (pd_and (pd_cmp (od_eqO hu) (pb_var 3) (pb_var 2)) (pd_one (pd_cmp (od_eqO hu) (PD.pb (PR.pd (pr_call ok_met_by (hr.mono (by decide)) (pad_cons (pd_var 0) (pad_cons (pd_var 1) (pad_cons (pd_var 3) pad_nil)))))) (pb_var 5))))))
    psd_nil)))))))))

theorem sc_law : FnScope ["_law_script", "_law_constants_here", "_law_variables_here", "_law_k", "_law_xs", "_law_terms", "_law_places_here", "_law_binding", "_law_j", "_law_at"] ["_law_script"] (defScope (top 20)) := ⟨rfl, rfl, rfl, by decide +kernel, rfl, by decide +kernel, by decide +kernel⟩
theorem mk_law {P : Program} {w : World} {K : PySem.W.Frag} {mg : Str → Option Value} {base : Heap} (T : Txt K mg) {f : Addr} {fd : FuncData} (F : Fun K "law" "law" (top 20) f fd) (ok__law_cell : DefOk P w K mg base 1 "_law_cell" ["_law_script", "_law_k"] M__law_cell) (ok__law_constants : DefOk P w K mg base 3 "_law_constants" ["_law_cell_here", "_law_many"] M__law_constants) (ok__law_places : DefOk P w K mg base 1 "_law_places" ["_law_xs", "_law_terms", "_law_constants_here", "_law_variables_here"] M__law_places) (ok__law_right : DefOk P w K mg base 4 "_law_right" ["_law_terms", "_law_places_here", "_law_binding"] M__law_right) (ok__law_stream : DefOk P w K mg base 1 "_law_stream" ["_law_cell_here", "_law_many"] M__law_stream) (ok__law_variables : DefOk P w K mg base 2 "_law_variables" ["_law_cell_here"] M__law_variables) : FnOk P w K mg base CX0 5 f fd ["_law_script"] (spD K M_law) :=
  def_runF F sc_law fun f cdv A outer s H E hr => by
    have nd : (["_law_script", "_law_constants_here", "_law_variables_here", "_law_k", "_law_xs", "_law_terms", "_law_places_here", "_law_binding", "_law_j", "_law_at"] : List Str).Nodup := sc_law.nd
    have hu := hu_of2 hr
    exact (psd_cons (psd_set 1 nd (PR.pd (pr_call ok__law_constants (hr.mono (by decide)) (pad_cons (PR.pd (pr_call ok__law_cell (hr.mono (by decide)) (pad_cons (pd_var 0) (pad_cons pd_int pad_nil)))) (pad_cons (pd_op od_add (PD.pb pd_int) (PD.pb (pd_op od_mod (PD.pb (PR.pd (pr_call ok__law_cell (hr.mono (by decide)) (pad_cons (pd_var 0) (pad_cons pd_int pad_nil))))) (PD.pb pd_int)))) pad_nil)))))
    (psd_cons (psd_set 2 nd (PR.pd (pr_call ok__law_variables (hr.mono (by decide)) (pad_cons (PR.pd (pr_call ok__law_cell (hr.mono (by decide)) (pad_cons (pd_var 0) (pad_cons pd_int pad_nil)))) pad_nil))))
    (psd_cons (psd_for 3 nd rfl PassesOwn.never (pid_range2 T.m_range pd_int (pd_callB (cd_max rfl) T.m_max boot_max (pab_cons (PD.pb pd_int) (pab_cons (PD.pb (pd_callB (cd_min rfl) T.m_min boot_min (pab_cons (PD.pb pd_int) (pab_cons (PD.pb (pd_callB cd_len T.m_len boot_len (pab_cons (pb_var 0) pab_nil))) pab_nil)))) pab_nil)))) (psd_cons (psd_set 4 nd (PR.pd (pr_call ok__law_stream (hr.mono (by decide)) (pad_cons (PR.pd (pr_call ok__law_cell (hr.mono (by decide)) (pad_cons (pd_var 0) (pad_cons (pd_var 3) pad_nil)))) (pad_cons pd_int pad_nil)))))
    (psd_cons (psd_set 5 nd (pd_callTy cd_tuple T.m_tuple boot_tuple (pab_cons (PD.pb (PR.pd (pr_comp' (N := ["_law_x", "_law_constants_here", "_law_variables_here"]) (js := [1, 2]) (i := 0) rfl (compOkF (sn := (defScope (top 20)).names) rfl rfl (by decide +kernel) rfl (by decide +kernel) (by decide +kernel) rfl (by intro k j x e1 e2; rcases k with _ | _ | k <;> first | (cases e1; cases e2; exact ⟨rfl, (by first | exact Or.inl rfl | exact Or.inr rfl), (by first | exact Or.inl rfl | exact Or.inr (Or.inl rfl) | exact Or.inr (Or.inr rfl)), (by first | exact Or.inl rfl | exact Or.inr rfl)⟩) | (simp at e1))) (pid_seq (PR.pd (pr_slA (pb_var 4) (pod_some pd_int) (pod_some (pd_op od_add (PD.pb pd_int) (PD.pb (pd_op od_mod (PD.pb (pd_ix (Nat.lt_of_le_of_lt (Nat.add_le_add_left (by decide) _) hu) (pb_var 4) (PD.pb pd_int))) (PD.pb pd_int)))))))) (by decide) (by decide) rfl rfl (by decide) (fun _ _ _ _ => pifd_nil) (fun _ _ _ _ => (pd_ix (Nat.lt_of_le_of_lt (Nat.add_le_add_left (by decide) _) hu) (PD.pb (pd_op od_add (pb_var 2) (pb_var 1))) (PD.pb (pd_op od_mod (pb_var 0) (PD.pb (pd_op od_add (PD.pb pd_int) (PD.pb (pd_callB cd_len T.m_len boot_len (pab_cons (pb_var 1) pab_nil)))))))))))) pab_nil)))
    (psd_cons (psd_set 6 nd (PR.pd (pr_call ok__law_places (hr.mono (by decide)) (pad_cons (pd_var 4) (pad_cons (pd_var 5) (pad_cons (pd_var 1) (pad_cons (pd_var 2) pad_nil)))))))
    (psd_cons (psd_setR 7 nd pr_dnew)
    (psd_cons (psd_for 8 nd rfl PassesOwn.never (pid_range T.m_range pd_int) (psd_cons (psd_if (pdt_cmp (od_eqO hu) (PD.pb (pd_op od_mod (PD.pb (pd_op od_fdiv (PD.pb (pd_ix (Nat.lt_of_le_of_lt (Nat.add_le_add_left (by decide) _) hu) (pb_var 4) (PD.pb pd_int))) (PD.pb (pd_op od_add (pb_var 8) (PD.pb pd_int))))) (PD.pb pd_int))) (PD.pb pd_int)) (psd_cons (psd_set 9 nd (pd_op od_mod (PD.pb (pd_op od_fdiv (PD.pb (pd_ix (Nat.lt_of_le_of_lt (Nat.add_le_add_left (by decide) _) hu) (pb_var 4) (PD.pb pd_int))) (PD.pb (pd_op od_add (pb_var 8) (PD.pb pd_int))))) (PD.pb (pd_callB cd_len T.m_len boot_len (pab_cons (pb_var 1) pab_nil)))))
    (psd_cons (psd_dput 7 (Nat.lt_of_le_of_lt (Nat.add_le_add_left (by decide) _) hu) (pd_ix (Nat.lt_of_le_of_lt (Nat.add_le_add_left (by decide) _) hu) (pb_var 2) (pb_var 8)) (pd_ix (Nat.lt_of_le_of_lt (Nat.add_le_add_left (by decide) _) hu) (pb_var 1) (pb_var 9)))
    psd_nil)) psd_nil)
    psd_nil))
    (psd_cons (psd_pub 7 (psd_if (PDW.pdt (pdw_or (pdt_not (pdt_val (PR.pd (pr_call ok__law_right (hr.mono (by decide)) (pad_cons (pd_var 5) (pad_cons (pd_var 6) (pad_cons (pd_var 7) pad_nil))))))) (pdw_or1 (pdt_not (pdt_val (PR.pd (pr_call ok__law_right (hr.mono (by decide)) (pad_cons (pd_var 5) (pad_cons (pd_var 6) (pad_cons (PR.pd pr_dnew) pad_nil)))))))))) (psd_cons (psd_ret (PD.pr pd_bl))
    psd_nil) psd_nil))
    psd_nil)))))))
    (psd_cons (psd_ret (PD.pr pd_bl))
    psd_nil))))

end K11

-- part K11m
set_option Elab.async false
set_option linter.all false
set_option maxRecDepth 100000
set_option maxHeartbeats 4000000
namespace K11
open PySem PySem.Spec PyProof.Rows L2
theorem sl_big {n : Nat} (h : n ≤ 1000) : n ≤ sizeLine := by rw [sizeLine_eq]; omega
theorem sl_lt {n : Nat} (h : n ≤ 1000) : n < sizeLine := by rw [sizeLine_eq]; omega
/-! signs -/
def smallC (c : Nat) : Bool := decide (97 ≤ c) && decide (c ≤ 122)
def bigC (c : Nat) : Bool := decide (65 ≤ c) && decide (c ≤ 90)
def figC (c : Nat) : Bool := decide (48 ≤ c) && decide (c ≤ 57)
theorem one_lt (a b : Nat) : decide ([a] < [b]) = decide (a < b) := by
  by_cases h : a < b
  · rw [decide_eq_true h, decide_eq_true]
    exact List.Lex.rel h
  · rw [decide_eq_false h, decide_eq_false]
    intro z
    cases z with
    | rel q => exact h q
    | cons q => cases q
theorem leC (a : Str) (x c : Nat) (ha : a.cps.toList = [x]) : leD (.str a) (.str ⟨#[c]⟩) = some (.bl (decide (x ≤ c))) := by
  show some (D.bl (!decide ((⟨#[c]⟩ : Str).cps.toList < a.cps.toList))) = _
  rw [ha]
  show some (D.bl (!decide ([c] < [x]))) = _
  rw [one_lt]
  by_cases h : c < x
  · simp [h, Nat.not_le.mpr h]
  · simp [h, Nat.not_lt.mp h]
theorem leC' (a : Str) (x c : Nat) (ha : a.cps.toList = [x]) : leD (.str ⟨#[c]⟩) (.str a) = some (.bl (decide (c ≤ x))) := by
  show some (D.bl (!decide (a.cps.toList < (⟨#[c]⟩ : Str).cps.toList))) = _
  rw [ha]
  show some (D.bl (!decide ([x] < [c]))) = _
  rw [one_lt]
  by_cases h : x < c
  · simp [h, Nat.not_le.mpr h]
  · simp [h, Nat.not_lt.mp h]
theorem chain_c (a b : Str) (x y c : Nat) (ha : a.cps.toList = [x]) (hb : b.cps.toList = [y]) (δ : En) (f : FE) (hf : f δ = some (.str ⟨#[c]⟩)) :
    f3 leD leD (fC (.str a)) f (fC (.str b)) δ = some (.bl (decide (x ≤ c) && decide (c ≤ y))) := by
  simp only [f3, fC, hf, Option.bind_some, leC a x c ha]
  cases decide (x ≤ c) with
  | false => rfl
  | true => simp only [leC' b y c hb, Bool.true_and]
theorem e_small (c : Nat) : M_is_small [.str ⟨#[c]⟩] = some (.sh (.bl (smallC c))) := ev_run rfl (ev_seqR (ev_ret (ev_sh (chain_c _ _ 97 122 c (by decide +kernel) (by decide +kernel) _ _ rfl))))
theorem e_big (c : Nat) : M_is_big [.str ⟨#[c]⟩] = some (.sh (.bl (bigC c))) := ev_run rfl (ev_seqR (ev_ret (ev_sh (chain_c _ _ 65 90 c (by decide +kernel) (by decide +kernel) _ _ rfl))))
theorem e_fig (c : Nat) : M_is_figure [.str ⟨#[c]⟩] = some (.sh (.bl (figC c))) := ev_run rfl (ev_seqR (ev_ret (ev_sh (chain_c _ _ 48 57 c (by decide +kernel) (by decide +kernel) _ _ rfl))))
/-! texts -/
def okL : D → Prop
  | .str z => z.length ≤ 100
  | _ => True
def shortB (z : Str) : Bool := decide ((1 : Int) ≤ z.length) && decide ((z.length : Int) ≤ 8)
theorem len_str {z : Str} (h : z.length ≤ 100) : lenD [.str z] = some (.int z.length) := by
  show (if z.length ≤ sizeLine then some (D.int z.length) else none) = _
  rw [if_pos (sl_big (by omega))]
def shB : D → Bool | .str z => shortB z | _ => false
theorem e_short {d : D} (h : okL d) : M_is_short_text [d] = some (.sh (.bl (shB d))) := by
  cases d with
  | str z =>
    refine Op.eq ?_
    unfold M_is_short_text fb_is_short_text
    walk_at "wrun"
    walk_at "wp"
    refine op_of (len_str h) ?_
    walk_at "wp"
    rw [show shB (.str z) = shortB z from rfl]
    unfold shortB
    by_cases h1 : (1 : Int) ≤ z.length
    · rw [decide_eq_true h1]
      walk_at "wp"
      exact op_of rfl rfl
    · rw [decide_eq_false h1]
      walk_at "wp"
      rfl
  | _ => rfl
theorem bools_map' {α : Type} (p : α → Bool) : ∀ (xs : List α), bools (xs.map fun x => D.bl (p x)) = some (xs.map p) := bools_map p
theorem all_map {α : Type} (p : α → Bool) (xs : List α) : allD [.lst (xs.map fun x => .bl (p x))] = some (.bl (xs.all p)) := by
  show (bools (xs.map fun x => D.bl (p x))).map (fun bs => D.bl (bs.all id)) = _
  rw [bools_map, Option.map_some, List.all_map]
  rfl
def headB (z : Str) : Bool := match z.cps.toList with | [] => false | c :: _ => bigC c
def varB : D → Bool
  | .str z => shortB z && headB z && z.cps.toList.all fun c => smallC c || (bigC c || figC c)
  | _ => false
theorem short_pos {z : Str} (h : shortB z = true) : ∃ c cs, z.cps.toList = c :: cs := by
  cases e : z.cps.toList with
  | nil =>
    have : z.length = 0 := by
      have h1 : z.cps.toList.length = 0 := by rw [e]; rfl
      rw [Array.length_toList] at h1
      exact h1
    unfold shortB at h
    rw [this] at h
    exact absurd h (by decide)
  | cons c cs => exact ⟨c, cs, rfl⟩
theorem ix_zero {z : Str} {c : Nat} {cs : List Nat} (h : z.length ≤ 100) (e : z.cps.toList = c :: cs) : ixA (.str z) (.int 0) = some (.str ⟨#[c]⟩) := by
  show (if z.length ≤ sizeLine then (atI z.cps.toList 0).map (fun c => D.str ⟨#[c]⟩) else none) = _
  rw [if_pos (sl_big (by omega)), e]
  have : atI (c :: cs) ((0 : Nat) : Int) = some c := atI_nat rfl
  have : atI (c :: cs) 0 = some c := this
  rw [this]
  rfl
theorem varB_eq (z : Str) : varB (.str z) = (shortB z && headB z && z.cps.toList.all fun c => smallC c || (bigC c || figC c)) := rfl
theorem e_var {d : D} (h : okL d) : M_is_variable [d] = some (.sh (.bl (varB d))) := by
  cases d with
  | str z =>
    have hz : z.length ≤ 100 := h
    refine Op.eq ?_
    unfold M_is_variable fb_is_variable
    walk_at "wrun"
    walk_at "wp"
    refine op_of (e_short h) ?_
    walk_at "wp"
    rw [varB_eq, show shB (.str z) = shortB z from rfl]
    cases hs : shortB z with
    | false => walk_at "wp"; rfl
    | true =>
      walk_at "wp"
      obtain ⟨c, cs, ec⟩ := short_pos hs
      refine op_of (ix_zero hz ec) ?_
      walk_at "wp"
      refine op_of (e_big c) ?_
      walk_at "wp"
      have : headB z = bigC c := by unfold headB; rw [ec]
      rw [this]
      cases bigC c with
      | false => walk_at "wp"; rfl
      | true =>
        walk_at "wp"
        refine ⟨?_, ?_⟩
        · unfold L2.signs
          rw [List.length_map, Array.length_toList]
          exact sl_big (by have : z.cps.size = z.length := rfl; omega)
        · unfold L2.signs
          refine op_compY (hh := fun c => .bl (smallC c || (bigC c || figC c))) (fun c _ => ?_) ?_
          · walk_at "wp"
            refine op_of (e_small c) ?_
            walk_at "wp"
            cases smallC c with
            | true => walk_at "wp"; rfl
            | false =>
              walk_at "wp"
              refine op_of (e_big c) ?_
              walk_at "wp"
              cases bigC c with
              | true => walk_at "wp"; rfl
              | false =>
                walk_at "wp"
                refine op_of (e_fig c) ?_
                walk_at "wp"
                rfl
          · walk_at "wp"
            refine op_of (all_map _ _) ?_
            walk_at "wp"
            rfl
  | _ => rfl

/-! atoms -/
def atomB : D → Bool | .int _ => true | .str z => decide (1 ≤ z.length) && decide (z.length ≤ 100) | _ => false
abbrev Atom (d : D) : Prop := atomB d = true
def vB : D → Bool | .str z => headB z | _ => false
def Gd (d : D) : Prop := Atom d ∧ varB d = vB d
theorem Atom.okL {d : D} (h : Atom d) : okL d := by
  cases d with
  | str z =>
    have h : (decide (1 ≤ z.length) && decide (z.length ≤ 100)) = true := h
    rw [Bool.and_eq_true, decide_eq_true_iff, decide_eq_true_iff] at h
    exact h.2
  | _ => trivial
theorem Atom.one {z : Str} (h : Atom (.str z)) : 1 ≤ z.length := by
  have h : (decide (1 ≤ z.length) && decide (z.length ≤ 100)) = true := h
  rw [Bool.and_eq_true, decide_eq_true_iff, decide_eq_true_iff] at h
  exact h.1
theorem Atom.flat {d : D} (h : Atom d) : flatD d = true := by cases d <;> first | exact absurd h Bool.false_ne_true | rfl
theorem Atom.plain {n : Nat} {d : D} (h : Atom d) : plainN n d = true := by cases d <;> cases n <;> first | exact absurd h Bool.false_ne_true | rfl
theorem Atom.noMut {d : D} (h : Atom d) : noMut d = true := by cases d <;> first | exact absurd h Bool.false_ne_true | rfl | simp [L2.noMut]
theorem all_plain {xs : List D} (h : ∀ x ∈ xs, Atom x) : xs.all (plainN 8) = true := List.all_eq_true.mpr fun x hx => (h x hx).plain
theorem all_flat {xs : List D} (h : ∀ x ∈ xs, Atom x) : xs.all flatD = true := List.all_eq_true.mpr fun x hx => (h x hx).flat
theorem noMutL_of : ∀ {xs : List D}, (∀ x ∈ xs, Atom x) → noMutL xs = true
  | [], _ => by simp [noMutL]
  | x :: xs, h => by
    simp only [noMutL, Bool.and_eq_true]
    exact ⟨(h x List.mem_cons_self).noMut, noMutL_of fun y hy => h y (List.mem_cons_of_mem _ hy)⟩
theorem toV_inj {x y : D} (hx : Atom x) (hy : Atom y) : toV x = toV y ↔ x = y := by
  refine ⟨fun e => ?_, fun e => e ▸ rfl⟩
  cases x <;> first | exact absurd hx Bool.false_ne_true | (cases y <;> first | exact absurd hy Bool.false_ne_true | first | (simp only [toV] at e; cases e; rfl) | (simp only [toV, reduceCtorEq] at e))
theorem scal_atom {x y : D} (hx : Atom x) (hy : Atom y) : scalV x = some (toV x) ∧ scalV y = some (toV y) ∧ scal (toV x) (toV y) = true := by
  cases x <;> first | exact absurd hx Bool.false_ne_true | (cases y <;> first | exact absurd hy Bool.false_ne_true | exact ⟨rfl, rfl, rfl⟩)
theorem eqV_atom {x y : D} (hx : Atom x) (hy : Atom y) : eqV (toV x) (toV y) = true ↔ x = y := by
  cases x <;> first | exact absurd hx Bool.false_ne_true | (cases y <;> first | exact absurd hy Bool.false_ne_true | simp [toV, eqV])
theorem eqA_atom {x y : D} (hx : Atom x) (hy : Atom y) : eqA x y = true ↔ x = y := by
  rw [eqA_flat hx.flat hy.flat]; exact eqV_atom hx hy
theorem eqAs_self : ∀ {xs : List D}, (∀ x ∈ xs, Atom x) → eqAs xs xs = true
  | [], _ => by simp [eqAs]
  | x :: xs, h => by
    simp only [eqAs, Bool.and_eq_true]
    exact ⟨(eqA_atom (h x List.mem_cons_self) (h x List.mem_cons_self)).mpr rfl, eqAs_self fun y hy => h y (List.mem_cons_of_mem _ hy)⟩
theorem o_eqA {x y : D} {R : D → Prop} (hx : Atom x) (hy : Atom y) (k : ∀ b : Bool, (b = true ↔ x = y) → R (.bl b)) : Op (eqO false x y) R := by
  obtain ⟨h1, h2, h3⟩ := scal_atom hx hy
  refine op_of (d := .bl (decide (toV x = toV y))) ?_ (k _ (by rw [decide_eq_true_iff]; exact toV_inj hx hy))
  unfold eqO sEq
  rw [h1, Option.bind_some, h2, Option.bind_some, if_pos h3]
  rfl
theorem o_neA {x y : D} {R : D → Prop} (hx : Atom x) (hy : Atom y) (k : ∀ b : Bool, (b = true ↔ x ≠ y) → R (.bl b)) : Op (eqO true x y) R := by
  obtain ⟨h1, h2, h3⟩ := scal_atom hx hy
  refine op_of (d := .bl (!decide (toV x = toV y))) ?_ (k _ (by rw [Bool.not_eq_true', decide_eq_false_iff_not]; exact not_congr (toV_inj hx hy)))
  unfold eqO sEq
  rw [h1, Option.bind_some, h2, Option.bind_some, if_pos h3]
  rfl
theorem inV_iff {t : D} {xs : List D} (ht : Atom t) (hx : ∀ x ∈ xs, Atom x) : inV (toV t) (xs.map toV) = true ↔ t ∈ xs := by
  unfold inV
  rw [List.any_map, List.any_eq_true]
  constructor
  · rintro ⟨x, hm, e⟩
    rw [← (eqV_atom (hx x hm) ht).mp e]; exact hm
  · intro hm
    exact ⟨t, hm, (eqV_atom ht ht).mpr rfl⟩
theorem o_in {t : D} {xs : List D} {R : D → Prop} (ht : Atom t) (hx : ∀ x ∈ xs, Atom x) (k : ∀ b : Bool, (b = true ↔ t ∈ xs) → R (.bl b)) : Op (inD false t (.lst xs)) R := by
  refine op_of (d := .bl (inV (toV t) (xs.map toV))) ?_ (k _ (inV_iff ht hx))
  have e : inSeq t xs = some (inV (toV t) (xs.map toV)) := by unfold inSeq; rw [if_pos ⟨ht.flat, all_flat hx⟩]
  cases t <;> first | exact absurd ht Bool.false_ne_true | (show (inSeq _ xs).map _ = _; rw [e]; rfl)
theorem o_inT {t : D} {xs : List D} {R : D → Prop} (ht : Atom t) (hx : ∀ x ∈ xs, Atom x) (k : ∀ b : Bool, (b = true ↔ t ∈ xs) → R (.bl b)) : Op (inD false t (.tup xs)) R := by
  refine op_of (d := .bl (inV (toV t) (xs.map toV))) ?_ (k _ (inV_iff ht hx))
  have e : inSeq t xs = some (inV (toV t) (xs.map toV)) := by unfold inSeq; rw [if_pos ⟨ht.flat, all_flat hx⟩]
  cases t <;> first | exact absurd ht Bool.false_ne_true | (show (inSeq _ xs).map _ = _; rw [e]; rfl)
theorem o_neNil {xs : List D} {R : D → Prop} (hx : ∀ x ∈ xs, Atom x) (k : ∀ b : Bool, (b = true ↔ xs ≠ []) → R (.bl b)) : Op (eqO true (.lst xs) (.lst [])) R := by
  refine op_of (d := .bl (!eqAs xs [])) ?_ (k _ ?_)
  · show (eqSeq true (.lst xs) (.lst [])).or _ = _
    unfold eqSeq
    dsimp only
    rw [if_pos ⟨all_plain hx, rfl⟩]
    rfl
  · cases xs with
    | nil => simp [eqAs]
    | cons x xs => simp [eqAs]
theorem o_neTup {xs : List D} {R : D → Prop} (hx : ∀ x ∈ xs, Atom x) (k : R (.bl false)) : Op (eqO true (.tup xs) (.tup xs)) R := by
  refine op_of (d := .bl false) ?_ k
  show (eqSeq true (.tup xs) (.tup xs)).or _ = _
  unfold eqSeq
  dsimp only
  rw [if_pos ⟨all_plain hx, all_plain hx⟩, eqAs_self hx]
  rfl
/-! dicts -/
abbrev Dk := List Key × List D
def get (b : Dk) (k : Key) : Option D := valD b.1 b.2 k
def put (b : Dk) (k : Key) (v : D) : Dk := (putKeys b.1 k, putVals b.1 b.2 k v)
structure OkD (b : Dk) : Prop where
  len : b.1.length = b.2.length
  nd : b.1.Nodup
  at_ : ∀ x ∈ b.2, Atom x
theorem val_cons (k0 : Key) (ks : List Key) (d0 : D) (ds : List D) (k : Key) : valD (k0 :: ks) (d0 :: ds) k = if k0 = k then some d0 else valD ks ds k := by
  unfold valD
  rw [List.zip_cons_cons, List.find?_cons]
  by_cases h : k0 = k
  · simp [h]
  · simp [h]
theorem val_none : ∀ {ks : List Key} {ds : List D} {k : Key}, ks.length = ds.length → (valD ks ds k = none ↔ k ∉ ks)
  | [], [], k, _ => by simp [valD]
  | k0 :: ks, d0 :: ds, k, h => by
    rw [val_cons]
    by_cases e : k0 = k
    · simp [e]
    · rw [if_neg e, val_none (by simpa using h), List.mem_cons]
      exact ⟨fun z w => w.elim (fun q => e q.symm) z, fun z w => z (.inr w)⟩
theorem val_mem : ∀ {ks : List Key} {ds : List D} {k : Key} {y : D}, valD ks ds k = some y → y ∈ ds
  | [], _, k, y, h => by simp [valD] at h
  | k0 :: ks, [], k, y, h => by simp [valD] at h
  | k0 :: ks, d0 :: ds, k, y, h => by
    rw [val_cons] at h
    by_cases e : k0 = k
    · rw [if_pos e] at h; cases h; exact List.mem_cons_self
    · rw [if_neg e] at h; exact List.mem_cons_of_mem _ (val_mem h)
theorem putKeys_ne {k0 k : Key} {ks : List Key} (e : k0 ≠ k) : putKeys (k0 :: ks) k = k0 :: putKeys ks k := by
  unfold putKeys
  by_cases h : k ∈ ks
  · rw [if_pos h, if_pos (List.mem_cons_of_mem _ h)]
  · rw [if_neg h, if_neg (fun z => (List.mem_cons.mp z).elim (fun q => e q.symm) h)]
    rfl
theorem val_put : ∀ {ks : List Key} {ds : List D} {k k' : Key} {v : D}, ks.length = ds.length → valD (putKeys ks k) (putVals ks ds k v) k' = if k = k' then some v else valD ks ds k'
  | [], [], k, k', v, _ => by
    show valD [k] [v] k' = _
    rw [val_cons]
  | k0 :: ks, d0 :: ds, k, k', v, h => by
    by_cases e : k0 = k
    · subst e
      have h1 : putKeys (k0 :: ks) k0 = k0 :: ks := by unfold putKeys; rw [if_pos List.mem_cons_self]
      have h2 : putVals (k0 :: ks) (d0 :: ds) k0 v = v :: ds := by unfold putVals; rw [if_pos rfl]
      rw [h1, h2, val_cons, val_cons]
      by_cases e' : k0 = k' <;> simp [e']
    · have h2 : putVals (k0 :: ks) (d0 :: ds) k v = d0 :: putVals ks ds k v := by
        conv => lhs; unfold putVals
        rw [if_neg e]
      rw [putKeys_ne e, h2, val_cons, val_cons, val_put (by simpa using h)]
      by_cases e' : k0 = k'
      · subst e'
        simp [Ne.symm e]
      · simp [e']
theorem put_same : ∀ {ks : List Key} {ds : List D} {k : Key} {v : D}, valD ks ds k = some v → putKeys ks k = ks ∧ putVals ks ds k v = ds
  | [], _, k, v, h => by simp [valD] at h
  | k0 :: ks, [], k, v, h => by simp [valD] at h
  | k0 :: ks, d0 :: ds, k, v, h => by
    rw [val_cons] at h
    by_cases e : k0 = k
    · rw [if_pos e] at h
      cases h
      subst e
      exact ⟨by unfold putKeys; rw [if_pos List.mem_cons_self], by unfold putVals; rw [if_pos rfl]⟩
    · rw [if_neg e] at h
      obtain ⟨h1, h2⟩ := put_same h
      refine ⟨by rw [putKeys_ne e, h1], ?_⟩
      conv => lhs; unfold putVals
      rw [if_neg e, h2]
theorem mem_putVals : ∀ {ks : List Key} {ds : List D} {k : Key} {v x : D}, x ∈ putVals ks ds k v → x = v ∨ x ∈ ds
  | [], ds, k, v, x, h => by
    have : putVals [] ds k v = [v] := by cases ds <;> rfl
    rw [this] at h
    exact .inl (by simpa using h)
  | k0 :: ks, [], k, v, x, h => by
    have : putVals (k0 :: ks) [] k v = [v] := rfl
    rw [this] at h
    exact .inl (by simpa using h)
  | k0 :: ks, d0 :: ds, k, v, x, h => by
    unfold putVals at h
    split at h
    · rcases List.mem_cons.mp h with h | h
      · exact .inl h
      · exact .inr (List.mem_cons_of_mem _ h)
    · rcases List.mem_cons.mp h with h | h
      · exact .inr (h ▸ List.mem_cons_self)
      · exact (mem_putVals h).elim .inl fun z => .inr (List.mem_cons_of_mem _ z)
theorem putVals_le (ks : List Key) (ds : List D) (k : Key) (v : D) : (putVals ks ds k v).length ≤ ds.length + 1 := by
  induction ks generalizing ds with
  | nil => cases ds <;> simp [putVals]
  | cons k0 ks ih =>
    cases ds with
    | nil => simp [putVals]
    | cons d0 ds =>
      unfold putVals
      split
      · simp
      · have := ih ds
        simp only [List.length_cons]
        omega
theorem OkD.put {b : Dk} (h : OkD b) {k : Key} {v : D} (hv : Atom v) : OkD (put b k v) where
  len := putVals_len _ _ _ _ h.len
  nd := by
    show (putKeys b.1 k).Nodup
    unfold putKeys
    split
    · exact h.nd
    · rename_i hk
      exact List.nodup_append.mpr ⟨h.nd, by simp, fun a ha c hc e => by
        rw [List.mem_singleton] at hc
        subst hc; subst e; exact hk ha⟩
  at_ := fun x hx => (mem_putVals hx).elim (fun e => by rw [e]; exact hv) (h.at_ x)
theorem get_put {b : Dk} (h : OkD b) {k k' : Key} {v : D} : get (put b k v) k' = if k = k' then some v else get b k' := val_put h.len
theorem put_eq {b : Dk} {k : Key} {v : D} (h : get b k = some v) : put b k v = b := by
  obtain ⟨h1, h2⟩ := put_same h
  unfold put
  rw [h1, h2]
theorem OkD.getA {b : Dk} (h : OkD b) {k : Key} {y : D} (e : get b k = some y) : Atom y := h.at_ y (val_mem e)
theorem val_self : ∀ {ks : List Key} {ds : List D}, ks.Nodup → ∀ kv ∈ ks.zip ds, valD ks ds kv.1 = some kv.2
  | [], ds, _, kv, h => by simp at h
  | k0 :: ks, [], _, kv, h => by simp at h
  | k0 :: ks, d0 :: ds, hn, kv, h => by
    rw [List.zip_cons_cons] at h
    rw [val_cons]
    rcases List.mem_cons.mp h with rfl | h
    · simp
    · have hk : kv.1 ∈ ks := (List.of_mem_zip h).1
      have hn' := List.nodup_cons.mp hn
      rw [if_neg (show ¬ k0 = kv.1 from fun e => hn'.1 (by rw [e]; exact hk))]
      exact val_self hn'.2 kv h
theorem eqDic_self {b : Dk} (h : OkD b) : eqDic b.1 b.2 b.1 b.2 = true := by
  unfold eqDic
  rw [Bool.and_eq_true, List.all_eq_true]
  refine ⟨by simp, fun kv hkv => ?_⟩
  rw [val_self h.nd kv hkv]
  exact (eqA_atom (h.at_ _ (List.of_mem_zip hkv).2) (h.at_ _ (List.of_mem_zip hkv).2)).mpr rfl
theorem o_eqDic {ks : List Key} {ds : List D} {R : D → Prop} (h : OkD (ks, ds)) (k : R (.bl true)) : Op (eqO false (.dic ks ds) (.dic ks ds)) R := by
  refine op_of (d := .bl true) ?_ k
  show (eqDc false (.dic ks ds) (.dic ks ds)) = _
  unfold eqDc
  dsimp only
  rw [if_pos ⟨all_plain h.at_, all_plain h.at_⟩, eqDic_self h]
  rfl
theorem o_neDic {ks : List Key} {ds : List D} {R : D → Prop} (h : OkD (ks, ds)) (k : R (.bl false)) : Op (eqO true (.dic ks ds) (.dic ks ds)) R := by
  refine op_of (d := .bl false) ?_ k
  show (eqDc true (.dic ks ds) (.dic ks ds)) = _
  unfold eqDc
  dsimp only
  rw [if_pos ⟨all_plain h.at_, all_plain h.at_⟩, eqDic_self h]
  rfl
def kD : D → Key | .int i => .inl i | .str z => .inr z | _ => .inl 0
theorem kD_inj {x y : D} (hx : Atom x) (hy : Atom y) (e : kD x = kD y) : x = y := by
  cases x <;> first | exact absurd hx Bool.false_ne_true | (cases y <;> first | exact absurd hy Bool.false_ne_true | first | (simp only [kD] at e; cases e; rfl) | (simp only [kD, reduceCtorEq] at e))
theorem keyD_atom {x : D} (hx : Atom x) : keyD x = some (kD x) := by cases x <;> first | exact absurd hx Bool.false_ne_true | rfl
end K11

-- part K11n
set_option Elab.async false
set_option linter.all false
set_option maxRecDepth 100000
set_option maxHeartbeats 4000000
namespace K11
open PySem PySem.Spec PyProof.Rows L2
/-! what is due -/
def GoodAt (b : Dk) (tps : List (D × D)) (tp : D × D) : Prop :=
  (vB tp.1 = true → (∀ q, (tp.1, q) ∈ tps → q = tp.2) ∧ ∀ y, get b (kD tp.1) = some y → y = tp.2) ∧ (vB tp.1 = false → tp.1 = tp.2)
def Good (b : Dk) (tps : List (D × D)) : Prop := ∀ tp ∈ tps, GoodAt b tps tp
def stepD (b : Dk) (tp : D × D) : Dk := if vB tp.1 = true then put b (kD tp.1) tp.2 else b
def foldD (b : Dk) (tps : List (D × D)) : Dk := tps.foldl stepD b
structure Inv (b : Dk) (pre : List (D × D)) (A : Dk) : Prop where
  ok : OkD A
  has : ∀ tp ∈ pre, vB tp.1 = true → get A (kD tp.1) = some tp.2
  fro : ∀ k y, get A k = some y → get b k = some y ∨ ∃ tp ∈ pre, vB tp.1 = true ∧ kD tp.1 = k ∧ y = tp.2
  old : ∀ k y, get b k = some y → get A k = some y
  non : ∀ tp ∈ pre, vB tp.1 = false → tp.1 = tp.2
  len : A.2.length ≤ b.2.length + pre.length
/-- a pair that agrees with what stands -/
theorem Inv.step {b A : Dk} {pre : List (D × D)} {tp : D × D} (h : Inv b pre A) (ht : Atom tp.1) (hp : Atom tp.2) (ha : ∀ x ∈ pre, Atom x.1)
    (hv : vB tp.1 = true → ∀ y, get A (kD tp.1) = some y → y = tp.2) (hn : vB tp.1 = false → tp.1 = tp.2) : Inv b (pre ++ [tp]) (stepD A tp) := by
  cases e : vB tp.1 with
  | false =>
    have es : stepD A tp = A := by unfold stepD; rw [e]; rfl
    rw [es]
    refine ⟨h.ok, fun x hx hvx => ?_, fun k y hy => ?_, h.old, fun x hx hvx => ?_, by have := h.len; simp only [List.length_append]; omega⟩
    · rcases List.mem_append.mp hx with hx | hx
      · exact h.has x hx hvx
      · rw [List.mem_singleton] at hx; subst hx; rw [e] at hvx; cases hvx
    · exact (h.fro k y hy).imp id fun ⟨x, hx, q⟩ => ⟨x, List.mem_append_left _ hx, q⟩
    · rcases List.mem_append.mp hx with hx | hx
      · exact h.non x hx hvx
      · rw [List.mem_singleton] at hx; subst hx; exact hn e
  | true =>
    have es : stepD A tp = put A (kD tp.1) tp.2 := by unfold stepD; rw [e]; rfl
    rw [es]
    have hold : ∀ k y, get A k = some y → get (put A (kD tp.1) tp.2) k = some y := fun k y hy => by
      rw [get_put h.ok]
      by_cases ek : kD tp.1 = k
      · subst ek; rw [if_pos rfl, hv e y hy]
      · rw [if_neg ek, hy]
    refine ⟨h.ok.put hp, fun x hx hvx => ?_, fun k y hy => ?_, fun k y hy => hold k y (h.old k y hy), fun x hx hvx => ?_, ?_⟩
    · rcases List.mem_append.mp hx with hx | hx
      · exact hold _ _ (h.has x hx hvx)
      · rw [List.mem_singleton] at hx; subst hx; rw [get_put h.ok, if_pos rfl]
    · rw [get_put h.ok] at hy
      by_cases ek : kD tp.1 = k
      · rw [if_pos ek] at hy
        cases hy
        exact .inr ⟨tp, List.mem_append_right _ (List.mem_singleton.mpr rfl), e, ek, rfl⟩
      · rw [if_neg ek] at hy
        exact (h.fro k y hy).imp id fun ⟨x, hx, q⟩ => ⟨x, List.mem_append_left _ hx, q⟩
    · rcases List.mem_append.mp hx with hx | hx
      · exact h.non x hx hvx
      · rw [List.mem_singleton] at hx; subst hx; rw [e] at hvx; cases hvx
    · have := h.len
      have := putVals_le A.1 A.2 (kD tp.1) tp.2
      show (putVals A.1 A.2 (kD tp.1) tp.2).length ≤ _
      simp only [List.length_append, List.length_singleton]
      omega
theorem Inv.good {b A : Dk} {tps : List (D × D)} (h : Inv b tps A) : Good b tps := fun tp htp =>
  ⟨fun hv => ⟨fun q hq => by
      have h1 := h.has _ htp hv
      have h2 := h.has _ hq hv
      rw [h1] at h2
      exact (Option.some.inj h2).symm, fun y hy => by
      have h1 := h.has _ htp hv
      rw [h.old _ _ hy] at h1
      exact Option.some.inj h1⟩, h.non tp htp⟩
theorem take_succ {α : Type} {xs : List α} {k : Nat} {x : α} (e : xs[k]? = some x) : xs.take (k + 1) = xs.take k ++ [x] := by
  rw [List.take_succ, e]; rfl
/-- what met_by gives -/
def due (b : Dk) (tps : List (D × D)) (r : Rs) : Prop := (Good b tps ∧ r = .fr (.dic (foldD b tps).1 (foldD b tps).2) ∧ Inv b tps (foldD b tps)) ∨ (¬ Good b tps ∧ r = .sh .non)
theorem vB_varB {d : D} (h : Gd d) : varB d = vB d := h.2
theorem Gd.okL {d : D} (h : Gd d) : okL d := h.1.okL
theorem e_met {ts ps : List D} {b : Dk} (hb : OkD b) (hl : b.2.length ≤ 100) (ht : ∀ t ∈ ts, Gd t) (hp : ∀ p ∈ ps, Atom p) (hlen : ts.length = ps.length) (hlt : ts.length ≤ 100) :
    Op (M_met_by [.tup ts, .tup ps, .dic b.1 b.2]) (due b (ts.zip ps)) := by
  have lz : (ts.zip ps).length = ts.length := by rw [List.length_zip]; omega
  unfold M_met_by fb_met_by
  walk_at "wrun"
  walk_at "wp"
  rw [hlen]
  rw [show (!decide ((ps.length : Int) = ps.length)) = false by simp]
  walk_at "wp"
  refine so_forL2 (fun k δ => ∃ x y z, δ = [some (.sh (.tup ts)), some (.sh (.tup ps)), some (.sh (.dic b.1 b.2)), some (.pv (.dic (foldD b ((ts.zip ps).take k)).1 (foldD b ((ts.zip ps).take k)).2)), x, y, z] ∧ Inv b ((ts.zip ps).take k) (foldD b ((ts.zip ps).take k))) ⟨_, _, _, rfl, ?_⟩ ?_ ?_
  · exact ⟨hb, fun x hx => (by simp at hx), fun k y h => .inl h, fun k y h => h, fun x hx => (by simp at hx), by simp [foldD]⟩
  · rintro k ⟨t, p⟩ hk δ ⟨x, y, z, rfl, I⟩
    have hm : (t, p) ∈ ts.zip ps := List.mem_of_getElem? hk
    have gt : Gd t := ht t (List.of_mem_zip hm).1
    have ap : Atom p := hp p (List.of_mem_zip hm).2
    have hpre : ∀ x ∈ (ts.zip ps).take k, Atom x.1 := fun x hx => (ht _ (List.of_mem_zip (show (x.1, x.2) ∈ ts.zip ps from List.mem_of_mem_take hx)).1).1
    have hsub : ∀ x ∈ (ts.zip ps).take k, x ∈ ts.zip ps := fun x hx => List.mem_of_mem_take hx
    have efold : foldD b ((ts.zip ps).take (k + 1)) = stepD (foldD b ((ts.zip ps).take k)) (t, p) := by
      rw [take_succ hk]; unfold foldD; rw [List.foldl_append]; rfl
    have hk' := (List.getElem?_eq_some_iff.mp hk).1
    have hsz : (foldD b ((ts.zip ps).take k)).2.length < sizeLine := sl_lt (by
      have := I.len
      have h2 : ((ts.zip ps).take k).length ≤ ts.length := by rw [← lz]; exact List.length_take_le' _ _
      omega)
    generalize hA : foldD b ((ts.zip ps).take k) = A at *
    dsimp only [List.set]
    walk_at "wp"
    refine op_of (e_var gt.okL) ?_
    walk_at "wp"
    rw [vB_varB gt]
    cases ev : vB t with
    | true =>
      walk_at "wp"
      refine op_of (keyD_atom gt.1) ⟨hsz, ?_⟩
      cases eg : valD A.1 A.2 (kD t) with
      | some y' =>
        dsimp only
        walk_at "wp"
        have ay : Atom y' := I.ok.getA eg
        refine o_neA ay ap fun c hc => ?_
        walk_at "wp"
        cases c with
        | true =>
          walk_at "wp"
          refine .inr ⟨fun G => ?_, rfl⟩
          have hne : y' ≠ p := hc.mp rfl
          rcases I.fro _ _ eg with h | ⟨x', hx', hv', hk2, e2⟩
          · exact hne (((G _ hm).1 ev).2 _ h)
          · have : x'.1 = t := kD_inj (hpre _ hx') gt.1 hk2
            obtain ⟨x1, x2⟩ := x'
            cases this
            exact hne (e2.trans (((G _ hm).1 ev).1 _ (hsub _ hx')))
        | false =>
          have he : y' = p := Classical.byContradiction fun z => Bool.false_ne_true (hc.mpr z)
          subst he
          walk_at "wp"
          have es : stepD A (t, y') = A := by
            unfold stepD
            rw [if_pos ev]
            exact put_eq eg
          have I' := I.step (tp := (t, y')) gt.1 ap hpre (fun _ w hw => by rw [show get A (kD t) = some y' from eg] at hw; exact (Option.some.inj hw).symm) (fun z => by rw [show vB t = true from ev] at z; cases z)
          rw [efold, take_succ hk, es]
          rw [es] at I'
          exact ⟨_, _, _, rfl, I'⟩
      | none =>
        dsimp only
        walk_at "wp"
        refine o_neA ap ap fun c hc => ?_
        have : c = false := by cases c with | false => rfl | true => exact absurd rfl (hc.mp rfl)
        subst this
        walk_at "wp"
        have es : stepD A (t, p) = put A (kD t) p := by unfold stepD; rw [if_pos ev]
        have I' := I.step (tp := (t, p)) gt.1 ap hpre (fun _ w hw => by rw [show get A (kD t) = none from eg] at hw; cases hw) (fun z => by rw [show vB t = true from ev] at z; cases z)
        rw [efold, take_succ hk, es]
        rw [es] at I'
        exact ⟨_, _, _, rfl, I'⟩
    | false =>
      walk_at "wp"
      refine o_neA gt.1 ap fun c hc => ?_
      walk_at "wp"
      cases c with
      | true =>
        walk_at "wp"
        exact .inr ⟨fun G => (hc.mp rfl) ((G _ hm).2 ev), rfl⟩
      | false =>
        have he : t = p := Classical.byContradiction fun z => Bool.false_ne_true (hc.mpr z)
        walk_at "wp"
        have es : stepD A (t, p) = A := by unfold stepD; rw [if_neg (by rw [show vB t = false from ev]; exact Bool.false_ne_true)]
        have I' := I.step (tp := (t, p)) gt.1 ap hpre (fun z => by rw [show vB t = false from ev] at z; cases z) (fun _ => he)
        rw [efold, take_succ hk, es]
        rw [es] at I'
        exact ⟨_, _, _, rfl, I'⟩
  · rintro δ ⟨x, y, z, rfl, I⟩
    rw [List.take_length] at I ⊢
    walk_at "wp"
    exact .inl ⟨I.good, rfl, I⟩

theorem e_free {ts : List D} (ht : ∀ t ∈ ts, Gd t) (hl : ts.length ≤ 100) : Op (M__law_free [.tup ts]) fun r => ∃ fs, r = .fr (.lst fs) ∧ ∀ y, y ∈ fs ↔ y ∈ ts ∧ vB y = true := by
  unfold M__law_free fb__law_free
  walk_at "wrun"
  walk_at "wp"
  refine ⟨sl_big (by omega), op_compS' (C := fun t => vB t = true) (fun t hm => ?_) fun ys _ h => ?_⟩
  · have gt := ht t hm
    cases t with
    | int i =>
      walk_at "wp"
      exact ⟨Iff.rfl, fun z => nomatch z⟩
    | str z =>
      have hz : z.length ≤ 100 := gt.1.okL
      have hz1 : 1 ≤ z.length := gt.1.one
      obtain ⟨c, cs, ec⟩ : ∃ c cs, z.cps.toList = c :: cs := by
        cases e : z.cps.toList with
        | nil =>
          have h1 : z.cps.toList.length = 0 := by rw [e]; rfl
          rw [Array.length_toList] at h1
          exact absurd (show z.length = 0 from h1) (by omega)
        | cons c cs => exact ⟨c, cs, rfl⟩
      have hv : vB (.str z) = bigC c := by show headB z = _; unfold headB; rw [ec]
      walk_at "wp"
      refine op_of (ix_zero hz ec) ?_
      refine op_of (leC _ 65 c (by decide +kernel)) ?_
      walk_at "wp"
      rw [hv]
      by_cases h1 : 65 ≤ c
      · rw [decide_eq_true h1]
        walk_at "wp"
        refine op_of (leC' _ 90 c (by decide +kernel)) ?_
        walk_at "wp"
        refine ⟨?_, fun _ => ?_⟩
        · unfold bigC; rw [decide_eq_true h1, Bool.true_and]
        · walk_at "wp"; rfl
      · rw [decide_eq_false h1]
        walk_at "wp"
        refine ⟨?_, fun z => nomatch z⟩
        unfold bigC; rw [decide_eq_false h1, Bool.false_and]
    | _ => cases gt.1
  · exact ⟨_, rfl, h⟩
theorem rng_get {n k : Nat} (h : k < n) : (rngD 0 n)[k]? = some (.int (0 + (k : Int))) := by
  unfold rngD
  rw [List.getElem?_map, List.getElem?_range h]
  rfl
theorem rng_ix {n k : Nat} {x : D} (e : (rngD 0 n)[k]? = some x) : k < n ∧ x = .int k := by
  have hk : k < n := by
    have := (List.getElem?_eq_some_iff.mp e).1
    simpa [rngD] using this
  rw [rng_get hk] at e
  cases e
  exact ⟨hk, by rw [Int.zero_add]⟩
theorem rng_map (n : Nat) : rngD 0 n = (List.range n).map fun k : Nat => D.int (k : Int) := by
  unfold rngD
  simp
theorem zip_get {ts ps : List D} {k : Nat} {t p : D} (h1 : ts[k]? = some t) (h2 : ps[k]? = some p) : (ts.zip ps)[k]? = some (t, p) := List.getElem?_zip_eq_some.mpr ⟨h1, h2⟩
theorem e_due {ts ps : List D} {b : Dk} (hb : OkD b) (hl : b.2.length ≤ 100) (ht : ∀ t ∈ ts, Gd t) (hp : ∀ p ∈ ps, Atom p) (hlen : ts.length = ps.length) (hlt : ts.length ≤ 100) :
    Op (M__law_due [.tup ts, .tup ps, .dic b.1 b.2]) (due b (ts.zip ps)) := by
  have lz : (ts.zip ps).length = ts.length := by rw [List.length_zip]; omega
  unfold M__law_due fb__law_due
  walk_at "wrun"
  walk_at "wp"
  rw [hlen]
  rw [show (!decide ((ps.length : Int) = ps.length)) = false by simp]
  walk_at "wp"
  refine ⟨by omega, ?_⟩
  rw [Int.toNat_natCast]
  refine so_forL (fun k δ => ∃ x y, δ = [some (.sh (.tup ts)), some (.sh (.tup ps)), some (.sh (.dic b.1 b.2)), some (.pv (.dic (foldD b ((ts.zip ps).take k)).1 (foldD b ((ts.zip ps).take k)).2)), x, y] ∧ Inv b ((ts.zip ps).take k) (foldD b ((ts.zip ps).take k)) ∧ ∀ tp ∈ (ts.zip ps).take k, GoodAt b (ts.zip ps) tp) ⟨_, _, rfl, ?_, fun tp h => (by simp at h)⟩ ?_ ?_
  · exact ⟨hb, fun x hx => (by simp at hx), fun k y h => .inl h, fun k y h => h, fun x hx => (by simp at hx), by simp [foldD]⟩
  · rintro k x hk δ ⟨x0, y0, rfl, I, gd⟩
    obtain ⟨hkn, rfl⟩ := rng_ix hk
    have hkt : k < ts.length := hkn
    have hkn : k < ps.length := by omega
    obtain ⟨t, et⟩ : ∃ t, ts[k]? = some t := ⟨_, List.getElem?_eq_getElem hkt⟩
    obtain ⟨p, ep⟩ : ∃ p, ps[k]? = some p := ⟨_, List.getElem?_eq_getElem hkn⟩
    have hz := zip_get et ep
    have hm : (t, p) ∈ ts.zip ps := List.mem_of_getElem? hz
    have gt : Gd t := ht t (List.of_mem_zip hm).1
    have ap : Atom p := hp p (List.of_mem_zip hm).2
    have hpre : ∀ x ∈ (ts.zip ps).take k, Atom x.1 := fun x hx => (ht _ (List.of_mem_zip (show (x.1, x.2) ∈ ts.zip ps from List.mem_of_mem_take hx)).1).1
    have hsub : ∀ x ∈ (ts.zip ps).take k, x ∈ ts.zip ps := fun x hx => List.mem_of_mem_take hx
    have efold : foldD b ((ts.zip ps).take (k + 1)) = stepD (foldD b ((ts.zip ps).take k)) (t, p) := by
      rw [take_succ hz]; unfold foldD; rw [List.foldl_append]; rfl
    have hsz : (foldD b ((ts.zip ps).take k)).2.length < sizeLine := sl_lt (by
      have := I.len
      have h2 : ((ts.zip ps).take k).length ≤ ts.length := by rw [← lz]; exact List.length_take_le' _ _
      omega)
    generalize hA : foldD b ((ts.zip ps).take k) = A at *
    dsimp only [List.set]
    walk_at "wp"
    refine o_ixT et ?_
    obtain ⟨r, er, fs, rfl, hfs⟩ := e_free ht hlt
    walk_at "wp"
    refine op_of er ?_
    walk_at "wp"
    have afs : ∀ x ∈ fs, Atom x := fun x hx => (ht x ((hfs x).mp hx).1).1
    refine o_in gt.1 afs fun c hc => ?_
    walk_at "wp"
    have hcv : c = vB t := by
      cases ev : vB t with
      | true => exact hc.mpr ((hfs t).mpr ⟨(List.of_mem_zip hm).1, ev⟩)
      | false =>
        cases c with
        | false => rfl
        | true => rw [((hfs t).mp (hc.mp rfl)).2] at ev; cases ev
    subst hcv
    -- the end of a step that is right
    have fin : ∀ (e : GoodAt b (ts.zip ps) (t, p)), Inv b ((ts.zip ps).take (k + 1)) (stepD A (t, p)) ∧ ∀ tp ∈ (ts.zip ps).take (k + 1), GoodAt b (ts.zip ps) tp := fun e => by
      rw [take_succ hz]
      refine ⟨I.step gt.1 ap hpre (fun hv y hy => ?_) e.2, fun tp h => ?_⟩
      · rcases I.fro _ _ hy with h | ⟨x', hx', hv', hk2, e2⟩
        · exact (e.1 hv).2 y h
        · have : x'.1 = t := kD_inj (hpre _ hx') gt.1 hk2
          obtain ⟨x1, x2⟩ := x'
          cases this
          exact e2.trans ((e.1 hv).1 _ (hsub _ hx'))
      · rcases List.mem_append.mp h with h | h
        · exact gd tp h
        · rw [List.mem_singleton] at h; subst h; exact e
    cases ev : vB t with
    | true =>
      walk_at "wp"
      rw [Int.toNat_natCast]
      refine ⟨by omega, by rw [rng_map, List.length_map, List.length_range]; exact sl_big (by omega), ?_⟩
      rw [rng_map]
      refine op_compS (C := fun j => ts[j]? = some t) (G := fun j => ps.getD j .non) (fun j hj => ?_) fun same hsl hsame => ?_
      · have hj : j < ts.length := List.mem_range.mp hj
        have hj2 : j < ps.length := by omega
        walk_at "wp"
        refine o_ixT (List.getElem?_eq_getElem hj) ?_
        walk_at "wp"
        refine o_ixT et ?_
        refine o_eqA (ht _ (List.getElem_mem hj)).1 gt.1 fun c hc => ?_
        walk_at "wp"
        refine ⟨hc.trans ⟨fun e => by rw [List.getElem?_eq_getElem hj, e], fun e => by rw [List.getElem?_eq_getElem hj] at e; exact Option.some.inj e⟩, fun _ => ?_⟩
        walk_at "wp"
        refine o_ixT (List.getElem?_eq_getElem hj2) ?_
        rw [List.getD_eq_getElem?_getD, List.getElem?_eq_getElem hj2]
        rfl
      · have hsm : ∀ y ∈ same, (t, y) ∈ ts.zip ps := fun y hy => by
          obtain ⟨j, hj, cj, rfl⟩ := (hsame y).mp hy
          have hj2 : j < ps.length := by have := List.mem_range.mp hj; omega
          rw [List.getD_eq_getElem?_getD, List.getElem?_eq_getElem hj2]
          exact List.mem_of_getElem? (zip_get cj (List.getElem?_eq_getElem hj2))
        have hms : ∀ y, (t, y) ∈ ts.zip ps → y ∈ same := fun y hy => by
          obtain ⟨j, hj⟩ := List.mem_iff_getElem?.mp hy
          obtain ⟨h1, h2⟩ := List.getElem?_zip_eq_some.mp hj
          refine (hsame y).mpr ⟨j, List.mem_range.mpr (List.getElem?_eq_some_iff.mp h1).1, h1, ?_⟩
          rw [List.getD_eq_getElem?_getD, h2]
          rfl
        have asm : ∀ y ∈ same, Atom y := fun y hy => hp y (List.of_mem_zip (hsm y hy)).2
        rw [List.length_range] at hsl
        walk_at "wp"
        refine ⟨sl_big (by omega), op_compS' (C := fun y => y ≠ p) (fun y hy => ?_) fun bad hbl hbad => ?_⟩
        · walk_at "wp"
          refine o_ixT ep ?_
          refine o_neA (asm y hy) ap fun c hc => ?_
          walk_at "wp"
          refine ⟨hc, fun _ => ?_⟩
          walk_at "wp"
          rfl
        · walk_at "wp"
          refine ⟨Nat.zero_le _, ?_⟩
          walk_at "wp"
          refine o_neNil (fun y hy => asm y ((hbad y).mp hy).1) fun c hc => ?_
          walk_at "wp"
          cases c with
          | true =>
            walk_at "wp"
            refine .inr ⟨fun G => ?_, rfl⟩
            obtain ⟨y, hy⟩ := List.exists_mem_of_ne_nil bad (hc.mp rfl)
            obtain ⟨h1, h2⟩ := (hbad y).mp hy
            exact h2 (((G _ hm).1 ev).1 y (hsm y h1))
          | false =>
            have hbn : bad = [] := Classical.byContradiction fun z => Bool.false_ne_true (hc.mpr z)
            walk_at "wp"
            refine o_ixT et ?_
            walk_at "wp"
            refine o_ixT ep ?_
            refine op_of (d := (get b (kD t)).getD p) (by show (keyD t).bind _ = _; rw [keyD_atom gt.1]; rfl) ?_
            walk_at "wp"
            refine o_ixT ep ?_
            have ag : Atom ((get b (kD t)).getD p) := by
              cases e : get b (kD t) with
              | none => exact ap
              | some y => exact hb.getA e
            refine o_neA ag ap fun c hc => ?_
            walk_at "wp"
            cases c with
            | true =>
              walk_at "wp"
              refine .inr ⟨fun G => (hc.mp rfl) ?_, rfl⟩
              cases e : get b (kD t) with
              | none => rfl
              | some y => exact ((G _ hm).1 ev).2 y e
            | false =>
              have he : (get b (kD t)).getD p = p := Classical.byContradiction fun z => Bool.false_ne_true (hc.mpr z)
              walk_at "wp"
              refine o_ixT ep ?_
              walk_at "wp"
              refine o_ixT et ?_
              refine op_of (keyD_atom gt.1) ⟨hsz, ?_⟩
              walk_at "wp"
              have es : stepD A (t, p) = put A (kD t) p := by unfold stepD; rw [if_pos ev]
              obtain ⟨I', g'⟩ := fin ⟨fun _ => ⟨fun q hq => Classical.byContradiction fun z => (by
                have : q ∈ bad := (hbad q).mpr ⟨hms q hq, z⟩
                rw [hbn] at this
                exact absurd this List.not_mem_nil), fun y hy => (by rw [show get b (kD t) = some y from hy] at he; exact he)⟩, fun z => (by rw [show vB t = true from ev] at z; exact absurd z (Ne.symm Bool.false_ne_true))⟩
              rw [efold, es]
              rw [es] at I'
              exact ⟨_, _, rfl, I', g'⟩
    | false =>
      walk_at "wp"
      refine o_ixT et ?_
      walk_at "wp"
      refine o_ixT ep ?_
      refine o_neA gt.1 ap fun c hc => ?_
      walk_at "wp"
      cases c with
      | true =>
        walk_at "wp"
        exact .inr ⟨fun G => (hc.mp rfl) ((G _ hm).2 ev), rfl⟩
      | false =>
        have he : t = p := Classical.byContradiction fun z => Bool.false_ne_true (hc.mpr z)
        walk_at "wp"
        have es : stepD A (t, p) = A := by unfold stepD; rw [if_neg (by rw [show vB t = false from ev]; exact Bool.false_ne_true)]
        obtain ⟨I', g'⟩ := fin ⟨fun z => (by rw [show vB t = false from ev] at z; exact absurd z Bool.false_ne_true), fun _ => he⟩
        rw [efold, es]
        rw [es] at I'
        exact ⟨_, _, rfl, I', g'⟩
  · rintro δ ⟨x, y, rfl, I, gd⟩
    have : (ts.zip ps).take (rngD 0 ts.length).length = ts.zip ps := by
      rw [show (rngD 0 ts.length).length = (ts.zip ps).length by rw [lz]; simp [rngD], List.take_length]
    rw [this] at I gd ⊢
    walk_at "wp"
    exact .inl ⟨I.good, rfl, I⟩

theorem e_metN {ts ps : List D} {b : Dk} (hlen : ts.length ≠ ps.length) : Op (M_met_by [.tup ts, .tup ps, .dic b.1 b.2]) fun r => r = .sh .non := by
  unfold M_met_by fb_met_by
  walk_at "wrun"
  walk_at "wp"
  rw [show (!decide ((ts.length : Int) = ps.length)) = true by simp; omega]
  walk_at "wp"
  rfl
theorem e_dueN {ts ps : List D} {b : Dk} (hlen : ts.length ≠ ps.length) : Op (M__law_due [.tup ts, .tup ps, .dic b.1 b.2]) fun r => r = .sh .non := by
  unfold M__law_due fb__law_due
  walk_at "wrun"
  walk_at "wp"
  rw [show (!decide ((ts.length : Int) = ps.length)) = true by simp; omega]
  walk_at "wp"
  rfl
theorem e_repl {ts ps : List D} {b A : Dk} (I : Inv b (ts.zip ps) A) (hk : ∀ k y, get b k = some y → ∃ z, k = .inr z ∧ headB z = true) (ht : ∀ t ∈ ts, Gd t) (hlen : ts.length = ps.length) (hlt : ts.length ≤ 100) :
    Op (M_replaced_by [.tup ts, .dic A.1 A.2]) fun r => r = .sh (.tup ps) := by
  have key : ∀ t p, (t, p) ∈ ts.zip ps → (get A (kD t)).getD t = p := fun t p hm => by
    have gt := ht t (List.of_mem_zip hm).1
    cases ev : vB t with
    | true => rw [I.has _ hm ev]; rfl
    | false =>
      have : get A (kD t) = none := by
        cases e : get A (kD t) with
        | none => rfl
        | some y =>
          rcases I.fro _ _ e with h | ⟨x', hx', hv', hk2, e2⟩
          · obtain ⟨z, e1, e2⟩ := hk _ _ h
            cases t with
            | str w => rw [show vB (D.str w) = headB w from rfl, Sum.inr.inj e1, e2] at ev; cases ev
            | int i => cases e1
            | _ => cases gt.1
          · have hx1 : (x'.1, x'.2) ∈ ts.zip ps := hx'
            have : x'.1 = t := kD_inj (ht _ (List.of_mem_zip hx1).1).1 gt.1 hk2
            rw [this, ev] at hv'
            cases hv'
      rw [this]
      exact I.non _ hm ev
  unfold M_replaced_by fb_replaced_by
  walk_at "wrun"
  walk_at "wp"
  refine ⟨sl_big (by omega), op_compY' (hh := fun t => (get A (kD t)).getD t) (fun t hm => ?_) ?_⟩
  · walk_at "wp"
    refine op_of (d := (get A (kD t)).getD t) (by show (keyD t).bind _ = _; rw [keyD_atom (ht t hm).1]; rfl) rfl
  · walk_at "wp"
    have : ts.map (fun t => (get A (kD t)).getD t) = ps := by
      apply List.ext_getElem?
      intro j
      rw [List.getElem?_map]
      cases ej : ts[j]? with
      | none => rw [List.getElem?_eq_none_iff] at ej; rw [List.getElem?_eq_none_iff.mpr (by omega)]; rfl
      | some t =>
        have hj := (List.getElem?_eq_some_iff.mp ej).1
        have hj2 : j < ps.length := by omega
        rw [Option.map_some, key t ps[j] (List.mem_of_getElem? (zip_get ej (List.getElem?_eq_getElem hj2))), List.getElem?_eq_getElem hj2]
    rw [this]
theorem e_right {ts ps : List D} {b : Dk} (hb : OkD b) (hl : b.2.length ≤ 100) (hk : ∀ k y, get b k = some y → ∃ z, k = .inr z ∧ headB z = true) (ht : ∀ t ∈ ts, Gd t) (hp : ∀ p ∈ ps, Atom p) (hlt : ts.length ≤ 100) :
    Op (M__law_right [.tup ts, .tup ps, .dic b.1 b.2]) fun r => r = .sh (.bl true) := by
  have bad : ∀ {N : En → Prop} {T : Rs → Prop}, M_met_by [.tup ts, .tup ps, .dic b.1 b.2] = some (.sh .non) → M__law_due [.tup ts, .tup ps, .dic b.1 b.2] = some (.sh .non) → T (.sh (.bl true)) →
      Op (M__law_right [.tup ts, .tup ps, .dic b.1 b.2]) T := fun {N T} e1 e2 k => by
    unfold M__law_right fb__law_right
    walk_at "wrun"
    walk_at "wp"
    refine op_of e1 ?_
    walk_at "wp"
    refine op_of e2 ?_
    walk_at "wp"
    refine o_neDic hb ?_
    walk_at "wp"
    exact k
  by_cases hlen : ts.length = ps.length
  · obtain ⟨r1, e1, d1⟩ := e_met hb hl ht hp hlen hlt
    obtain ⟨r2, e2, d2⟩ := e_due hb hl ht hp hlen hlt
    rcases d1 with ⟨g1, rfl, I⟩ | ⟨g1, rfl⟩
    · rcases d2 with ⟨g2, rfl, _⟩ | ⟨g2, rfl⟩
      · unfold M__law_right fb__law_right
        walk_at "wrun"
        walk_at "wp"
        refine op_of e1 ?_
        walk_at "wp"
        refine op_of e2 ?_
        walk_at "wp"
        refine o_neDic hb ?_
        walk_at "wp"
        refine o_neDic I.ok ?_
        walk_at "wp"
        obtain ⟨r3, e3, rfl⟩ := e_repl I hk ht hlen hlt
        refine op_of e3 ⟨noMutL_of hp, ?_⟩
        walk_at "wp"
        refine o_neTup hp ?_
        walk_at "wp"
        refine ⟨sl_lt (by have := I.len; have : (ts.zip ps).length ≤ ts.length := by rw [List.length_zip]; omega
                          omega), ?_⟩
        walk_at "wp"
        refine o_eqDic hb ?_
        walk_at "wp"
        refine op_of e1 ?_
        walk_at "wp"
        refine o_eqDic I.ok ?_
        rfl
      · exact absurd g1 g2
    · rcases d2 with ⟨g2, rfl, _⟩ | ⟨g2, rfl⟩
      · exact absurd g2 g1
      · exact bad (N := fun _ => True) e1 e2 rfl
  · exact bad (N := fun _ => True) (e_metN hlen).eq (e_dueN hlen).eq rfl
end K11

-- part K11p
set_option Elab.async false
set_option linter.all false
set_option maxRecDepth 100000
set_option maxHeartbeats 4000000
namespace K11
open PySem PySem.Spec PyProof.Rows L2
theorem o_cond {A B : Prop} {p : Prop} [Decidable p] (h1 : p → A) (h2 : ¬ p → B) : if decide p = true then A else B := by
  by_cases h : p
  · rw [if_pos (decide_eq_true h)]; exact h1 h
  · rw [if_neg (by rw [decide_eq_false h]; exact Bool.false_ne_true)]; exact h2 h
theorem o_cond' {A B : Prop} (b : Bool) (h1 : b = true → A) (h2 : b = false → B) : if b = true then A else B := by
  cases b with
  | true => exact h1 rfl
  | false => exact h2 rfl
theorem cmul_b {i : Int} {b : Bool} : CMul i (if b then 1 else 0) := Or.inr (by cases b <;> decide)
theorem e_cell (ns : List Int) (k : Nat) (hn : ns.length ≤ 63) (hk : k ≤ 63) : Op (M__law_cell [.lst (ns.map D.int), .int k]) fun r => ∃ c : Int, r = .sh (.int c) := by
  have mem : ∀ x ∈ ns.map D.int, ∃ i : Int, x = .int i := fun x hx => let ⟨i, _, e⟩ := List.mem_map.mp hx; ⟨i, e.symm⟩
  unfold M__law_cell fb__law_cell
  walk_at "wrun"
  walk_at "wpn"
  refine so_mid (fun δ => δ = [some (.sh (.lst (ns.map D.int))), some (.sh (.int k)), none]) ?_ ?_
  · walk_at "wp"
    refine o_cond (fun h => ?_) fun h => ?_
    · walk_at "wp"
      refine o_ixLm (by omega) h fun x hx => ?_
      obtain ⟨i, rfl⟩ := mem x hx
      walk_at "wp"
      exact ⟨i, rfl⟩
    · walk_at "wp"
      rfl
  · rintro δ rfl
    walk_at "wpn"
    refine so_mid (fun δ => ∃ m : Int, δ = [some (.sh (.lst (ns.map D.int))), some (.sh (.int k)), some (.sh (.int m))] ∧ 0 ≤ m ∧ m < 2 ^ 40) ?_ ?_
    · walk_at "wp"
      refine o_cond (fun h => ?_) fun h => ?_
      · walk_at "wp"
        try refine o_mod h ?_
        refine o_ixLm (Int.emod_nonneg _ (by omega)) (Int.emod_lt_of_pos _ h) fun x hx => ?_
        obtain ⟨i, rfl⟩ := mem x hx
        walk_at "wp"
        exact ⟨_, rfl, Int.emod_nonneg _ (by decide), Int.lt_trans (Int.emod_lt_of_pos _ (by decide)) (by decide)⟩
      · walk_at "wp"
        exact ⟨_, rfl, by omega, by omega⟩
    · rintro δ ⟨m, rfl, h0, h1⟩
      walk_at "wp"
      try refine o_mul (Or.inl ⟨by omega, by omega⟩) ?_
      walk_at "wp"
      exact ⟨_, rfl⟩
theorem e_stream (c : Int) (n : Nat) (hn : n ≤ 100) : Op (M__law_stream [.int c, .int n]) fun r => ∃ zs : List Int, r = .fr (.lst (zs.map D.int)) ∧ zs.length = n := by
  unfold M__law_stream fb__law_stream
  walk_at "wrun"
  walk_at "wp"
  refine ⟨Nat.zero_le _, ?_⟩
  walk_at "wp"
  refine ⟨by omega, ?_⟩
  rw [Int.toNat_natCast]
  refine so_forL (fun k δ => ∃ (zs : List Int) (m : Int) (x : Option Sl), δ = [some (.sh (.int c)), some (.sh (.int n)), some (.pv (.lst (zs.map D.int))), some (.sh (.int m)), x] ∧ zs.length = k) ⟨[], _, _, rfl, rfl⟩ ?_ ?_
  · rintro k x hk δ ⟨zs, m, y, rfl, hz⟩
    obtain ⟨hkn, rfl⟩ := rng_ix hk
    dsimp only [List.set]
    walk_at "wp"
    refine o_cond (fun h => ?_) fun h => ?_
    · walk_at "wp"
      refine ⟨sl_lt (by rw [List.length_map]; omega), ?_⟩
      walk_at "wp"
      exact ⟨zs ++ [_], _, _, by rw [List.map_append]; rfl, by simp [hz]⟩
    · walk_at "wp"
      refine ⟨sl_lt (by rw [List.length_map]; omega), ?_⟩
      walk_at "wp"
      exact ⟨zs ++ [_], _, _, by rw [List.map_append]; rfl, by simp [hz]⟩
  · rintro δ ⟨zs, m, y, rfl, hz⟩
    walk_at "wp"
    exact ⟨zs, rfl, by rw [hz]; simp [rngD]⟩
/-- a sign of a text -/
theorem o_ixS {s : Str} {i : Int} {R : D → Prop} (hs : s.length ≤ 100) (h0 : 0 ≤ i) (h1 : i < s.length) (q : ∀ c ∈ s.cps.toList, R (.str ⟨#[c]⟩)) : Op (ixA (.str s) (.int i)) R := by
  obtain ⟨n, rfl⟩ : ∃ n : Nat, i = n := ⟨i.toNat, by omega⟩
  have hn : n < s.cps.toList.length := by rw [Array.length_toList]; exact Int.ofNat_lt.mp h1
  refine op_of (d := .str ⟨#[s.cps.toList[n]]⟩) ?_ (q _ (List.getElem_mem hn))
  show (if s.length ≤ sizeLine then (atI s.cps.toList (n : Int)).map (fun c => D.str ⟨#[c]⟩) else none) = _
  rw [if_pos (sl_big (by omega)), atI_nat (List.getElem?_eq_getElem hn)]
  rfl
theorem az_list : ("abcdefghijklmnopqrstuvwxyz" : Str).cps.toList = List.range' 97 26 := by decide +kernel
theorem AZ_list : ("ABCDEFGHIJKLMNOPQRSTUVWXYZ" : Str).cps.toList = List.range' 65 26 := by decide +kernel
theorem all_list : ("abcdefghijklmnopqrstuvwxyz0123456789ABCDEFGHIJKLMNOPQRSTUVWXYZ" : Str).cps.toList = List.range' 97 26 ++ List.range' 48 10 ++ List.range' 65 26 := by decide +kernel
theorem az_small {c : Nat} (h : c ∈ ("abcdefghijklmnopqrstuvwxyz" : Str).cps.toList) : smallC c = true := by
  rw [az_list, List.mem_range'_1] at h
  unfold smallC
  rw [Bool.and_eq_true, decide_eq_true_iff, decide_eq_true_iff]
  omega
theorem AZ_big {c : Nat} (h : c ∈ ("ABCDEFGHIJKLMNOPQRSTUVWXYZ" : Str).cps.toList) : bigC c = true := by
  rw [AZ_list, List.mem_range'_1] at h
  unfold bigC
  rw [Bool.and_eq_true, decide_eq_true_iff, decide_eq_true_iff]
  omega
theorem all_any {c : Nat} (h : c ∈ ("abcdefghijklmnopqrstuvwxyz0123456789ABCDEFGHIJKLMNOPQRSTUVWXYZ" : Str).cps.toList) : (smallC c || (bigC c || figC c)) = true := by
  rw [all_list, List.mem_append, List.mem_append, List.mem_range'_1, List.mem_range'_1, List.mem_range'_1] at h
  unfold smallC bigC figC
  simp only [Bool.or_eq_true, Bool.and_eq_true, decide_eq_true_iff]
  omega
/-- a text of small letters -/
structure Low (n : Nat) (z : Str) : Prop where
  one : 1 ≤ z.length
  le : z.length ≤ n
  low : ∀ c ∈ z.cps.toList, smallC c = true
theorem Low.atom {n : Nat} {z : Str} (h : Low n z) (hn : n ≤ 100) : Atom (.str z) := by
  show (decide (1 ≤ z.length) && decide (z.length ≤ 100)) = true
  rw [decide_eq_true h.one, decide_eq_true (by have := h.le; omega)]
  rfl
theorem Low.head {n : Nat} {z : Str} (h : Low n z) : headB z = false := by
  unfold headB
  cases e : z.cps.toList with
  | nil => rfl
  | cons c cs =>
    have := h.low c (by rw [e]; exact List.mem_cons_self)
    unfold smallC at this
    rw [Bool.and_eq_true, decide_eq_true_iff, decide_eq_true_iff] at this
    show bigC c = false
    unfold bigC
    rw [decide_eq_false (show ¬ c ≤ 90 by omega), Bool.and_false]
theorem Low.gd {n : Nat} {z : Str} (h : Low n z) (hn : n ≤ 100) : Gd (.str z) := ⟨h.atom hn, by
  show (shortB z && headB z && _) = headB z
  rw [h.head, Bool.and_false, Bool.false_and]⟩
theorem o_join {ls : List Nat} {R : D → Prop} (hl : ls.length ≤ 100) (k : R (.str ⟨ls.toArray⟩)) : Op (joinD (.str "") (.lst (ls.map fun c => .str ⟨#[c]⟩))) R := by
  refine op_of ?_ k
  have e : ∀ ls : List Nat, strsD (ls.map fun c => D.str ⟨#[c]⟩) = some (ls.map fun c => (⟨#[c]⟩ : Str)) := by
    intro ls
    induction ls with
    | nil => rfl
    | cons c cs ih => rw [List.map_cons]; unfold strsD; rw [ih]; rfl
  have s : ((ls.map fun c => (⟨#[c]⟩ : Str)).map fun y => y.length).sum = ls.length := by
    clear hl k e
    induction ls with
    | nil => rfl
    | cons c cs ih => rw [List.map_cons, List.map_cons, List.sum_cons, ih, List.length_cons, Nat.add_comm]; rfl
  have z : ("" : Str) = ⟨#[]⟩ := by decide +kernel
  show (strsD _).bind _ = _
  rw [e, Option.bind_some, s, z, if_pos (by show ls.length + _ * 0 ≤ _; omega)]
  congr 2
  show Builtin.Str.glued ⟨#[]⟩ _ = _
  rw [StrLaws.glued_eq_join]
  exact join_ones ls
theorem list_exists {n : Nat} {ys : List D} (h : ∀ y ∈ ys, ∃ c : Nat, y = .str ⟨#[c]⟩ ∧ smallC c = true) : ∃ ls : List Nat, ys = ls.map (fun c => D.str ⟨#[c]⟩) ∧ ∀ c ∈ ls, smallC c = true := by
  induction ys with
  | nil => exact ⟨[], rfl, fun c h => nomatch h⟩
  | cons y ys ih =>
    obtain ⟨ls, rfl, h2⟩ := ih fun z hz => h z (List.mem_cons_of_mem _ hz)
    obtain ⟨c, rfl, hc⟩ := h y List.mem_cons_self
    exact ⟨c :: ls, rfl, fun d hd => (List.mem_cons.mp hd).elim (fun e => e ▸ hc) (h2 d)⟩
theorem x_word {z : Str} (h : Low 8 z) : Low 9 ("x" ++ z) := by
  have e : ("x" ++ z : Str).cps.toList = 120 :: z.cps.toList := by
    show (("x" : Str).cps ++ z.cps).toList = _
    rw [Array.toList_append]
    rfl
  have hl : ("x" ++ z : Str).length = z.length + 1 := by
    have := congrArg List.length e
    rw [Array.length_toList, List.length_cons, Array.length_toList] at this
    exact this
  refine ⟨by omega, by have := h.le; omega, fun c hc => ?_⟩
  rw [e] at hc
  rcases List.mem_cons.mp hc with rfl | hc
  · rfl
  · exact h.low c hc
theorem add_str {a b : Str} (h : a.length + b.length ≤ sizeLine) : addD (.str a) (.str b) = some (.str (a ++ b)) := by
  unfold addD sAdd iAdd
  simp only [Option.none_or, if_pos h]
  rfl
theorem e_names (c : Int) (n : Nat) (hn : n ≤ 100) : Op (M__law_names [.int c, .int n]) fun r => ∃ zs : List Str, r = .fr (.lst (zs.map D.str)) ∧ zs.length = n ∧ ∀ z ∈ zs, Low 9 z := by
  unfold M__law_names fb__law_names
  walk_at "wrun"
  walk_at "wp"
  have h8 : (0 : Int) < 1 + c % 8 := by have := Int.emod_nonneg c (show (8 : Int) ≠ 0 by decide); omega
  have h9 : 1 + c % 8 ≤ 8 := by have := Int.emod_lt_of_pos c (show (0 : Int) < 8 by decide); omega
  try refine o_mod h8 ?_
  walk_at "wp"
  obtain ⟨r, er, xs, rfl, hx⟩ := e_stream (c / 64) 8 (by decide)
  refine op_of er ?_
  walk_at "wp"
  refine ⟨sl_big (by rw [List.length_map]; omega), op_compY (hh := fun i : Int => .int (i % 26)) (fun i _ => ?_) ?_⟩
  · walk_at "wp"
    rfl
  · walk_at "wp"
    refine ⟨Nat.zero_le _, ?_⟩
    walk_at "wp"
    refine ⟨by omega, ?_⟩
    rw [Int.toNat_natCast]
    generalize hs : 1 + c % 8 = s at *
    generalize ha : c / 8 % s = at_
    refine so_forL (fun k δ => ∃ (zs : List Str) (x y : Option Sl), δ = [some (.sh (.int c)), some (.sh (.int n)), some (.sh (.str "abcdefghijklmnopqrstuvwxyz")), some (.sh (.int s)), some (.sh (.int at_)), some (.sh (.lst (xs.map fun i : Int => D.int (i % 26)))), some (.pv (.lst (zs.map D.str))), x, y] ∧ zs.length = k ∧ ∀ z ∈ zs, Low 9 z) ⟨[], _, _, rfl, rfl, fun z h => nomatch h⟩ ?_ ?_
    · rintro k x hk δ ⟨zs, x, y, rfl, hz, hlow⟩
      obtain ⟨hkn, rfl⟩ := rng_ix hk
      dsimp only [List.set]
      walk_at "wp"
      obtain ⟨m, rfl⟩ : ∃ m : Nat, s = m := ⟨s.toNat, by omega⟩
      refine ⟨by omega, ?_⟩
      rw [Int.toNat_natCast]
      refine ⟨by rw [rng_map, List.length_map, List.length_range]; exact sl_big (by omega), op_compQ (Q := fun y => ∃ c : Nat, y = .str ⟨#[c]⟩ ∧ smallC c = true) (fun d hd => ?_) fun ys hys hall => ?_⟩
      · rw [rng_map] at hd
        obtain ⟨j, hj, rfl⟩ := List.mem_map.mp hd
        have hj := List.mem_range.mp hj
        walk_at "wp"
        refine o_ixL (x := .int (xs[j]'(by omega) % 26)) (by rw [List.getElem?_map, List.getElem?_eq_getElem (by omega)]; rfl) ?_
        walk_at "wp"
        try refine o_mul ?_ ?_
        · exact Or.inr (by by_cases h : ((j : Int) = at_) <;> simp [h])
        walk_at "wp"
        refine o_ixS (by decide +kernel) (Int.emod_nonneg _ (by decide)) ?_ fun c hc => ⟨c, rfl, az_small hc⟩
        exact Int.lt_of_lt_of_le (Int.emod_lt_of_pos _ (by decide)) (by decide +kernel)
      · have hys' : ys.length = m := by rw [hys]; simp [rngD]
        obtain ⟨ls, rfl, hls⟩ := list_exists (n := 0) hall
        rw [List.length_map] at hys'
        walk_at "wp"
        refine o_join (by omega) ?_
        have lz : (⟨ls.toArray⟩ : Str).length = m := by show ls.toArray.size = _; simpa using hys'
        have low : Low 8 ⟨ls.toArray⟩ := ⟨by omega, by omega, fun c hc => hls c (by simpa using hc)⟩
        generalize (⟨ls.toArray⟩ : Str) = z at *
        walk_at "wpn"
        refine so_mid (fun δ => ∃ w : Str, Low 9 w ∧ δ = [some (.sh (.int c)), some (.sh (.int n)), some (.sh (.str "abcdefghijklmnopqrstuvwxyz")), some (.sh (.int m)), some (.sh (.int at_)), some (.sh (.lst (xs.map fun i : Int => D.int (i % 26)))), some (.pv (.lst (zs.map D.str))), some (.sh (.int k)), some (.sh (.str w))]) ?_ ?_
        · walk_at "wp"
          refine ⟨by decide +kernel, ?_⟩
          refine o_inT (low.atom (by decide)) (fun x hx => ?_) fun b hb => ?_
          · simp only [List.mem_cons, List.not_mem_nil, or_false] at hx
            rcases hx with rfl | rfl | rfl | rfl | rfl | rfl | rfl <;> (show atomB _ = true; decide +kernel)
          walk_at "wp"
          refine o_cond' b (fun _ => ?_) fun _ => ?_
          · walk_at "wp"
            refine op_of (add_str (sl_big (by show 1 + _ ≤ _; omega))) ?_
            walk_at "wp"
            exact ⟨_, x_word low, rfl⟩
          · walk_at "wp"
            exact ⟨z, ⟨low.one, by have := low.le; omega, low.low⟩, rfl⟩
        · rintro δ ⟨w, lw, rfl⟩
          walk_at "wp"
          refine ⟨sl_lt (by rw [List.length_map]; omega), ?_⟩
          walk_at "wp"
          exact ⟨zs ++ [w], _, _, by rw [List.map_append]; rfl, by simp [hz], fun v hv => (List.mem_append.mp hv).elim (hlow v) fun e => by rw [List.mem_singleton] at e; exact e ▸ lw⟩
    · rintro δ ⟨zs, x, y, rfl, hz, hlow⟩
      walk_at "wp"
      exact ⟨zs, rfl, by rw [hz]; simp [rngD], hlow⟩
end K11

-- part K11q
set_option Elab.async false
set_option linter.all false
set_option maxRecDepth 100000
set_option maxHeartbeats 4000000
namespace K11
open PySem PySem.Spec PyProof.Rows L2
def Con (d : D) : Prop := Gd d ∧ vB d = false
theorem con_int (i : Int) : Con (.int i) := ⟨⟨rfl, rfl⟩, rfl⟩
theorem con_low {n : Nat} {z : Str} (h : Low n z) (hn : n ≤ 100) : Con (.str z) := ⟨h.gd hn, h.head⟩
theorem e_constants (c : Int) (n : Nat) (hn : n ≤ 100) : Op (M__law_constants [.int c, .int n]) fun r => ∃ cs : List D, r = .fr (.lst cs) ∧ cs.length = n ∧ ∀ d ∈ cs, Con d := by
  unfold M__law_constants fb__law_constants
  walk_at "wrun"
  walk_at "wp"
  obtain ⟨r, er, zs, rfl, hzl, hzs⟩ := e_names (c / 81) n hn
  refine op_of er ?_
  walk_at "wp"
  refine ⟨Nat.zero_le _, ?_⟩
  walk_at "wp"
  refine ⟨by omega, ?_⟩
  rw [Int.toNat_natCast]
  refine so_forL (fun k δ => ∃ (cs : List D) (x y z : Option Sl), δ = [some (.sh (.int c)), some (.sh (.int n)), some (.sh (.lst (zs.map D.str))), some (.pv (.lst cs)), x, y, z] ∧ cs.length = k ∧ ∀ d ∈ cs, Con d) ⟨[], _, _, _, rfl, rfl, fun z h => nomatch h⟩ ?_ ?_
  · rintro k x hk δ ⟨cs, x, y, z, rfl, hl, hc⟩
    obtain ⟨hkn, rfl⟩ := rng_ix hk
    have hkz : k < zs.length := by omega
    have ek : (zs.map D.str)[k]? = some (.str zs[k]) := by rw [List.getElem?_map, List.getElem?_eq_getElem hkz]; rfl
    have cz : Con (.str zs[k]) := con_low (hzs _ (List.getElem_mem hkz)) (by decide)
    dsimp only [List.set]
    walk_at "wp"
    refine ⟨by show 4 ≤ _; exact sl_big (by decide), ?_⟩
    walk_at "wp"
    refine o_ixLm (Int.emod_nonneg _ (by decide)) (Int.emod_lt_of_pos _ (by decide)) fun d hd => ?_
    obtain ⟨i, rfl⟩ : ∃ i : Int, d = .int i := by
      simp only [List.mem_cons, List.not_mem_nil, or_false] at hd
      rcases hd with rfl | rfl | rfl | rfl <;> exact ⟨_, rfl⟩
    walk_at "wp"
    refine o_ixL ek ?_
    walk_at "wpn"
    refine so_mid (fun δ => ∃ d, Con d ∧ δ = [some (.sh (.int c)), some (.sh (.int n)), some (.sh (.lst (zs.map D.str))), some (.pv (.lst cs)), some (.sh (.int k)), some (.sh (.int (i % 3))), some (.sh d)]) ?_ ?_
    · walk_at "wp"
      refine o_cond (fun _ => ?_) fun _ => ?_
      · walk_at "wp"
        exact ⟨_, con_int _, rfl⟩
      · walk_at "wp"
        exact ⟨_, cz, rfl⟩
    rintro δ ⟨d, cd, rfl⟩
    walk_at "wpn"
    refine so_mid (fun δ => ∃ d, Con d ∧ δ = [some (.sh (.int c)), some (.sh (.int n)), some (.sh (.lst (zs.map D.str))), some (.pv (.lst cs)), some (.sh (.int k)), some (.sh (.int (i % 3))), some (.sh d)]) ?_ ?_
    · walk_at "wp"
      refine o_cond (fun _ => ?_) fun _ => ?_
      · walk_at "wp"
        try refine o_mul (Or.inl ⟨by omega, by omega⟩) ?_
        walk_at "wp"
        exact ⟨_, con_int _, rfl⟩
      · walk_at "wp"
        exact ⟨_, cd, rfl⟩
    rintro δ ⟨d, cd, rfl⟩
    walk_at "wpn"
    refine so_mid (fun δ => ∃ d, Con d ∧ δ = [some (.sh (.int c)), some (.sh (.int n)), some (.sh (.lst (zs.map D.str))), some (.pv (.lst cs)), some (.sh (.int k)), some (.sh (.int (i % 3))), some (.sh d)]) ?_ ?_
    · walk_at "wp"
      refine o_in cd.1.1 (fun x hx => (hc x hx).1.1) fun b hb => ?_
      walk_at "wp"
      refine o_cond' b (fun _ => ?_) fun _ => ?_
      · walk_at "wp"
        refine o_ixL ek ?_
        walk_at "wp"
        exact ⟨_, cz, rfl⟩
      · walk_at "wp"
        exact ⟨_, cd, rfl⟩
    rintro δ ⟨d, cd, rfl⟩
    walk_at "wp"
    refine ⟨sl_lt (by omega), ?_⟩
    walk_at "wp"
    exact ⟨cs ++ [d], _, _, _, rfl, by simp [hl], fun v hv => (List.mem_append.mp hv).elim (hc v) fun e => by rw [List.mem_singleton] at e; exact e ▸ cd⟩
  · rintro δ ⟨cs, x, y, z, rfl, hl, hc⟩
    walk_at "wp"
    exact ⟨cs, rfl, by rw [hl]; simp [rngD], hc⟩
/-- a variable's text -/
structure Vz (n : Nat) (z : Str) : Prop where
  hd : ∃ h cs, z.cps.toList = h :: cs ∧ bigC h = true ∧ cs.length = n
  al : ∀ c ∈ z.cps.toList, (smallC c || (bigC c || figC c)) = true
theorem Vz.len {n : Nat} {z : Str} (h : Vz n z) : z.length = n + 1 := by
  obtain ⟨c, cs, e, _, hl⟩ := h.hd
  have := congrArg List.length e
  rw [Array.length_toList, List.length_cons, hl] at this
  exact this
theorem Vz.head {n : Nat} {z : Str} (h : Vz n z) : headB z = true := by
  obtain ⟨c, cs, e, hb, _⟩ := h.hd
  unfold headB
  rw [e]
  exact hb
theorem Vz.gd {n : Nat} {z : Str} (h : Vz n z) (hn : n ≤ 7) : Gd (.str z) := by
  have hl := h.len
  refine ⟨?_, ?_⟩
  · show (decide (1 ≤ z.length) && decide (z.length ≤ 100)) = true
    rw [decide_eq_true (by omega), decide_eq_true (by omega)]
    rfl
  · show (shortB z && headB z && z.cps.toList.all fun c => smallC c || (bigC c || figC c)) = headB z
    rw [h.head, List.all_eq_true.mpr h.al]
    unfold shortB
    rw [decide_eq_true (by omega), decide_eq_true (by omega)]
    rfl
theorem Vz.one {c : Nat} (h : bigC c = true) : Vz 0 ⟨#[c]⟩ := ⟨⟨c, [], rfl, h, rfl⟩, fun d hd => by
  have : d = c := by simpa using hd
  subst this
  rw [h]; simp⟩
theorem Vz.snoc {n : Nat} {z : Str} {c : Nat} (h : Vz n z) (hc : (smallC c || (bigC c || figC c)) = true) : Vz (n + 1) (z ++ ⟨#[c]⟩) := by
  have e : (z ++ ⟨#[c]⟩ : Str).cps.toList = z.cps.toList ++ [c] := by
    show (z.cps ++ #[c]).toList = _
    rw [Array.toList_append]
  obtain ⟨d, ds, e1, hb, hl⟩ := h.hd
  refine ⟨⟨d, ds ++ [c], by rw [e, e1]; rfl, hb, by simp [hl]⟩, fun x hx => ?_⟩
  rw [e] at hx
  rcases List.mem_append.mp hx with hx | hx
  · exact h.al x hx
  · rw [List.mem_singleton] at hx; exact hx ▸ hc
theorem rng_ixA {a : Int} {n k : Nat} {x : D} (e : (rngD a n)[k]? = some x) : k < n ∧ x = .int (a + k) := by
  have hk : k < n := by
    have := (List.getElem?_eq_some_iff.mp e).1
    simpa [rngD] using this
  unfold rngD at e
  rw [List.getElem?_map, List.getElem?_range hk] at e
  cases e
  exact ⟨hk, rfl⟩
theorem e_variables (c : Int) : Op (M__law_variables [.int c]) fun r => ∃ zs : List Str, r = .fr (.lst (zs.map D.str)) ∧ zs.length = 4 ∧ ∀ z ∈ zs, Gd (.str z) ∧ headB z = true := by
  unfold M__law_variables fb__law_variables
  walk_at "wrun"
  walk_at "wp"
  have h8 : (0 : Int) < 1 + c % 8 := by have := Int.emod_nonneg c (show (8 : Int) ≠ 0 by decide); omega
  have h9 : 1 + c % 8 ≤ 8 := by have := Int.emod_lt_of_pos c (show (0 : Int) < 8 by decide); omega
  try refine o_mod h8 ?_
  walk_at "wp"
  obtain ⟨r, er, xs, rfl, hx⟩ := e_stream (c / 64) 8 (by decide)
  refine op_of er ?_
  walk_at "wp"
  refine ⟨Nat.zero_le _, ?_⟩
  walk_at "wp"
  refine ⟨by decide, ?_⟩
  generalize hs : 1 + c % 8 = s at *
  generalize ha : c / 8 % s = at_
  refine so_forL (fun k δ => ∃ (zs : List Str) (x y w : Option Sl), δ = [some (.sh (.int c)), some (.sh (.str "ABCDEFGHIJKLMNOPQRSTUVWXYZ")), some (.sh (.str "abcdefghijklmnopqrstuvwxyz0123456789ABCDEFGHIJKLMNOPQRSTUVWXYZ")), some (.sh (.int s)), some (.sh (.int at_)), some (.sh (.lst (xs.map D.int))), some (.pv (.lst (zs.map D.str))), x, y, w] ∧ zs.length = k ∧ ∀ z ∈ zs, Gd (.str z) ∧ headB z = true) ⟨[], _, _, _, rfl, rfl, fun z h => nomatch h⟩ ?_ ?_
  · rintro k x hk δ ⟨zs, x, y, w, rfl, hz, hv⟩
    obtain ⟨hkn, rfl⟩ := rng_ix hk
    have hkn : k < 4 := hkn
    dsimp only [List.set]
    walk_at "wp"
    refine o_ixL (k := 0) (x := .int (xs[0]'(by omega))) (by rw [List.getElem?_map, List.getElem?_eq_getElem (by omega)]; rfl) ?_
    walk_at "wp"
    try refine o_mul cmul_b ?_
    walk_at "wp"
    refine o_ixS (by decide +kernel) (Int.emod_nonneg _ (by decide)) (Int.lt_of_lt_of_le (Int.emod_lt_of_pos _ (by decide)) (by decide +kernel)) fun c1 hc1 => ?_
    walk_at "wp"
    refine ⟨by omega, ?_⟩
    refine so_forL (fun j δ => ∃ (z : Str) (w : Option Sl), Vz j z ∧ δ = [some (.sh (.int c)), some (.sh (.str "ABCDEFGHIJKLMNOPQRSTUVWXYZ")), some (.sh (.str "abcdefghijklmnopqrstuvwxyz0123456789ABCDEFGHIJKLMNOPQRSTUVWXYZ")), some (.sh (.int s)), some (.sh (.int at_)), some (.sh (.lst (xs.map D.int))), some (.pv (.lst (zs.map D.str))), some (.sh (.int k)), some (.sh (.str z)), w]) ⟨_, _, Vz.one (AZ_big hc1), rfl⟩ ?_ ?_
    · rintro j x hj δ ⟨z, w, vz, rfl⟩
      obtain ⟨hjn, rfl⟩ := rng_ixA hj
      have hj8 : 1 + j < xs.length := by omega
      dsimp only [List.set]
      walk_at "wp"
      rw [show (1 + (j : Int)) = ((1 + j : Nat) : Int) by omega]
      refine o_ixL (x := .int (xs[1 + j]'hj8)) (by rw [List.getElem?_map, List.getElem?_eq_getElem hj8]; rfl) ?_
      walk_at "wp"
      try refine o_mul cmul_b ?_
      walk_at "wp"
      refine o_ixS (by decide +kernel) (Int.emod_nonneg _ (by decide)) (Int.lt_of_lt_of_le (Int.emod_lt_of_pos _ (by decide)) (by decide +kernel)) fun c2 hc2 => ?_
      refine op_of (add_str (sl_big (by have := vz.len; show _ + 1 ≤ _; omega))) ?_
      walk_at "wp"
      exact ⟨_, _, vz.snoc (all_any hc2), rfl⟩
    · rintro δ ⟨z, w, vz, rfl⟩
      have hn7 : (rngD 1 (s - 1).toNat).length ≤ 7 := by simp only [rngD, List.length_map, List.length_range]; omega
      walk_at "wp"
      refine ⟨sl_lt (by rw [List.length_map]; omega), ?_⟩
      walk_at "wp"
      exact ⟨zs ++ [z], _, _, _, by rw [List.map_append]; rfl, by simp [hz], fun v hv' => (List.mem_append.mp hv').elim (hv v) fun e => by rw [List.mem_singleton] at e; exact e ▸ ⟨vz.gd hn7, vz.head⟩⟩
  · rintro δ ⟨zs, x, y, w, rfl, hz, hv⟩
    walk_at "wp"
    exact ⟨zs, rfl, by rw [hz]; rfl, hv⟩
theorem cut_mem {ds : List D} {lo hi : Option Int} {x : D} (h : x ∈ cutD ds lo hi) : x ∈ ds := List.mem_of_mem_drop (List.mem_of_mem_take h)
theorem cut_len (ds : List D) (lo hi : Option Int) : (cutD ds lo hi).length ≤ ds.length := by
  unfold L2.cutD
  rw [List.length_take, List.length_drop]; omega
theorem o_addT {xs ys : List D} {R : D → Prop} (h : xs.length + ys.length ≤ 1000) (k : R (.tup (xs ++ ys))) : Op (addD (.tup xs) (.tup ys)) R := by
  refine op_of ?_ k
  show (tupAdd (.tup xs) (.tup ys)).or _ = _
  unfold tupAdd
  dsimp only
  rw [if_pos (sl_big h)]
  rfl
theorem o_addL {xs ys : List D} {R : D → Prop} (h : xs.length + ys.length ≤ 1000) (k : R (.lst (xs ++ ys))) : Op (addD (.lst xs) (.lst ys)) R := by
  refine op_of ?_ k
  show lAdd (.lst xs) (.lst ys) = _
  unfold lAdd
  dsimp only
  rw [if_pos (sl_big h)]
theorem e_places {xs : List Int} {ts cs : List D} {vs : List Str} (hx : xs.length = 19) (ht : ∀ t ∈ ts, Gd t) (htl : ts.length ≤ 100) (hc : ∀ d ∈ cs, Con d) (hcl : 1 ≤ cs.length) (hv : ∀ z ∈ vs, Gd (.str z)) (hvl : vs.length = 4) :
    Op (M__law_places [.lst (xs.map D.int), .tup ts, .lst cs, .lst (vs.map D.str)]) fun r => ∃ ps : List D, r = .sh (.tup ps) ∧ ∀ p ∈ ps, Atom p := by
  unfold M__law_places fb__law_places
  walk_at "wrun"
  walk_at "wp"
  refine ⟨sl_big (by rw [List.length_map]; omega), op_compQ (Q := Con) (fun d hd => ?_) fun ds hdl hds => ?_⟩
  · obtain ⟨i, _, rfl⟩ := List.mem_map.mp hd
    walk_at "wp"
    try refine o_mod (by omega) ?_
    exact o_ixLm (Int.emod_nonneg _ (by omega)) (Int.emod_lt_of_pos _ (by omega)) fun x hx => hc x hx
  rw [List.length_map, hx] at hdl
  have gx : ∀ k (h : k < 19), (xs.map D.int)[k]? = some (.int (xs[k]'(by omega))) := fun k h => by rw [List.getElem?_map, List.getElem?_eq_getElem (by omega)]; rfl
  walk_at "wpn"
  refine so_mid (fun δ => ∃ (ps : List D) (x y : Option Sl), (∀ p ∈ ps, Atom p) ∧ ps.length ≤ 100 ∧ δ = [some (.sh (.lst (xs.map D.int))), some (.sh (.tup ts)), some (.sh (.lst cs)), some (.sh (.lst (vs.map D.str))), some (.sh (.lst ds)), some (.sh (.tup ps)), x, y]) ?_ ?_
  · walk_at "wp"
    refine o_ixL (k := 8) (gx 8 (by decide)) ?_
    walk_at "wp"
    refine o_cond (fun _ => ?_) fun _ => ?_
    · walk_at "wp"
      refine ⟨by decide, ?_⟩
      refine so_forL (fun k δ => ∃ (b : Dk) (y : Option Sl) (ps : List D), OkD b ∧ b.2.length ≤ k ∧ δ = [some (.sh (.lst (xs.map D.int))), some (.sh (.tup ts)), some (.sh (.lst cs)), some (.sh (.lst (vs.map D.str))), some (.sh (.lst ds)), some (.sh (.tup ps)), some (.pv (.dic b.1 b.2)), y]) ⟨([], []), _, _, ⟨rfl, List.nodup_nil, fun x h => nomatch h⟩, Nat.le_refl _, rfl⟩ ?_ ?_
      · rintro k x hk δ ⟨b, y, ps, ob, hbl, rfl⟩
        obtain ⟨hkn, rfl⟩ := rng_ix hk
        have hkn : k < 4 := hkn
        dsimp only [List.set]
        walk_at "wp"
        refine o_ixL (List.getElem?_eq_getElem (show k < ds.length by omega)) ?_
        walk_at "wp"
        refine o_ixL (x := .str (vs[k]'(by omega))) (by rw [List.getElem?_map, List.getElem?_eq_getElem (by omega)]; rfl) ?_
        walk_at "wp"
        refine ⟨sl_lt (by omega), ?_⟩
        walk_at "wp"
        exact ⟨put b _ _, _, _, ob.put (hds _ (List.getElem_mem _)).1.1, by have := putVals_le b.1 b.2 (.inr (vs[k]'(by omega))) (ds[k]'(by omega)); show (putVals _ _ _ _).length ≤ _; omega, rfl⟩
      · rintro δ ⟨b, y, ps, ob, hbl, rfl⟩
        walk_at "wp"
        refine ⟨sl_big (by omega), op_compQ (Q := Atom) (fun t hm => ?_) fun ys hyl hys => ?_⟩
        · walk_at "wp"
          refine op_of (d := (get b (kD t)).getD t) (by show (keyD t).bind _ = _; rw [keyD_atom (ht t hm).1]; rfl) ?_
          cases e : get b (kD t) with
          | none => exact (ht t hm).1
          | some y => exact ob.getA e
        · walk_at "wp"
          exact ⟨ys, _, _, hys, by omega, rfl⟩
    · walk_at "wp"
      exact ⟨_, _, _, fun p hp => (hds p (cut_mem hp)).1.1, by have := cut_len ds none (some (ts.length : Int)); omega, rfl⟩
  rintro δ ⟨ps, x, y, hps, hpl, rfl⟩
  walk_at "wpn"
  refine so_mid (fun δ => ∃ (ps : List D) (x y : Option Sl), (∀ p ∈ ps, Atom p) ∧ ps.length ≤ 200 ∧ δ = [some (.sh (.lst (xs.map D.int))), some (.sh (.tup ts)), some (.sh (.lst cs)), some (.sh (.lst (vs.map D.str))), some (.sh (.lst ds)), some (.sh (.tup ps)), x, y]) ?_ ?_
  · walk_at "wp"
    refine o_ixL (k := 9) (gx 9 (by decide)) ?_
    walk_at "wp"
    refine o_cond (fun _ => ?_) fun _ => ?_
    · walk_at "wp"
      refine o_ixL (k := 4) (List.getElem?_eq_getElem (show 4 < ds.length by omega)) ?_
      walk_at "wp"
      refine ⟨sl_big (show 1 ≤ 1000 by decide), ?_⟩
      refine o_addT (by simp only [List.length_cons, List.length_nil]; omega) ?_
      walk_at "wp"
      refine ⟨_, _, _, fun p hp => ?_, ?_, rfl⟩
      · rcases List.mem_append.mp (cut_mem hp) with h | h
        · exact hps p h
        · rw [List.mem_singleton] at h
          exact h ▸ (hds _ (List.getElem_mem _)).1.1
      · have := cut_len (ps ++ [ds[4]'(by omega)]) none (some 4)
        simp only [List.length_append, List.length_cons, List.length_nil] at this
        omega
    · walk_at "wp"
      exact ⟨_, _, _, hps, by omega, rfl⟩
  rintro δ ⟨ps, x, y, hps, hpl, rfl⟩
  walk_at "wp"
  refine o_ixL (k := 9) (gx 9 (by decide)) ?_
  walk_at "wp"
  refine o_cond (fun _ => ?_) fun _ => ?_
  · walk_at "wp"
    exact ⟨_, rfl, fun p hp => hps p (cut_mem hp)⟩
  · walk_at "wp"
    exact ⟨_, rfl, hps⟩
theorem law_true (ns : List Int) (h : ns.length ≤ 63) : M_law [.lst (ns.map D.int)] = some (.sh (.bl true)) := by
  refine Op.eq ?_
  unfold M_law fb_law
  walk_at "wrun"
  walk_at "wp"
  obtain ⟨r0, e0, c0, rfl⟩ := e_cell ns 0 h (by decide)
  refine op_of e0 ?_
  walk_at "wp"
  obtain ⟨r1, e1, c1, rfl⟩ := e_cell ns 1 h (by decide)
  refine op_of e1 ?_
  walk_at "wp"
  obtain ⟨n, hn, hn1, hn2⟩ : ∃ n : Nat, 2 + c1 % 3 = n ∧ 2 ≤ n ∧ n ≤ 4 := ⟨(2 + c1 % 3).toNat, by omega, by omega, by omega⟩
  rw [hn]
  obtain ⟨rc, ec, cs, rfl, hcl, hcs⟩ := e_constants c0 n (by omega)
  refine op_of ec ?_
  walk_at "wp"
  obtain ⟨r2, e2, c2, rfl⟩ := e_cell ns 2 h (by decide)
  refine op_of e2 ?_
  walk_at "wp"
  obtain ⟨rv, ev, vs, rfl, hvl, hvs⟩ := e_variables c2
  refine op_of ev ?_
  walk_at "wp"
  have hm : ∃ m : Nat, (if (if ((ns.map D.int).length : Int) < 23 then ((ns.map D.int).length : Int) else 23) > 7 then (if ((ns.map D.int).length : Int) < 23 then ((ns.map D.int).length : Int) else 23) else 7) = m ∧ m ≤ 23 := by
    refine ⟨(if (if ((ns.map D.int).length : Int) < 23 then ((ns.map D.int).length : Int) else 23) > 7 then (if ((ns.map D.int).length : Int) < 23 then ((ns.map D.int).length : Int) else 23) else 7).toNat, ?_, ?_⟩ <;> split <;> split <;> omega
  obtain ⟨m, em, hm⟩ := hm
  rw [em]
  refine ⟨by omega, ?_⟩
  refine so_forL (fun k δ => ∃ (x3 x4 x5 x6 x7 x8 x9 : Option Sl), δ = [some (.sh (.lst (ns.map D.int))), some (.sh (.lst cs)), some (.sh (.lst (vs.map D.str))), x3, x4, x5, x6, x7, x8, x9]) ⟨_, _, _, _, _, _, _, rfl⟩ ?_ ?_
  · rintro k x hk δ ⟨x3, x4, x5, x6, x7, x8, x9, rfl⟩
    obtain ⟨hkn, rfl⟩ := rng_ixA hk
    rw [show (3 + (k : Int)) = ((3 + k : Nat) : Int) by omega]
    dsimp only [List.set]
    walk_at "wp"
    obtain ⟨r3, e3, c3, rfl⟩ := e_cell ns (3 + k) h (by omega)
    refine op_of e3 ?_
    walk_at "wp"
    obtain ⟨rs, es, xs, rfl, hx⟩ := e_stream c3 19 (by decide)
    refine op_of es ?_
    have gx : ∀ k (h : k < 19), (xs.map D.int)[k]? = some (.int (xs[k]'(by omega))) := fun k h => by rw [List.getElem?_map, List.getElem?_eq_getElem (by omega)]; rfl
    walk_at "wp"
    refine o_ixL (k := 10) (gx 10 (by decide)) ?_
    walk_at "wp"
    generalize hcut : cutD (xs.map D.int) (some 14) (some (14 + xs[10]'(by omega) % 5)) = cut
    have hcl2 : cut.length ≤ 19 := by have := cut_len (xs.map D.int) (some 14) (some (14 + xs[10]'(by omega) % 5)); rw [hcut, List.length_map] at this; omega
    refine ⟨sl_big (by omega), op_compQ (Q := Gd) (fun d hd => ?_) fun ts htl hts => ?_⟩
    · rw [← hcut] at hd
      obtain ⟨i, _, rfl⟩ := List.mem_map.mp (cut_mem hd)
      walk_at "wp"
      refine o_addL (by rw [List.length_map]; omega) ?_
      walk_at "wp"
      try refine o_mod (by omega) ?_
      refine o_ixLm (Int.emod_nonneg _ (by omega)) ?_ fun x hx => ?_
      · have := Int.emod_lt_of_pos i (show (0 : Int) < 4 + cs.length by omega)
        rw [List.length_append, List.length_map]
        omega
      · rcases List.mem_append.mp hx with hx | hx
        · obtain ⟨z, hz, rfl⟩ := List.mem_map.mp hx
          exact (hvs z hz).1
        · exact (hcs x hx).1
    walk_at "wp"
    obtain ⟨rp, epl, ps, rfl, hps⟩ := e_places hx hts (by omega) hcs (by omega) (fun z hz => (hvs z hz).1) hvl
    refine op_of epl ?_
    walk_at "wp"
    refine ⟨by decide, ?_⟩
    refine so_forL (fun j δ => ∃ (b : Dk) (x8 x9 : Option Sl), OkD b ∧ b.2.length ≤ j ∧ (∀ k y, get b k = some y → ∃ z, k = .inr z ∧ headB z = true) ∧ δ = [some (.sh (.lst (ns.map D.int))), some (.sh (.lst cs)), some (.sh (.lst (vs.map D.str))), some (.sh (.int ((3 + k : Nat) : Int))), some (.sh (.lst (xs.map D.int))), some (.sh (.tup ts)), some (.sh (.tup ps)), some (.pv (.dic b.1 b.2)), x8, x9]) ⟨([], []), _, _, ⟨rfl, List.nodup_nil, fun x h => nomatch h⟩, Nat.le_refl _, fun k y h => (by simp [get, valD] at h), rfl⟩ ?_ ?_
    · rintro j x hj δ ⟨b, x8, x9, ob, hbl, hbk, rfl⟩
      obtain ⟨hjn, rfl⟩ := rng_ix hj
      have hjn : j < 4 := hjn
      dsimp only [List.set]
      walk_at "wp"
      refine o_ixL (k := 11) (gx 11 (by decide)) ?_
      walk_at "wp"
      try refine o_div ⟨by omega, by omega⟩ ?_
      walk_at "wp"
      refine o_cond (fun _ => ?_) fun _ => ?_
      · walk_at "wp"
        refine o_ixL (k := 12) (gx 12 (by decide)) ?_
        walk_at "wp"
        try refine o_div ⟨by omega, by omega⟩ ?_
        walk_at "wp"
        try refine o_mod (by omega) ?_
        walk_at "wp"
        refine o_ixLm (Int.emod_nonneg _ (by omega)) (Int.emod_lt_of_pos _ (by omega)) fun d hd => ?_
        walk_at "wp"
        refine o_ixL (x := .str (vs[j]'(by omega))) (by rw [List.getElem?_map, List.getElem?_eq_getElem (by omega)]; rfl) ?_
        walk_at "wp"
        refine ⟨sl_lt (by omega), ?_⟩
        walk_at "wp"
        refine ⟨put b _ _, _, _, ob.put (hcs d hd).1.1, by have := putVals_le b.1 b.2 (.inr (vs[j]'(by omega))) d; show (putVals _ _ _ _).length ≤ _; omega, fun k y hy => ?_, rfl⟩
        rw [get_put ob] at hy
        by_cases ek : Sum.inr (vs[j]'(by omega)) = k
        · exact ⟨_, ek.symm, (hvs _ (List.getElem_mem _)).2⟩
        · rw [if_neg ek] at hy
          exact hbk k y hy
      · walk_at "wp"
        exact ⟨b, _, _, ob, by omega, hbk, rfl⟩
    · rintro δ ⟨b, x8, x9, ob, hbl, hbk, rfl⟩
      have hbl : b.2.length ≤ 4 := hbl
      have er := (e_right ob (by omega) hbk hts hps (by omega)).eq
      have er0 := (e_right (b := ([], [])) (ts := ts) (ps := ps) ⟨rfl, List.nodup_nil, fun x h => nomatch h⟩ (by decide) (fun k y h => (by simp [get, valD] at h)) hts hps (by omega)).eq
      walk_at "wp"
      dsimp only [pubS, List.getElem?_cons_succ, List.getElem?_cons_zero, List.set, Mo.d]
      walk_at "wp"
      refine op_of er ?_
      walk_at "wp"
      refine op_of er0 ?_
      walk_at "wp"
      exact ⟨_, _, _, _, _, _, _, rfl⟩
  · rintro δ ⟨x3, x4, x5, x6, x7, x8, x9, rfl⟩
    walk_at "wp"
    rfl
end K11

-- part K11c
set_option Elab.async false
set_option linter.all false
set_option maxRecDepth 100000
set_option maxHeartbeats 4000000
namespace K11
open PySem PySem.Spec PyProof.Rows L2
theorem all_ok {P : Program} {w : World} {K : PySem.W.Frag} {mg : Str → Option Value} {base : Heap} (T : Txt K mg) {f : Addr} {fd : FuncData} (F : Fun K "law" "law" (top 20) f fd) : FnOk P w K mg base CX0 5 f fd ["_law_script"] (spD K M_law) := by
  have ok_is_small := mk_is_small (P := P) (w := w) (base := base) T 
  have ok_is_big := mk_is_big (P := P) (w := w) (base := base) T 
  have ok_is_figure := mk_is_figure (P := P) (w := w) (base := base) T 
  have ok_is_short_text := mk_is_short_text (P := P) (w := w) (base := base) T 
  have ok_is_variable := mk_is_variable (P := P) (w := w) (base := base) T ok_is_big ok_is_figure ok_is_short_text ok_is_small
  have ok_replaced_by := mk_replaced_by (P := P) (w := w) (base := base) T 
  have ok_met_by := mk_met_by (P := P) (w := w) (base := base) T ok_is_variable
  have ok__law_cell := mk__law_cell (P := P) (w := w) (base := base) T 
  have ok__law_stream := mk__law_stream (P := P) (w := w) (base := base) T 
  have ok__law_names := mk__law_names (P := P) (w := w) (base := base) T ok__law_stream
  have ok__law_constants := mk__law_constants (P := P) (w := w) (base := base) T ok__law_names
  have ok__law_variables := mk__law_variables (P := P) (w := w) (base := base) T ok__law_stream
  have ok__law_free := mk__law_free (P := P) (w := w) (base := base) T 
  have ok__law_due := mk__law_due (P := P) (w := w) (base := base) T ok__law_free
  have ok__law_places := mk__law_places (P := P) (w := w) (base := base) T 
  have ok__law_right := mk__law_right (P := P) (w := w) (base := base) T ok__law_due ok_met_by ok_replaced_by
  exact mk_law T F ok__law_cell ok__law_constants ok__law_places ok__law_right ok__law_stream ok__law_variables
theorem walk {l : PySem.W.OpenLaw} {q : Program} {loose : List Str} {XP : (Str → Option Value) → Heap → Prop} {YP : World → Heap → Prop} {d : DefRec} {K : Params → PySem.W.Frag} (hn : l.most = some 63) (hdf : d.params.defaults = []) (hnm : d.name = "law")
    (hY : ∀ (w : World) (h : Heap), YP w h → (K w.params).In h)
    (F : ∀ (w : World) (mg : Str → Option Value) (h : Heap), (K w.params).In h → h.Ns mainGlobals mg → Txt (K w.params) mg) :
    PySem.W.WalkO q loose XP YP l.row.toRowW d [] (fun f vs => PySem.call f vs) :=
  L2.walk_ofK (n := 63) (k := 5) (x := "_law_script") (CX := CX0) (sp := fun K => spD K M_law) hn (by decide) hdf ⟨rfl, by decide, by decide⟩ hY
    (fun w mg fa h KX G hm => law_at (by rw [← hnm]; exact hm) (F w mg h KX G).d_law (fun _ _ _ _ _ _ _ => rfl) fun f fd base Fn => all_ok (F w mg h KX G) Fn)
    (fun K H a ns hl _ hS => law_sp hS (law_true ns hl)) fun _ _ _ _ z => z
end K11

-- part K11z
open PySem PySem.W PyProof.Rows L2
set_option maxRecDepth 100000 in
set_option maxHeartbeats 0 in
theorem PySem.Challenge.cw_reason_k11_replaced_and_met_holds : PySem.Challenge.rw_reason_k11_replaced_and_met.Holds := by
  w_on; o_law; k_head; (case hw => w_witness2)
  k_fill
  refine K11.walk (l := PySem.Challenge.rw_reason_k11_replaced_and_met) rfl rfl rfl (fun w h Y => PySem.W.kIn_of Y) ?F
  case F =>
    intro w mg h KX G
    refine' K11.Txt.mk (defAt_mk KX G ?a1 ?l1 ?c1 ?k1) (defAt_mk KX G ?a2 ?l2 ?c2 ?k2) (defAt_mk KX G ?a3 ?l3 ?c3 ?k3) (defAt_mk KX G ?a4 ?l4 ?c4 ?k4) (defAt_mk KX G ?a5 ?l5 ?c5 ?k5) (defAt_mk KX G ?a6 ?l6 ?c6 ?k6) (defAt_mk KX G ?a7 ?l7 ?c7 ?k7) (defAt_mk KX G ?a8 ?l8 ?c8 ?k8) (defAt_mk KX G ?a9 ?l9 ?c9 ?k9) (defAt_mk KX G ?a10 ?l10 ?c10 ?k10) (defAt_mk KX G ?a11 ?l11 ?c11 ?k11) (defAt_mk KX G ?a12 ?l12 ?c12 ?k12) (defAt_mk KX G ?a13 ?l13 ?c13 ?k13) (defAt_mk KX G ?a14 ?l14 ?c14 ?k14) (defAt_mk KX G ?a15 ?l15 ?c15 ?k15) (defAt_mk KX G ?a16 ?l16 ?c16 ?k16) (defAt_mk KX G ?a17 ?l17 ?c17 ?k17) (PySem.W.mg_none_of KX G ?z18) (PySem.W.mg_none_of KX G ?z19) (PySem.W.mg_none_of KX G ?z20) (PySem.W.mg_none_of KX G ?z21) (PySem.W.mg_none_of KX G ?z22) (PySem.W.mg_none_of KX G ?z23) (PySem.W.mg_none_of KX G ?z24) (PySem.W.mg_none_of KX G ?z25) (PySem.W.mg_none_of KX G ?z26) (PySem.W.mg_none_of KX G ?z27) (PySem.W.mg_none_of KX G ?z28) tyOk_dict tyOk_int tyOk_str tyOk_tuple (globAt_int KX G ?g29)
    (case a1 => k_is); (case l1 => k_is); (case c1 => k_is); (case k1 => k_is)
    (case a2 => k_is); (case l2 => k_is); (case c2 => k_is); (case k2 => k_is)
    (case a3 => k_is); (case l3 => k_is); (case c3 => k_is); (case k3 => k_is)
    (case a4 => k_is); (case l4 => k_is); (case c4 => k_is); (case k4 => k_is)
    (case a5 => k_is); (case l5 => k_is); (case c5 => k_is); (case k5 => k_is)
    (case a6 => k_is); (case l6 => k_is); (case c6 => k_is); (case k6 => k_is)
    (case a7 => k_is); (case l7 => k_is); (case c7 => k_is); (case k7 => k_is)
    (case a8 => k_is); (case l8 => k_is); (case c8 => k_is); (case k8 => k_is)
    (case a9 => k_is); (case l9 => k_is); (case c9 => k_is); (case k9 => k_is)
    (case a10 => k_is); (case l10 => k_is); (case c10 => k_is); (case k10 => k_is)
    (case a11 => k_is); (case l11 => k_is); (case c11 => k_is); (case k11 => k_is)
    (case a12 => k_is); (case l12 => k_is); (case c12 => k_is); (case k12 => k_is)
    (case a13 => k_is); (case l13 => k_is); (case c13 => k_is); (case k13 => k_is)
    (case a14 => k_is); (case l14 => k_is); (case c14 => k_is); (case k14 => k_is)
    (case a15 => k_is); (case l15 => k_is); (case c15 => k_is); (case k15 => k_is)
    (case a16 => k_is); (case l16 => k_is); (case c16 => k_is); (case k16 => k_is)
    (case a17 => k_is); (case l17 => k_is); (case c17 => k_is); (case k17 => k_is)
    (case z18 => k_is)
    (case z19 => k_is)
    (case z20 => k_is)
    (case z21 => k_is)
    (case z22 => k_is)
    (case z23 => k_is)
    (case z24 => k_is)
    (case z25 => k_is)
    (case z26 => k_is)
    (case z27 => k_is)
    (case z28 => k_is)
    (case g29 => k_is)
