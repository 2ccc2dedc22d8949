import PyProof.Rows.All
import Wide.All
import OpenK.AllK
import Wide.FinOn
import Lean
import PyProof.EqAt
import PyProof.EqKinds
import PyProof.TupleCall
import PyProof.NeKinds
import KE.KEqDict
import KE.KDictLaws
import PyProof.JoinWalk
import PyProof.ZipIter
import PyProof.WalkInts
import PyProof.ListRange
import PyProof.DictWalks
import KE.KSortTup
import PyProof.Rows.IntRules
import PyProof.Rows.StrRules
import PyProof.SetKind
import PyProof.Rows.SetFrom
import PyProof.CollectWalk
import PyProof.FactsAll.set_1
import PyProof.TupleIter
import PyProof.CollectStr
import PyProof.SetRoads
import PyProof.DictKinds
import PyProof.Rows.SortStr
import PyProof.ListMulRoad
import PyProof.FactsAll.subtypes_4
import PySem.Challenge.RW_reason_k58_measures
set_option Elab.async false
set_option linter.all false
set_option maxRecDepth 100000
namespace L2
open PySem PySem.Spec PyProof.Rows
abbrev Key := Sum Int Str
def keyIs : Key → Value → Bool
  | .inl k, v => Value.isInt k v
  | .inr x, v => Value.isStrOf x v
def keyH (w : World) : Key → Int
  | .inl k => hashInt k
  | .inr x => hashStr w x
theorem keyIs_shape : ∀ {k : Key} {v : Value}, keyIs k v = true → (∃ i t, k = Sum.inl i ∧ v = Value.int i t) ∨ (∃ x t, k = Sum.inr x ∧ v = Value.str x t)
  | .inl i, v, h => by
    obtain ⟨t, e⟩ := Value.isInt_shape (k := i) (v := v) h
    exact .inl ⟨i, t, rfl, e⟩
  | .inr x, v, h => by
    obtain ⟨t, e⟩ := Value.isStrOf_shape (x := x) (v := v) h
    exact .inr ⟨x, t, rfl, e⟩
theorem keyIs_int (i : Int) (t : Tok) : keyIs (.inl i) (.int i t) = true := by simp [keyIs, Value.isInt]
theorem keyIs_str (x : Str) (t : Tok) : keyIs (.inr x) (.str x t) = true := by simp [keyIs, Value.isStrOf]
theorem key_ll (a b : Int) : decide ((Sum.inl a : Key) = Sum.inl b) = (a == b) := by
  by_cases e : a = b
  · subst e; simp
  · have h : ¬ (Sum.inl a : Key) = Sum.inl b := fun q => e (Sum.inl.inj q)
    rw [decide_eq_false h]
    exact (beq_eq_false_iff_ne.mpr e).symm
theorem key_rr (a b : Str) : decide ((Sum.inr a : Key) = Sum.inr b) = decide (a = b) := by
  by_cases e : a = b
  · subst e; simp
  · have h : ¬ (Sum.inr a : Key) = Sum.inr b := fun q => e (Sum.inr.inj q)
    rw [decide_eq_false h, decide_eq_false e]
theorem key_lr (a : Int) (b : Str) : decide ((Sum.inl a : Key) = Sum.inr b) = false := decide_eq_false (fun q => nomatch q)
theorem key_rl (a : Str) (b : Int) : decide ((Sum.inr a : Key) = Sum.inl b) = false := decide_eq_false (fun q => nomatch q)
def mixKind (prog : Program) (w : World) : PySem.KeyKind prog w Key where
  is := keyIs
  hash := keyH w
  inj := fun v a b ha hb => by
    rcases keyIs_shape ha with ⟨i, t, rfl, rfl⟩ | ⟨x, t, rfl, rfl⟩
    · rcases keyIs_shape hb with ⟨j, u, rfl, e⟩ | ⟨y, u, rfl, e⟩
      · injection e with e1 _; rw [e1]
      · exact nomatch e
    · rcases keyIs_shape hb with ⟨j, u, rfl, e⟩ | ⟨y, u, rfl, e⟩
      · exact nomatch e
      · injection e with e1 _; rw [e1]
  byValue := fun k v h => by
    rcases keyIs_shape h with ⟨i, t, rfl, rfl⟩ | ⟨x, t, rfl, rfl⟩ <;> rfl
  pyHash := fun hv h => by
    rcases keyIs_shape hv with ⟨i, t, rfl, rfl⟩ | ⟨x, t, rfl, rfl⟩
    · exact wpAny_pyHash_int h
    · exact wpAny_pyHash_str h
  eqBool := fun hu hv h => by
    rcases keyIs_shape hu with ⟨i, t, rfl, rfl⟩ | ⟨x, t, rfl, rfl⟩
    · rcases keyIs_shape hv with ⟨j, u, rfl, rfl⟩ | ⟨y, u, rfl, rfl⟩
      · rw [key_ll] at h; exact wpAny_eqBool_int h
      · rw [key_lr] at h; exact SeqAt.EqAt.int_str i t y u _ _ _ _ h
    · rcases keyIs_shape hv with ⟨j, u, rfl, rfl⟩ | ⟨y, u, rfl, rfl⟩
      · rw [key_rl] at h; exact SeqAt.EqAt.str_int x t j u _ _ _ _ h
      · rw [key_rr] at h; exact wpAny_eqBool_str h
  «strs» := fun k x t v h => by
    rcases keyIs_shape h with ⟨i, u, rfl, e⟩ | ⟨y, u, rfl, e⟩
    · exact nomatch e
    · injection e with e1 _
      subst e1
      cases v <;> rfl
theorem mixKind_int (prog : Program) (w : World) (i : Int) (t : Tok) : (mixKind prog w).is (.inl i) (.int i t) = true := keyIs_int i t
theorem mixKind_str (prog : Program) (w : World) (x : Str) (t : Tok) : (mixKind prog w).is (.inr x) (.str x t) = true := keyIs_str x t
end L2
namespace L2
open PySem PySem.Spec PyProof.Rows
inductive V where
  | non | bl (b : Bool) | int (i : Int) | str (x : Str) | byt (b : Array UInt8) | flt (b : UInt64) | ref (a : Addr) | ty (n : String)
  deriving DecidableEq
def RelV : V → Value → Prop
  | .non, u => u = Value.none
  | .bl b, u => u = Value.bool b
  | .int i, u => ∃ t, u = Value.int i t
  | .str x, u => ∃ t, u = Value.str x t
  | .byt b, u => ∃ t, u = Value.bytes b t
  | .flt b, u => ∃ t, u = Value.float b t
  | .ref a, u => u = Value.ref a
  | .ty n, u => u = Value.type n
abbrev Vals : List V → List Value → Prop := Paired RelV
theorem Vals.length {xs : List V} {us : List Value} (r : Vals xs us) : xs.length = us.length := Paired.length r
theorem Vals.get : ∀ {xs : List V} {us : List Value} {i : Nat} {x : V}, Vals xs us → xs[i]? = some x → ∃ u, us[i]? = some u ∧ RelV x u
  | _, _, _, _, .nil, e => by simp at e
  | _, _, 0, _, .cons r _, e => by simp at e; subst e; exact ⟨_, rfl, r⟩
  | _, _, i + 1, x, .cons _ t, e => by
    obtain ⟨u, h1, h2⟩ := Vals.get (i := i) (x := x) t (by simpa using e)
    exact ⟨u, by simpa using h1, h2⟩
theorem Vals.append : ∀ {xs ys : List V} {us ws : List Value}, Vals xs us → Vals ys ws → Vals (xs ++ ys) (us ++ ws)
  | _, _, _, _, .nil, s => s
  | _, _, _, _, .cons r t, s => .cons r (Vals.append t s)
def RelO : Option V → Option Value → Prop
  | some v, some u => RelV v u
  | none, none => True
  | _, _ => False
def KV {κ : Type} : List (κ × V) → List (κ × Value) → Prop := Paired fun (p : κ × V) (q : κ × Value) => p.1 = q.1 ∧ RelV p.2 q.2
def kV : Key → V
  | .inl i => .int i
  | .inr x => .str x
inductive HO where
  /-- a list -/
  | lst (xs : List V)
  /-- a tuple (never changes) -/
  | tup (xs : List V)
  /-- a dict whose keys are ints and texts; one whose keys are tuples of ints and texts (the empty one is both) -/
  | dK (kvs : List (Key × V)) | dT (kvs : List (List Key × V))
  /-- a set of ints: its members, its size -/
  | set (S : Int → Bool) (n : Nat)
  /-- an instance of the class at C, its dict at dx, its attributes -/
  | ins (C dx : Addr) (fs : List (Str × V))
  /-- the dict of the instance at x -/
  | own (x : Addr)
  /-- the dict of an exception -/
  | xd (fs : List (Str × V))
  /-- a bound method, f of x -/
  | met (f x : Addr)
  /-- a range object lo, lo + 1, .. below hi -/
  | rng (lo hi : Int)
  /-- a thing that is known to the object (the script; a dict while a loop walks it): read, never written while it is so -/
  | frz (o : Obj) (u : HO)
  /-- a code object's table -/
  | tbl (ps : Array Value)
  /-- any other thing, by what is true of its one object (a def of one's own: SetO a S n := HO.ext fun h => ..) -/
  | ext (φ : Heap → Prop)
abbrev Hp := Addr → Option HO
def upd (H : Hp) (a : Addr) (o : HO) : Hp := fun b => if b = a then some o else H b
theorem upd_same {H : Hp} {a : Addr} {o : HO} : upd H a o a = some o := by unfold upd; rw [if_pos rfl]
theorem upd_ne {H : Hp} {a b : Addr} {o : HO} (h : b ≠ a) : upd H a o b = H b := by unfold upd; rw [if_neg h]
theorem upd_upd {H : Hp} {a : Addr} {o u : HO} : upd (upd H a o) a u = upd H a u := by
  funext b; unfold upd; split <;> rfl
theorem ne_of_none {H : Hp} {a b : Addr} {o : HO} (h : H a = some o) (h' : H b = none) : a ≠ b := by
  intro e; subst e; rw [h] at h'; cases h'
section
variable (P : Program) (w : World)
def ObjOk (H : Hp) (h : Heap) (a : Addr) : HO → Prop
  | .lst xs => xs.length ≤ sizeLine ∧ ∃ (its : List Value) (n : Nat), Vals xs its ∧ h.get? a = some { cls := .type "list", data := .seq its.toArray n }
  | .tup xs => xs.length ≤ sizeLine ∧ ∃ its : List Value, Vals xs its ∧ IsTup h a its.toArray
  | .dK kvs => kvs.length ≤ sizeLine ∧ (a == sysModules) = false ∧ ∃ vs, KV kvs vs ∧ h.DictOf (mixKind P w) a vs
  | .dT kvs => kvs.length ≤ sizeLine ∧ (a == sysModules) = false ∧ ∃ xs : List (List Key × Addr × Value),
      Paired (fun (p : List Key × V) (q : List Key × Addr × Value) => p.1 = q.1 ∧ H q.2.1 = some (.tup (p.1.map kV)) ∧ RelV p.2 q.2.2) kvs xs ∧
      ∃ o es ep, h.get? a = some o ∧ o.ExactDict ∧ o.data = .dict es ep ∧ es.toList = xs.map (entryOfKey (tupleKind (mixKind P w))) ∧ (xs.map (·.1)).Nodup
  | .set S n => h.SetOf (intKind P w) a S n
  | .ins C dx fs => H dx = some (.own a) ∧ fs.length ≤ 1000 ∧ dx ≠ a ∧ h.get? a = some (PySem.W.instObj C dx) ∧
      ∃ mA, h.Ns1 dx mA ∧ (∀ f, RelO (fs.lookup f) (mA f)) ∧ PySem.Within mA (fs.map (·.1))
  | .own _ => ∃ o, h.get? a = some o
  | .xd fs => ∃ mA, h.Ns1 a mA ∧ ∀ f, RelO (fs.lookup f) (mA f)
  | .rng lo hi => ∃ t u v, h.get? a = some { cls := .type "range", data := .fields #[.int lo t, .int hi u, .int 1 v] }
  | .frz o u => h.get? a = some o ∧ ObjOk H h a u
  | .tbl ps => h.get? a = some { cls := .none, data := .fields ps }
  | .met f x => h.get? a = some (PySem.W.methodObj (.ref f) (.ref x))
  | .ext φ => φ h ∧ (∃ o, h.get? a = some o) ∧ ∀ h1 h2 : Heap, φ h1 → (∀ o, h1.get? a = some o → h2.get? a = some o) → φ h2
def HOk (H : Hp) (h : Heap) : Prop := ∀ a o, H a = some o → ObjOk P w H h a o
end
section
variable {P : Program} {w : World} {H H' : Hp} {h h' : Heap} {a : Addr} {o : HO}
theorem ObjOk.lt (x : ObjOk P w H h a o) : a < h.objs.size := by
  cases o with
  | lst xs => obtain ⟨_, _, _, _, e⟩ := x; exact Heap.lt_size e
  | tup xs => obtain ⟨_, _, _, p⟩ := x; exact p.lt
  | dK kvs => obtain ⟨_, _, _, _, o, _, _, e, _⟩ := x; exact Heap.lt_size e
  | dT kvs => obtain ⟨_, _, _, _, o, _, _, e, _⟩ := x; exact Heap.lt_size e
  | set S n => obtain ⟨o, _, _, _, e, _⟩ := x; exact Heap.lt_size e
  | ins C dx fs => obtain ⟨_, _, _, e, _⟩ := x; exact Heap.lt_size e
  | own y => obtain ⟨_, e⟩ := x; exact Heap.lt_size e
  | xd fs => obtain ⟨_, ⟨_, _, _, e, _⟩, _⟩ := x; exact Heap.lt_size e
  | rng lo hi => obtain ⟨_, _, _, e⟩ := x; exact Heap.lt_size e
  | frz ob u => obtain ⟨e, _⟩ := x; exact Heap.lt_size e
  | tbl ps => exact Heap.lt_size (show h.get? a = some _ from x)
  | met f y => exact Heap.lt_size (show h.get? a = some _ from x)
  | ext φ => obtain ⟨_, ⟨_, e⟩, _⟩ := x; exact Heap.lt_size e
theorem Paired.mapP {α β : Type} {F G : α → β → Prop} : ∀ {l₁ : List α} {l₂ : List β}, Paired F l₁ l₂ → (∀ a b, F a b → G a b) → Paired G l₁ l₂
  | _, _, .nil, _ => .nil
  | _, _, .cons r t, f => .cons (f _ _ r) (Paired.mapP t f)
theorem ObjOk.stay (x : ObjOk P w H h a o) (k : ∀ b u, (b = a ∨ H b = some (.own a)) → h.get? b = some u → h'.get? b = some u)
    (ho : ∀ b, H b = some (.own a) → H' b = some (.own a)) (ht : ∀ b xs, H b = some (.tup xs) → H' b = some (.tup xs)) : ObjOk P w H' h' a o := by
  induction o with
  | lst xs => obtain ⟨z, its, n, r, e⟩ := x; exact ⟨z, its, n, r, k _ _ (.inl rfl) e⟩
  | tup xs => obtain ⟨z, its, r, ob, e, c⟩ := x; exact ⟨z, its, r, ob, k _ _ (.inl rfl) e, c⟩
  | dK kvs => obtain ⟨z, y, vs, r, ob, es, ep, e, c⟩ := x; exact ⟨z, y, vs, r, ob, es, ep, k _ _ (.inl rfl) e, c⟩
  | dT kvs =>
    obtain ⟨z, y, xs, r, ob, es, ep, e, c⟩ := x
    exact ⟨z, y, xs, Paired.mapP r fun p q z => ⟨z.1, ht _ _ z.2.1, z.2.2⟩, ob, es, ep, k _ _ (.inl rfl) e, c⟩
  | set S n => obtain ⟨ob, es, ep, t, e, c⟩ := x; exact ⟨ob, es, ep, t, k _ _ (.inl rfl) e, c⟩
  | ins C dx fs =>
    obtain ⟨d, z, ne, e, mA, ⟨od, es, ep, e2, c⟩, r⟩ := x
    exact ⟨ho _ d, z, ne, k _ _ (.inl rfl) e, mA, ⟨od, es, ep, k _ _ (.inr d) e2, c⟩, r⟩
  | own y => obtain ⟨ob, e⟩ := x; exact ⟨ob, k _ _ (.inl rfl) e⟩
  | xd fs => obtain ⟨mA, ⟨od, es, ep, e, c⟩, r⟩ := x; exact ⟨mA, ⟨od, es, ep, k _ _ (.inl rfl) e, c⟩, r⟩
  | rng lo hi => obtain ⟨t, u, v, e⟩ := x; exact ⟨t, u, v, k _ _ (.inl rfl) e⟩
  | frz ob u ih => obtain ⟨e, q⟩ := x; exact ⟨k _ _ (.inl rfl) e, ih q⟩
  | tbl ps =>
    have e : h.get? a = some { cls := .none, data := .fields ps } := x
    show h'.get? a = some { cls := .none, data := .fields ps }
    exact k a _ (.inl rfl) e
  | met f y =>
    have e : h.get? a = some (PySem.W.methodObj (.ref f) (.ref y)) := x
    show h'.get? a = some (PySem.W.methodObj (.ref f) (.ref y))
    exact k a _ (.inl rfl) e
  | ext φ => obtain ⟨p, ⟨o, e⟩, st⟩ := x; exact ⟨st _ _ p fun o q => k _ _ (.inl rfl) q, ⟨o, k _ _ (.inl rfl) e⟩, st⟩
theorem HOk.lt (x : HOk P w H h) (e : H a = some o) : a < h.objs.size := (x a o e).lt
theorem HOk.fresh (x : HOk P w H h) (e : h.objs.size ≤ a) : H a = none := by
  cases q : H a with
  | none => rfl
  | some u => exact absurd (Nat.lt_of_lt_of_le (x.lt q) e) (Nat.lt_irrefl _)
theorem HOk.kept (x : HOk P w H h) (k : ∀ b u, h.get? b = some u → h'.get? b = some u) : HOk P w H h' := fun a o e =>
  (x a o e).stay (fun b u _ q => k b u q) (fun _ q => q) fun _ _ q => q
theorem HOk.laid (x : HOk P w H h) (k : ∀ b u, h.get? b = some u → h'.get? b = some u) (hp : h.objs.size ≤ a) (new : ObjOk P w (upd H a o) h' a o) : HOk P w (upd H a o) h' := fun b u e => by
  have hn := x.fresh hp
  by_cases hb : b = a
  · subst hb; rw [upd_same] at e; cases e; exact new
  · rw [upd_ne hb] at e
    exact (x b u e).stay (fun c v _ q => k c v q) (fun c q => by rw [upd_ne (ne_of_none q hn)]; exact q) fun c xs q => by rw [upd_ne (ne_of_none q hn)]; exact q
end
def Rd (H : Hp) (a : Addr) (u : HO) : Prop := H a = some u ∨ ∃ o, H a = some (.frz o u)
theorem Rd.ok {P : Program} {w : World} {H : Hp} {h : Heap} {a : Addr} {u : HO} (r : Rd H a u) (x : HOk P w H h) : ObjOk P w H h a u := by
  rcases r with r | ⟨o, r⟩
  · exact x a u r
  · obtain ⟨_, q⟩ := x a _ r
    exact q
def Mut : Option HO → Prop
  | some (.lst _) => True
  | some (.dK _) => True
  | some (.dT _) => True
  | some (.set _ _) => True
  | some (.ins _ _ _) => True
  | some (.ext _) => True
  | _ => False
section
variable {P : Program} {w : World} {H : Hp} {h h' : Heap} {x e : Addr} {o' : HO}
theorem HOk.write (ok : HOk P w H h) (mu : Mut (H x)) (he : e = x ∨ H e = some (.own x)) (k : ∀ b u, b ≠ e → h.get? b = some u → h'.get? b = some u) (heo : ∃ u, h'.get? e = some u)
    (new : ObjOk P w (upd H x o') h' x o') : HOk P w (upd H x o') h' := fun b u q => by
  have nown : ∀ c y, H c = some (.own y) → c ≠ x := fun c y r z => by subst z; rw [r] at mu; exact mu
  have ntup : ∀ c xs, H c = some (.tup xs) → c ≠ x := fun c xs r z => by subst z; rw [r] at mu; exact mu
  by_cases hb : b = x
  · subst hb; rw [upd_same] at q; cases q; exact new
  · rw [upd_ne hb] at q
    by_cases hbe : b = e
    · have q' : H b = some (.own x) := by
        rcases he with z | z
        · exact absurd (hbe.trans z) hb
        · rw [hbe]; exact z
      rw [q] at q'; cases q'
      obtain ⟨v, hv⟩ := heo
      exact ⟨v, by rw [hbe]; exact hv⟩
    · refine (ok b u q).stay (fun c v hc r => k c v ?_ r) (fun c r => by rw [upd_ne (nown c b r)]; exact r) fun c xs r => by rw [upd_ne (ntup c xs r)]; exact r
      rcases hc with rfl | hc
      · exact hbe
      · rintro rfl
        rcases he with z | z
        · exact nown c b hc z
        · rw [hc] at z; cases z; exact hb rfl
end
structure Un (fs ex : List Addr) (H H' : Hp) (h h' : Heap) : Prop where
  keep : ∀ b o, h.get? b = some o → H b = none → b ∉ fs → b ∉ ex → h'.get? b = some o
  slot : ∀ b o, h.get? b = some o → H b = none → b ∈ fs → b ∉ ex → ∃ sl, h'.get? b = some { o with slots := sl }
  free : ∀ b o, h.get? b = some o → H b = none → b ∉ ex → H' b = none
  there : ∀ b o, h.get? b = some o → b ∉ ex → ∃ o', h'.get? b = some o'
  tups : ∀ b xs, H b = some (.tup xs) → H' b = some (.tup xs)
  frzs : ∀ b o u, H b = some (.frz o u) → H' b = some (.frz o u)
  tbls : ∀ b ps, H b = some (.tbl ps) → ∃ more, H' b = some (.tbl (ps ++ more))
section
variable {fs fs' ex ex' : List Addr} {H H1 H2 : Hp} {h h1 h2 h' : Heap} {a x e : Addr} {o : HO}
theorem Un.any (u : Un fs ex H H1 h h1) {b : Addr} {ob : Obj} (q : h.get? b = some ob) (n : H b = none) (hx : b ∉ ex) : ∃ sl, h1.get? b = some { ob with slots := sl } := by
  by_cases hb : b ∈ fs
  · exact u.slot b ob q n hb hx
  · exact ⟨ob.slots, u.keep b ob q n hb hx⟩
theorem Un.kept (k : ∀ b u, h.get? b = some u → h'.get? b = some u) : Un fs ex H H h h' :=
  ⟨fun b ob q _ _ _ => k b ob q, fun b ob q _ _ _ => ⟨ob.slots, k b ob q⟩, fun _ _ _ n _ => n, fun b ob q _ => ⟨ob, k b ob q⟩, fun _ _ q => q, fun _ _ _ q => q, fun _ ps q => ⟨#[], by rw [q]; simp⟩⟩
theorem Un.refl : Un fs ex H H h h := Un.kept fun _ _ q => q
theorem Un.laid (k : ∀ b u, h.get? b = some u → h'.get? b = some u) (hp : h.objs.size ≤ a) (hn : H a = none) : Un fs ex H (upd H a o) h h' where
  keep := fun b u q _ _ _ => k b u q
  slot := fun b u q _ _ _ => ⟨u.slots, k b u q⟩
  free := fun b u q n _ => by rw [upd_ne (Nat.ne_of_lt (Nat.lt_of_lt_of_le (Heap.lt_size q) hp))]; exact n
  there := fun b u q _ => ⟨u, k b u q⟩
  tups := fun b xs q => by rw [upd_ne (ne_of_none q hn)]; exact q
  frzs := fun b u xs q => by rw [upd_ne (ne_of_none q hn)]; exact q
  tbls := fun b ps q => ⟨#[], by rw [upd_ne (ne_of_none q hn), q]; simp⟩
theorem Un.write (mu : Mut (H x)) (he : e = x ∨ H e = some (.own x)) (k : ∀ b u, b ≠ e → h.get? b = some u → h'.get? b = some u) (heo : ∃ u, h'.get? e = some u) : Un fs ex H (upd H x o) h h' := by
  have hx : ∀ b, H b = none → b ≠ x := fun b n z => by subst z; rw [n] at mu; exact mu
  have hb : ∀ b, H b = none → b ≠ e := fun b n z => by
    subst z
    rcases he with r | r
    · exact hx b n r
    · rw [n] at r; cases r
  have hm : ∀ b u, H b = some u → ¬ Mut (some u) → b ≠ x := fun b u q nm z => by subst z; rw [q] at mu; exact nm mu
  refine ⟨fun b u q n _ _ => k b u (hb b n) q, fun b u q n _ _ => ⟨u.slots, k b u (hb b n) q⟩, fun b u q n _ => by rw [upd_ne (hx b n)]; exact n, fun b u q _ => ?_,
    fun b xs q => by rw [upd_ne (hm b _ q fun z => z)]; exact q, fun b u xs q => by rw [upd_ne (hm b _ q fun z => z)]; exact q, fun b ps q => ⟨#[], by rw [upd_ne (hm b _ q fun z => z), q]; simp⟩⟩
  by_cases hbe : b = e
  · subst hbe; exact heo
  · exact ⟨u, k b u hbe q⟩
end
def trk (h : Heap) (H : Hp) : List Addr := (List.range h.objs.size).filter fun a => (H a).isSome
def hidT (h : Heap) (H : Hp) : Heap := PySem.W.hideAll h (trk h H)
theorem hidT_size (h : Heap) (H : Hp) : (hidT h H).objs.size = h.objs.size := PySem.W.hideAll_size _ _
theorem hidT_get {h : Heap} {H : Hp} {b : Addr} {o : Obj} (e : h.get? b = some o) (n : H b = none) : (hidT h H).get? b = some o :=
  PySem.W.hideAll_get _ e fun hm => by
    have q : (H b).isSome = true := (List.mem_filter.mp hm).2
    rw [n] at q; simp at q
theorem of_hidT {h : Heap} {H : Hp} {b : Addr} {o : Obj} (e : (hidT h H).get? b = some o) : h.get? b = some o ∧ H b = none := by
  have e' : h.get? b = some o := PySem.W.of_hideAll (trk h H) e
  refine ⟨e', ?_⟩
  cases q : H b with
  | none => rfl
  | some x =>
    have hm : b ∈ trk h H := List.mem_filter.mpr ⟨List.mem_range.mpr (Heap.lt_size e'), by simp [q]⟩
    have z : (hidT h H).get? b = none := PySem.W.hideAll_none (trk h H) hm
    rw [z] at e; cases e
def allNews (g h : Heap) (L : Addr) : List (Addr × Obj) := (List.range h.objs.size).filterMap fun a => if a = L ∨ (g.get? a).isSome = true then none else (h.get? a).map fun o => (a, o)
def rest (g h : Heap) (L d : Addr) : List (Addr × Obj) := (allNews g h L).filter fun p => decide (p.1 ≠ d)
end L2
namespace L2
open PySem PySem.Spec PyProof.Rows
structure Mod (K : PySem.W.Frag) (mg : Str → Option Value) (base : Heap) : Prop where
  kin : K.In base
  glob : base.Ns mainGlobals mg
  blt : ∃ mb, base.Ns builtinsNs mb ∧ ∀ x : Str, x ≠ "__name__" → mb x = bootBuiltins x
  nolimit : base.NoLimit
structure Cx where
  prog : Program
  w : World
  K : PySem.W.Frag
  mg : Str → Option Value
  base : Heap
  A : Around
  N : List Str
  s₀ : Shared
  H₀ : Hp
  env : Env
  outer : List Env
  stack : List Env
  ex : List Addr
  fn : Str → Bool
  calm : Bool
  pn : List (Addr × Obj)
  xe : Value → Shared → Prop
def frs (l : List Env) : List Addr := l.filterMap (·.frame)
abbrev Cx.fs (X : Cx) : List Addr := frs X.outer
def Vis (sc : Scope) (x : Str) : Prop := sc.names.lookup x = some .local ∨ sc.names.lookup x = some .cell ∨ sc.names.lookup x = some .free
def Loc (sc : Scope) (x : Str) : Prop := sc.names.lookup x = some .local ∨ sc.names.lookup x = some .cell
def Look (env : Env) (h : Heap) (m : Str → Option Value) (x : Str) (u : Value) : Prop :=
  (env.kindOf x = some .local ∧ m x = some u) ∨ ((env.kindOf x = some .cell ∨ env.kindOf x = some .free) ∧ ∃ c, env.cells.lookup x = some c ∧ h.IsCell c (some u))
structure Cx.Ok (X : Cx) : Prop where
  mod : Mod X.K X.mg X.base
  kind : X.env.scope.kind = .function
  glob : X.env.globals = mainGlobals
  blt : X.env.builtins = builtinsNs
  above : X.s₀.heap.objs.size ≤ X.env.locals
  inj : ∀ x y c, X.env.cells.lookup x = some c → X.env.cells.lookup y = some c → x = y
  has : ∀ x, (X.env.kindOf x = some .cell ∨ X.env.kindOf x = some .free) → ∃ c, X.env.cells.lookup x = some c
  cab : ∀ x c, X.fn x = true → X.env.cells.lookup x = some c → X.s₀.heap.objs.size ≤ c
  hd : X.calm = true → X.A.handled = none
  frames : X.A.frames = some X.stack
  stk : X.stack = X.outer ∨ (X.stack = X.env :: X.outer ∧ X.env.frame = some X.env.locals)
  exf : ∀ b ∈ X.ex, b ≠ X.env.locals ∧ ∀ x c, X.env.cells.lookup x = some c → c ≠ b
  bs : ∀ b o, X.base.get? b = some o → X.s₀.heap.get? b = some o ∧ X.H₀ b = none
  bsz : X.base.objs.size ≤ X.s₀.heap.objs.size
  noex : ∀ b o, X.base.get? b = some o → b ∉ X.ex
  exfs : ∀ b ∈ X.ex, b ∉ X.fs
  funs : X.s₀.heap.FunFrames X.base X.outer
  frf : ∀ b ∈ X.fs, X.H₀ b = none
structure Inv (X : Cx) (pins : List (Addr × Obj)) (σ : List (Option V)) (H : Hp) (s : Shared) : Prop where
  ok : X.Ok
  os : s.os = X.s₀.os
  bare : AllBare s.gens
  base : Un X.fs X.ex X.H₀ H X.s₀.heap s.heap
  loc : ∃ m, s.heap.Ns X.env.locals m ∧ ∀ (i : Nat) (x : Str) (v : V), X.N[i]? = some x → σ[i]? = some (some v) → Vis X.env.scope x → ∃ u, RelV v u ∧ Look X.env s.heap m x u
  cell : ∀ x c, X.env.cells.lookup x = some c → ∃ v, s.heap.IsCell c v
  free : H X.env.locals = none
  freeC : ∀ x c, X.env.cells.lookup x = some c → H c = none
  pin : ∀ p ∈ X.pn ++ pins, s.heap.get? p.1 = some p.2 ∧ H p.1 = none ∧ p.1 ≠ X.env.locals ∧ p.1 ∉ X.fs ∧ ∀ v, p.2.data ≠ .cell v
  hok : HOk X.prog X.w H s.heap
  len : σ.length = X.N.length
section
variable {X : Cx} {pins : List (Addr × Obj)} {σ : List (Option V)} {H H' : Hp} {s : Shared} {h' : Heap}
theorem Cx.Ok.nofr (ok : X.Ok) {b : Addr} {o : Obj} (e : X.base.get? b = some o) : b ∉ X.fs := fun hb => by
  have := (ok.funs.mem hb).1
  rw [e] at this; cases this
theorem Inv.bs (I : Inv X pins σ H s) : ∀ b o, X.base.get? b = some o → s.heap.get? b = some o ∧ H b = none := fun b o e =>
  ⟨I.base.keep b o (I.ok.bs b o e).1 (I.ok.bs b o e).2 (I.ok.nofr e) (I.ok.noex b o e), I.base.free b o (I.ok.bs b o e).1 (I.ok.bs b o e).2 (I.ok.noex b o e)⟩
theorem Inv.bk (I : Inv X pins σ H s) : ∀ b o, X.base.get? b = some o → s.heap.get? b = some o := fun b o e => (I.bs b o e).1
theorem Inv.mod (I : Inv X pins σ H s) : Mod X.K X.mg X.base := I.ok.mod
theorem Inv.kIn (I : Inv X pins σ H s) : X.K.In s.heap := I.ok.mod.kin.keeps I.bk
theorem Inv.lt (I : Inv X pins σ H s) : X.env.locals < s.heap.objs.size := let ⟨_, hn, _⟩ := I.loc; hn.lt
theorem Inv.sz (I : Inv X pins σ H s) : X.s₀.heap.objs.size ≤ s.heap.objs.size := Nat.le_trans I.ok.above (Nat.le_of_lt I.lt)
theorem Inv.nofs (I : Inv X pins σ H s) {a : Addr} (h : s.heap.objs.size ≤ a) : a ∉ X.fs := fun hb => by
  obtain ⟨_, o, ho, _⟩ := I.ok.funs.mem hb
  exact absurd (Nat.lt_of_lt_of_le (Heap.lt_size ho) (Nat.le_trans I.sz h)) (Nat.lt_irrefl _)
theorem Inv.cne (I : Inv X pins σ H s) : ∀ x c, X.env.cells.lookup x = some c → c ≠ X.env.locals := fun x c e z => by
  obtain ⟨v, o, ho, hd⟩ := I.cell x c e
  obtain ⟨m, ⟨o', es, ep, ho', hd', _⟩, _⟩ := I.loc
  rw [z, ho'] at ho; cases ho; rw [hd'] at hd; cases hd
theorem Inv.funs (I : Inv X pins σ H s) : s.heap.FunFrames X.base X.outer := by
  have all : ∀ (l : List Env), (∀ b ∈ frs l, b ∈ X.fs) → X.s₀.heap.FunFrames X.base l → s.heap.FunFrames X.base l := by
    intro l
    induction l with
    | nil => intro _ _; trivial
    | cons env r ih =>
      intro hs hl
      obtain ⟨hk, ⟨L, o, hf, hn, ho, hd⟩, hr⟩ := hl
      have hL : L ∈ X.fs := hs L (by unfold frs; rw [List.filterMap_cons, hf]; exact List.mem_cons_self)
      obtain ⟨sl, e⟩ := I.base.slot L o ho (I.ok.frf L hL) hL fun z => I.ok.exfs L z hL
      exact ⟨hk, ⟨L, _, hf, hn, e, hd⟩, ih (fun b hb => hs b (by unfold frs; rw [List.filterMap_cons, hf]; exact List.mem_cons_of_mem _ hb)) hr⟩
  exact all X.outer (fun _ hb => hb) I.ok.funs
theorem Inv.stack (I : Inv X pins σ H s) : s.heap.FunFrames X.base X.stack := by
  rcases I.ok.stk with e | ⟨e, hf⟩
  · rw [e]; exact I.funs
  · rw [e]
    obtain ⟨m, hn, _⟩ := I.loc
    refine .cons (by rw [I.ok.kind]; decide) hf hn ?_ I.funs
    exact Heap.get?_none_of_le (Nat.le_trans I.ok.bsz I.ok.above)
theorem Inv.stkSub (I : Inv X pins σ H s) : ∀ b ∈ frs X.stack, b ∈ X.env.locals :: X.fs := fun b hb => by
  rcases I.ok.stk with e | ⟨e, hf⟩
  · rw [e] at hb; exact List.mem_cons_of_mem _ hb
  · rw [e] at hb
    unfold frs at hb
    rw [List.filterMap_cons, hf] at hb
    exact hb
theorem Inv.stkFree (I : Inv X pins σ H s) : ∀ b ∈ frs X.stack, H b = none := fun b hb => by
  rcases List.mem_cons.mp (I.stkSub b hb) with e | hb
  · rw [e]; exact I.free
  · obtain ⟨_, o, ho, _⟩ := I.ok.funs.mem hb
    exact I.base.free b o ho (I.ok.frf b hb) fun z => I.ok.exfs b z hb
theorem Inv.step {g' : Array GenState} {t' : Nat} {d' : Drawn} {ch : List Addr} (I : Inv X pins σ H s)
    (hch : ∀ b ∈ ch, (b ∈ X.ex ∨ X.s₀.heap.objs.size ≤ b) ∧ b ≠ X.env.locals ∧ (∀ x c, X.env.cells.lookup x = some c → c ≠ b) ∧ ∀ p ∈ X.pn ++ pins, p.1 ≠ b)
    (keep : ∀ b o, b ≠ X.env.locals → b ∉ X.fs → b ∉ ch → s.heap.get? b = some o → H b = none → h'.get? b = some o)
    (slot : ∀ b o, b ≠ X.env.locals → b ∈ X.fs → b ∉ ch → s.heap.get? b = some o → H b = none → ∃ sl, h'.get? b = some { o with slots := sl }) (free : ∀ b o, b ∉ ch → s.heap.get? b = some o → H b = none → H' b = none)
    (there : ∀ b o, b ∉ ch → s.heap.get? b = some o → ∃ o', h'.get? b = some o')
    (tups : ∀ b xs, H b = some (.tup xs) → H' b = some (.tup xs)) (frzs : ∀ b o u, H b = some (.frz o u) → H' b = some (.frz o u)) (tbls : ∀ b ps, H b = some (.tbl ps) → ∃ more, H' b = some (.tbl (ps ++ more)))
    (ns : ∀ m, s.heap.Ns X.env.locals m → h'.Ns X.env.locals m) (hok : HOk X.prog X.w H' h') (hg : AllBare g') :
    Inv X pins σ H' { s with heap := h', gens := g', drawn := d', toks := t' } := by
  have neL : ∀ b o, X.s₀.heap.get? b = some o → b ≠ X.env.locals := fun b o e => Nat.ne_of_lt (Nat.lt_of_lt_of_le (Heap.lt_size e) I.ok.above)
  have neC : ∀ b o, X.s₀.heap.get? b = some o → b ∉ X.ex → b ∉ ch := fun b o e hx hb => by
    rcases (hch b hb).1 with z | z
    · exact hx z
    · exact absurd (Nat.lt_of_lt_of_le (Heap.lt_size e) z) (Nat.lt_irrefl _)
  have cellK : ∀ x c, X.env.cells.lookup x = some c → ∀ v, s.heap.IsCell c v → h'.IsCell c v := fun x c e v ⟨o, ho, hd⟩ => by
    have nch : c ∉ ch := fun z => (hch c z).2.2.1 x c e rfl
    by_cases hc : c ∈ X.fs
    · obtain ⟨sl, q⟩ := slot c o (I.cne x c e) hc nch ho (I.freeC x c e)
      exact ⟨_, q, hd⟩
    · exact ⟨o, keep c o (I.cne x c e) hc nch ho (I.freeC x c e), hd⟩
  refine ⟨I.ok, I.os, hg, ⟨fun b o e n hb hx => ?_, fun b o e n hb hx => ?_, fun b o e n hx => ?_, fun b o e hx => ?_, fun b xs e => tups b xs (I.base.tups b xs e), fun b o xs e => frzs b o xs (I.base.frzs b o xs e), fun b ps e => ?_⟩, ?_, fun x c e => ?_, ?_, fun x c e => ?_, fun p hp => ?_, hok, I.len⟩
  · exact keep b o (neL b o e) hb (neC b o e hx) (I.base.keep b o e n hb hx) (I.base.free b o e n hx)
  · obtain ⟨sl, e1⟩ := I.base.slot b o e n hb hx
    obtain ⟨sl', e2⟩ := slot b _ (neL b o e) hb (neC b o e hx) e1 (I.base.free b o e n hx)
    exact ⟨sl', e2⟩
  · obtain ⟨o', e1⟩ := I.base.there b o e hx
    exact free b o' (neC b o e hx) e1 (I.base.free b o e n hx)
  · obtain ⟨o', e1⟩ := I.base.there b o e hx
    exact there b o' (neC b o e hx) e1
  · obtain ⟨m1, e1⟩ := I.base.tbls b ps e
    obtain ⟨m2, e2⟩ := tbls b _ e1
    exact ⟨m1 ++ m2, by rw [e2, Array.append_assoc]⟩
  · obtain ⟨m, hn, hl⟩ := I.loc
    refine ⟨m, ns m hn, fun i x v e1 e2 e3 => ?_⟩
    obtain ⟨u, r, l⟩ := hl i x v e1 e2 e3
    refine ⟨u, r, ?_⟩
    rcases l with l | ⟨k, c, e, z⟩
    · exact .inl l
    · exact .inr ⟨k, c, e, cellK x c e _ z⟩
  · obtain ⟨v, z⟩ := I.cell x c e
    exact ⟨v, cellK x c e v z⟩
  · obtain ⟨m, ⟨o, _, _, ho, _⟩, _⟩ := I.loc
    exact free _ o (fun z => (hch _ z).2.1 rfl) ho I.free
  · obtain ⟨v, o, ho, hd⟩ := I.cell x c e
    exact free c o (fun z => (hch c z).2.2.1 x c e rfl) ho (I.freeC x c e)
  · obtain ⟨e, n, ne, nf, d⟩ := I.pin p hp
    have nch : p.1 ∉ ch := fun z => (hch p.1 z).2.2.2 p hp rfl
    exact ⟨keep p.1 p.2 ne nf nch e n, free p.1 p.2 nch e n, ne, nf, d⟩
theorem Inv.un {t' : Nat} (I : Inv X pins σ H s) (u : Un X.fs [] H H' s.heap h') (hok : HOk X.prog X.w H' h') : Inv X pins σ H' { s with heap := h', toks := t' } := by
  obtain ⟨m, ⟨o, es, ep, ho, r⟩, _⟩ := id I.loc
  obtain ⟨sl, hL⟩ := u.any ho I.free (by simp)
  exact I.step (g' := s.gens) (d' := s.drawn) (ch := []) (fun _ z => nomatch z) (fun b o _ hb _ e n => u.keep b o e n hb (by simp)) (fun b o _ hb _ e n => u.slot b o e n hb (by simp)) (fun b o _ e n => u.free b o e n (by simp)) (fun b o _ e => u.there b o e (by simp)) u.tups u.frzs u.tbls (fun m' hm => by
    obtain ⟨o', es', ep', ho', r'⟩ := hm
    rw [ho] at ho'; cases ho'
    exact ⟨_, es', ep', hL, r'⟩) hok I.bare
theorem Inv.call {g' : Array GenState} {t' : Nat} {d' : Drawn} {ch : List Addr} (I : Inv X pins σ H s) (u : Un (frs X.stack) ch H H' s.heap h') (hok : HOk X.prog X.w H' h') (hg : AllBare g')
    (hch : ∀ b ∈ ch, (b ∈ X.ex ∨ X.s₀.heap.objs.size ≤ b) ∧ b ≠ X.env.locals ∧ (∀ x c, X.env.cells.lookup x = some c → c ≠ b) ∧ ∀ p ∈ X.pn ++ pins, p.1 ≠ b) :
    Inv X pins σ H' { s with heap := h', gens := g', drawn := d', toks := t' } := by
  obtain ⟨m, ⟨o, es, ep, ho, r⟩, _⟩ := id I.loc
  obtain ⟨sl, hL⟩ := u.any ho I.free fun z => (hch _ z).2.1 rfl
  exact I.step (ch := ch) hch (fun b o hL hb hc e n => u.keep b o e n (fun z => (List.mem_cons.mp (I.stkSub b z)).elim hL hb) hc) (fun b o _ _ hc e n => u.any e n hc) (fun b o hc e n => u.free b o e n hc) (fun b o hc e => u.there b o e hc) u.tups u.frzs u.tbls (fun m' hm => by
    obtain ⟨o', es', ep', ho', r'⟩ := hm
    rw [ho] at ho'; cases ho'
    exact ⟨_, es', ep', hL, r'⟩) hok hg
theorem Inv.turned {t' : Nat} {it : Addr} (I : Inv X pins σ H s) (k : ∀ b o, b ≠ it → s.heap.get? b = some o → h'.get? b = some o) (hn : H it = none) (hL : it ≠ X.env.locals)
    (h1 : it ∈ X.ex ∨ X.s₀.heap.objs.size ≤ it) (h2 : ∀ x c, X.env.cells.lookup x = some c → c ≠ it) (h3 : ∀ p ∈ X.pn ++ pins, p.1 ≠ it) : Inv X pins σ H { s with heap := h', toks := t' } := by
  have nit : ∀ b u, H b = some u → b ≠ it := fun b u e z => by rw [z, hn] at e; cases e
  refine I.step (g' := s.gens) (d' := s.drawn) (ch := [it]) (fun b hb => ?_) (fun b o _ _ hc e _ => k b o (fun z => hc (by simp [z])) e) (fun b o _ _ hc e _ => ⟨o.slots, k b o (fun z => hc (by simp [z])) e⟩) (fun _ _ _ _ n => n)
    (fun b o hc e => ⟨o, k b o (fun z => hc (by simp [z])) e⟩) (fun _ _ e => e) (fun _ _ _ e => e) (fun b ps e => ⟨#[], by rw [e]; simp⟩) (fun m hm => ?_) (fun b u e => ?_) I.bare
  · have e : b = it := by simpa using hb
    subst e
    exact ⟨h1, hL, h2, h3⟩
  · obtain ⟨o, es, ep, ho, r⟩ := hm
    exact ⟨o, es, ep, k _ o (Ne.symm hL) ho, r⟩
  · refine (I.hok b u e).stay (fun c v hc q => k c v ?_ q) (fun _ q => q) fun _ _ q => q
    rcases hc with z | z
    · rw [z]; exact nit b u e
    · exact nit c _ z
theorem Inv.tok (I : Inv X pins σ H s) (t : Nat) : Inv X pins σ H { s with toks := t } := I.un (h' := s.heap) (t' := t) Un.refl I.hok
theorem Inv.kept {t' : Nat} (I : Inv X pins σ H s) (k : ∀ b u, s.heap.get? b = some u → h'.get? b = some u) : Inv X pins σ H { s with heap := h', toks := t' } := I.un (Un.kept k) (I.hok.kept k)
theorem Inv.laid {a : Addr} {o : HO} {t' : Nat} (I : Inv X pins σ H s) (k : ∀ b u, s.heap.get? b = some u → h'.get? b = some u) (hp : s.heap.objs.size ≤ a) (new : ObjOk X.prog X.w (upd H a o) h' a o) :
    Inv X pins σ (upd H a o) { s with heap := h', toks := t' } := I.un (Un.laid k hp (I.hok.fresh hp)) (I.hok.laid k hp new)
theorem Inv.write {x e : Addr} {o : HO} {t' : Nat} (I : Inv X pins σ H s) (mu : Mut (H x)) (he : e = x ∨ H e = some (.own x)) (k : ∀ b u, b ≠ e → s.heap.get? b = some u → h'.get? b = some u) (heo : ∃ u, h'.get? e = some u)
    (new : ObjOk X.prog X.w (upd H x o) h' x o) : Inv X pins σ (upd H x o) { s with heap := h', toks := t' } := I.un (Un.write mu he k heo) (I.hok.write mu he k heo new)
theorem Inv.pins_of {pins' : List (Addr × Obj)} (I : Inv X pins σ H s) (h : ∀ p ∈ pins', s.heap.get? p.1 = some p.2 ∧ H p.1 = none ∧ p.1 ≠ X.env.locals ∧ p.1 ∉ X.fs ∧ ∀ v, p.2.data ≠ .cell v) : Inv X pins' σ H s :=
  ⟨I.ok, I.os, I.bare, I.base, I.loc, I.cell, I.free, I.freeC, fun p hp => (List.mem_append.mp hp).elim (fun z => I.pin p (List.mem_append_left _ z)) (h p), I.hok, I.len⟩
theorem nodup_ix {N : List Str} (hN : N.Nodup) {i j : Nat} {x : Str} (a : N[i]? = some x) (b : N[j]? = some x) : i = j := by
  obtain ⟨h1, e1⟩ := List.getElem?_eq_some_iff.mp a
  obtain ⟨h2, e2⟩ := List.getElem?_eq_some_iff.mp b
  exact (List.getElem_inj hN).mp (e1.trans e2.symm)
theorem store_ok2 {M : Model} {A : Around} {E : Value → Shared → Prop} {i : Nat} {x : Str} {v : V} {u : Value} {Q : Unit → Shared → Prop} (I : Inv X pins σ H s) (hN : X.N.Nodup) (hi : X.N[i]? = some x) (hx : Loc X.env.scope x) (r : RelV v u)
    (h : ∀ s', Inv X pins (σ.set i (some v)) H s' → (∃ a, Heap.SameBut a s.heap s'.heap ∧ (a = X.env.locals ∨ X.env.cells.lookup x = some a)) → Q () s') (hf : X.fn x = true ∨ X.env.scope.names.lookup x = some .local := by first | exact .inl rfl | exact .inr rfl | assumption) : wpAny M A (storeName X.env x u) Q E s := by
  obtain ⟨m, hn, hl⟩ := id I.loc
  have hcls : (X.env.scope.kind == .class || (X.env.scope.kind == .module && X.env.locals != X.env.globals)) = false := by rw [I.ok.kind]; rfl
  have hiσ : i < σ.length := by rw [I.len]; exact (List.getElem?_eq_some_iff.mp hi).1
  have cne := I.cne
  have tracked : ∀ {a : Addr} {h' : Heap}, (∃ o, s.heap.get? a = some o ∧ H a = none) → Heap.SameBut a s.heap h' → HOk X.prog X.w H h' := fun {a h'} ha hs b ob e => by
    obtain ⟨_, _, hfree⟩ := ha
    refine (I.hok b ob e).stay (fun c w' hc q => (hs.2 c ?_).trans q) (fun _ q => q) fun _ _ q => q
    rintro rfl
    rcases hc with rfl | hc
    · rw [hfree] at e; cases e
    · rw [hfree] at hc; cases hc
  rcases hx with hk | hk
  · refine wpAny_storeName_local hk hn (fun h' hn' hs => ?_) hcls
    obtain ⟨oL, _, _, hoL, _⟩ := id hn
    refine h _ ⟨I.ok, I.os, I.bare, ⟨fun b o e n hb hx => ?_, fun b o e n hb hx => ?_, I.base.free, fun b o e hx => ?_, I.base.tups, I.base.frzs, I.base.tbls⟩, ⟨_, hn', fun j y v' e1 e2 e3 => ?_⟩, fun y c e => ?_, I.free, I.freeC, fun p hp => ?_, tracked ⟨oL, hoL, I.free⟩ hs, by simpa using I.len⟩ ⟨_, hs, .inl rfl⟩
    · exact (hs.2 b (Nat.ne_of_lt (Nat.lt_of_lt_of_le (Heap.lt_size e) I.ok.above))).trans (I.base.keep b o e n hb hx)
    · obtain ⟨sl, e1⟩ := I.base.slot b o e n hb hx
      exact ⟨sl, (hs.2 b (Nat.ne_of_lt (Nat.lt_of_lt_of_le (Heap.lt_size e) I.ok.above))).trans e1⟩
    · obtain ⟨o', e1⟩ := I.base.there b o e hx
      exact ⟨o', (hs.2 b (Nat.ne_of_lt (Nat.lt_of_lt_of_le (Heap.lt_size e) I.ok.above))).trans e1⟩
    · by_cases hj : j = i
      · subst hj
        rw [hi] at e1; cases e1
        rw [List.getElem?_set_self hiσ] at e2
        cases e2
        exact ⟨u, r, .inl ⟨hk, by simp⟩⟩
      · rw [List.getElem?_set_ne (Ne.symm hj)] at e2
        obtain ⟨u', r', q⟩ := hl j y v' e1 e2 e3
        refine ⟨u', r', ?_⟩
        rcases q with ⟨k, e⟩ | ⟨k, c, e, z⟩
        · refine .inl ⟨k, ?_⟩
          have : y ≠ x := fun e => hj (nodup_ix hN e1 (e ▸ hi))
          simp [this, e]
        · exact .inr ⟨k, c, e, z.sameBut hs (cne y c e)⟩
    · obtain ⟨w', z⟩ := I.cell y c e
      exact ⟨w', z.sameBut hs (cne y c e)⟩
    · obtain ⟨e, n, ne, nf, d⟩ := I.pin p hp
      exact ⟨(hs.2 p.1 ne).trans e, n, ne, nf, d⟩
  · have hfn : X.fn x = true := by
      rcases hf with z | z
      · exact z
      · rw [z] at hk; cases hk
    obtain ⟨c, hc⟩ := I.ok.has x (.inl hk)
    obtain ⟨w', z⟩ := I.cell x c hc
    refine wpAny_storeName_cell I.ok.kind hk hc z (fun h' hc' hs => ?_)
    obtain ⟨oc, hoc, hocd⟩ := id z
    refine h { s with heap := h' } ⟨I.ok, I.os, I.bare, ⟨fun b o e n hb hx => ?_, fun b o e n hb hx => ?_, I.base.free, fun b o e hx => ?_, I.base.tups, I.base.frzs, I.base.tbls⟩, ⟨m, hn.sameBut hs (Ne.symm (cne x c hc)), fun j y v' e1 e2 e3 => ?_⟩, fun y c' e => ?_, I.free, I.freeC, fun p hp => ?_, tracked ⟨oc, hoc, I.freeC x c hc⟩ hs, by simpa using I.len⟩ ⟨c, hs, .inr hc⟩
    · exact (hs.2 b (Nat.ne_of_lt (Nat.lt_of_lt_of_le (Heap.lt_size e) (I.ok.cab x c hfn hc)))).trans (I.base.keep b o e n hb hx)
    · obtain ⟨sl, e1⟩ := I.base.slot b o e n hb hx
      exact ⟨sl, (hs.2 b (Nat.ne_of_lt (Nat.lt_of_lt_of_le (Heap.lt_size e) (I.ok.cab x c hfn hc)))).trans e1⟩
    · obtain ⟨o', e1⟩ := I.base.there b o e hx
      exact ⟨o', (hs.2 b (Nat.ne_of_lt (Nat.lt_of_lt_of_le (Heap.lt_size e) (I.ok.cab x c hfn hc)))).trans e1⟩
    · by_cases hj : j = i
      · subst hj
        rw [hi] at e1; cases e1
        rw [List.getElem?_set_self hiσ] at e2
        cases e2
        exact ⟨u, r, .inr ⟨.inl hk, c, hc, hc'⟩⟩
      · rw [List.getElem?_set_ne (Ne.symm hj)] at e2
        obtain ⟨u', r', q⟩ := hl j y v' e1 e2 e3
        refine ⟨u', r', ?_⟩
        rcases q with q | ⟨k, c', e, z'⟩
        · exact .inl q
        · refine .inr ⟨k, c', e, z'.sameBut hs ?_⟩
          rintro rfl
          exact hj (nodup_ix hN e1 (I.ok.inj _ _ _ e hc ▸ hi))
    · by_cases hcc : c' = c
      · subst hcc; exact ⟨_, hc'⟩
      · obtain ⟨w2, z2⟩ := I.cell y c' e
        exact ⟨w2, z2.sameBut hs hcc⟩
    · obtain ⟨e, n, ne, nf, d⟩ := I.pin p hp
      refine ⟨(hs.2 p.1 ?_).trans e, n, ne, nf, d⟩
      intro q
      rw [q, hoc] at e
      have q' : oc = p.2 := Option.some.inj e
      exact d w' (by rw [← q']; exact hocd)
theorem store_ok {M : Model} {A : Around} {E : Value → Shared → Prop} {i : Nat} {x : Str} {v : V} {u : Value} {Q : Unit → Shared → Prop} (I : Inv X pins σ H s) (hN : X.N.Nodup) (hi : X.N[i]? = some x) (hx : Loc X.env.scope x) (r : RelV v u)
    (h : ∀ s', Inv X pins (σ.set i (some v)) H s' → Q () s') (hf : X.fn x = true ∨ X.env.scope.names.lookup x = some .local := by first | exact .inl rfl | exact .inr rfl | assumption) : wpAny M A (storeName X.env x u) Q E s :=
  store_ok2 I hN hi hx r (fun s' I' _ => h s' I') hf
end
abbrev XK := Value → Option Addr → Hp → Prop
abbrev St := List (Option V)
abbrev VK := V → Hp → Prop
abbrev TE := St → Hp → VK → Prop
abbrev TT := St → Hp → (Bool → Hp → Prop) → Prop
abbrev TA := St → Hp → (List V → Hp → Prop) → Prop
structure Ends where
  nx : St → Hp → Prop
  rt : VK
  bk : St → Hp → Prop := fun _ _ => False
  ct : St → Hp → Prop := fun _ _ => False
abbrev TS := Ends → St → Hp → Prop
def EP (X : Cx) (pins : List (Addr × Obj)) (σ : St) (Q : VK) (u : Value) (s' : Shared) : Prop := ∃ v H', Inv X pins σ H' s' ∧ RelV v u ∧ Q v H'
def TP (X : Cx) (pins : List (Addr × Obj)) (σ : St) (Q : Bool → Hp → Prop) (b : Bool) (s' : Shared) : Prop := ∃ H', Inv X pins σ H' s' ∧ Q b H'
def AP (X : Cx) (pins : List (Addr × Obj)) (σ : St) (Q : List V → Hp → Prop) (us : List Value) (s' : Shared) : Prop := ∃ vs H', Inv X pins σ H' s' ∧ Vals vs us ∧ Q vs H'
def SP (X : Cx) (pins : List (Addr × Obj)) (D : Ends) (f : Flow) (s' : Shared) : Prop :=
  match f with
  | .next => ∃ σ' H', Inv X pins σ' H' s' ∧ D.nx σ' H'
  | .brk => ∃ σ' H', Inv X pins σ' H' s' ∧ D.bk σ' H'
  | .cont => ∃ σ' H', Inv X pins σ' H' s' ∧ D.ct σ' H'
  | .ret u => ∃ v σ' H', Inv X pins σ' H' s' ∧ RelV v u ∧ D.rt v H'
def PE (X : Cx) (e : Expr) (t : TE) : Prop :=
  ∀ (pins : List (Addr × Obj)) (s : Shared) (σ : St) (H : Hp) (Q : VK), Inv X pins σ H s → t σ H Q → wpAny (model X.prog X.w) X.A (eval e X.env) (EP X pins σ Q) X.xe s
def PT (X : Cx) (e : Expr) (t : TT) : Prop :=
  ∀ (pins : List (Addr × Obj)) (s : Shared) (σ : St) (H : Hp) (Q : Bool → Hp → Prop), Inv X pins σ H s → t σ H Q → wpAny (model X.prog X.w) X.A (isTrue e X.env (eval e X.env)) (TP X pins σ Q) X.xe s
def PW (X : Cx) (e : Expr) (t : TT) : Prop :=
  ∀ (whole : Sem Value) (pins : List (Addr × Obj)) (s : Shared) (σ : St) (H : Hp) (Q : Bool → Hp → Prop), Inv X pins σ H s → t σ H Q → wpAny (model X.prog X.w) X.A (isTrue e X.env whole) (TP X pins σ Q) X.xe s
theorem PW.pt {X : Cx} {e : Expr} {t : TT} (h : PW X e t) : PT X e t := h _
def PA (X : Cx) (es : List Expr) (t : TA) : Prop :=
  ∀ (pos : Pos) (pins : List (Addr × Obj)) (s : Shared) (σ : St) (H : Hp) (Q : List V → Hp → Prop), Inv X pins σ H s → t σ H Q → wpAny (model X.prog X.w) X.A (spliced (backTo pos (starEach es X.env))) (AP X pins σ Q) X.xe s
def PS (X : Cx) (st : Stmt) (t : TS) : Prop :=
  ∀ (pins : List (Addr × Obj)) (s : Shared) (σ : St) (H : Hp) (D : Ends), Inv X pins σ H s → t D σ H → wpAny (model X.prog X.w) X.A (exec st X.env) (SP X pins D) X.xe s
def PSs (X : Cx) (st : List Stmt) (t : TS) : Prop :=
  ∀ (pins : List (Addr × Obj)) (s : Shared) (σ : St) (H : Hp) (D : Ends), Inv X pins σ H s → t D σ H → wpAny (model X.prog X.w) X.A (execs st X.env) (SP X pins D) X.xe s
theorem thn {α : Type} {t : Sem α} {Q Q' : α → Shared → Prop} {M : Model} {A : Around} {E : Value → Shared → Prop} {s : Shared} (h : wpAny M A t Q E s) (hQ : ∀ a s, Q a s → Q' a s) : wpAny M A t Q' E s := wpAny_mono h hQ fun _ _ x => x
end L2
namespace L2
open PySem PySem.Spec PyProof.Rows
section
variable {X : Cx}
theorem bin {a b : Expr} {ta tb : TE} (ha : PE X a ta) (hb : PE X b tb) {pins : List (Addr × Obj)} {s : Shared} {σ : St} {H : Hp} {R : V → V → Hp → Prop} (I : Inv X pins σ H s) (h : ta σ H fun x H1 => tb σ H1 fun y H2 => R x y H2)
    {α : Type} {Q : α → Shared → Prop} {f : Value → Value → Sem α}
    (hf : ∀ v u s2 x y H2, Inv X pins σ H2 s2 → RelV x v → RelV y u → R x y H2 → wpAny (model X.prog X.w) X.A (f v u) Q X.xe s2) :
    wpAny (model X.prog X.w) X.A (eval a X.env) (fun v s₁ => wpAny (model X.prog X.w) X.A (eval b X.env) (fun u s₂ => wpAny (model X.prog X.w) X.A (f v u) Q X.xe s₂) X.xe s₁) X.xe s := by
  refine thn (ha pins s σ H _ I h) fun v s1 ⟨x, H1, I1, r1, q1⟩ => ?_
  refine thn (hb pins s1 σ H1 _ I1 q1) fun u s2 ⟨y, H2, I2, r2, q2⟩ => ?_
  exact hf v u s2 x y H2 I2 r1 r2 q2
def tVar (i : Nat) : TE := fun σ H Q => ∃ v, σ[i]? = some (some v) ∧ Q v H
def tC (v : V) : TE := fun _ H Q => Q v H
theorem pe_var {i : Nat} {x : Str} {pos : Pos} (hN : X.N[i]? = some x) (hv : Vis X.env.scope x) (hd : (x == ("__debug__" : Str)) = false := by decide) (hcd : (x == ("__classdict__" : Str)) = false := by decide) : PE X (.Name x pos) (tVar i) := by
  intro pins s σ H Q I h
  obtain ⟨v, e, h⟩ := h
  obtain ⟨m, hn, hl⟩ := I.loc
  obtain ⟨u, r, l⟩ := hl i x v hN e hv
  have fin : EP X pins σ Q u s := ⟨v, H, I, r, h⟩
  rcases l with ⟨hk, hm⟩ | ⟨hk, c, hc, hcell⟩
  · exact wpAny_Name (wpAny_loadName_local I.ok.kind hk hn hm fin) hd
  · rcases hk with hk | hk
    · exact wpAny_Name (wpAny_loadName_cell I.ok.kind hk hc hcell fin) hd
    · exact wpAny_Name (wpAny_loadName_free I.ok.kind hk hc hcell fin hcd) hd
theorem pe_int {i j pos} : PE X (.Constant (.int i) j pos) (tC (.int i)) := fun _ _ _ H _ I h => wpAny_Constant_int ⟨.int i, H, I.tok _, ⟨_, rfl⟩, h⟩
theorem pe_bl {b j pos} : PE X (.Constant (.bool b) j pos) (tC (.bl b)) := fun _ _ _ H _ I h => Constant_bool ⟨.bl b, H, I, rfl, h⟩
theorem pe_non {j pos} : PE X (.Constant .none j pos) (tC .non) := fun _ _ _ H _ I h => Constant_none ⟨.non, H, I, rfl, h⟩
theorem pe_str {x j pos} : PE X (.Constant (.str x) j pos) (tC (.str x)) := fun _ _ _ H _ I h => Calls.Constant_str ⟨.str x, H, I.tok _, ⟨_, rfl⟩, h⟩
def Gl (X : Cx) (x : Str) : Prop := X.env.kindOf x = some .globalImplicit
theorem ld_glob {E : Value → Shared → Prop} {pins : List (Addr × Obj)} {s : Shared} {σ : St} {H : Hp} {x : Str} {u : Value} {pos : Pos} {Q : Value → Shared → Prop} (I : Inv X pins σ H s) (hg : Gl X x) (hm : X.mg x = some u) (h : Q u s)
    (hd : (x == ("__debug__" : Str)) = false := by decide) : wpAny (model X.prog X.w) X.A (eval (.Name x pos) X.env) Q E s :=
  Calls.Name_function_global I.ok.kind hg (Calls.loadGlobal_global (by rw [I.ok.glob]; exact I.mod.glob.keeps I.bk) hm h) hd
theorem ld_blt {E : Value → Shared → Prop} {pins : List (Addr × Obj)} {s : Shared} {σ : St} {H : Hp} {x : Str} {u : Value} {pos : Pos} {Q : Value → Shared → Prop} (I : Inv X pins σ H s) (hg : Gl X x) (hm : X.mg x = none) (hv : bootBuiltins x = some u) (h : Q u s)
    (hn : x ≠ "__name__" := by decide) (hd : (x == ("__debug__" : Str)) = false := by decide) : wpAny (model X.prog X.w) X.A (eval (.Name x pos) X.env) Q E s := by
  obtain ⟨mb, h1, h2⟩ := I.mod.blt
  exact Calls.Name_function_global I.ok.kind hg (Calls.loadGlobal_builtin (by rw [I.ok.glob]; exact I.mod.glob.keeps I.bk) hm (by rw [I.ok.blt]; exact h1.keeps I.bk) ((h2 x hn).trans hv) h) hd
theorem pe_bltn {x : Str} {v : V} {u : Value} {pos : Pos} (hg : Gl X x) (hm : X.mg x = none) (hv : bootBuiltins x = some u) (r : RelV v u) (hn : x ≠ "__name__" := by decide) (hd : (x == ("__debug__" : Str)) = false := by decide) : PE X (.Name x pos) (tC v) :=
  fun _ _ _ H _ I h => ld_blt I hg hm hv ⟨v, H, I, r, h⟩ hn hd
variable {a b : Expr} {ta tb : TE} {pos : Pos}
def PC (X : Cx) (op : CmpOp) (a b : Expr) (t : TE) : Prop :=
  ∀ (pins : List (Addr × Obj)) (s : Shared) (σ : St) (H : Hp) (Q : VK), Inv X pins σ H s → t σ H Q →
    wpAny (model X.prog X.w) X.A (eval a X.env) (fun v s₁ => wpAny (model X.prog X.w) X.A (eval b X.env) (fun u s₂ => wpAny (model X.prog X.w) X.A (compareOp op v u) (EP X pins σ Q) X.xe s₂) X.xe s₁) X.xe s
theorem nobehind (b : Expr) {op : CmpOp} (h : op ≠ .In) (h2 : op ≠ .NotIn) : behindInMarks op b = false := by
  have e1 : (op == CmpOp.In) = false := by cases op <;> first | rfl | exact absurd rfl h
  have e2 : (op == CmpOp.NotIn) = false := by cases op <;> first | rfl | exact absurd rfl h2
  cases b <;> simp [behindInMarks, e1, e2]
def tB (t : TE) : TT := fun σ H Q => t σ H fun x H1 => ∃ c, x = .bl c ∧ Q c H1
theorem pt_cmp {op : CmpOp} {t : TE} (h : PC X op a b t) (h1 : behindInMarks op b = false := by first | exact nobehind _ (by decide) (by decide) | rfl) : PT X (.Compare a [op] [b] pos) (tB t) := by
  intro pins s σ H Q I hw
  refine wpAny_isTrue_Compare1 (thn (h pins s σ H _ I hw) fun v s1 h1 => thn h1 fun u s2 h2 => thn h2 fun c s3 ⟨x, H1, I1, r1, q1⟩ => ?_) h1
  obtain ⟨d, rfl, q⟩ := q1
  cases r1
  exact wpAny_truthy_bool ⟨H1, I1, q⟩
theorem pt_val {e : Expr} {t : TE} (h : PE X e t) (he : ∀ whole, isTrue e X.env whole = (do let v ← whole; standAt e.pos; holding [v] (truthy v)) := by intro _; rfl) : PT X e (tB t) := by
  intro pins s σ H Q I hw
  refine isTrue_plain (thn (h pins s σ H _ I hw) fun v s1 ⟨x, H1, I1, r1, q1⟩ => ?_) (he _)
  obtain ⟨d, rfl, q⟩ := q1
  cases r1
  exact wpAny_truthy_bool ⟨H1, I1, q⟩
variable {tA tB' : TT} {rest : List Expr}
def tAnd (t u : TT) : TT := fun σ H Q => t σ H fun c H1 => if c = true then u σ H1 Q else Q false H1
def tOr (t u : TT) : TT := fun σ H Q => t σ H fun c H1 => if c = true then Q true H1 else u σ H1 Q
def tNot (t : TT) : TT := fun σ H Q => t σ H fun c H1 => Q (!c) H1
theorem pw_and1 (ha : PT X a tA) : PW X (.BoolOp .And [a] pos) tA := by
  intro wh pins s σ H Q I h
  refine isTrue_and (thn (ha pins s σ H Q I h) fun c s1 e => ?_)
  cases c with
  | true => exact isTrue_and_nil e
  | false => exact e
theorem pw_or1 (ha : PT X a tA) : PW X (.BoolOp .Or [a] pos) tA := by
  intro wh pins s σ H Q I h
  refine isTrue_or (thn (ha pins s σ H Q I h) fun c s1 e => ?_)
  cases c with
  | false => exact isTrue_or_nil e
  | true => exact e
theorem pw_and (ha : PT X a tA) (hb : PW X (.BoolOp .And (b :: rest) pos) tB') : PW X (.BoolOp .And (a :: b :: rest) pos) (tAnd tA tB') := by
  intro wh pins s σ H Q I h
  refine isTrue_and (thn (ha pins s σ H _ I h) fun c s1 ⟨H1, I1, q1⟩ => ?_)
  cases c with
  | true => exact hb wh pins s1 σ H1 Q I1 q1
  | false => exact ⟨H1, I1, q1⟩
theorem pw_or (ha : PT X a tA) (hb : PW X (.BoolOp .Or (b :: rest) pos) tB') : PW X (.BoolOp .Or (a :: b :: rest) pos) (tOr tA tB') := by
  intro wh pins s σ H Q I h
  refine isTrue_or (thn (ha pins s σ H _ I h) fun c s1 ⟨H1, I1, q1⟩ => ?_)
  cases c with
  | true => exact ⟨H1, I1, q1⟩
  | false => exact hb wh pins s1 σ H1 Q I1 q1
theorem pt_not (ha : PT X a tA) : PT X (.UnaryOp .Not a pos) (tNot tA) := by
  intro pins s σ H Q I h
  exact isTrue_not (ha pins s σ H (fun c H1 => Q (!c) H1) I h)
def tAndV (ta tb : TE) : TE := fun σ H Q => ta σ H fun x H1 => ∃ c, x = .bl c ∧ if c = true then tb σ H1 Q else Q (.bl false) H1
def tOrV (ta tb : TE) : TE := fun σ H Q => ta σ H fun x H1 => ∃ c, x = .bl c ∧ if c = true then Q (.bl true) H1 else tb σ H1 Q
def tNotV (ta : TE) : TE := fun σ H Q => ta σ H fun x H1 => ∃ c, x = .bl c ∧ Q (.bl (!c)) H1
theorem pe_one {op} {t : TE} (h : PE X a t) : PE X (.BoolOp op [a] pos) t := fun pins s σ H Q I hw => BoolOp_one (h pins s σ H Q I hw)
theorem pe_and (ha : PE X a ta) (hb : PE X (.BoolOp .And (b :: rest) pos) tb) : PE X (.BoolOp .And (a :: b :: rest) pos) (tAndV ta tb) := by
  intro pins s σ H Q I h
  refine BoolOp_and (thn (ha pins s σ H _ I h) fun v s1 ⟨x, H1, I1, r1, q1⟩ => ?_)
  obtain ⟨c, rfl, q1⟩ := q1
  cases r1
  refine wpAny_truthy_bool ?_
  cases c with
  | true => exact hb pins s1 σ H1 Q I1 q1
  | false => exact ⟨.bl false, H1, I1, rfl, q1⟩
theorem pe_or (ha : PE X a ta) (hb : PE X (.BoolOp .Or (b :: rest) pos) tb) : PE X (.BoolOp .Or (a :: b :: rest) pos) (tOrV ta tb) := by
  intro pins s σ H Q I h
  refine BoolOp_or (thn (ha pins s σ H _ I h) fun v s1 ⟨x, H1, I1, r1, q1⟩ => ?_)
  obtain ⟨c, rfl, q1⟩ := q1
  cases r1
  refine wpAny_truthy_bool ?_
  cases c with
  | false => exact hb pins s1 σ H1 Q I1 q1
  | true => exact ⟨.bl true, H1, I1, rfl, q1⟩
theorem pe_not (ha : PE X a ta) : PE X (.UnaryOp .Not a pos) (tNotV ta) := by
  intro pins s σ H Q I h
  refine UnaryOp_ (thn (ha pins s σ H _ I h) fun v s1 ⟨x, H1, I1, r1, q1⟩ => ?_)
  obtain ⟨c, rfl, q1⟩ := q1
  cases r1
  exact not_of (wpAny_truthy_bool ⟨.bl (!c), H1, I1, rfl, q1⟩)
end
end L2
namespace L2
open PySem PySem.Spec PyProof.Rows
def SqL (K : PySem.W.Frag) (H : Hp) (a : Addr) (xs : List V) : Prop :=
  Rd H a (.lst xs) ∨
    ∃ (o : Obj) (its : Array Value) (n : Nat), K.lookup a = some o ∧ o.cls = .type "list" ∧ o.dict = none ∧ o.data = .seq its n ∧ its.size ≤ sizeLine ∧ Vals xs its.toList
def SqT (K : PySem.W.Frag) (H : Hp) (a : Addr) (xs : List V) : Prop :=
  Rd H a (.tup xs) ∨
    ∃ (o : Obj) (its : Array Value) (n : Nat), K.lookup a = some o ∧ o.cls = .type "tuple" ∧ o.data = .seq its n ∧ its.size ≤ sizeLine ∧ Vals xs its.toList
def absV : Value → Option V
  | .none => some .non
  | .bool b => some (.bl b)
  | .int i _ => some (.int i)
  | .str x _ => some (.str x)
  | .bytes b _ => some (.byt b)
  | .float b _ => some (.flt b)
  | .ref a => some (.ref a)
  | .type n => some (.ty n)
  | _ => none
theorem RelV.abs {x : V} {u : Value} (r : RelV x u) : absV u = some x := by
  cases x with
  | non => cases r; rfl
  | bl _ => cases r; rfl
  | int _ => obtain ⟨t, rfl⟩ := r; rfl
  | str _ => obtain ⟨t, rfl⟩ := r; rfl
  | byt _ => obtain ⟨t, rfl⟩ := r; rfl
  | flt _ => obtain ⟨t, rfl⟩ := r; rfl
  | ref _ => cases r; rfl
  | ty _ => cases r; rfl
theorem RelV.inj {x y : V} {u : Value} (r : RelV x u) (q : RelV y u) : x = y := Option.some.inj (r.abs.symm.trans q.abs)
theorem Vals.inj : ∀ {xs ys : List V} {us : List Value}, Vals xs us → Vals ys us → xs = ys
  | _, _, _, .nil, .nil => rfl
  | _, _, _, .cons r t, .cons r' t' => by rw [r.inj r', Vals.inj t t']
section
variable {X : Cx} {pins : List (Addr × Obj)} {σ : St} {H : Hp} {s : Shared} {a : Addr} {xs ys : List V}
theorem SqL.of {K : PySem.W.Frag} (h : H a = some (.lst xs)) : SqL K H a xs := .inl (.inl h)
theorem SqT.of {K : PySem.W.Frag} (h : H a = some (.tup xs)) : SqT K H a xs := .inl (.inl h)
theorem Inv.list (I : Inv X pins σ H s) (h : SqL X.K H a xs) : ∃ its : List Value, Vals xs its ∧ PlainL s.heap a its.toArray ∧ xs.length ≤ sizeLine := by
  rcases h with h | ⟨o, its, n, hk, hc, hd, hs, hz, r⟩
  · obtain ⟨z, its, n, r, e⟩ := h.ok I.hok
    exact ⟨its, r, ⟨_, n, e, rfl, rfl, rfl⟩, z⟩
  · refine ⟨its.toList, r, ⟨o, n, I.kIn a o hk, hc, hd, by simpa using hs⟩, ?_⟩
    have e := r.length
    simp only [Array.length_toList] at e
    omega
theorem Inv.tuple (I : Inv X pins σ H s) (h : SqT X.K H a xs) : ∃ its : List Value, Vals xs its ∧ IsTup s.heap a its.toArray ∧ xs.length ≤ sizeLine := by
  rcases h with h | ⟨o, its, n, hk, hc, hs, hz, r⟩
  · obtain ⟨z, its, r, p⟩ := h.ok I.hok
    exact ⟨its, r, p, z⟩
  · refine ⟨its.toList, r, ⟨o, I.kIn a o hk, hc, n, by simpa using hs⟩, ?_⟩
    have e := r.length
    simp only [Array.length_toList] at e
    omega
theorem Inv.list_inj (I : Inv X pins σ H s) (h : SqL X.K H a xs) (h' : SqL X.K H a ys) : xs = ys := by
  obtain ⟨its, r, ⟨o, n, e, _, _, d⟩, _⟩ := I.list h
  obtain ⟨its', r', ⟨o', n', e', _, _, d'⟩, _⟩ := I.list h'
  rw [e] at e'; cases e'
  rw [d] at d'
  injection d' with d1 _
  have : its = its' := by simpa using congrArg Array.toList d1
  subst this
  exact r.inj r'
theorem Inv.tuple_inj (I : Inv X pins σ H s) (h : SqT X.K H a xs) (h' : SqT X.K H a ys) : xs = ys := by
  obtain ⟨its, r, ⟨o, e, _, n, d⟩, _⟩ := I.tuple h
  obtain ⟨its', r', ⟨o', e', _, n', d'⟩, _⟩ := I.tuple h'
  rw [e] at e'; cases e'
  rw [d] at d'
  injection d' with d1 _
  have : its = its' := by simpa using congrArg Array.toList d1
  subst this
  exact r.inj r'
end
abbrev Cx.wish (X : Cx) (E : Value → Shared → Prop) : Cx := { X with xe := E }
abbrev Cx.nox (X : Cx) : Cx := X.wish fun _ _ => False
theorem Cx.Ok.wish {X : Cx} (ok : X.Ok) (E : Value → Shared → Prop) : (X.wish E).Ok :=
  ⟨ok.mod, ok.kind, ok.glob, ok.blt, ok.above, ok.inj, ok.has, ok.cab, ok.hd, ok.frames, ok.stk, ok.exf, ok.bs, ok.bsz, ok.noex, ok.exfs, ok.funs, ok.frf⟩
theorem Cx.Ok.unwish {X : Cx} {E : Value → Shared → Prop} (ok : (X.wish E).Ok) : X.Ok :=
  ⟨ok.mod, ok.kind, ok.glob, ok.blt, ok.above, ok.inj, ok.has, ok.cab, ok.hd, ok.frames, ok.stk, ok.exf, ok.bs, ok.bsz, ok.noex, ok.exfs, ok.funs, ok.frf⟩
section
variable {X : Cx} {pins : List (Addr × Obj)} {σ : St} {H : Hp} {s : Shared} {E : Value → Shared → Prop}
theorem Inv.wish (I : Inv X pins σ H s) (E : Value → Shared → Prop) : Inv (X.wish E) pins σ H s := ⟨I.ok.wish E, I.os, I.bare, I.base, I.loc, I.cell, I.free, I.freeC, I.pin, I.hok, I.len⟩
theorem Inv.unwish (I : Inv (X.wish E) pins σ H s) : Inv X pins σ H s := ⟨I.ok.unwish, I.os, I.bare, I.base, I.loc, I.cell, I.free, I.freeC, I.pin, I.hok, I.len⟩
theorem SP.unwish {D : Ends} {f : Flow} {s' : Shared} (h : SP (X.wish E) pins D f s') : SP X pins D f s' := by
  cases f with
  | next => obtain ⟨σ', H', I, q⟩ := h; exact ⟨σ', H', I.unwish, q⟩
  | brk => obtain ⟨σ', H', I, q⟩ := h; exact ⟨σ', H', I.unwish, q⟩
  | cont => obtain ⟨σ', H', I, q⟩ := h; exact ⟨σ', H', I.unwish, q⟩
  | ret u => obtain ⟨v, σ', H', I, r, q⟩ := h; exact ⟨v, σ', H', I.unwish, r, q⟩
theorem PSs.nox {st : List Stmt} {t : TS} (h : PSs X.nox st t) : PSs X st t := fun pins s σ H D I hw =>
  wpAny_mono (h pins s σ H D (I.wish _) hw) (fun _ _ q => q.unwish) fun _ _ z => False.elim z
end
section
variable {X : Cx} {st : Stmt} {rest : List Stmt} {t u : TS} {e : Expr} {te : TE} {pos : Pos}
def tNext : TS := fun D σ H => D.nx σ H
def tSeq (t u : TS) : TS := fun D σ H => t { D with nx := u D } σ H
theorem pss_nil : PSs X [] tNext := fun _ _ σ H _ I h => wpAny_execs_nil ⟨σ, H, I, h⟩
theorem pss_cons (h1 : PS X st t) (h2 : PSs X rest u) : PSs X (st :: rest) (tSeq t u) := by
  intro pins s σ H D I h
  refine wpAny_execs_cons (thn (h1 pins s σ H { D with nx := u D } I h) fun f s1 q => ?_)
  cases f with
  | next =>
    obtain ⟨σ', H', I', q⟩ := q
    exact h2 pins s1 σ' H' D I' q
  | ret v => exact q
  | brk => exact q
  | cont => exact q
theorem Inv.quiet {pins : List (Addr × Obj)} {σ : St} {H : Hp} {s : Shared} (I : Inv X pins σ H s) : interactive X.env = false := by simp [interactive, I.ok.kind]
def tDrop (te : TE) : TS := fun D σ H => te σ H fun _ H1 => D.nx σ H1
theorem ps_expr (he : PE X e te) (hs : swapsWith e none pos.line X.env = pure false := by rfl) : PS X (.Expr e pos) (tDrop te) := by
  intro pins s σ H D I h
  exact wpAny_Expr_any (thn (he pins s σ H _ I h) fun v s1 ⟨x, H1, I1, r1, q1⟩ => ⟨σ, H1, I1, q1⟩) I.quiet hs
def tRet (te : TE) : TS := fun D σ H => te σ H D.rt
theorem ps_ret (he : PE X e te) : PS X (.Return (some e) pos) (tRet te) := by
  intro pins s σ H D I h
  exact wpAny_Return_some (thn (he pins s σ H _ I h) fun v s1 ⟨x, H1, I1, r1, q1⟩ => ⟨x, σ, H1, I1, r1, q1⟩)
def tIfS (c : TT) (t u : TS) : TS := fun D σ H => c σ H fun b H1 => if b = true then t D σ H1 else u D σ H1
theorem ps_if {c : Expr} {a b : List Stmt} {tc : TT} (hc : PT X c tc) (ha : PSs X a t) (hb : PSs X b u) : PS X (.If c a b pos) (tIfS tc t u) := by
  intro pins s σ H D I h
  refine wpAny_If (thn (hc pins s σ H _ I h) fun d s1 ⟨H1, I1, q1⟩ => ?_)
  cases d with
  | true => exact ha pins s1 σ H1 D I1 q1
  | false => exact hb pins s1 σ H1 D I1 q1
end
abbrev TG := V → St → Hp → (St → Hp → Prop) → Prop
abbrev TGs := List V → St → Hp → (St → Hp → Prop) → Prop
def PG (X : Cx) (target : Expr) (t : TG) : Prop :=
  ∀ (pins : List (Addr × Obj)) (s : Shared) (σ : St) (H : Hp) (v : V) (u : Value) (Q : St → Hp → Prop), Inv X pins σ H s → RelV v u → t v σ H Q →
    wpAny (model X.prog X.w) X.A (assign target X.env u) (fun _ s' => ∃ σ' H', Inv X pins σ' H' s' ∧ Q σ' H') X.xe s
def PGs (X : Cx) (ts : List Expr) (t : TGs) : Prop :=
  ∀ (pins : List (Addr × Obj)) (s : Shared) (σ : St) (H : Hp) (vs : List V) (us : List Value) (Q : St → Hp → Prop), Inv X pins σ H s → Vals vs us → t vs σ H Q →
    wpAny (model X.prog X.w) X.A (assignInOrder ((assignEach ts X.env).map (·.2)) us) (fun _ s' => ∃ σ' H', Inv X pins σ' H' s' ∧ Q σ' H') X.xe s
section
variable {X : Cx} {pos : Pos}
def gName (i : Nat) : TG := fun v σ H Q => Q (σ.set i (some v)) H
theorem pg_name {i : Nat} {x : Str} (hN : X.N.Nodup) (hi : X.N[i]? = some x) (hx : Loc X.env.scope x) (hf : X.fn x = true ∨ X.env.scope.names.lookup x = some .local := by first | exact .inl rfl | exact .inr rfl | assumption) : PG X (.Name x pos) (gName i) := by
  intro pins s σ H v u Q I r h
  exact wpAny_assign_Name (store_ok I hN hi hx r (fun s' I' => ⟨_, H, I', h⟩) hf)
def gNil : TGs := fun vs σ H Q => vs = [] ∧ Q σ H
def gCons (t : TG) (u : TGs) : TGs := fun vs σ H Q => ∃ v r, vs = v :: r ∧ t v σ H fun σ' H' => u r σ' H' Q
theorem pgs_nil : PGs X [] gNil := by
  intro pins s σ H vs us Q I r h
  obtain ⟨e, h⟩ := h
  subst e
  cases r
  exact assignInOrder_nil ⟨σ, H, I, h⟩
theorem pgs_cons {e : Expr} {es : List Expr} {t : TG} {u : TGs} (h1 : PG X e t) (h2 : PGs X es u)
    (hs : (assignEach (e :: es) X.env).map (·.2) = assign e X.env :: (assignEach es X.env).map (·.2) := by rfl) : PGs X (e :: es) (gCons t u) := by
  intro pins s σ H vs us Q I r h
  obtain ⟨v, vr, e1, h⟩ := h
  subst e1
  cases r with
  | cons r rr =>
    rw [hs]
    refine assignInOrder_cons (thn (h1 pins s σ H _ _ _ I r h) fun _ s1 ⟨σ1, H1, I1, q1⟩ => ?_)
    exact h2 pins s1 σ1 H1 _ _ Q I1 rr q1
def gTup (K : PySem.W.Frag) (n : Nat) (t : TGs) : TG := fun v σ H Q => ∃ a xs, v = .ref a ∧ SqT K H a xs ∧ xs.length = n ∧ t xs σ H Q
theorem pg_tup {es : List Expr} {k : Nat} {t : TGs} {n : Nat} (hc : X.calm = true) (h : PGs X es t)
    (hn : (assignEach es X.env).length = n := by rfl) (hst : (assignEach es X.env).findIdx? (·.1) = none := by rfl) : PG X (.Tuple es k pos) (gTup X.K n t) := by
  intro pins s σ H v u Q I r hw
  obtain ⟨a, xs, e1, hq, hl, hw⟩ := hw
  subst e1
  cases r
  obtain ⟨its, rv, ht, hz⟩ := I.tuple hq
  refine assign_Tuple_tuple (I.ok.hd hc) ht (by simp [hn, ← hl, rv.length]) hst fun h' hx => ?_
  have I1 : Inv X pins σ H { s with heap := h' } := I.kept (t' := s.toks) fun b o e => hx b o (Nat.ne_of_lt (Heap.lt_size e)) e
  exact h pins _ σ H xs _ Q I1 (by simpa using rv) hw
def tAsg (te : TE) (g : TG) : TS := fun D σ H => te σ H fun x H1 => g x σ H1 D.nx
theorem ps_asg {tg e : Expr} {te : TE} {g : TG} (he : PE X e te) (hg : PG X tg g) (hs : swapsWithSole [tg] e pos.line X.env = pure false := by rfl) (hw : swappedStores [tg] e X.env = pure none := by rfl)
    (h1 : (assignEach [tg] X.env).map (·.2) = [assign tg X.env] := by rfl) : PS X (.Assign [tg] e pos) (tAsg te g) := by
  intro pins s σ H D I h
  refine wpAny_Assign_stores (thn (he pins s σ H _ I h) fun v s1 ⟨x, H1, I1, r1, q1⟩ => ?_) hs hw
  rw [h1]
  exact thn (hg pins s1 σ H1 x v _ I1 r1 q1) fun _ s2 q => q
theorem ps_set {i : Nat} {x : Str} {e : Expr} {te : TE} {pos' : Pos} (hN : X.N.Nodup) (hi : X.N[i]? = some x) (hx : Loc X.env.scope x) (he : PE X e te) (hs : swapsWith e (some (.Name x pos')) pos.line X.env = pure false := by rfl) (hf : X.fn x = true ∨ X.env.scope.names.lookup x = some .local := by first | exact .inl rfl | exact .inr rfl | assumption) :
    PS X (.Assign [.Name x pos'] e pos) (tAsg te (gName i)) := by
  intro pins s σ H D I h
  refine wpAny_Assign_Name (thn (he pins s σ H _ I h) fun v s1 ⟨y, H1, I1, r1, q1⟩ => ?_) hs
  exact store_ok I1 hN hi hx r1 (fun s2 I2 => ⟨_, H1, I2, q1⟩) hf
def tPar (i j : Nat) (ta : TA) : TS := fun D σ H => ta σ H fun vs H1 => ∃ v w, vs = [v, w] ∧ D.nx ((σ.set i (some v)).set j (some w)) H1
theorem ps_par {i j : Nat} {x y : Str} {a b : Expr} {ta : TA} {px py pt : Pos} {kt k2 pt2} (hc : X.calm = true) (hN : X.N.Nodup) (hi : X.N[i]? = some x) (hj : X.N[j]? = some y) (hij : i ≠ j)
    (hx : X.env.scope.names.lookup x = some .local) (hy : X.env.scope.names.lookup y = some .local) (ha : PA X [a, b] ta)
    (hw : swappedStores [.Tuple [.Name x px, .Name y py] kt pt] (.Tuple [a, b] k2 pt2) X.env = pure (some [x, y]))
    (hs : swapsWithSole [.Tuple [.Name x px, .Name y py] kt pt] (.Tuple [a, b] k2 pt2) pos.line X.env = pure false := by rfl) :
    PS X (.Assign [.Tuple [.Name x px, .Name y py] kt pt] (.Tuple [a, b] k2 pt2) pos) (tPar i j ta) := by
  intro pins s σ H D I h
  rw [exec_Assign_arm]
  refine wpAny_bind (wpAny_standAt ?_)
  rw [hs]
  refine wpAny_bind (wpAny_pure ?_)
  rw [if_neg (by decide)]
  refine wpAny_bind (Tuple_ (thn (ha _ pins s σ H _ I h) fun us s1 ⟨vs, H1, I1, r1, q1⟩ => ?_))
  obtain ⟨v, w, e1, q1⟩ := q1
  subst e1
  obtain ⟨u1, u2, rfl, rv, rw'⟩ : ∃ u1 u2, us = [u1, u2] ∧ RelV v u1 ∧ RelV w u2 := by
    cases r1 with
    | cons p q =>
      cases q with
      | cons p' q' =>
        cases q'
        exact ⟨_, _, rfl, p, p'⟩
  refine wpAny_newObj_type ?_ (by show 2 ≤ sizeLine; decide)
  have I2 : Inv X pins σ H1 { s1 with heap := s1.heap.push { cls := .type "tuple", data := .seq [u1, u2].toArray } } := I1.kept (t' := s1.toks) fun b o e => Heap.get?_push_of_some _ e
  rw [hw]
  refine wpAny_bind (wpAny_pure ?_)
  show wpAny (model X.prog X.w) X.A (do rule "assign.swapped-stores"; let items ← unpackItems (.ref s1.heap.objs.size) 2 none; assignInOrder [fun v => bindName X.env y v, fun v => bindName X.env x v] items.reverse; pure Flow.next) _ _ _
  refine wpAny_bind (wpAny_rule (wpAny_bind (unpackItems_tuple (items := #[u1, u2]) (I.ok.hd hc) (IsTup.new s1.heap _) fun h' hx' => ?_)))
  have I3 := I2.kept (h' := h') (t' := s1.toks) fun b o e => hx' b o (Nat.ne_of_lt (Heap.lt_size e)) e
  show wpAny _ _ (assignInOrder [fun v => bindName X.env y v, fun v => bindName X.env x v] [u2, u1] >>= fun _ => pure Flow.next) _ _ _
  refine wpAny_bind (assignInOrder_cons (wpAny_bindName (store_ok I3 hN hj (.inl hy) rw' (fun s2 I4 => ?_) (.inr hy))))
  refine assignInOrder_cons (wpAny_bindName (store_ok I4 hN hi (.inl hx) rv (fun s3 I5 => assignInOrder_nil (wpAny_pure ?_)) (.inr hx)))
  rw [List.set_comm _ _ (Ne.symm hij)] at I5
  exact ⟨_, H1, I5, q1⟩
end
section
variable {X : Cx} {pos : Pos}
def tWhile (c : TT) (tb : TS) : TS := fun D σ H => ∃ W : Nat → St → Hp → Prop, (∃ m, W m σ H) ∧ ∀ m σ H, W m σ H →
  c σ H fun b H1 => if b = true then ∃ N : St → Hp → Prop, (∀ σ' H', N σ' H' → ∃ m', m' < m ∧ W m' σ' H') ∧ tb { D with nx := N, ct := N, bk := D.nx } σ H1 else D.nx σ H1
theorem ps_while {c : Expr} {body : List Stmt} {tc : TT} {tb : TS} (hp : PassesOwn (model X.prog X.w) X.A X.env X.xe) (hc : PT X c tc) (hb : PSs X body tb) : PS X (.While c body [] pos) (tWhile tc tb) := by
  intro pins s σ H D I h
  obtain ⟨W, ⟨m0, w0⟩, turn⟩ := h
  refine wpAny_While (codeAny_whileLoop (fun n s' => ∃ σ' H', Inv X pins σ' H' s' ∧ W n σ' H') ?_ m0 ⟨σ, H, I, w0⟩)
  rintro n s1 ⟨σ1, H1, I1, w1⟩
  refine wpAny_passesOwn hp (thn (hc pins s1 σ1 H1 _ I1 (turn n σ1 H1 w1)) fun b s2 ⟨H2, I2, q2⟩ => ?_)
  cases b with
  | true =>
    obtain ⟨N, hN, q2⟩ := q2
    rw [if_pos rfl]
    refine wpAny_passesOwn hp (thn (hb pins s2 σ1 H2 _ I2 q2) fun f s3 q3 => ?_)
    cases f with
    | next =>
      obtain ⟨σ3, H3, I3, n3⟩ := q3
      obtain ⟨m', hm, w3⟩ := hN σ3 H3 n3
      exact ⟨m', hm, σ3, H3, I3, w3⟩
    | cont =>
      obtain ⟨σ3, H3, I3, n3⟩ := q3
      obtain ⟨m', hm, w3⟩ := hN σ3 H3 n3
      exact ⟨m', hm, σ3, H3, I3, w3⟩
    | brk => exact q3
    | ret v => exact q3
  | false =>
    rw [if_neg Bool.false_ne_true]
    exact wpAny_execs_nil ⟨σ1, H2, I2, q2⟩
end
structure It where
  go : Nat → Hp → Prop
  yld : Nat → Hp → V → Hp → Prop
  stop : Nat → Hp → Prop
def FpOk (X : Cx) (pins : List (Addr × Obj)) (H : Hp) (b : Addr) : Prop :=
  H b = none ∧ b ≠ X.env.locals ∧ b ∉ X.fs ∧ (b ∈ X.ex ∨ X.s₀.heap.objs.size ≤ b) ∧ (∀ x c, X.env.cells.lookup x = some c → c ≠ b) ∧ ∀ p ∈ X.pn ++ pins, p.1 ≠ b
theorem Inv.fpOk {X : Cx} {pins : List (Addr × Obj)} {σ : St} {H H' : Hp} {s : Shared} {b : Addr} (I : Inv X pins σ H s) (hb : s.heap.objs.size ≤ b) (hn : H' b = none) : FpOk X pins H' b := by
  refine ⟨hn, Nat.ne_of_gt (Nat.lt_of_lt_of_le I.lt hb), I.nofs hb, .inr (Nat.le_trans I.sz hb), fun x c e z => ?_, fun p hp z => ?_⟩
  · obtain ⟨v, q⟩ := I.cell x c e
    exact absurd (Nat.lt_of_lt_of_le q.lt (by rw [z]; exact hb)) (Nat.lt_irrefl _)
  · exact absurd (Nat.lt_of_lt_of_le (Heap.lt_size (I.pin p hp).1) (by rw [z]; exact hb)) (Nat.lt_irrefl _)
structure Turn (P : Program) (w : World) (K : PySem.W.Frag) (tg : Expr) (J : It) (fp : List Addr) (it : Addr) (tn : Nat → Heap → Prop) : Prop where
  mem : it ∈ fp
  obj : ∀ i h, tn i h → ∀ b ∈ fp, ∃ o, h.get? b = some o ∧ ∀ v, o.data ≠ .cell v
  keep : ∀ i h h', tn i h → (∀ b ∈ fp, ∀ o, h.get? b = some o → h'.get? b = some o) → tn i h'
  item : ∀ (X : Cx), X.prog = P → X.w = w → X.K = K → X.calm = true → ∀ (i : Nat) (pins : List (Addr × Obj)) (s : Shared) (σ : St) (H : Hp) (E : Value → Shared → Prop), Inv X pins σ H s → (∀ b ∈ fp, FpOk X pins H b) → tn i s.heap → J.go i H →
    wpAny (model P w) X.A (pyNext (.ref it)) (fun r s1 => ∃ u, r = some u ∧
      wpAny (model P w) X.A (letOwnedTupleGo tg (.ref it) u) (fun _ s2 => ∃ x H', Inv X pins σ H' s2 ∧ RelV x u ∧ J.yld i H x H' ∧ tn (i + 1) s2.heap ∧ ∀ b ∈ fp, H' b = none) E s1) E s
  done : ∀ (X : Cx), X.prog = P → X.w = w → X.K = K → X.calm = true → ∀ (i : Nat) (pins : List (Addr × Obj)) (s : Shared) (σ : St) (H : Hp) (E : Value → Shared → Prop), Inv X pins σ H s → (∀ b ∈ fp, FpOk X pins H b) → tn i s.heap → J.stop i H →
    wpAny (model P w) X.A (pyNext (.ref it)) (fun r s1 => r = none ∧ Inv X pins σ H s1) E s
  self : ∀ (A : Around) (i : Nat) (s : Shared) (Q : Value → Shared → Prop) (E : Value → Shared → Prop), tn i s.heap → Q (.ref it) s → wpAny (model P w) A (pyIter (.ref it)) Q E s
abbrev TI := St → Hp → (It → Hp → Prop) → Prop
def PIE (X : Cx) (pins : List (Addr × Obj)) (σ : St) (tg : Expr) (R : It → Hp → Prop) (itv : Value) (s2 : Shared) : Prop :=
  ∃ (it : Addr) (fp : List Addr) (tn : Nat → Heap → Prop) (J : It) (H' : Hp), itv = .ref it ∧ Inv X pins σ H' s2 ∧ Turn X.prog X.w X.K tg J fp it tn ∧ tn 0 s2.heap ∧ (∀ b ∈ fp, FpOk X pins H' b) ∧ R J H'
def PI (X : Cx) (tg iter : Expr) (wi : TI) : Prop :=
  ∀ (pins : List (Addr × Obj)) (s : Shared) (σ : St) (H : Hp) (R : It → Hp → Prop), Inv X pins σ H s → wi σ H R →
    wpAny (model X.prog X.w) X.A (eval iter X.env) (fun v s1 => wpAny (model X.prog X.w) X.A (pyIter v) (PIE X pins σ tg R) X.xe s1) X.xe s
theorem go_of {M : Model} {A : Around} {E : Value → Shared → Prop} {s : Shared} {tg : Expr} {it : Addr} {u : Value} {o : Obj} {n : String} {vs : Array Value} {Q : Unit → Shared → Prop} (ho : s.heap.get? it = some o) (hc : o.cls = .type n) (hd : o.data = .fields vs)
    (hn : ["enumerate", "zip", "dict_itemiterator", "dict_reverseitemiterator", "odict_iterator", "itertools.zip_longest", "itertools.pairwise"].contains n = false) (hQ : Q () s) : wpAny M A (letOwnedTupleGo tg (.ref it) u) Q E s := by
  unfold letOwnedTupleGo
  cases tg <;> first
    | exact wpAny_pure hQ
    | (cases u <;> first
        | exact wpAny_pure hQ
        | (refine wpAny_bind (wpAny_load ho ?_)
           rw [hc, hd]
           show wpAny M A (if (["enumerate", "zip", "dict_itemiterator", "dict_reverseitemiterator", "odict_iterator", "itertools.zip_longest", "itertools.pairwise"].contains n && vs[0]? == some (rawInt _)) = true then _ else _) Q E s
           rw [if_neg (by intro h; rw [hn, Bool.false_and] at h; cases h)]
           exact wpAny_pure hQ))
def Itl (K : PySem.W.Frag) (a : Addr) : It :=
  ⟨fun i H => ∃ xs x, SqL K H a xs ∧ xs[i]? = some x, fun i H x H' => H' = H ∧ ∀ xs, SqL K H a xs → xs[i]? = some x, fun i H => ∃ xs, SqL K H a xs ∧ xs.length ≤ i⟩
def Itt (K : PySem.W.Frag) (a : Addr) : It :=
  ⟨fun i H => ∃ xs x, SqT K H a xs ∧ xs[i]? = some x, fun i H x H' => H' = H ∧ ∀ xs, SqT K H a xs → xs[i]? = some x, fun i H => ∃ xs, SqT K H a xs ∧ xs.length ≤ i⟩
def Itr (lo : Int) (n : Nat) : It := ⟨fun i _ => i < n, fun i H x H' => H' = H ∧ x = .int (lo + i), fun i _ => n ≤ i⟩
theorem turn_list {P : Program} {w : World} {K : PySem.W.Frag} {tg : Expr} (a it : Addr) : Turn P w K tg (Itl K a) [it] it (fun i h => h.IsListIter it a i) where
  mem := by simp
  obj := fun i h st b hb => by
    have e : b = it := by simpa using hb
    subst e
    obtain ⟨o, e, c, d⟩ := st
    exact ⟨o, e, fun v z => by rw [d] at z; cases z⟩
  keep := fun i h h' st k => st.at fun o e => k it (by simp) o e
  item := by
    intro X hP hw hK hc i pins s σ H E I hf st hg
    subst hP hw hK
    obtain ⟨xs, x, hq, hx⟩ := hg
    obtain ⟨its, rv, p, hz⟩ := I.list hq
    obtain ⟨u, hu, ru⟩ := rv.get hx
    obtain ⟨f0, f1, f2, f3, f4, f5⟩ := hf it (by simp)
    refine wpAny_pyNext_list_item st p.isList (x := u) (by simpa using hu) fun h' st' sb => ?_
    have I1 : Inv X pins σ H { s with heap := h' } := I.turned (t' := s.toks) (fun b o hb e => (sb.2 b hb).trans e) f0 f1 f3 f4 f5
    obtain ⟨o, e, c, d⟩ := id st'
    exact ⟨u, rfl, go_of (s := { s with heap := h' }) e c d (by decide) ⟨x, H, I1, ru, ⟨rfl, fun ys hy => by rw [I.list_inj hy hq]; exact hx⟩, st', fun b hb => (hf b hb).1⟩⟩
  done := by
    intro X hP hw hK hc i pins s σ H E I hf st hg
    subst hP hw hK
    obtain ⟨xs, hq, hx⟩ := hg
    obtain ⟨its, rv, p, hz⟩ := I.list hq
    obtain ⟨f0, f1, f2, f3, f4, f5⟩ := hf it (by simp)
    have hl := rv.length
    exact wpAny_pyNext_list_end (I.ok.hd hc) st p.isList (by simp; omega) fun h' eb => ⟨rfl, I.turned (t' := s.toks) (fun b o hb e => eb b o hb e) f0 f1 f3 f4 f5⟩
  self := fun _ _ _ _ _ st h => wpAny_pyIter_listiter st h
theorem turn_tuple {P : Program} {w : World} {K : PySem.W.Frag} {tg : Expr} (a it : Addr) : Turn P w K tg (Itt K a) [it] it (fun i h => h.IsTupleIter it a i) where
  mem := by simp
  obj := fun i h st b hb => by
    have e : b = it := by simpa using hb
    subst e
    obtain ⟨o, e, c, d⟩ := st
    exact ⟨o, e, fun v z => by rw [d] at z; cases z⟩
  keep := fun i h h' st k => st.at fun o e => k it (by simp) o e
  item := by
    intro X hP hw hK hc i pins s σ H E I hf st hg
    subst hP hw hK
    obtain ⟨xs, x, hq, hx⟩ := hg
    obtain ⟨its, rv, p, hz⟩ := I.tuple hq
    obtain ⟨u, hu, ru⟩ := rv.get hx
    obtain ⟨f0, f1, f2, f3, f4, f5⟩ := hf it (by simp)
    refine wpAny_pyNext_tuple_item st (show s.heap.IsTuple a its.toArray from p) (x := u) (by simpa using hu) fun h' st' sb => ?_
    have I1 : Inv X pins σ H { s with heap := h' } := I.turned (t' := s.toks) (fun b o hb e => (sb.2 b hb).trans e) f0 f1 f3 f4 f5
    obtain ⟨o, e, c, d⟩ := id st'
    exact ⟨u, rfl, go_of (s := { s with heap := h' }) e c d (by decide) ⟨x, H, I1, ru, ⟨rfl, fun ys hy => by rw [I.tuple_inj hy hq]; exact hx⟩, st', fun b hb => (hf b hb).1⟩⟩
  done := by
    intro X hP hw hK hc i pins s σ H E I hf st hg
    subst hP hw hK
    obtain ⟨xs, hq, hx⟩ := hg
    obtain ⟨its, rv, p, hz⟩ := I.tuple hq
    obtain ⟨f0, f1, f2, f3, f4, f5⟩ := hf it (by simp)
    have hl := rv.length
    exact wpAny_pyNext_tuple_end (I.ok.hd hc) st (show s.heap.IsTuple a its.toArray from p) (by simp; omega) fun h' eb => ⟨rfl, I.turned (t' := s.toks) (fun b o hb e => eb b o hb e) f0 f1 f3 f4 f5⟩
  self := fun _ _ _ _ _ st h => wpAny_pyIter_tupleiter st h
theorem turn_range {P : Program} {w : World} {K : PySem.W.Frag} {tg : Expr} (it : Addr) (lo : Int) (n : Nat) : Turn P w K tg (Itr lo n) [it] it (fun i h => IsRangeIter h it (lo + (i : Nat) * 1) ((n : Int) - (i : Nat)) 1) where
  mem := by simp
  obj := fun i h st b hb => by
    have e : b = it := by simpa using hb
    subst e
    exact ⟨_, st, fun v z => by
      have z' : Data.fields _ = Data.cell v := z
      cases z'⟩
  keep := fun i h h' st k => k it (by simp) _ st
  item := by
    intro X hP hw hK hc i pins s σ H E I hf st hg
    subst hP hw hK
    obtain ⟨f0, f1, f2, f3, f4, f5⟩ := hf it (by simp)
    have W := Walks.range (prog := X.prog) (w := X.w) (I.ok.hd hc) it lo 1 n
    refine W.item i s _ _ hg st fun v h' tk hv st' kk => ?_
    obtain ⟨t, rfl⟩ := hv
    have I1 : Inv X pins σ H { s with heap := h', toks := tk } := I.turned (fun b o hb e => kk b o (by simpa using hb) e) f0 f1 f3 f4 f5
    refine ⟨_, rfl, go_of (s := { s with heap := h', toks := tk }) (n := "range_iterator") st' rfl rfl (by decide) ⟨.int (lo + i), H, I1, ⟨t, ?_⟩, ⟨rfl, rfl⟩, st', fun b hb => (hf b hb).1⟩⟩
    rw [Int.mul_one]
  done := by
    intro X hP hw hK hc i pins s σ H E I hf st hg
    subst hP hw hK
    obtain ⟨f0, f1, f2, f3, f4, f5⟩ := hf it (by simp)
    exact wpAny_pyNext_range_end (I.ok.hd hc) st (by have : n ≤ i := hg; omega) fun h' eb => ⟨rfl, I.turned (t' := s.toks) (fun b o hb e => eb b o hb e) f0 f1 f3 f4 f5⟩
  self := fun _ _ _ _ _ st h => wpAny_pyIter_rangeiter st h
end L2
namespace L2
open PySem PySem.Spec PyProof.Rows
section
variable {X : Cx} {tg : Expr}
theorem range_it {pins : List (Addr × Obj)} {σ : St} {H : Hp} {s : Shared} {R : It → Hp → Prop} {E : Value → Shared → Prop} {lo hi : Int} {t u v : Tok} {tk : Nat} (I : Inv X pins σ H s) (h1 : -(2 ^ 62) ≤ lo) (h2 : lo < 2 ^ 62) (h3 : -(2 ^ 62) ≤ hi) (h4 : hi < 2 ^ 62)
    (q : R (Itr lo (hi - lo).toNat) H) : wpAny (model X.prog X.w) X.A (pyIter (.ref s.heap.objs.size)) (PIE X pins σ tg R) E { s with heap := s.heap.push { cls := .type "range", data := .fields #[.int lo t, .int hi u, .int 1 v] }, toks := tk } := by
  refine wpAny_pyIter_range (IsRange.new ..) (small_one h1 h2 h3 h4) ?_
  have I1 : Inv X pins σ H { s with heap := s.heap.push { cls := .type "range", data := .fields #[.int lo t, .int hi u, .int 1 v] }, toks := tk } := I.kept fun b o e => Heap.get?_push_of_some _ e
  refine ⟨(s.heap.push { cls := .type "range", data := .fields #[.int lo t, .int hi u, .int 1 v] }).objs.size, [(s.heap.push { cls := .type "range", data := .fields #[.int lo t, .int hi u, .int 1 v] }).objs.size], _, _, H, rfl,
    I1.kept (t' := tk) fun b o e => Heap.get?_push_of_some _ e, turn_range _ lo (hi - lo).toNat, ?_, fun b hb => ?_, q⟩
  · have e1 : lo + ((0 : Nat) : Int) * 1 = lo := by simp
    have e2 : (((hi - lo).toNat : Nat) : Int) - ((0 : Nat) : Int) = Builtin.Range.rangeSize lo hi 1 := by rw [rangeSize_one]; split <;> omega
    show IsRangeIter _ _ (lo + ((0 : Nat) : Int) * 1) ((((hi - lo).toNat : Nat) : Int) - ((0 : Nat) : Int)) 1
    rw [e1, e2]
    exact Heap.get?_push_size _ rfl
  · have e : b = (s.heap.push { cls := .type "range", data := .fields #[.int lo t, .int hi u, .int 1 v] }).objs.size := by simpa using hb
    subst e
    exact I1.fpOk (Nat.le_refl _) (I1.hok.fresh (Nat.le_refl _))
def iRng1 (ta : TA) : TI := fun σ H R => ta σ H fun vs H1 => ∃ j : Int, vs = [.int j] ∧ -(2 ^ 62) ≤ j ∧ j < 2 ^ 62 ∧ R (Itr 0 j.toNat) H1
theorem pi_range1 {a : Expr} {ta : TA} {p pos : Pos} (hg : Gl X "range") (hm : X.mg "range" = none) (ha : PA X [a] ta) (hs : starEach [a] X.env = [(false, eval a X.env)] := by rfl) : PI X tg (.Call (.Name "range" p) [a] [] pos) (iRng1 ta) := by
  intro pins s σ H R I h
  refine Call_ (ld_blt I hg hm boot_range (PyProof.Rows.callWith_type1 (thn (ha pos pins s σ H _ I h) fun us s1 ⟨vs, H1, I1, r1, q1⟩ => ?_) hs rfl))
  obtain ⟨j, e, q1, q2, q⟩ := q1
  subst e
  cases r1 with
  | cons r rr =>
    cases rr
    obtain ⟨t, rfl⟩ := r
    exact call_range_1 (range_it I1 (by omega) (by omega) q1 q2 (by simpa using q))
def tFor (wi : TI) (g : TG) (tb : TS) : TS := fun D σ H => wi σ H fun J H1 => ∃ W : Nat → Nat → St → Hp → Prop, (∃ m, W 0 m σ H1) ∧ ∀ i m σ H, W i m σ H →
  (J.stop i H ∧ D.nx σ H) ∨ (J.go i H ∧ ∃ N : St → Hp → Prop, (∀ σ' H', N σ' H' → ∃ m', m' < m ∧ W (i + 1) m' σ' H') ∧ ∀ x H', J.yld i H x H' → g x σ H' fun σ2 H2 => tb { D with nx := N, ct := N, bk := D.nx } σ2 H2)
def pinsAt (fp : List Addr) (h : Heap) : List (Addr × Obj) := fp.filterMap fun b => (h.get? b).map fun o => (b, o)
theorem mem_pinsAt {fp : List Addr} {h : Heap} {b : Addr} {o : Obj} (hb : b ∈ fp) (e : h.get? b = some o) : (b, o) ∈ pinsAt fp h := List.mem_filterMap.mpr ⟨b, hb, by rw [e]; rfl⟩
theorem of_pinsAt {fp : List Addr} {h : Heap} {p : Addr × Obj} (hp : p ∈ pinsAt fp h) : p.1 ∈ fp ∧ h.get? p.1 = some p.2 := by
  obtain ⟨b, hb, e⟩ := List.mem_filterMap.mp hp
  cases q : h.get? b with
  | none => rw [q] at e; cases e
  | some o =>
    rw [q] at e
    have e' : (b, o) = p := Option.some.inj e
    subst e'
    exact ⟨hb, q⟩
theorem Inv.pinned {pins : List (Addr × Obj)} {σ : St} {H : Hp} {s : Shared} {fp : List Addr} (I : Inv X pins σ H s) (hf : ∀ b ∈ fp, FpOk X pins H b) (ho : ∀ b ∈ fp, ∃ o, s.heap.get? b = some o ∧ ∀ v, o.data ≠ .cell v) : Inv X (pins ++ pinsAt fp s.heap) σ H s :=
  I.pins_of fun p hp => (List.mem_append.mp hp).elim (fun z => I.pin p (List.mem_append_right _ z)) fun z => by
    obtain ⟨hb, e⟩ := of_pinsAt z
    obtain ⟨f0, f1, f2, _⟩ := hf p.1 hb
    obtain ⟨o, e', d⟩ := ho p.1 hb
    rw [e] at e'; cases e'
    exact ⟨e, f0, f1, f2, d⟩
theorem Inv.unpinned {pins pl : List (Addr × Obj)} {σ : St} {H : Hp} {s : Shared} (I : Inv X (pins ++ pl) σ H s) : Inv X pins σ H s := I.pins_of fun p hp => I.pin p (List.mem_append_right _ (List.mem_append_left _ hp))
theorem ps_for {iter : Expr} {body : List Stmt} {wi : TI} {g : TG} {tb : TS} {pos : Pos} (hp : PassesOwn (model X.prog X.w) X.A X.env X.xe) (hc : X.calm = true) (hi : PI X tg iter wi) (hg : PG X tg g) (hb : PSs X body tb)
    (hs : ∀ x, foldedSetIterable iter X.env x = pure x := by intro _; rfl) : PS X (.For tg iter body [] pos) (tFor wi g tb) := by
  intro pins s σ H D I h
  refine wpAny_For (thn (hi pins s σ H _ I h) fun v s1 h1 => thn h1 fun itv s2 h2 => ?_) hs
  obtain ⟨it, fp, tn, J, H2, e, I2, T, st2, f2, W, ⟨m0, w0⟩, turn⟩ := h2
  subst e
  -- what stays true of the iterator's objects through the loop
  have stat : ∀ {H' : Hp}, (∀ b ∈ fp, H' b = none) → ∀ b ∈ fp, FpOk X pins H' b := fun hn b hb => ⟨hn b hb, (f2 b hb).2⟩
  refine codeAny_forLoop_any (fun n s' => ∃ i σ' H', Inv X pins σ' H' s' ∧ tn i s'.heap ∧ (∀ b ∈ fp, H' b = none) ∧ W i n σ' H') ?_ m0 ⟨0, σ, H2, I2, st2, fun b hb => (f2 b hb).1, w0⟩
  rintro n s3 ⟨i, σ3, H3, I3, st3, fr3, w3⟩
  rcases turn i n σ3 H3 w3 with ⟨stop, qn⟩ | ⟨go, N, hN, step⟩
  · refine wpAny_passesOwn hp (thn (T.done X rfl rfl rfl hc i pins s3 σ3 H3 X.xe I3 (stat fr3) st3 stop) fun r s4 ⟨hr, I4⟩ => ?_)
    subst hr
    exact wpAny_execs_nil ⟨σ3, H3, I4, qn⟩
  · refine wpAny_passesOwn hp (thn (T.item X rfl rfl rfl hc i pins s3 σ3 H3 X.xe I3 (stat fr3) st3 go) fun r s4 ⟨u, hr, h4⟩ => ?_)
    subst hr
    refine wpAny_passesOwn hp (thn h4 fun _ s5 ⟨x, H5, I5, r5, y5, st5, fr5⟩ => ?_)
    have I5' := I5.pinned (stat fr5) (T.obj _ _ st5)
    refine wpAny_passesOwn hp (thn (hg _ s5 σ3 H5 x u _ I5' r5 (step x H5 y5)) fun _ s6 ⟨σ6, H6, I6, q6⟩ => ?_)
    refine wpAny_passesOwn hp (thn (hb _ s6 σ6 H6 _ I6 q6) fun f s7 q7 => ?_)
    have again : ∀ {σ7 : St} {H7 : Hp}, Inv X (pins ++ pinsAt fp s5.heap) σ7 H7 s7 → N σ7 H7 → ∃ m, m < n ∧ ∃ i σ' H', Inv X pins σ' H' s7 ∧ tn i s7.heap ∧ (∀ b ∈ fp, H' b = none) ∧ W i m σ' H' := fun {σ7 H7} I7 n7 => by
      obtain ⟨m', hm, w7⟩ := hN σ7 H7 n7
      refine ⟨m', hm, i + 1, σ7, H7, I7.unpinned, T.keep _ _ _ st5 fun b hb o e => (I7.pin (b, o) (List.mem_append_right _ (List.mem_append_right _ (mem_pinsAt hb e)))).1, fun b hb => ?_, w7⟩
      obtain ⟨o, e, d⟩ := T.obj _ _ st5 b hb
      exact (I7.pin (b, o) (List.mem_append_right _ (List.mem_append_right _ (mem_pinsAt hb e)))).2.1
    cases f with
    | next => obtain ⟨σ7, H7, I7, n7⟩ := q7; exact again I7 n7
    | cont => obtain ⟨σ7, H7, I7, n7⟩ := q7; exact again I7 n7
    | brk => obtain ⟨σ7, H7, I7, q7⟩ := q7; exact ⟨σ7, H7, I7.unpinned, q7⟩
    | ret v => obtain ⟨x7, σ7, H7, I7, r7, q7⟩ := q7; exact ⟨x7, σ7, H7, I7.unpinned, r7, q7⟩
end
end L2
namespace L2
open PySem PySem.Spec PyProof.Rows
abbrev R2 := V → V → Hp → VK → Prop
def OpR (X : Cx) (f : Value → Value → Sem Value) (r : R2) : Prop :=
  ∀ (pins : List (Addr × Obj)) (s : Shared) (σ : St) (H : Hp) (x y : V) (v u : Value) (Q : VK), Inv X pins σ H s → RelV x v → RelV y u → r x y H Q →
    wpAny (model X.prog X.w) X.A (f v u) (EP X pins σ Q) X.xe s
def UnR (X : Cx) (f : Value → Sem Value) (r : V → Hp → VK → Prop) : Prop :=
  ∀ (pins : List (Addr × Obj)) (s : Shared) (σ : St) (H : Hp) (x : V) (v : Value) (Q : VK), Inv X pins σ H s → RelV x v → r x H Q →
    wpAny (model X.prog X.w) X.A (f v) (EP X pins σ Q) X.xe s
def CallR (X : Cx) (f : Value) (r : List V → Hp → VK → Prop) : Prop :=
  ∀ (pins : List (Addr × Obj)) (s : Shared) (σ : St) (H : Hp) (xs : List V) (us : List Value) (Q : VK), Inv X pins σ H s → Vals xs us → r xs H Q →
    wpAny (model X.prog X.w) X.A (call f us) (EP X pins σ Q) X.xe s
def tOp (r : R2) (ta tb : TE) : TE := fun σ H Q => ta σ H fun x H1 => tb σ H1 fun y H2 => r x y H2 Q
def tUn (r : V → Hp → VK → Prop) (ta : TE) : TE := fun σ H Q => ta σ H fun x H1 => r x H1 Q
def rI (C : Int → Int → Prop) (g : Int → Int → V) : R2 := fun x y H Q => ∃ i j, x = .int i ∧ y = .int j ∧ C i j ∧ Q (g i j) H
def rI0 (g : Int → Int → V) : R2 := fun x y H Q => ∃ i j, x = .int i ∧ y = .int j ∧ Q (g i j) H
def rU (g : Int → V) : V → Hp → VK → Prop := fun x H Q => ∃ i, x = .int i ∧ Q (g i) H
section
variable {X : Cx} {a b c : Expr} {ta tb tc : TE} {pos : Pos}
theorem binT (ha : PE X a ta) (hb : PE X b tb) {pins : List (Addr × Obj)} {s : Shared} {σ : St} {H : Hp} {R : V → V → Hp → Prop} (I : Inv X pins σ H s)
    (h : ta σ H fun x H1 => tb σ H1 fun y H2 => R x y H2) {Q : Value → Shared → Prop} {f : Value → Value → Sem Value}
    (hf : ∀ v u s2 x y H2, Inv X pins σ H2 s2 → RelV x v → RelV y u → R x y H2 → wpAny (model X.prog X.w) X.A (f v u) Q X.xe s2) :
    wpAny (model X.prog X.w) X.A (eval a X.env) (fun v s₁ => wpAny (model X.prog X.w) X.A (eval b X.env) (fun u s₂ => wpAny (model X.prog X.w) X.A (f v u) Q X.xe s₂) X.xe s₁) X.xe s := by
  refine thn (ha pins s σ H _ I h) fun v s1 ⟨x, H1, I1, r1, q1⟩ => ?_
  refine thn (hb pins s1 σ H1 _ I1 q1) fun u s2 ⟨y, H2, I2, r2, q2⟩ => ?_
  exact hf v u s2 x y H2 I2 r1 r2 q2
theorem pe_op {op : Operator} {r : R2} (ho : OpR X (binaryOp op) r) (ha : PE X a ta) (hb : PE X b tb) : PE X (.BinOp a op b pos) (tOp r ta tb) := by
  intro pins s σ H Q I h
  exact wpAny_BinOp (binT ha hb I h fun v u s2 x y H2 I2 rx ry q => ho pins s2 σ H2 x y v u Q I2 rx ry q)
theorem pe_un {op : UnaryOp} {r : V → Hp → VK → Prop} (ho : UnR X (unaryOp op) r) (ha : PE X a ta) : PE X (.UnaryOp op a pos) (tUn r ta) := by
  intro pins s σ H Q I h
  exact UnaryOp_ (thn (ha pins s σ H _ I h) fun v s1 ⟨x, H1, I1, r1, q1⟩ => ho pins s1 σ H1 x v Q I1 r1 q1)
theorem opI {f : Value → Value → Sem Value} {C : Int → Int → Prop} {g : Int → Int → Int}
    (rule : ∀ (i j : Int) (t u : Tok) (s : Shared) (Q : Value → Shared → Prop) (E : Value → Shared → Prop), C i j → Q (.int (g i j) s.toks) { s with toks := s.toks + 1 } → wpAny (model X.prog X.w) X.A (f (.int i t) (.int j u)) Q E s) :
    OpR X f (rI C fun i j => .int (g i j)) := by
  intro pins s σ H x y v u Q I rx ry h
  obtain ⟨i, j, rfl, rfl, hc, q⟩ := h
  obtain ⟨t, rfl⟩ := rx
  obtain ⟨t', rfl⟩ := ry
  exact rule i j t t' s _ _ hc ⟨.int (g i j), H, I.tok _, ⟨_, rfl⟩, q⟩
theorem opI0 {f : Value → Value → Sem Value} {g : Int → Int → Int}
    (rule : ∀ (i j : Int) (t u : Tok) (s : Shared) (Q : Value → Shared → Prop) (E : Value → Shared → Prop), Q (.int (g i j) s.toks) { s with toks := s.toks + 1 } → wpAny (model X.prog X.w) X.A (f (.int i t) (.int j u)) Q E s) :
    OpR X f (rI0 fun i j => .int (g i j)) := by
  intro pins s σ H x y v u Q I rx ry h
  obtain ⟨i, j, rfl, rfl, q⟩ := h
  obtain ⟨t, rfl⟩ := rx
  obtain ⟨t', rfl⟩ := ry
  exact rule i j t t' s _ _ ⟨.int (g i j), H, I.tok _, ⟨_, rfl⟩, q⟩
theorem opB0 {f : Value → Value → Sem Value} {g : Int → Int → Bool}
    (rule : ∀ (i j : Int) (t u : Tok) (s : Shared) (Q : Value → Shared → Prop) (E : Value → Shared → Prop), Q (.bool (g i j)) s → wpAny (model X.prog X.w) X.A (f (.int i t) (.int j u)) Q E s) :
    OpR X f (rI0 fun i j => .bl (g i j)) := by
  intro pins s σ H x y v u Q I rx ry h
  obtain ⟨i, j, rfl, rfl, q⟩ := h
  obtain ⟨t, rfl⟩ := rx
  obtain ⟨t', rfl⟩ := ry
  exact rule i j t t' s _ _ ⟨.bl (g i j), H, I, rfl, q⟩
def CDiv (i j : Int) : Prop := 0 < j ∧ j < 1073741824
def CPow (i j : Int) : Prop := 0 ≤ j ∧ j ≤ 1000000 ∧ i.natAbs < 2 ^ 64
def CMul (i j : Int) : Prop := (-(2 ^ 64) < i ∧ i < 2 ^ 64) ∨ (-(2 ^ 64) < j ∧ j < 2 ^ 64)
theorem CMul.ok {i j : Int} (h : CMul i j) : IntMulOk i j := by
  rcases h with ⟨h1, h2⟩ | ⟨h1, h2⟩
  · exact .of_left (intBits_le_64 h1 h2)
  · exact .of_right (intBits_le_64 h1 h2)
theorem op_add : OpR X (binaryOp .Add) (rI0 fun i j => .int (i + j)) := opI0 fun _ _ _ _ _ _ _ q => add_int q
theorem op_sub : OpR X (binaryOp .Sub) (rI0 fun i j => .int (i - j)) := opI0 fun _ _ _ _ _ _ _ q => sub_int q
theorem op_mul : OpR X (binaryOp .Mult) (rI CMul fun i j => .int (i * j)) := opI fun _ _ _ _ _ _ _ hc q => mul_int q hc.ok
theorem op_fdiv : OpR X (binaryOp .FloorDiv) (rI CDiv fun i j => .int (i / j)) := opI fun i j _ _ _ _ _ hc q => by
  have h1 : (0 : Int) < j := hc.1
  have h2 : j < 1073741824 := hc.2
  exact floordiv_int (by omega) (by rw [Int.fdiv_eq_ediv_of_nonneg i (by omega)]; exact q) (.inl (PyProof.noPylong_small (by omega)))
theorem op_mod : OpR X (binaryOp .Mod) (rI (fun _ j => 0 < j) fun i j => .int (i % j)) := opI fun i j _ _ _ _ _ hc q => by
  have h1 : (0 : Int) < j := hc
  exact mod_int' (by omega) (by rw [Int.fmod_eq_emod_of_nonneg i (by omega)]; exact q)
theorem op_pow : OpR X (binaryOp .Pow) (rI CPow fun i j => .int (i ^ j.toNat)) := opI fun _ _ _ _ _ _ _ hc q => pow_int_small hc.1 hc.2.1 hc.2.2 q
theorem op_and : OpR X (binaryOp .BitAnd) (rI0 fun i j => .int (Builtin.bitAnd i j)) := opI0 fun _ _ _ _ _ _ _ q => and_int q
theorem op_or : OpR X (binaryOp .BitOr) (rI0 fun i j => .int (Builtin.bitOr i j)) := opI0 fun _ _ _ _ _ _ _ q => or_int q
theorem unI {f : Value → Sem Value} {g : Int → Int}
    (rule : ∀ (i : Int) (t : Tok) (s : Shared) (Q : Value → Shared → Prop) (E : Value → Shared → Prop), Q (.int (g i) s.toks) { s with toks := s.toks + 1 } → wpAny (model X.prog X.w) X.A (f (.int i t)) Q E s) :
    UnR X f (rU fun i => .int (g i)) := by
  intro pins s σ H x v Q I rx h
  obtain ⟨i, rfl, q⟩ := h
  obtain ⟨t, rfl⟩ := rx
  exact rule i t s _ _ ⟨.int (g i), H, I.tok _, ⟨_, rfl⟩, q⟩
theorem un_neg : UnR X (unaryOp .USub) (rU fun i => .int (-i)) := unI fun _ _ _ _ _ q => neg_int q
end
def scal : V → V → Bool
  | .non, .non => true | .non, .int _ => true | .int _, .non => true | .non, .bl _ => true | .bl _, .non => true | .non, .str _ => true | .str _, .non => true
  | .int _, .int _ => true | .bl _, .bl _ => true | .str _, .str _ => true | .byt _, .byt _ => true
  | .int _, .str _ => true | .str _, .int _ => true | .bl _, .str _ => true | .str _, .bl _ => true
  | _, _ => false
def rEq : R2 := fun x y H Q => scal x y = true ∧ Q (.bl (decide (x = y))) H
def rNe : R2 := fun x y H Q => scal x y = true ∧ Q (.bl (!decide (x = y))) H
theorem dec_int {i j : Int} : decide (V.int i = V.int j) = (i == j) := by
  rw [Bool.eq_iff_iff]
  simp
theorem dec_bl {i j : Bool} : decide (V.bl i = V.bl j) = (i == j) := by
  rw [Bool.eq_iff_iff]
  simp
theorem dec_str {i j : Str} : decide (V.str i = V.str j) = (i == j) := by
  rw [Bool.eq_iff_iff]
  simp
theorem dec_byt {i j : Array UInt8} : decide (V.byt i = V.byt j) = (i.toList == j.toList) := by
  rw [Bool.eq_iff_iff]
  cases i
  cases j
  simp
section
variable {X : Cx} {a b c : Expr} {ta tb tc : TE} {pos : Pos}
theorem fin_bl {pins : List (Addr × Obj)} {σ : St} {H : Hp} {s : Shared} {Q : VK} {k k' : Bool} (I : Inv X pins σ H s) (q : Q (.bl k) H) (e : k = k') : EP X pins σ Q (.bool k') s := by
  subst e
  exact ⟨.bl k, H, I, rfl, q⟩
theorem op_eq : OpR X (compareOp .Eq) rEq := by
  intro pins s σ H x y v u Q I rx ry h
  obtain ⟨hs, q⟩ := h
  cases x with
  | non =>
    cases rx
    cases y with
    | non => cases ry; exact PySem.EqNone.eq_none_none (fin_bl I q (by simp))
    | bl j => cases ry; exact PySem.EqNone.eq_none_bool (fin_bl I q (by simp))
    | int j => obtain ⟨t', rfl⟩ := ry; exact PySem.EqNone.eq_none_int (fin_bl I q (by simp))
    | str j => obtain ⟨t', rfl⟩ := ry; exact PySem.EqNone.eq_none_str (fin_bl I q (by simp))
    | _ => exact absurd (show false = true from hs) Bool.false_ne_true
  | bl i =>
    cases rx
    cases y with
    | non => cases ry; exact PySem.EqNone.eq_bool_none (fin_bl I q (by simp))
    | bl j => cases ry; exact eq_bool (fin_bl I q dec_bl)
    | str j => obtain ⟨t', rfl⟩ := ry; exact PySem.EqMixed.eq_bool_str (fin_bl I q (by simp))
    | _ => exact absurd (show false = true from hs) Bool.false_ne_true
  | int i =>
    obtain ⟨t, rfl⟩ := rx
    cases y with
    | non => cases ry; exact PySem.EqNone.eq_int_none (fin_bl I q (by simp))
    | int j => obtain ⟨t', rfl⟩ := ry; exact eq_int (fin_bl I q dec_int)
    | str j => obtain ⟨t', rfl⟩ := ry; exact PySem.EqMixed.eq_int_str (fin_bl I q (by simp))
    | _ => exact absurd (show false = true from hs) Bool.false_ne_true
  | str i =>
    obtain ⟨t, rfl⟩ := rx
    cases y with
    | non => cases ry; exact PySem.EqNone.eq_str_none (fin_bl I q (by simp))
    | bl j => cases ry; exact PySem.EqMixed.eq_str_bool (fin_bl I q (by simp))
    | int j => obtain ⟨t', rfl⟩ := ry; exact PySem.EqMixed.eq_str_int (fin_bl I q (by simp))
    | str j => obtain ⟨t', rfl⟩ := ry; exact eq_str (fin_bl I q dec_str)
    | _ => exact absurd (show false = true from hs) Bool.false_ne_true
  | byt i =>
    obtain ⟨t, rfl⟩ := rx
    cases y with
    | byt j => obtain ⟨t', rfl⟩ := ry; exact PySem.W.eq_bytes (fin_bl I q dec_byt)
    | _ => exact absurd (show false = true from hs) Bool.false_ne_true
  | _ => cases y <;> exact absurd (show false = true from hs) Bool.false_ne_true
theorem op_ne : OpR X (compareOp .NotEq) rNe := by
  intro pins s σ H x y v u Q I rx ry h
  obtain ⟨hs, q⟩ := h
  cases x with
  | non =>
    cases rx
    cases y with
    | non => cases ry; exact PySem.EqNone.ne_none_none (fin_bl I q (by simp))
    | bl j => cases ry; exact PySem.EqNone.ne_none_bool (fin_bl I q (by simp))
    | int j => obtain ⟨t', rfl⟩ := ry; exact PySem.EqNone.ne_none_int (fin_bl I q (by simp))
    | str j => obtain ⟨t', rfl⟩ := ry; exact PySem.EqNone.ne_none_str (fin_bl I q (by simp))
    | _ => exact absurd (show false = true from hs) Bool.false_ne_true
  | bl i =>
    cases rx
    cases y with
    | non => cases ry; exact PySem.EqNone.ne_bool_none (fin_bl I q (by simp))
    | bl j => cases ry; exact ne_bool (fin_bl I q (congrArg not dec_bl))
    | str j => obtain ⟨t', rfl⟩ := ry; exact PySem.EqMixed.ne_bool_str (fin_bl I q (by simp))
    | _ => exact absurd (show false = true from hs) Bool.false_ne_true
  | int i =>
    obtain ⟨t, rfl⟩ := rx
    cases y with
    | non => cases ry; exact PySem.EqNone.ne_int_none (fin_bl I q (by simp))
    | int j => obtain ⟨t', rfl⟩ := ry; exact ne_int (fin_bl I q (congrArg not dec_int))
    | str j => obtain ⟨t', rfl⟩ := ry; exact PySem.EqMixed.ne_int_str (fin_bl I q (by simp))
    | _ => exact absurd (show false = true from hs) Bool.false_ne_true
  | str i =>
    obtain ⟨t, rfl⟩ := rx
    cases y with
    | non => cases ry; exact PySem.EqNone.ne_str_none (fin_bl I q (by simp))
    | bl j => cases ry; exact PySem.EqMixed.ne_str_bool (fin_bl I q (by simp))
    | int j => obtain ⟨t', rfl⟩ := ry; exact PySem.EqMixed.ne_str_int (fin_bl I q (by simp))
    | str j => obtain ⟨t', rfl⟩ := ry; exact ne_str (fin_bl I q (congrArg not dec_str))
    | _ => exact absurd (show false = true from hs) Bool.false_ne_true
  | byt i =>
    obtain ⟨t, rfl⟩ := rx
    cases y with
    | byt j => obtain ⟨t', rfl⟩ := ry; exact PySem.W.ne_bytes (fin_bl I q (congrArg not dec_byt))
    | _ => exact absurd (show false = true from hs) Bool.false_ne_true
  | _ => cases y <;> exact absurd (show false = true from hs) Bool.false_ne_true
theorem op_le : OpR X (compareOp .LtE) (rI0 fun i j => .bl (decide (i ≤ j))) := opB0 fun _ _ _ _ _ _ _ q => le_int q
theorem op_gt : OpR X (compareOp .Gt) (rI0 fun i j => .bl (decide (j < i))) := opB0 fun _ _ _ _ _ _ _ q => gt_int q
theorem op_ge : OpR X (compareOp .GtE) (rI0 fun i j => .bl (decide (j ≤ i))) := opB0 fun _ _ _ _ _ _ _ q => ge_int q
theorem op_notN : OpR X (compareOp .IsNot) (fun x y H Q => y = .non ∧ Q (.bl (!decide (x = .non))) H) := by
  intro pins s σ H x y v u Q I rx ry h
  obtain ⟨rfl, q⟩ := h
  cases ry
  refine isnot_none_gen (fin_bl I q ?_)
  cases x <;> first
    | (cases rx; rfl)
    | (obtain ⟨t, rfl⟩ := rx; rfl)
theorem OpR.or {f : Value → Value → Sem Value} {r r' : R2} (h : OpR X f r) (h' : OpR X f r') : OpR X f (fun x y H Q => r x y H Q ∨ r' x y H Q) := by
  intro pins s σ H x y v u Q I rx ry q
  rcases q with q | q
  · exact h pins s σ H x y v u Q I rx ry q
  · exact h' pins s σ H x y v u Q I rx ry q
theorem nomark (b : Expr) {op : CmpOp} (h : op ≠ .In := by decide) (h2 : op ≠ .NotIn := by decide) : behindInMarks op b = false := by
  have e1 : (op == CmpOp.In) = false := by cases op <;> first | rfl | exact absurd rfl h
  have e2 : (op == CmpOp.NotIn) = false := by cases op <;> first | rfl | exact absurd rfl h2
  cases b <;> simp [behindInMarks, e1, e2]
theorem pe_cmpR {op : CmpOp} {r : R2} (ho : OpR X (compareOp op) r) (ha : PE X a ta) (hb : PE X b tb) (hm : behindInMarks op b = false) : PE X (.Compare a [op] [b] pos) (tOp r ta tb) := by
  intro pins s σ H Q I h
  exact wpAny_Compare1 (binT ha hb I h fun v u s2 x y H2 I2 rx ry q => ho pins s2 σ H2 x y v u Q I2 rx ry q) hm
def tTest (t : TE) : TT := fun σ H Q => t σ H fun x H' => ∃ k, x = .bl k ∧ Q k H'
theorem pt_cmpR {op : CmpOp} {r : R2} (ho : OpR X (compareOp op) r) (ha : PE X a ta) (hb : PE X b tb) (hm : behindInMarks op b = false) : PT X (.Compare a [op] [b] pos) (tTest (tOp r ta tb)) := by
  intro pins s σ H Q I h
  refine wpAny_isTrue_Compare1 (thn (ha pins s σ H _ I h) fun v s1 ⟨x, H1, I1, r1, q1⟩ => thn (hb pins s1 σ H1 _ I1 q1) fun u s2 ⟨y, H2, I2, r2, q2⟩ =>
    thn (ho pins s2 σ H2 x y v u _ I2 r1 r2 q2) fun c s3 ⟨z, H3, I3, r3, k, e, q3⟩ => ?_) hm
  subst e
  cases r3
  exact wpAny_truthy_bool ⟨H3, I3, q3⟩
def tChain (r r' : R2) (ta tb tc : TE) : TE := fun σ H Q => ta σ H fun x H1 => tb σ H1 fun y H2 => r x y H2 fun z H3 => ∃ k, z = .bl k ∧
  (if k = true then tc σ H3 fun w' H4 => r' y w' H4 Q else Q (.bl false) H3)
theorem pe_chain {op op' : CmpOp} {r r' : R2} (ho : OpR X (compareOp op) r) (ho' : OpR X (compareOp op') r') (ha : PE X a ta) (hb : PE X b tb) (hc : PE X c tc)
    (hm : lastMarks [op, op'] [b, c] = false := by with_unfolding_all rfl) : PE X (.Compare a [op, op'] [b, c] pos) (tChain r r' ta tb tc) := by
  intro pins s σ H Q I h
  refine Compare_chain (thn (ha pins s σ H _ I h) fun v s1 ⟨x, H1, I1, r1, q1⟩ => chain_link (thn (hb pins s1 σ H1 _ I1 q1) fun u s2 ⟨y, H2, I2, r2, q2⟩ =>
    thn (ho pins s2 σ H2 x y v u _ I2 r1 r2 q2) fun d s3 ⟨z, H3, I3, r3, k, e, q3⟩ => ?_)) hm
  subst e
  cases r3
  refine wpAny_truthy_bool ?_
  cases k with
  | false => exact ite_ff ⟨.bl false, H3, I3, rfl, q3⟩
  | true => exact ite_tt (chain_last (thn (hc pins s3 σ H3 _ I3 q3) fun w' s4 ⟨z', H4, I4, r4, q4⟩ => ho' pins s4 σ H4 y z' u w' Q I4 r2 r4 q4))
theorem line63 : (sizeLine : Nat) < 2 ^ 63 := by rw [sizeLine_eq]; decide
theorem op_add_str : OpR X (binaryOp .Add) (fun x y H Q => ∃ i j, x = .str i ∧ y = .str j ∧ i.length + j.length ≤ sizeLine ∧ Q (.str (i ++ j)) H) := by
  intro pins s σ H x y v u Q I rx ry h
  obtain ⟨i, j, rfl, rfl, hz, q⟩ := h
  obtain ⟨t, rfl⟩ := rx
  obtain ⟨t', rfl⟩ := ry
  exact add_str (fun t' tk => ⟨.str (i ++ j), H, I.tok _, ⟨_, rfl⟩, q⟩) hz
theorem vals1 {x : V} {us : List Value} (r : Vals [x] us) : ∃ u, us = [u] ∧ RelV x u := by
  cases r with
  | cons r1 r2 => cases r2; exact ⟨_, rfl, r1⟩
theorem vals2 {x y : V} {us : List Value} (r : Vals [x, y] us) : ∃ u w', us = [u, w'] ∧ RelV x u ∧ RelV y w' := by
  cases r with
  | cons r1 r2 =>
    cases r2 with
    | cons r3 r4 => cases r4; exact ⟨_, _, rfl, r1, r3⟩
theorem call_max2 (hc : X.calm = true) : CallR X (.builtin "max") (fun xs H Q => ∃ i j, xs = [.int i, .int j] ∧ Q (.int (if j > i then j else i)) H) := by
  intro pins s σ H xs us Q I r h
  obtain ⟨i, j, rfl, q⟩ := h
  obtain ⟨u, w', rfl, ⟨t, rfl⟩, ⟨t', rfl⟩⟩ := vals2 r
  refine max_two_ints (I.ok.hd hc) fun h' tk k => ⟨_, H, I.kept k, ?_, q⟩
  by_cases hj : j > i
  · rw [if_pos hj, if_pos hj]; exact ⟨_, rfl⟩
  · rw [if_neg hj, if_neg hj]; exact ⟨_, rfl⟩
theorem call_min2 (hc : X.calm = true) : CallR X (.builtin "min") (fun xs H Q => ∃ i j, xs = [.int i, .int j] ∧ Q (.int (if j < i then j else i)) H) := by
  intro pins s σ H xs us Q I r h
  obtain ⟨i, j, rfl, q⟩ := h
  obtain ⟨u, w', rfl, ⟨t, rfl⟩, ⟨t', rfl⟩⟩ := vals2 r
  refine min_two_ints (I.ok.hd hc) fun h' tk k => ⟨_, H, I.kept k, ?_, q⟩
  by_cases hj : j < i
  · rw [if_pos hj, if_pos hj]; exact ⟨_, rfl⟩
  · rw [if_neg hj, if_neg hj]; exact ⟨_, rfl⟩
theorem call_int1 : CallR X (.type "int") (fun xs H Q => (∃ i, xs = [.int i] ∧ Q (.int i) H) ∨ ∃ k, xs = [.bl k] ∧ Q (.int (if k then 1 else 0)) H) := by
  intro pins s σ H xs us Q I r h
  rcases h with ⟨i, rfl, q⟩ | ⟨k, rfl, q⟩
  · obtain ⟨u, rfl, t, rfl⟩ := vals1 r
    exact call_int_int ⟨.int i, H, I, ⟨_, rfl⟩, q⟩
  · obtain ⟨u, rfl, r1⟩ := vals1 r
    cases r1
    exact call_int_bool ⟨.int (if k then 1 else 0), H, I.tok _, ⟨_, rfl⟩, q⟩
end
end L2
namespace L2
open PySem PySem.Spec PyProof.Rows
structure ObjM (h : Heap) (x dx C : Addr) (mA : Str → Option Value) : Prop where
  obj : h.get? x = some (PySem.W.instObj C dx)
  ns : h.Ns1 dx mA
  ne : dx ≠ x
theorem lookIn_ns {h : Heap} {dx : Addr} {mA : Str → Option Value} (n : h.Ns1 dx mA) : ∃ od, h.get? dx = some od ∧ ∀ name, PySem.W.lookIn name od = some (mA name) := by
  obtain ⟨o, es, ep, ho, hd, hk, _, hm⟩ := n
  refine ⟨o, ho, fun name => ?_⟩
  have e := hm name
  unfold nsFind findBy at e
  rw [← Array.find?_toList] at e
  unfold PySem.W.lookIn
  rw [hd]
  dsimp only
  split
  · rename_i y q
    rw [q] at e
    exact congrArg some e
  · rename_i q
    rw [q] at e
    have a : es.toList.any (·.refKey) = false := by
      rw [List.any_eq_false]
      intro y hy
      obtain ⟨z, t, hkey⟩ := hk y (Array.mem_toList_iff.mp hy)
      simp [DictEntry.refKey, hkey]
    have a' : ¬ es.toList.any (·.refKey) = true := by rw [a]; exact Bool.false_ne_true
    rw [if_neg a']
    exact congrArg some e
theorem ObjM.look {h : Heap} {x dx C : Addr} {mA : Str → Option Value} (I : ObjM h x dx C mA) : ∃ od, PySem.W.InstAt h x (PySem.W.instObj C dx) C (some od) ∧ ∀ name, PySem.W.lookIn name od = some (mA name) :=
  let ⟨od, ho, hl⟩ := lookIn_ns I.ns
  ⟨od, ⟨I.obj, rfl, rfl, ho⟩, hl⟩
section
variable {prog : Program} {w : World} {A : Around} {E : Value → Shared → Prop} {s : Shared} {K : PySem.W.Frag} {x dx C f : Addr} {mA : Str → Option Value} {name : Str} {v : Value}
theorem get_map {expr : Bool} {Q : Value → Shared → Prop} (X : K.In s.heap) (I : ObjM s.heap x dx C mA) (hg : PySem.W.plainGet K C name = true) (hh : PySem.W.hasDictIn K C = true)
    (ha : PySem.W.findIn K (.ref C) name = some none) (hv : mA name = some v) (hv' : PySem.W.handedIn v = true) (h : Q v { s with toks := s.toks + 1 }) :
    wpAny (model prog w) A (getAttr (.ref x) name expr) Q E s := by
  obtain ⟨od, J, hl⟩ := I.look
  exact PySem.W.get_value X J (PySem.W.plainGet_of hg).1 (PySem.W.findObj_own hh ha rfl (by rw [hl, hv])) hv' h
theorem get_meth {pl : Sem Bool} {Q : Value × List Value → Shared → Prop} (X : K.In s.heap) (I : ObjM s.heap x dx C mA) (hg : PySem.W.plainGet K C name = true)
    (hf : PySem.W.findIn K (.ref C) name = some (some (.ref f))) (ht : PySem.W.isFn K (.ref f) = true) (hv : mA name = none) (h : Q (.ref f, [.ref x]) s) :
    wpAny (model prog w) A (getMethod (.ref x) name pl) Q E s := by
  obtain ⟨od, J, hl⟩ := I.look
  exact PySem.W.method_fn X J (PySem.W.plainGet_of hg).1 (PySem.W.plainGet_of hg).2 hf (beq_iff_eq.mp ht) (by show (PySem.W.lookIn name od).map (·.isSome) = some false; rw [hl, hv]; rfl) h
theorem set_map {ns : List Str} {Q : Unit → Shared → Prop} (X : K.In s.heap) (I : ObjM s.heap x dx C mA)
    (hs : PySem.W.findIn K (.ref C) "__setattr__" = some (some (.builtin "object.__setattr__"))) (hp : PySem.W.plainOver K C = true) (ht : PySem.W.takerIn K C name = some none) (hh : PySem.W.hasDictIn K C = true)
    (hw : PySem.Within mA ns) (hsz : ns.length ≤ sizeLine)
    (h : ∀ h', ObjM h' x dx C (fun y => if y = name then some v else mA y) → Heap.SameBut dx s.heap h' → Q () { s with heap := h', toks := s.toks + 2 }) :
    wpAny (model prog w) A (setAttr (.ref x) name v) Q E s := by
  obtain ⟨od, J, hl⟩ := I.look
  refine PySem.W.set_plain X J hs (PySem.W.osa_open (s := { s with toks := s.toks + 1 }) (r := none) X J hp ht fun b => ?_)
  obtain ⟨cd, hc, hd'⟩ := PySem.W.any_some hh
  have hx : s.heap.get? x = some ⟨.ref C, some dx, .plain, #[]⟩ := I.obj
  refine wpAny_bind (wpAny_pure (wpAny_bind (wpAny_bind (wpAny_loadPart hx (wpAny_bind (PySem.W.Looks.here (s := { s with toks := s.toks + 1 }) (PySem.W.looks_clsIn X hc) ?_))))))
  rw [hd']
  refine wpAny_pure (a := some dx) (wpAny_bind (wpAny_pure (wpAny_bind ?_)))
  refine wpAny_nsSet1 (s := { s with toks := s.toks + 1 }) I.ns fun h' hn2 hs2 => ?_
  obtain ⟨oD, esD, epD, hoD, hdD, hcD⟩ := hn2.count (PySem.Within.cons name v hw)
  refine wpAny_bind (wpAny_lookBehind hoD (by rw [hdD]; exact pastItsLine_dict (Nat.le_trans hcD (by rw [List.length_cons]; omega))) ?_)
  exact wpAny_pure (h _ ⟨(hs2.2 _ (Ne.symm I.ne)).trans I.obj, hn2, I.ne⟩ hs2)
theorem make_map {R : Result → Shared → Prop} {vs : List Value} {kw : List (Str × Value)} (X : K.In s.heap) (hm : PySem.W.makesIn K C = true)
    (hi : PySem.W.findIn K (.ref C) "__init__" = some (some (.ref f))) (hf : PySem.W.typeIn K (.ref f) = some (.type "function"))
    (h : codeAny (model prog w) (A.under (.builtin "type.__call__" ⟨.ref C :: vs, kw⟩)) (.call (.ref f) ⟨.ref (s.heap.objs.size + 1) :: vs, kw⟩) (PySem.W.InitBack (s.heap.objs.size + 1) R)
      { s with heap := (s.heap.push PySem.W.emptyDict).push (PySem.W.instObj C s.heap.objs.size) }) :
    codeAny (model prog w) A (.call (.ref C) ⟨vs, kw⟩) R s := by
  obtain ⟨hh, g, d, t, os⟩ := s
  exact PySem.W.make_core (PySem.W.makes_of X hm) (PySem.W.looks_findIn X hi) (fun self => PySem.W.bind_fn X self hf) (.inl rfl) h
end
def putF (f : Str) (v : V) : List (Str × V) → List (Str × V)
  | [] => [(f, v)]
  | (g, x) :: r => if g = f then (g, v) :: r else (g, x) :: putF f v r
theorem lookup_putF (f g : Str) (v : V) : ∀ fs : List (Str × V), (putF f v fs).lookup g = if g = f then some v else fs.lookup g
  | [] => by
    show List.lookup g [(f, v)] = _
    by_cases h : g = f
    · have hb : (g == f) = true := beq_iff_eq.mpr h
      simp only [List.lookup, hb, if_pos h]
    · have hb : (g == f) = false := beq_eq_false_iff_ne.mpr h
      simp only [List.lookup, hb, if_neg h]
  | (k, x) :: r => by
    have ih := lookup_putF f g v r
    rw [show putF f v ((k, x) :: r) = (if k = f then (k, v) :: r else (k, x) :: putF f v r) from rfl]
    by_cases hk : k = f
    · rw [if_pos hk]
      by_cases h : g = k
      · have hb : (g == k) = true := beq_iff_eq.mpr h
        simp only [List.lookup, hb, if_pos (h.trans hk)]
      · have hb : (g == k) = false := beq_eq_false_iff_ne.mpr h
        simp only [List.lookup, hb, if_neg (fun e : g = f => h (e.trans hk.symm))]
    · rw [if_neg hk]
      by_cases h : g = k
      · have hb : (g == k) = true := beq_iff_eq.mpr h
        simp only [List.lookup, hb, if_neg (fun e : g = f => hk (h.symm.trans e))]
      · have hb : (g == k) = false := beq_eq_false_iff_ne.mpr h
        simp only [List.lookup, hb]
        exact ih
theorem keys_putF (f : Str) (v : V) : ∀ fs : List (Str × V), f ∈ (putF f v fs).map (·.1) ∧ ∀ g, g ∈ fs.map (·.1) → g ∈ (putF f v fs).map (·.1)
  | [] => ⟨by simp [putF], fun g h => by simp at h⟩
  | (k, x) :: r => by
    obtain ⟨i1, i2⟩ := keys_putF f v r
    rw [show putF f v ((k, x) :: r) = (if k = f then (k, v) :: r else (k, x) :: putF f v r) from rfl]
    by_cases hk : k = f
    · rw [if_pos hk]
      subst hk
      exact ⟨by simp, fun g h => by simpa using h⟩
    · rw [if_neg hk]
      refine ⟨?_, fun g h => ?_⟩
      · rw [List.map_cons]
        exact List.mem_cons_of_mem _ i1
      · rw [List.map_cons] at h ⊢
        rcases List.mem_cons.mp h with e | e
        · exact List.mem_cons.mpr (.inl e)
        · exact List.mem_cons_of_mem _ (i2 g e)
theorem length_putF (f : Str) (v : V) : ∀ fs : List (Str × V), (putF f v fs).length ≤ fs.length + 1
  | [] => by simp [putF]
  | (k, x) :: r => by
    have ih := length_putF f v r
    rw [show putF f v ((k, x) :: r) = (if k = f then (k, v) :: r else (k, x) :: putF f v r) from rfl]
    by_cases hk : k = f
    · rw [if_pos hk, List.length_cons, List.length_cons]; omega
    · rw [if_neg hk, List.length_cons, List.length_cons]; omega
theorem RelO.some_of {v : V} {o : Option Value} (r : RelO (some v) o) : ∃ u, o = some u ∧ RelV v u := by
  cases o with
  | none => exact (show False from r).elim
  | some u => exact ⟨u, rfl, r⟩
theorem RelO.none_of {o : Option Value} (r : RelO none o) : o = none := by
  cases o with
  | none => rfl
  | some u => exact (show False from r).elim
theorem handed_of {v : V} {u : Value} (r : RelV v u) : PySem.W.handedIn u = true := by
  cases v with
  | non => cases (show u = Value.none from r); rfl
  | bl b => cases (show u = Value.bool b from r); rfl
  | int i => obtain ⟨t, e⟩ := (show ∃ t, u = Value.int i t from r); cases e; rfl
  | str x => obtain ⟨t, e⟩ := (show ∃ t, u = Value.str x t from r); cases e; rfl
  | byt b => obtain ⟨t, e⟩ := (show ∃ t, u = Value.bytes b t from r); cases e; rfl
  | flt b => obtain ⟨t, e⟩ := (show ∃ t, u = Value.float b t from r); cases e; rfl
  | ref a => cases (show u = Value.ref a from r); rfl
  | ty n => cases (show u = Value.type n from r); rfl
section
variable {P : Program} {w : World} {H H' : Hp} {h h' : Heap} {a C dx : Addr} {fs fs' : List (Str × V)}
theorem ins_get (hok : HOk P w H h) (e : H a = some (.ins C dx fs)) : ∃ mA, ObjM h a dx C mA ∧ (∀ f, RelO (fs.lookup f) (mA f)) ∧ PySem.Within mA (fs.map (·.1)) ∧ fs.length ≤ 1000 ∧ H dx = some (.own a) := by
  obtain ⟨d, z, ne, ob, mA, n, r, q⟩ := (show ObjOk P w H h a (.ins C dx fs) from hok a _ e)
  exact ⟨mA, ⟨ob, n, ne⟩, r, q, z, d⟩
end
structure Cls (K : PySem.W.Frag) (C : Addr) : Prop where
  pg : PySem.W.plainGet K C Str.empty = true
  hd : PySem.W.hasDictIn K C = true
  po : PySem.W.plainOver K C = true
  sa : PySem.W.findIn K (.ref C) "__setattr__" = some (some (.builtin "object.__setattr__"))
theorem Cls.get {K : PySem.W.Frag} {C : Addr} (c : Cls K C) (f : Str) : PySem.W.plainGet K C f = true := c.pg
def NoAttr (K : PySem.W.Frag) (C : Addr) (f : Str) : Prop := PySem.W.findIn K (.ref C) f = some none
theorem NoAttr.taker {K : PySem.W.Frag} {C : Addr} {f : Str} (n : NoAttr K C f) : PySem.W.takerIn K C f = some none := by
  unfold PySem.W.takerIn
  rw [show PySem.W.findIn K (.ref C) f = some none from n]
  rfl
structure Meth (K : PySem.W.Frag) (C : Addr) (m : Str) (f : Addr) : Prop where
  at_ : PySem.W.findIn K (.ref C) m = some (some (.ref f))
  fn : PySem.W.isFn K (.ref f) = true
  kp : PySem.W.keepIn K (.ref f) = true
section
variable {X : Cx} {pins : List (Addr × Obj)} {σ : St} {H : Hp} {s : Shared} {a C dx : Addr} {fs : List (Str × V)} {f : Str} {v : V} {A : Around} {E : Value → Shared → Prop}
theorem getattr_ok {b : Bool} {Q : Value → Shared → Prop} (I : Inv X pins σ H s) (e : H a = some (.ins C dx fs)) (c : Cls X.K C) (n : NoAttr X.K C f) (l : fs.lookup f = some v)
    (h : ∀ u s', Inv X pins σ H s' → RelV v u → Q u s') : wpAny (model X.prog X.w) A (getAttr (.ref a) f b) Q E s := by
  obtain ⟨mA, O, r, _, _, _⟩ := ins_get I.hok e
  obtain ⟨u, hu, ru⟩ := RelO.some_of (v := v) (o := mA f) (by rw [← l]; exact r f)
  exact get_map I.kIn O (c.get f) c.hd n hu (handed_of ru) (h u _ (I.tok _) ru)
theorem getmeth_ok {m : Str} {g : Addr} {pl : Sem Bool} {Q : Value × List Value → Shared → Prop} (I : Inv X pins σ H s) (e : H a = some (.ins C dx fs)) (c : Cls X.K C) (k : Meth X.K C m g) (l : fs.lookup m = none)
    (h : Q (.ref g, [.ref a]) s) : wpAny (model X.prog X.w) A (getMethod (.ref a) m pl) Q E s := by
  obtain ⟨mA, O, r, _, _, _⟩ := ins_get I.hok e
  have hn : mA m = none := RelO.none_of (by rw [← l]; exact r m)
  exact get_meth I.kIn O (c.get m) k.at_ k.fn hn h
theorem setattr_ok {y : V} {u : Value} {Q : Unit → Shared → Prop} (I : Inv X pins σ H s) (e : H a = some (.ins C dx fs)) (c : Cls X.K C) (n : NoAttr X.K C f) (hl : fs.length < 1000) (ry : RelV y u)
    (h : ∀ s', Inv X pins σ (upd H a (.ins C dx (putF f y fs))) s' → Q () s') : wpAny (model X.prog X.w) A (setAttr (.ref a) f u) Q E s := by
  obtain ⟨mA, O, r, wi, _, ho⟩ := ins_get I.hok e
  have hz : (fs.map (·.1)).length ≤ sizeLine := by rw [List.length_map, sizeLine_eq]; omega
  refine set_map I.kIn O c.sa c.po n.taker c.hd wi hz fun h' O' sb => h _ ?_
  have hd : ∃ o, h'.get? dx = some o := let ⟨o, _, _, e', _⟩ := O'.ns; ⟨o, e'⟩
  refine I.write (x := a) (e := dx) (by rw [e]; exact True.intro) (.inr ho) (fun b q hb z => (sb.2 b hb).trans z) hd ?_
  refine ⟨by rw [upd_ne O.ne]; exact ho, ?_, O.ne, O'.obj, _, O'.ns, fun g => ?_, fun g hg => ?_⟩
  · have := length_putF f y fs; omega
  · show RelO ((putF f y fs).lookup g) (if g = f then some u else mA g)
    rw [lookup_putF]
    by_cases q : g = f
    · rw [if_pos q, if_pos q]; exact ry
    · rw [if_neg q, if_neg q]; exact r g
  · by_cases q : g = f
    · rw [q]; exact (keys_putF f y fs).1
    · refine (keys_putF f y fs).2 g (wi g fun z => hg ?_)
      show (if g = f then some u else mA g) = none
      rw [if_neg q]; exact z
theorem Inv.made (I : Inv X pins σ H s) : Inv X pins σ (upd (upd H s.heap.objs.size (.own (s.heap.objs.size + 1))) (s.heap.objs.size + 1) (.ins C s.heap.objs.size []))
    { s with heap := (s.heap.push PySem.W.emptyDict).push (PySem.W.instObj C s.heap.objs.size) } := by
  have e1 : (s.heap.push PySem.W.emptyDict).get? s.heap.objs.size = some PySem.W.emptyDict := Heap.get?_push_size s.heap rfl
  have e2 : ((s.heap.push PySem.W.emptyDict).push (PySem.W.instObj C s.heap.objs.size)).get? (s.heap.objs.size + 1) = some (PySem.W.instObj C s.heap.objs.size) := by
    have := Heap.get?_push_size (s.heap.push PySem.W.emptyDict) (o := PySem.W.instObj C s.heap.objs.size) rfl
    rwa [Heap.size_push] at this
  have e3 : (s.heap.push PySem.W.emptyDict).Ns s.heap.objs.size (fun _ => none) := ⟨PySem.W.emptyDict, #[], _, e1, rfl, (fun e he => absurd he (by simp)), fun _ => rfl⟩
  have I1 := I.laid (a := s.heap.objs.size) (o := .own (s.heap.objs.size + 1)) (h' := s.heap.push PySem.W.emptyDict) (t' := s.toks) (fun b u q => Heap.get?_push_of_some _ q) (Nat.le_refl _) ⟨_, e1⟩
  refine I1.laid (a := s.heap.objs.size + 1) (o := .ins C s.heap.objs.size []) (t' := s.toks) (fun b u q => Heap.get?_push_of_some _ q) (Nat.le_of_eq (Heap.size_push _ _)) ?_
  have ne : s.heap.objs.size ≠ s.heap.objs.size + 1 := Nat.ne_of_lt (Nat.lt_succ_self _)
  refine ⟨by rw [upd_ne ne, upd_same], Nat.zero_le _, ne, e2, fun _ => none, (Heap.Ns1.of_empty e3).at fun o q => Heap.get?_push_of_some _ q, fun _ => True.intro, fun y hy => absurd rfl hy⟩
theorem attr_of {prog : Program} {w : World} {env : Env} {e : Expr} {f : Str} {pos : Pos} {s : Shared} {Q : Value → Shared → Prop} (hb : attributeBase e f env (eval e env) = eval e env)
    (h : wpAny (model prog w) A (eval e env) (fun o s₁ => wpAny (model prog w) A (getAttr o f true) Q E s₁) E s) : wpAny (model prog w) A (eval (.Attribute e f pos) env) Q E s :=
  Attribute_any_ h (by rw [arm_eval_Attribute, hb])
end
def tFld (K : PySem.W.Frag) (ta : TE) (f : Str) : TE := fun σ H Q => ta σ H fun x H1 => ∃ a C dx fs v, x = .ref a ∧ H1 a = some (.ins C dx fs) ∧ Cls K C ∧ NoAttr K C f ∧ fs.lookup f = some v ∧ Q v H1
def sFld (K : PySem.W.Frag) (ta tv : TE) (f : Str) : TS := fun D σ H => tv σ H fun y H1 => ta σ H1 fun x H2 => ∃ a C dx fs, x = .ref a ∧ H2 a = some (.ins C dx fs) ∧ Cls K C ∧ NoAttr K C f ∧ fs.length < 1000 ∧
  D.nx σ (upd H2 a (.ins C dx (putF f y fs)))
section
variable {X : Cx} {o e value : Expr} {f : Str} {pos pos' tpos : Pos} {ta tv : TE}
theorem pe_fld (he : PE X e ta) (hb : attributeBase e f X.env (eval e X.env) = eval e X.env) : PE X (.Attribute e f pos) (tFld X.K ta f) := by
  intro pins s σ H Q I h
  refine attr_of hb (thn (he pins s σ H _ I h) fun u s1 ⟨x, H1, I1, rx, a, C, dx, fs, v, ex, ea, c, n, l, q⟩ => ?_)
  subst ex
  obtain rfl : u = Value.ref a := rx
  exact getattr_ok I1 ea c n l fun u' s2 I2 ru => ⟨v, H1, I2, ru, q⟩
theorem ps_fld (ha : PE X o ta) (hv : PE X value tv) (hs : swapsWith value (some (.Attribute o f pos')) pos.line X.env = pure false) : PS X (.Assign [.Attribute o f pos'] value pos) (sFld X.K ta tv f) := by
  intro pins s σ H D I h
  refine plainObj_wpAny_Assign_Attribute (thn (hv pins s σ H _ I h) fun u s1 ⟨y, H1, I1, ry, q⟩ => thn (ha pins s1 σ H1 _ I1 q) fun ov s2 ⟨x, H2, I2, rx, a, C, dx, fs, ex, ea, c, n, l, q2⟩ => ?_) hs
  subst ex
  obtain rfl : ov = Value.ref a := rx
  exact setattr_ok I2 ea c n l ry fun s3 I3 => ⟨σ, _, I3, q2⟩
theorem methcall_of {pl : Sem Bool} {m : Str} {apos : Pos} {args : List Expr} {pins : List (Addr × Obj)} {s : Shared} {σ : St} {H : Hp} {Q : Value → Shared → Prop} {te : TE} (he : PE X e te) (I : Inv X pins σ H s)
    (h : te σ H fun x H1 => ∃ a C dx fs g, x = .ref a ∧ H1 a = some (.ins C dx fs) ∧ Cls X.K C ∧ Meth X.K C m g ∧ fs.lookup m = none ∧
      ∀ s1, Inv X pins σ H1 s1 → wpAny (model X.prog X.w) X.A (callWith pos (.ref g) [.ref a] (backTo pos (starEach args X.env)) (backToKw pos (keywordEach [] X.env))) Q X.xe s1)
    (ht : eval (.Call (.Attribute e m apos) args [] pos) X.env = (do
      let ov ← eval e X.env
      standAt apos.atName
      let (f, first) ← holding [ov] (getMethod ov m pl)
      callWith pos f first (backTo pos (starEach args X.env)) (backToKw pos (keywordEach [] X.env)))) :
    wpAny (model X.prog X.w) X.A (eval (.Call (.Attribute e m apos) args [] pos) X.env) Q X.xe s := by
  refine PySem.W.methodCall_KW (pl := pl) (thn (he pins s σ H _ I h) fun u s1 ⟨x, H1, I1, rx, a, C, dx, fs, g, ex, ea, c, k, l, q⟩ => ?_) ht
  subst ex
  obtain rfl : u = Value.ref a := rx
  exact getmeth_ok I1 ea c k l (q s1 I1)
end
section
variable {X : Cx} {pins : List (Addr × Obj)} {σ : St} {H : Hp} {s : Shared} {A : Around} {E : Value → Shared → Prop} {Q : Value → Shared → Prop} {c : Value} {b : Bool}
inductive TyOf (K : PySem.W.Frag) (H : Hp) : V → Value → Prop where
  | non : TyOf K H .non (.type "NoneType")
  | bl (x : Bool) : TyOf K H (.bl x) (.type "bool")
  | int (i : Int) : TyOf K H (.int i) (.type "int")
  | str (x : Str) : TyOf K H (.str x) (.type "str")
  | flt (x : UInt64) : TyOf K H (.flt x) (.type "float")
  | lst {a : Addr} {xs : List V} (e : H a = some (.lst xs)) : TyOf K H (.ref a) (.type "list")
  | frz {a : Addr} {o : Obj} {xs : List V} (e : H a = some (.frz o (.lst xs))) : TyOf K H (.ref a) (.type "list")
  | tup {a : Addr} {xs : List V} (e : H a = some (.tup xs)) : TyOf K H (.ref a) (.type "tuple")
  | dK {a : Addr} {kvs : List (Key × V)} (e : H a = some (.dK kvs)) : TyOf K H (.ref a) (.type "dict")
  | dT {a : Addr} {kvs : List (List Key × V)} (e : H a = some (.dT kvs)) : TyOf K H (.ref a) (.type "dict")
  | ins {a C dx : Addr} {fs : List (Str × V)} (e : H a = some (.ins C dx fs)) (cl : Cls K C) (ha : PySem.W.findIn K (.ref C) "__class__" = some (some (.builtin "object.__class__")))
      (hn : PySem.W.specialIn K (.builtin "object.__class__") "__get__" = some (some (.builtin "getset_descriptor.__get__"))) (htk : PySem.W.takesIn K (.builtin "object.__class__") = some true)
      (hm : PySem.W.mroIn K C (.type "object") = some true) : TyOf K H (.ref a) (.ref C)
theorem isinst_ok {x : V} {u t : Value} (I : Inv X pins σ H s) (rx : RelV x u) (ty : TyOf X.K H x t) (e : PySem.W.kitOne X.K t c = some b) (h : ∀ tk, Q (.bool b) { s with toks := tk }) :
    wpAny (model X.prog X.w) A (call (.builtin "isinstance") [u, c]) Q E s := by
  cases ty with
  | non => cases (show u = Value.none from rx); exact PySem.W.kia_one PySem.W.kitx_none I.kIn True.intro e (fun z => nomatch z) h
  | bl y => cases (show u = Value.bool y from rx); exact PySem.W.kia_one PySem.W.kitx_bool I.kIn True.intro e (fun z => nomatch z) h
  | int i => obtain ⟨t, q⟩ := (show ∃ t, u = Value.int i t from rx); cases q; exact PySem.W.kia_one PySem.W.kitx_int I.kIn True.intro e (fun z => nomatch z) h
  | str y => obtain ⟨t, q⟩ := (show ∃ t, u = Value.str y t from rx); cases q; exact PySem.W.kia_one PySem.W.kitx_str I.kIn True.intro e (fun z => nomatch z) h
  | flt y => obtain ⟨t, q⟩ := (show ∃ t, u = Value.float y t from rx); cases q; exact PySem.W.kia_one PySem.W.kitx_float I.kIn True.intro e (fun z => nomatch z) h
  | @lst a xs ea =>
    cases (show u = Value.ref a from rx)
    obtain ⟨_, _, n, _, h1⟩ := (show ObjOk X.prog X.w H s.heap a (.lst xs) from I.hok a _ ea)
    exact PySem.W.kia_one PySem.W.kitx_list I.kIn ⟨_, h1, rfl⟩ e (fun z => nomatch z) h
  | @frz a ob xs ea =>
    cases (show u = Value.ref a from rx)
    obtain ⟨_, _, _, n, _, h1⟩ := (show ObjOk X.prog X.w H s.heap a (.frz ob (.lst xs)) from I.hok a _ ea)
    exact PySem.W.kia_one PySem.W.kitx_list I.kIn ⟨_, h1, rfl⟩ e (fun z => nomatch z) h
  | @tup a xs ea =>
    cases (show u = Value.ref a from rx)
    obtain ⟨_, _, _, p⟩ := (show ObjOk X.prog X.w H s.heap a (.tup xs) from I.hok a _ ea)
    obtain ⟨o, h1, h2, _⟩ := p
    exact PySem.W.kia_one PySem.W.kitx_tuple I.kIn ⟨o, h1, h2⟩ e (fun z => nomatch z) h
  | @dK a kvs ea =>
    cases (show u = Value.ref a from rx)
    obtain ⟨_, _, vs, _, p⟩ := (show ObjOk X.prog X.w H s.heap a (.dK kvs) from I.hok a _ ea)
    obtain ⟨o, es, ep, h1, h2, _⟩ := p
    exact PySem.W.kia_one PySem.W.kitx_dict I.kIn ⟨o, h1, h2.1⟩ e (fun z => nomatch z) h
  | @dT a kvs ea =>
    cases (show u = Value.ref a from rx)
    obtain ⟨_, _, xs, _, o, es, ep, h1, h2, _⟩ := (show ObjOk X.prog X.w H s.heap a (.dT kvs) from I.hok a _ ea)
    exact PySem.W.kia_one PySem.W.kitx_dict I.kIn ⟨o, h1, h2.1⟩ e (fun z => nomatch z) h
  | @ins a C dx fs ea cl ha hn htk hm =>
    cases (show u = Value.ref a from rx)
    obtain ⟨mA, O, _⟩ := ins_get I.hok ea
    obtain ⟨od, J, _⟩ := O.look
    exact PySem.W.kia_one (PySem.W.kitx_own (cl.get _) cl.hd ha hn htk hm) I.kIn J e (fun z => nomatch z) h
end
end L2
namespace L2
open PySem PySem.Spec PyProof.Rows
structure Room (k : Nat) (A : Around) : Prop where
  hd : A.handled = none
  dp : A.depth + 3 * k + 5 < recursionLimit
  un : A.units + 16 * k + 200 < cLine
theorem Room.mono {j k : Nat} {A : Around} (r : Room k A) (h : j ≤ k) : Room j A := ⟨r.hd, by have := r.dp; omega, by have := r.un; omega⟩
theorem Room.deeper {k : Nat} {A : Around} (r : Room (k + 1) A) (env : Env) : Room k (A.deeper env) :=
  ⟨r.hd, by have := r.dp; show A.depth + 1 + 3 * k + 5 < _; omega, by have := r.un; show A.units + 3 + 16 * k + 200 < _; omega⟩
theorem make_depth {A : Around} {C : Addr} {us : List Value} {kw : List (Str × Value)} : (A.under (.builtin "type.__call__" ⟨.ref C :: us, kw⟩)).depth = A.depth + 1 := by
  first | rfl | simp [Around.under, Code.weight, Code.isCreation, Code.isGuard, Code.isCaller, Code.frames, Code.isFrame, guardIds]
theorem make_units {A : Around} {C : Addr} {us : List Value} {kw : List (Str × Value)} : (A.under (.builtin "type.__call__" ⟨.ref C :: us, kw⟩)).units = A.units + 1 := by
  first | rfl | simp [Around.under, Code.cUnits, Code.frames, Code.isFrame]
theorem Room.make {k : Nat} {A : Around} (r : Room (k + 1) A) (C : Addr) (us : List Value) (kw : List (Str × Value)) : Room k (A.under (.builtin "type.__call__" ⟨.ref C :: us, kw⟩)) :=
  ⟨r.hd, by have := r.dp; rw [make_depth]; omega, by have := r.un; rw [make_units]; omega⟩
theorem Room.depth {k : Nat} {A : Around} (r : Room k A) : A.depth < recursionLimit := by have := r.dp; omega
def tNil : TA := fun _ H Q => Q [] H
def tCons (ta : TE) (tr : TA) : TA := fun σ H Q => ta σ H fun x H1 => tr σ H1 fun xs H2 => Q (x :: xs) H2
section
variable {X : Cx} {e : Expr} {es : List Expr} {te : TE} {t : TA} {pos : Pos}
theorem pa_nil : PA X [] tNil := fun _ _ _ _ H Q I h => Calls.spliced_nil ⟨[], H, I, .nil, h⟩
theorem pa_cons (ha : PE X e te) (hr : PA X es t) (hs : starEach (e :: es) X.env = (false, eval e X.env) :: starEach es X.env := by rfl) : PA X (e :: es) (tCons te t) := by
  intro pos pins s σ H Q I h
  rw [hs]
  show wpAny _ _ (spliced ((false, eval e X.env) :: backTo pos (starEach es X.env))) _ _ s
  refine Calls.spliced_cons (thn (ha pins s σ H _ I h) fun u s1 ⟨x, H1, I1, r1, q1⟩ => ?_)
  exact thn (hr pos pins s1 σ H1 _ I1 q1) fun us s2 ⟨xs, H2, I2, r2, q2⟩ => ⟨x :: xs, H2, I2, .cons r1 r2, q2⟩
def tTup (t : TA) : TE := fun σ H Q => t σ H fun xs H1 => xs.length ≤ sizeLine ∧ ∀ p, H1 p = none → Q (.ref p) (upd H1 p (.tup xs))
def tLst (t : TA) : TE := fun σ H Q => t σ H fun xs H1 => xs.length ≤ sizeLine ∧ ∀ p, H1 p = none → Q (.ref p) (upd H1 p (.lst xs))
theorem pe_tup {x1} (h : PA X es t) : PE X (.Tuple es x1 pos) (tTup t) := by
  intro pins s σ H Q I hq
  refine wpAny_Tuple_spliced (thn (h pos pins s σ H _ I hq) fun us s1 ⟨xs, H1, I1, r, z, q⟩ => ⟨by rw [← r.length]; exact z, ?_⟩)
  have hf : H1 s1.heap.objs.size = none := I1.hok.fresh (Nat.le_refl _)
  refine ⟨.ref s1.heap.objs.size, upd H1 s1.heap.objs.size (.tup xs), I1.laid (t' := s1.toks) (fun b u e => Heap.get?_push_of_some _ e) (Nat.le_refl _) ?_, rfl, q _ hf⟩
  exact ⟨z, us, r, ⟨_, Heap.get?_push_size _ rfl, rfl, _, rfl⟩⟩
theorem pe_lst (h : PA X es t) : PE X (.List es pos) (tLst t) := by
  intro pins s σ H Q I hq
  refine wpAny_List_spliced (thn (h pos pins s σ H _ I hq) fun us s1 ⟨xs, H1, I1, r, z, q⟩ => ⟨by rw [← r.length]; exact z, ?_⟩)
  have hf : H1 s1.heap.objs.size = none := I1.hok.fresh (Nat.le_refl _)
  refine ⟨.ref s1.heap.objs.size, upd H1 s1.heap.objs.size (.lst xs), I1.laid (t' := s1.toks) (fun b u e => Heap.get?_push_of_some _ e) (Nat.le_refl _) ?_, rfl, q _ hf⟩
  exact ⟨z, us, 0, r, Heap.get?_push_size _ rfl⟩
end
abbrev Sp := List V → Hp → VK → XK → Prop
abbrev CXT := List Env → Hp → Shared → XK → Value → Shared → Prop
structure Env0 (P : Program) (w : World) (K : PySem.W.Frag) (mg : Str → Option Value) (base : Heap) (A : Around) (outer : List Env) (s : Shared) (H : Hp) : Prop where
  frames : A.frames = some outer
  mod : Mod K mg base
  bs : ∀ b o, base.get? b = some o → s.heap.get? b = some o ∧ H b = none
  bsz : base.objs.size ≤ s.heap.objs.size
  funs : s.heap.FunFrames base outer
  frf : ∀ b ∈ frs outer, H b = none
  hok : HOk P w H s.heap
  bare : AllBare s.gens
def CE (outer : List Env) (P : Program) (w : World) (H : Hp) (s : Shared) (Q : VK) (u : Value) (s' : Shared) : Prop :=
  ∃ v H', s'.os = s.os ∧ AllBare s'.gens ∧ Un (frs outer) [] H H' s.heap s'.heap ∧ HOk P w H' s'.heap ∧ RelV v u ∧ Q v H'
def CR (CX : CXT) (outer : List Env) (P : Program) (w : World) (H : Hp) (s : Shared) (Q : VK) (E : XK) (r : Result) (s' : Shared) : Prop :=
  match r with
  | .ok (.ret u) => CE outer P w H s Q u s'
  | .ok _ => False
  | .error e => CX outer H s E e s'
structure FnOk (P : Program) (w : World) (K : PySem.W.Frag) (mg : Str → Option Value) (base : Heap) (CX : CXT) (k : Nat) (f : Addr) (fd : FuncData) (ps : List Str) (sp : Sp) : Prop where
  len : ∀ vs H Q E, sp vs H Q E → vs.length = ps.length
  run : ∀ (A : Around) (outer : List Env) (s : Shared) (H : Hp) (args : Args) (us : List Value) (vs : List V) (Q : VK) (E : XK), Room k A → Env0 P w K mg base A outer s H → BindsTo s fd args (ps.zip us) → Vals vs us → sp vs H Q E →
    codeAny (model P w) A (.call (.ref f) args) (CR CX outer P w H s Q E) s
theorem FnOk.mono {P : Program} {w : World} {K : PySem.W.Frag} {mg : Str → Option Value} {base : Heap} {CX : CXT} {j k : Nat} {f : Addr} {fd : FuncData} {ps : List Str} {sp : Sp} (F : FnOk P w K mg base CX j f fd ps sp) (h : j ≤ k) :
    FnOk P w K mg base CX k f fd ps sp := ⟨F.len, fun A outer s H args us vs Q E hr => F.run A outer s H args us vs Q E (hr.mono h)⟩
theorem Env0.make {P : Program} {w : World} {K : PySem.W.Frag} {mg : Str → Option Value} {base : Heap} {A : Around} {outer : List Env} {s : Shared} {H : Hp} (e : Env0 P w K mg base A outer s H) (C : Addr) (us : List Value) (kw : List (Str × Value)) :
    Env0 P w K mg base (A.under (.builtin "type.__call__" ⟨.ref C :: us, kw⟩)) outer s H := ⟨by first | exact e.frames | (simpa [Around.under, Code.envs, Code.isFrame, pushEnvs] using e.frames), e.mod, e.bs, e.bsz, e.funs, e.frf, e.hok, e.bare⟩
section
variable {X : Cx} {pins : List (Addr × Obj)} {σ : St} {H : Hp} {s s' : Shared}
theorem Inv.env0 (I : Inv X pins σ H s) : Env0 X.prog X.w X.K X.mg X.base X.A X.stack s H :=
  ⟨I.ok.frames, I.ok.mod, I.bs, Nat.le_trans I.ok.bsz I.sz, I.stack, I.stkFree, I.hok, I.bare⟩
theorem Inv.after {Q : VK} {u : Value} (I : Inv X pins σ H s) (h : CE X.stack X.prog X.w H s Q u s') : EP X pins σ Q u s' := by
  obtain ⟨v, H', os, bare, un, hok, r, q⟩ := h
  obtain ⟨hh, g, d, t, os'⟩ := s'
  obtain rfl : os' = s.os := os
  exact ⟨v, H', I.call (h' := hh) (g' := g) (d' := d) (t' := t) (ch := []) un hok bare (fun b z => absurd z (by simp)), r, q⟩
end
def tCall (sp : Sp) (dvs : List V) (E : XK) (t : TA) : TE := fun σ H Q => t σ H fun vs H1 => sp (vs ++ dvs) H1 Q E
def tMeth (C : Addr) (m : Str) (sp : Sp) (dvs : List V) (E : XK) (ta : TE) (t : TA) : TE := fun σ H Q => ta σ H fun x H1 => ∃ a dx fs, x = .ref a ∧ H1 a = some (.ins C dx fs) ∧ fs.lookup m = none ∧
  t σ H1 fun vs H2 => sp (x :: (vs ++ dvs)) H2 Q E
def tMake (C : Addr) (sp : Sp) (dvs : List V) (E : XK) (t : TA) : TE := fun σ H Q => t σ H fun vs H1 => ∀ x dx, H1 x = none → H1 dx = none → dx ≠ x →
  sp (.ref x :: (vs ++ dvs)) (upd (upd H1 dx (.own x)) x (.ins C dx [])) (fun v H2 => v = .non ∧ Q (.ref x) H2) E
def Binds (K : PySem.W.Frag) (fd : FuncData) (ps : List Str) (ds : List Value) : Prop :=
  ∀ (s : Shared) (us : List Value), K.In s.heap → (us ++ ds).length = ps.length → BindsTo s fd ⟨us, []⟩ (ps.zip (us ++ ds))
theorem Binds.all {K : PySem.W.Frag} {fd : FuncData} {ps : List Str} (h : ∀ us : List Value, us.length = ps.length → bindArgs fd ⟨us, []⟩ = pure (ps.zip us)) : Binds K fd ps [] := fun s us _ hl => by
  rw [List.append_nil] at hl ⊢
  exact .of_eq (h us hl)
def Passes (CX : CXT) (X : Cx) (E : XK) : Prop := ∀ (pins : List (Addr × Obj)) (σ : St) (H : Hp) (s : Shared) (e : Value) (s' : Shared), Inv X pins σ H s → CX X.stack H s E e s' → X.xe e s'
section
variable {X : Cx} {CX : CXT} {k : Nat} {f C : Addr} {fd : FuncData} {ps : List Str} {sp : Sp} {dvs : List V} {ds : List Value} {E : XK} {x m : Str} {p pos apos : Pos} {e o : Expr} {es : List Expr} {ta : TE} {t : TA}
theorem run_fn {pins : List (Addr × Obj)} {σ : St} {H : Hp} {s : Shared} {Q : VK} {us : List Value} {vs : List V} (F : FnOk X.prog X.w X.K X.mg X.base CX k f fd ps sp) (hr : Room k X.A) (hb : Binds X.K fd ps ds) (hd : Vals dvs ds) (hx : Passes CX X E)
    (I : Inv X pins σ H s) (r : Vals vs us) (h : sp (vs ++ dvs) H Q E) : wpAny (model X.prog X.w) X.A (call (.ref f) us) (EP X pins σ Q) X.xe s := by
  have r2 : Vals (vs ++ dvs) (us ++ ds) := r.append hd
  have hl : (us ++ ds).length = ps.length := by rw [← r2.length]; exact F.len _ _ _ _ h
  refine wpAny_call (codeAny_mono (F.run X.A X.stack s H ⟨us, []⟩ (us ++ ds) (vs ++ dvs) Q E hr I.env0 (hb s us I.kIn hl) r2 h) fun r s' hq => ?_)
  cases r with
  | error e => exact hx pins σ H s e s' I hq
  | ok fl =>
    cases fl with
    | ret u => exact I.after hq
    | next => exact False.elim hq
    | brk => exact False.elim hq
    | cont => exact False.elim hq
theorem pe_call (F : FnOk X.prog X.w X.K X.mg X.base CX k f fd ps sp) (hr : Room k X.A) (hg : Gl X x) (hm : X.mg x = some (.ref f)) (hk : PySem.W.keepIn X.K (.ref f) = true) (hb : Binds X.K fd ps ds) (hd : Vals dvs ds) (hx : Passes CX X E)
    (ha : PA X (e :: es) t) (hdb : (x == ("__debug__" : Str)) = false := by decide) (he : starEach (e :: es) X.env = (false, eval e X.env) :: starEach es X.env := by rfl) (hpl : (backTo pos (starEach es X.env)).any (·.1) = false := by rfl) :
    PE X (.Call (.Name x p) (e :: es) [] pos) (tCall sp dvs E t) := by
  intro pins s σ H Q I h
  refine wpAny_Call_Name_kw (ld_glob I hg hm ?_ hdb)
  refine PySem.W.callWith_K (h₀ := X.base) I.ok.mod.kin hk (thn (ha pos pins s σ H _ I h) fun us s1 ⟨vs, H1, I1, r, q⟩ => ⟨I1.kIn, ?_⟩) he hpl
  exact run_fn F hr hb hd hx I1 r q
theorem pe_meth {pl : Sem Bool} (he : PE X o ta) (c : Cls X.K C) (hm : Meth X.K C m f) (F : FnOk X.prog X.w X.K X.mg X.base CX k f fd ps sp) (hr : Room k X.A) (hb : Binds X.K fd ps ds) (hd : Vals dvs ds) (hx : Passes CX X E) (ha : PA X (e :: es) t)
    (hst : starEach (e :: es) X.env = (false, eval e X.env) :: starEach es X.env := by rfl) (hpl : (backTo pos (starEach es X.env)).any (·.1) = false := by rfl)
    (ht : eval (.Call (.Attribute o m apos) (e :: es) [] pos) X.env = (do
      let ov ← eval o X.env
      standAt apos.atName
      let (f, first) ← holding [ov] (getMethod ov m pl)
      callWith pos f first (backTo pos (starEach (e :: es) X.env)) (backToKw pos (keywordEach [] X.env))) := by rfl) :
    PE X (.Call (.Attribute o m apos) (e :: es) [] pos) (tMeth C m sp dvs E ta t) := by
  intro pins s σ H Q I h
  refine PySem.W.methodCall_KW (pl := pl) (thn (he pins s σ H _ I h) fun u s1 ⟨x, H1, I1, rx, a, dx, fs, ex, ea, l, q⟩ => ?_) ht
  subst ex
  obtain rfl : u = Value.ref a := rx
  refine getmeth_ok I1 ea c hm l ?_
  refine PySem.W.callWith_K (first := [.ref a]) (h₀ := X.base) I.ok.mod.kin hm.kp (thn (ha pos pins s1 σ H1 _ I1 q) fun us s2 ⟨vs, H2, I2, r, q2⟩ => ⟨I2.kIn, ?_⟩) hst hpl
  exact run_fn (us := .ref a :: us) (vs := .ref a :: vs) F hr hb hd hx I2 (.cons rfl r) q2
structure Mk (K : PySem.W.Frag) (C f : Addr) : Prop where
  makes : PySem.W.makesIn K C = true
  init : PySem.W.findIn K (.ref C) "__init__" = some (some (.ref f))
  fn : PySem.W.isFn K (.ref f) = true
  kp : PySem.W.keepIn K (.ref C) = true
theorem run_make {pins : List (Addr × Obj)} {σ : St} {H : Hp} {s : Shared} {Q : VK} {us : List Value} {vs : List V} (M : Mk X.K C f) (F : FnOk X.prog X.w X.K X.mg X.base CX k f fd ps sp) (hr : Room (k + 1) X.A) (hb : Binds X.K fd ps ds) (hd : Vals dvs ds)
    (hx : Passes CX X E) (I : Inv X pins σ H s) (r : Vals vs us)
    (h : ∀ x dx, H x = none → H dx = none → dx ≠ x → sp (.ref x :: (vs ++ dvs)) (upd (upd H dx (.own x)) x (.ins C dx [])) (fun v H2 => v = .non ∧ Q (.ref x) H2) E) :
    wpAny (model X.prog X.w) X.A (call (.ref C) us) (EP X pins σ Q) X.xe s := by
  have hq := h (s.heap.objs.size + 1) s.heap.objs.size (I.hok.fresh (Nat.le_succ _)) (I.hok.fresh (Nat.le_refl _)) (Nat.ne_of_lt (Nat.lt_succ_self _))
  have I2 := Inv.made (C := C) I
  have r2 : Vals (V.ref (s.heap.objs.size + 1) :: (vs ++ dvs)) (Value.ref (s.heap.objs.size + 1) :: (us ++ ds)) := .cons rfl (r.append hd)
  have hl : (Value.ref (s.heap.objs.size + 1) :: us ++ ds).length = ps.length := by
    have e := r2.length
    rw [F.len _ _ _ _ hq] at e
    exact e.symm
  refine wpAny_call (make_map (f := f) I.kIn M.makes M.init (beq_iff_eq.mp M.fn) (codeAny_mono (F.run _ X.stack _ _ ⟨Value.ref (s.heap.objs.size + 1) :: us, []⟩ (Value.ref (s.heap.objs.size + 1) :: (us ++ ds)) _ _ E (hr.make C us [])
    (I2.env0.make C us []) (hb _ (Value.ref (s.heap.objs.size + 1) :: us) I2.kIn hl) r2 hq) fun r s' hq' => ?_))
  cases r with
  | error e => exact hx pins σ _ _ e s' I2 hq'
  | ok fl =>
    cases fl with
    | ret u =>
      obtain ⟨v, H', I3, rv, ev, q3⟩ := I2.after hq'
      subst ev
      exact ⟨rv, ⟨V.ref (s.heap.objs.size + 1), H', I3, rfl, q3⟩⟩
    | next => exact False.elim hq'
    | brk => exact False.elim hq'
    | cont => exact False.elim hq'
theorem pe_make (M : Mk X.K C f) (F : FnOk X.prog X.w X.K X.mg X.base CX k f fd ps sp) (hr : Room (k + 1) X.A) (hg : Gl X x) (hm : X.mg x = some (.ref C)) (hb : Binds X.K fd ps ds) (hd : Vals dvs ds) (hx : Passes CX X E)
    (ha : PA X (e :: es) t) (hdb : (x == ("__debug__" : Str)) = false := by decide) (he : starEach (e :: es) X.env = (false, eval e X.env) :: starEach es X.env := by rfl) (hpl : (backTo pos (starEach es X.env)).any (·.1) = false := by rfl) :
    PE X (.Call (.Name x p) (e :: es) [] pos) (tMake C sp dvs E t) := by
  intro pins s σ H Q I h
  refine wpAny_Call_Name_kw (ld_glob I hg hm ?_ hdb)
  refine PySem.W.callWith_K (h₀ := X.base) I.ok.mod.kin M.kp (thn (ha pos pins s σ H _ I h) fun us s1 ⟨vs, H1, I1, r, q⟩ => ⟨I1.kIn, ?_⟩) he hpl
  exact run_make M F hr hb hd hx I1 r q
end
section
variable {X : Cx} {CX : CXT} {k : Nat} {f C : Addr} {fd : FuncData} {ps ks : List Str} {sp : Sp} {E : XK} {x m : Str} {p pos apos kpos : Pos} {e o : Expr} {es : List Expr} {kws : List Keyword} {te ta : TE} {t tk : TA} {nm : Option Str}
variable {g : List Value → List Value → List Value} {gV : List V → List V → List V}
end
structure FnScope (N P : List Str) (sc : Scope) : Prop where
  kind : sc.kind = .function
  co : sc.isCoroutine = false
  gen : sc.isGenerator = false
  nd : N.Nodup
  pre : N.take P.length = P
  par : ∀ x ∈ P, sc.names.lookup x = some .local ∨ sc.names.lookup x = some .cell
  nofree : ∀ y ∈ sc.names, y.2 ≠ .free
theorem bindL_out {kindOf : Str → Option NameKind} {x : Str} : ∀ {binds : List (Str × Value)} {m : Str → Option Value}, (∀ v, (x, v) ∉ binds) → bindL kindOf binds m x = m x
  | [], _, _ => rfl
  | (n, v) :: r, m, h => by
    unfold bindL
    rw [bindL_out fun w hw => h w (List.mem_cons_of_mem _ hw)]
    split
    · have : x ≠ n := by rintro rfl; exact h v List.mem_cons_self
      simp [this]
    · rfl
theorem bindC_out {kindOf : Str → Option NameKind} {x : Str} : ∀ {binds : List (Str × Value)} {m : Str → Option Value}, (∀ v, (x, v) ∉ binds) → bindC kindOf binds m x = m x
  | [], _, _ => rfl
  | (n, v) :: r, m, h => by
    unfold bindC
    rw [bindC_out fun w hw => h w (List.mem_cons_of_mem _ hw)]
    split
    · rfl
    · have : x ≠ n := by rintro rfl; exact h v List.mem_cons_self
      simp [this]
theorem bindL_get {kindOf : Str → Option NameKind} {x : Str} {v : Value} : ∀ {P : List Str} {vs : List Value} {i : Nat} {m : Str → Option Value}, P.Nodup → P[i]? = some x → vs[i]? = some v → kindOf x = some .local →
    bindL kindOf (P.zip vs) m x = some v
  | [], _, _, _, _, h, _, _ => by simp at h
  | _ :: _, [], _, _, _, _, h, _ => by simp at h
  | p :: P, w :: vs, 0, m, nd, h1, h2, hk => by
    simp at h1 h2; subst h1; subst h2
    show bindL kindOf ((p, w) :: P.zip vs) m p = _
    unfold bindL
    rw [bindL_out fun v hv => (List.nodup_cons.mp nd).1 (List.of_mem_zip hv).1, if_pos hk]
    simp
  | p :: P, w :: vs, i + 1, m, nd, h1, h2, hk => by
    show bindL kindOf ((p, w) :: P.zip vs) m x = _
    unfold bindL
    exact bindL_get (i := i) (List.nodup_cons.mp nd).2 (by simpa using h1) (by simpa using h2) hk
theorem bindC_get {kindOf : Str → Option NameKind} {x : Str} {v : Value} : ∀ {P : List Str} {vs : List Value} {i : Nat} {m : Str → Option Value}, P.Nodup → P[i]? = some x → vs[i]? = some v → kindOf x ≠ some .local →
    bindC kindOf (P.zip vs) m x = some v
  | [], _, _, _, _, h, _, _ => by simp at h
  | _ :: _, [], _, _, _, _, h, _ => by simp at h
  | p :: P, w :: vs, 0, m, nd, h1, h2, hk => by
    simp at h1 h2; subst h1; subst h2
    show bindC kindOf ((p, w) :: P.zip vs) m p = _
    unfold bindC
    rw [bindC_out fun v hv => (List.nodup_cons.mp nd).1 (List.of_mem_zip hv).1, if_neg hk]
    simp
  | p :: P, w :: vs, i + 1, m, nd, h1, h2, hk => by
    show bindC kindOf ((p, w) :: P.zip vs) m x = _
    unfold bindC
    exact bindC_get (i := i) (List.nodup_cons.mp nd).2 (by simpa using h1) (by simpa using h2) hk
def start (N : List Str) (vs : List V) : St := vs.map some ++ List.replicate (N.length - vs.length) none
def cxOf (CX : CXT) (P : Program) (w : World) (K : PySem.W.Frag) (mg : Str → Option Value) (base : Heap) (N : List Str) (qual : Str) (scope : Scope) (f : Addr) (cd : Value) (A : Around) (outer : List Env) (s : Shared) (H : Hp) (E : XK) : Cx where
  prog := P
  w := w
  K := K
  mg := mg
  base := base
  A := A.deeper (envOfC qual scope s.heap.objs.size f cd)
  N := N
  s₀ := s
  H₀ := H
  env := envOfC qual scope s.heap.objs.size f cd
  outer := outer
  stack := envOfC qual scope s.heap.objs.size f cd :: outer
  ex := []
  calm := true
  fn := fun _ => true
  pn := []
  xe := fun e s' => wpAny (model P w) (A.deeper (envOfC qual scope s.heap.objs.size f cd)) (leaving (envOfC qual scope s.heap.objs.size f cd) e) (fun _ s'' => CX outer H s E e s'') (fun e' s'' => CX outer H s E e' s'') s'
theorem cell_has {sc : Scope} {n : Nat} {x : Str} (h : sc.names.lookup x = some .cell) : ∃ c, (cellsFrom n sc.names []).lookup x = some c := by
  have q := PySem.W.cellsFrom_some sc.names n [] (.inl h)
  exact Option.isSome_iff_exists.mp q
theorem inv_start {CX : CXT} {P : Program} {w : World} {K : PySem.W.Frag} {mg : Str → Option Value} {base : Heap} {N ps : List Str} {qual : Str} {scope : Scope} {f : Addr} {cd : Value} {A : Around} {outer : List Env} {s s1 : Shared} {H : Hp} {E : XK} {us : List Value} {vs : List V}
    (S : FnScope N ps scope) (hd : A.handled = none) (e0 : Env0 P w K mg base A outer s H) (hl : vs.length = ps.length) (r : Vals vs us)
    (x : InCallC s s.heap.objs.size (bindL (envOfC qual scope s.heap.objs.size f cd).kindOf (ps.zip us) fun _ => none) (cellsFrom (s.heap.objs.size + 1) scope.names []) (bindC (envOfC qual scope s.heap.objs.size f cd).kindOf (ps.zip us) fun _ => none) s1) :
    Inv (cxOf CX P w K mg base N qual scope f cd A outer s H E) [] (start N vs) H s1 := by
  have hpl : ps.length ≤ N.length := by have := congrArg List.length S.pre; rw [List.length_take] at this; omega
  obtain ⟨h1, tk, rfl, hk⟩ := x.done
  have noA : ∀ b : Addr, b ∉ (cxOf CX P w K mg base N qual scope f cd A outer s H E).ex := fun b z => absurd (show b ∈ ([] : List Addr) from z) (by simp)
  refine ⟨⟨e0.mod, S.kind, rfl, rfl, Nat.le_refl _, fun y z c h1 h2 => ?_, fun y hy => ?_, fun y c _ h => ?_, fun _ => hd, Around.frames_deeper e0.frames, .inr ⟨rfl, rfl⟩, fun b z => absurd z (noA b), e0.bs, e0.bsz, fun b _ _ => noA b, fun b z => absurd z (noA b), e0.funs, e0.frf⟩,
    rfl, e0.bare, Un.kept hk, ⟨_, x.toInCall.ns, fun i y v h1 h2 h3 => ?_⟩, fun y c h => ⟨_, x.cell y c h⟩, e0.hok.fresh (Nat.le_refl _), fun y c h => ?_, fun p hp => absurd (show p ∈ ([] : List (Addr × Obj)) from hp) (by simp), e0.hok.kept hk, ?_⟩
  · exact name_of_addr x.apart (PySem.mem_of_lookup h1) (PySem.mem_of_lookup h2)
  · have hy : scope.names.lookup y = some .cell ∨ scope.names.lookup y = some .free := hy
    rcases hy with hy | hy
    · exact cell_has hy
    · exact absurd rfl (S.nofree _ (PySem.mem_of_lookup hy))
  · exact Nat.le_of_lt (x.above y c (PySem.mem_of_lookup h))
  · have hi : i < vs.length := by
      unfold start at h2
      by_cases hi : i < vs.length
      · exact hi
      · rw [List.getElem?_append_right (by simpa using hi)] at h2
        rw [List.getElem?_replicate] at h2
        split at h2 <;> cases h2
    have ha : vs[i]? = some v := by
      unfold start at h2
      rw [List.getElem?_append_left (by simpa using hi), List.getElem?_map] at h2
      cases e : vs[i]? with
      | none => rw [e] at h2; cases h2
      | some a => rw [e] at h2; cases h2; rfl
    obtain ⟨u, hu, rv⟩ := r.get ha
    have hp : ps[i]? = some y := by
      rw [← S.pre, List.getElem?_take_of_lt (by omega)]; exact h1
    have ndP : ps.Nodup := by rw [← S.pre]; exact S.nd.sublist (List.take_sublist _ _)
    refine ⟨u, rv, ?_⟩
    rcases S.par y (List.mem_of_getElem? hp) with k | k
    · exact .inl ⟨k, bindL_get ndP hp hu k⟩
    · obtain ⟨c, e⟩ := cell_has (n := s.heap.objs.size + 1) k
      refine .inr ⟨.inl k, c, e, ?_⟩
      have q := x.cell y c e
      rw [bindC_get ndP hp hu (by show scope.names.lookup y ≠ _; rw [k]; decide)] at q
      exact q
  · exact e0.hok.fresh (Nat.le_of_lt (x.above y c (PySem.mem_of_lookup h)))
  · unfold start
    show _ = N.length
    rw [List.length_append, List.length_map, List.length_replicate]
    omega
theorem fn_of {CX : CXT} {P : Program} {w : World} {K : PySem.W.Frag} {mg : Str → Option Value} {base : Heap} {k : Nat} {f : Addr} {name qual : Str} {params : Arguments} {body : List Stmt} {scope : Scope} {dV kV doc pm cdv ct oc : Value} {an od : Option Addr}
    {osl : Array (Option Value)} {N ps : List Str} {sp : Sp} (lk : K.lookup f = some ⟨oc, od, .func (PySem.W.fnOf name qual params body scope dV kV doc pm an cdv ct), osl⟩) (hcd : PySem.W.codeIn K cdv qual = true) (S : FnScope N ps scope)
    (len : ∀ vs H Q E, sp vs H Q E → vs.length = ps.length)
    (hbody : ∀ (A : Around) (outer : List Env) (s : Shared) (H : Hp) (vs : List V) (Q : VK) (E : XK), Room k (A.deeper (envOfC qual scope s.heap.objs.size f cdv)) → sp vs H Q E →
      ∃ t, PSs (cxOf CX P w K mg base N qual scope f cdv A outer s H E) body t ∧ t { nx := fun _ H' => Q .non H', rt := Q } (start N vs) H) :
    FnOk P w K mg base CX (k + 1) f (PySem.W.fnOf name qual params body scope dV kV doc pm an cdv ct) ps sp := by
  refine ⟨len, fun A outer s H args us vs Q E hr e0 hb r hsp => ?_⟩
  have hl := len _ _ _ _ hsp
  have KX : K.In s.heap := e0.mod.kin.keeps fun b o e => (e0.bs b o e).1
  have lim : s.heap.NoLimit := e0.mod.nolimit.keeps fun b o e => (e0.bs b o e).1
  have hkind : ∀ y ∈ ps.zip us, scope.names.lookup y.1 = some .local ∨ (scope.names.lookup y.1 = some .cell ∧ ((cellsFrom (s.heap.objs.size + 1) scope.names []).lookup y.1).isSome = true) := fun ⟨n, v⟩ hy => by
    rcases S.par n (List.of_mem_zip hy).1 with q | q
    · exact .inl q
    · exact .inr ⟨q, PySem.W.cellsFrom_some _ _ _ (.inl q)⟩
  refine codeAny_call_function hr.depth (KX _ _ lk) rfl S.co S.gen rfl (PySem.W.codeRec_of KX hcd) (hb _ _ _ _ ?_)
  refine wpAny_newFunctionEnv_cells S.kind hkind fun env he s1 x => ?_
  subst he
  refine ⟨lim.keeps x.toInCall.keep, codeAny_func ?_⟩
  obtain ⟨t, ht, hq⟩ := hbody A outer s H vs Q E (hr.deeper _) hsp
  have I : Inv (cxOf CX P w K mg base N qual scope f cdv A outer s H E) [] (start N vs) H s1 := inv_start S hr.hd e0 hl r x
  refine wpAny_mono (ht [] s1 (start N vs) H _ I hq) (fun fl s' hs => ?_) fun e s' hs => hs
  have fin : ∀ {σ' : St} {H' : Hp} {v : V} {u : Value}, Inv (cxOf CX P w K mg base N qual scope f cdv A outer s H E) [] σ' H' s' → RelV v u → Q v H' → CE outer P w H s Q u s' :=
    fun {σ' H' v u} J rv q => ⟨v, H', J.os, J.bare, J.base, J.hok, rv, q⟩
  cases fl with
  | ret u =>
    obtain ⟨v, σ', H', J, rv, q⟩ := hs
    exact fin J rv q
  | next =>
    obtain ⟨σ', H', J, q⟩ := hs
    exact fin (v := V.non) (u := Value.none) J rfl q
  | brk =>
    obtain ⟨_, _, _, q⟩ := hs
    exact False.elim q
  | cont =>
    obtain ⟨_, _, _, q⟩ := hs
    exact False.elim q
end L2
namespace L2
open PySem PySem.Spec PyProof.Rows
section
variable {X : Cx} {x : Str} {p pos : Pos} {e : Expr} {es : List Expr} {t : TA} {id T : String} {r : List V → Hp → VK → Prop}
def tCB (r : List V → Hp → VK → Prop) (t : TA) : TE := fun σ H Q => t σ H fun vs H1 => r vs H1 Q
theorem pe_callB (hc : CallR X (.builtin id) r) (hg : Gl X x) (hm : X.mg x = none) (hv : bootBuiltins x = some (.builtin id)) (ha : PA X (e :: es) t) (hn : x ≠ "__name__" := by decide) (hdb : (x == ("__debug__" : Str)) = false := by decide)
    (he : starEach (e :: es) X.env = (false, eval e X.env) :: starEach es X.env := by rfl) (hpl : (backTo pos (starEach es X.env)).any (·.1) = false := by rfl) : PE X (.Call (.Name x p) (e :: es) [] pos) (tCB r t) := by
  intro pins s σ H Q I h
  refine wpAny_Call_Name_kw (ld_blt I hg hm hv ?_ hn hdb)
  exact PyProof.Rows.callWith_builtin1 (thn (ha pos pins s σ H _ I h) fun us s1 ⟨vs, H1, I1, r1, q1⟩ => hc pins s1 σ H1 vs us Q I1 r1 q1) he hpl
theorem pe_callTy (hc : CallR X (.type T) r) (hg : Gl X x) (hm : X.mg x = none) (hv : bootBuiltins x = some (.type T)) (ha : PA X (e :: es) t) (hn : x ≠ "__name__" := by decide) (hdb : (x == ("__debug__" : Str)) = false := by decide)
    (he : starEach (e :: es) X.env = (false, eval e X.env) :: starEach es X.env := by rfl) (hpl : (backTo pos (starEach es X.env)).any (·.1) = false := by rfl) : PE X (.Call (.Name x p) (e :: es) [] pos) (tCB r t) := by
  intro pins s σ H Q I h
  refine wpAny_Call_Name_kw (ld_blt I hg hm hv ?_ hn hdb)
  exact PyProof.Rows.callWith_type1 (thn (ha pos pins s σ H _ I h) fun us s1 ⟨vs, H1, I1, r1, q1⟩ => hc pins s1 σ H1 vs us Q I1 r1 q1) he hpl
end
end L2
namespace HT
open PySem PyProof.Rows
section
open PySem.SeqAt
open PySem.AutoSeq1 (wpAny_loadPart')
open PySem.MeetsSeq PySem.MeetsSeq2 PySem.MeetsSeq3
end
section
variable {prog : Program} {w : World} {A : Around} {E : Value → Shared → Prop} {s : Shared}
theorem cat_tup {t b : Addr} {vs ws : List Value} {Q : Value → Shared → Prop} (ht : IsTup s.heap t vs.toArray) (hb : IsTup s.heap b ws.toArray) (hv : vs ≠ [])
    (h1 : ws = [] → Q (.ref t) s) (h2 : ws ≠ [] → Q (.ref s.heap.objs.size) { s with heap := s.heap.push { cls := .type "tuple", data := .seq (vs ++ ws).toArray } })
    (hsz : vs.length + ws.length ≤ sizeLine) : wpAny (model prog w) A (binaryOp .Add (.ref t) (.ref b)) Q E s := by
  obtain ⟨⟨cls, dd, data, sl⟩, ho, hc, n, hd⟩ := id ht
  obtain ⟨⟨cls2, dd2, data2, sl2⟩, ho2, hc2, n2, hd2⟩ := id hb
  simp only at hc hd hc2 hd2
  subst hc hd hc2 hd2
  have e : vs.toArray ++ ws.toArray = (vs ++ ws).toArray := by simp
  by_cases hw : ws = []
  · exact concat_meets ⟨_, ho, rfl⟩ ⟨_, ho2, rfl⟩ noFill_tuple_add seq_tuple_add PySem.F.slot_tuple_add PySem.F.entry_tuple_add (PySem.F.args_tuple_add_2 _ _)
      (tuple_addW1 t b vs.toArray ws.toArray n n2 dd dd2 sl sl2 (by simpa using hv) (by simp [hw])) ⟨ho, ho2, h1 hw⟩
  · refine concat_meets ⟨_, ho, rfl⟩ ⟨_, ho2, rfl⟩ noFill_tuple_add seq_tuple_add PySem.F.slot_tuple_add PySem.F.entry_tuple_add (PySem.F.args_tuple_add_2 _ _)
      (tuple_addW2 t b vs.toArray ws.toArray n n2 dd dd2 sl sl2 (by simpa using hv) (by simpa using hw) (by rw [List.size_toArray, List.size_toArray]; exact hsz)) ⟨ho, ho2, ?_⟩
    rw [e]
    exact h2 hw
end
end HT
namespace L2
open PySem PySem.Spec PyProof.Rows
abbrev TO := St → Hp → (Option Int → Hp → Prop) → Prop
section
variable {X : Cx} {e : Expr} {te : TE} {lo hi : Option Expr} {tl th : TO} {pos p2 : Pos}
def rCatT (K : PySem.W.Frag) : R2 := fun x y H Q => ∃ a b xs ys, x = .ref a ∧ y = .ref b ∧ SqT K H a xs ∧ SqT K H b ys ∧ xs ≠ [] ∧ xs.length + ys.length ≤ sizeLine ∧
  (ys = [] → Q (.ref a) H) ∧ (ys ≠ [] → ∀ p, H p = none → Q (.ref p) (upd H p (.tup (xs ++ ys))))
theorem Vals.nil_iff {xs : List V} {us : List Value} (r : Vals xs us) : us = [] ↔ xs = [] := by
  cases r with
  | nil => simp
  | cons _ _ => simp
theorem op_catT : OpR X (binaryOp .Add) (rCatT X.K) := by
  intro pins s σ H x y v u Q I rx ry h
  obtain ⟨a, b, xs, ys, rfl, rfl, ha, hb, hx, hz, q1, q2⟩ := h
  cases rx
  cases ry
  obtain ⟨its, r1, p1, _⟩ := I.tuple ha
  obtain ⟨its2, r2, p2, _⟩ := I.tuple hb
  refine HT.cat_tup p1 p2 (fun z => hx (r1.nil_iff.mp z)) (fun z => ⟨.ref a, H, I, rfl, q1 (r2.nil_iff.mp z)⟩) (fun z => ?_) (by rw [← r1.length, ← r2.length]; exact hz)
  refine ⟨.ref s.heap.objs.size, _, I.laid (t' := s.toks) (o := .tup (xs ++ ys)) (fun b ob q => Heap.get?_push_of_some _ q) (Nat.le_refl _) ?_, rfl, q2 (fun w => z (r2.nil_iff.mpr w)) _ (I.hok.fresh (Nat.le_refl _))⟩
  exact ⟨by rw [List.length_append]; exact hz, _, r1.append r2, IsTup.new _ _⟩
end
end L2
namespace L2
open PySem PySem.Spec PyProof.Rows
def ixN (n : Nat) (i : Int) : Option Nat := if 0 ≤ i then (if i < n then some i.toNat else none) else if -(n : Int) ≤ i then some (i + n).toNat else none
def atI {α : Type} (xs : List α) (i : Int) : Option α := (ixN xs.length i).bind fun j => xs[j]?
theorem ixN_seq {n : Nat} {i : Int} {j : Nat} (h : ixN n i = some j) : seqIndex? i n = some j ∧ j < n ∧ -(n : Int) ≤ i ∧ i < n := by
  unfold ixN at h
  by_cases h0 : 0 ≤ i
  · rw [if_pos h0] at h
    by_cases h1 : i < n
    · rw [if_pos h1] at h
      have e : i.toNat = j := Option.some.inj h
      exact ⟨by rw [seqIndex_of h0 h1, e], by omega, by omega, h1⟩
    · rw [if_neg h1] at h; cases h
  · rw [if_neg h0] at h
    by_cases h1 : -(n : Int) ≤ i
    · rw [if_pos h1] at h
      have e : (i + n).toNat = j := Option.some.inj h
      exact ⟨by rw [seqIndex_neg (by omega) h1, e], by omega, h1, by omega⟩
    · rw [if_neg h1] at h; cases h
theorem atI_get {α : Type} {xs : List α} {i : Int} {v : α} (h : atI xs i = some v) : ∃ j, seqIndex? i xs.length = some j ∧ xs[j]? = some v ∧ j < xs.length ∧ -(xs.length : Int) ≤ i ∧ i < xs.length := by
  unfold atI at h
  cases e : ixN xs.length i with
  | none => rw [e] at h; cases h
  | some j =>
    rw [e] at h
    obtain ⟨h1, h2, h3, h4⟩ := ixN_seq e
    exact ⟨j, h1, h, h2, h3, h4⟩
theorem atI_nat {α : Type} {xs : List α} {j : Nat} {v : α} (h : xs[j]? = some v) : atI xs (j : Int) = some v := by
  have hj : j < xs.length := (List.getElem?_eq_some_iff.mp h).1
  have e : ixN xs.length (j : Int) = some j := by
    unfold ixN
    rw [if_pos (by omega), if_pos (by omega)]; simp
  unfold atI; rw [e]; exact h
def PlainIx (b : Expr) : Prop := ∀ o i, subscripted b false o i = operate [o, i] (getItem o i)
def IxR (X : Cx) (r : R2) : Prop :=
  ∀ (value slice : Expr) (pins : List (Addr × Obj)) (s : Shared) (σ : St) (H : Hp) (x y : V) (v u : Value) (Q : VK), Inv X pins σ H s → RelV x v → RelV y u → r x y H Q →
    subscripted slice false v u = operate [v, u] (getItem v u) → wpAny (model X.prog X.w) X.A (subscriptTail value slice v u) (EP X pins σ Q) X.xe s
def MtR (X : Cx) (id : String) (r : V → List V → Hp → VK → Prop) : Prop :=
  ∀ (pins : List (Addr × Obj)) (s : Shared) (σ : St) (H : Hp) (x : V) (xs : List V) (v : Value) (us : List Value) (Q : VK), Inv X pins σ H s → RelV x v → Vals xs us → r x xs H Q →
    wpAny (model X.prog X.w) X.A (call (.builtin id) (v :: us)) (EP X pins σ Q) X.xe s
section
variable {X : Cx} {a b : Expr} {ta tb : TE} {pos : Pos}
theorem IxR.or {r r' : R2} (h : IxR X r) (h' : IxR X r') : IxR X (fun x y H Q => r x y H Q ∨ r' x y H Q) := by
  intro value slice pins s σ H x y v u Q I rx ry q hs
  rcases q with q | q
  · exact h value slice pins s σ H x y v u Q I rx ry q hs
  · exact h' value slice pins s σ H x y v u Q I rx ry q hs
theorem pe_ix {r : R2} (hr : IxR X r) (ha : PE X a ta) (hb : PE X b tb) (hs : PlainIx b) : PE X (.Subscript a b pos) (tOp r ta tb) := by
  intro pins s σ H Q I h
  exact Subscript_ (binT ha hb I h fun v u s2 x y H2 I2 rx ry q => hr a b pins s2 σ H2 x y v u Q I2 rx ry q (hs _ _))
def rIxL (K : PySem.W.Frag) : R2 := fun x y H Q => ∃ p xs i v, x = .ref p ∧ y = .int i ∧ SqL K H p xs ∧ atI xs i = some v ∧ Q v H
def rIxT (K : PySem.W.Frag) : R2 := fun x y H Q => ∃ p xs i v, x = .ref p ∧ y = .int i ∧ SqT K H p xs ∧ atI xs i = some v ∧ Q v H
def rIxS : R2 := fun x y H Q => ∃ z i c, x = .str z ∧ y = .int i ∧ z.length ≤ sizeLine ∧ atI z.cps.toList i = some c ∧ Q (.str ⟨#[c]⟩) H
theorem ix_list : IxR X (rIxL X.K) := by
  intro value slice pins s σ H x y v u Q I rx ry h hs
  obtain ⟨p, xs, i, z, rfl, rfl, hq, he, q⟩ := h
  cases rx
  obtain ⟨t, rfl⟩ := ry
  obtain ⟨its, r, pl, hz⟩ := I.list hq
  obtain ⟨j, h1, h2, h3, h4, h5⟩ := atI_get he
  obtain ⟨w, ew, rw'⟩ := r.get h2
  have hl := r.length
  have hn := line63
  have fin : EP X pins σ Q w s := ⟨z, H, I, rw', q⟩
  by_cases h0 : 0 ≤ i
  · have hj : i.toNat = j := by
      rw [seqIndex_of h0 h5] at h1
      exact Option.some.inj h1
    exact item_listR pl.isList h0 (by omega) (by rw [hj]; simpa using ew) fin hs
  · have hj : (i + (its.toArray.size : Int)).toNat = j := by
      rw [seqIndex_neg (by omega) h4] at h1
      rw [List.size_toArray, ← hl]
      exact Option.some.inj h1
    exact subscriptTail_builtinR (x := w) pl.isList.typeIs slot_list_getitem.lookup
      (wpAny_getItem_list_neg (Q := fun r s' => r = w ∧ EP X pins σ Q r s') pl.isList (by omega) (by rw [List.size_toArray] <;> omega) (by omega) (by rw [hj]; simpa using ew) ⟨rfl, fin⟩) hs
theorem ix_tup : IxR X (rIxT X.K) := by
  intro value slice pins s σ H x y v u Q I rx ry h hs
  obtain ⟨p, xs, i, z, rfl, rfl, hq, he, q⟩ := h
  cases rx
  obtain ⟨t, rfl⟩ := ry
  obtain ⟨its, r, pl, hz⟩ := I.tuple hq
  obtain ⟨j, h1, h2, h3, h4, h5⟩ := atI_get he
  obtain ⟨w, ew, rw'⟩ := r.get h2
  have hl := r.length
  have hn := line63
  have fin : EP X pins σ Q w s := ⟨z, H, I, rw', q⟩
  exact subscriptTail_builtinR (x := w) pl.typeIs slot_tuple_getitem.lookup
    (getItem_tuple (j := j) (Q := fun r s' => r = w ∧ EP X pins σ Q r s') pl (by omega) (by omega) (by rw [List.size_toArray, ← hl]; exact h1) (by simpa using ew) ⟨rfl, fin⟩) hs
theorem ix_str : IxR X rIxS := by
  intro value slice pins s σ H x y v u Q I rx ry h hs
  obtain ⟨z, i, c, rfl, rfl, hz, he, q⟩ := h
  obtain ⟨t, rfl⟩ := rx
  obtain ⟨t', rfl⟩ := ry
  obtain ⟨j, h1, h2, h3, h4, h5⟩ := atI_get he
  have hl : z.cps.toList.length = z.length := by simp [Str.length]
  rw [hl] at h1 h4 h5
  have hn := line63
  exact tail_any (typeIs_str s z t) slot_str_getitem.lookup (getItem_str (c := c) (by
    have e1 : decide (i < -(2 ^ 63 : Int)) = false := decide_eq_false (by omega)
    have e2 : decide (i ≥ 2 ^ 63) = false := decide_eq_false (by omega)
    rw [e1, e2, Bool.or_false]) (by rw [h1]; simpa using h2) ⟨.str ⟨#[c]⟩, H, I.tok _, ⟨_, rfl⟩, q⟩) hs
def rIx (K : PySem.W.Frag) : R2 := fun x y H Q => rIxL K x y H Q ∨ rIxT K x y H Q ∨ rIxS x y H Q
theorem ix_seq : IxR X (rIx X.K) := ix_list.or (ix_tup.or ix_str)
def flatV : V → Bool
  | .non => true
  | .bl _ => true
  | .int _ => true
  | .str _ => true
  | _ => false
def eqV : V → V → Bool
  | .non, .non => true
  | .bl a, .bl b => a == b
  | .bl a, .int b => (if a then 1 else 0) == b
  | .int a, .bl b => a == (if b then 1 else 0)
  | .int a, .int b => a == b
  | .str a, .str b => a == b
  | _, _ => false
theorem eqAt_V {A : Around} {s : Shared} {y x : V} {u v : Value} (ry : RelV y u) (rx : RelV x v) (fy : flatV y = true) (fx : flatV x = true) : SeqAt.EqAt A s u v (eqV y x) := by
  cases y with
  | non =>
    cases ry
    cases x with
    | non => cases rx; exact SeqAt.EqAt.same _
    | bl b => cases rx; exact SeqAt.EqAt.none_bool b
    | int b => obtain ⟨t, rfl⟩ := rx; exact SeqAt.EqAt.none_int b t
    | str b => obtain ⟨t, rfl⟩ := rx; exact SeqAt.EqAt.none_str b t
    | _ => exact absurd (show false = true from fx) Bool.false_ne_true
  | bl a =>
    cases ry
    cases x with
    | non => cases rx; exact SeqAt.EqAt.bool_none a
    | bl b => cases rx; exact SeqAt.EqAt.bool_bool a b
    | int b => obtain ⟨t, rfl⟩ := rx; exact SeqAt.EqAt.bool_int a b t
    | str b => obtain ⟨t, rfl⟩ := rx; exact SeqAt.EqAt.bool_str a b t
    | _ => exact absurd (show false = true from fx) Bool.false_ne_true
  | int a =>
    obtain ⟨t', rfl⟩ := ry
    cases x with
    | non => cases rx; exact SeqAt.EqAt.int_none a t'
    | bl b => cases rx; exact SeqAt.EqAt.int_bool a t' b
    | int b => obtain ⟨t, rfl⟩ := rx; exact SeqAt.EqAt.int_int a t' b t
    | str b => obtain ⟨t, rfl⟩ := rx; exact SeqAt.EqAt.int_str a t' b t
    | _ => exact absurd (show false = true from fx) Bool.false_ne_true
  | str a =>
    obtain ⟨t', rfl⟩ := ry
    cases x with
    | non => cases rx; exact SeqAt.EqAt.str_none a t'
    | bl b => cases rx; exact SeqAt.EqAt.str_bool a t' b
    | int b => obtain ⟨t, rfl⟩ := rx; exact SeqAt.EqAt.str_int a t' b t
    | str b => obtain ⟨t, rfl⟩ := rx; exact SeqAt.EqAt.str_str a t' b t
    | _ => exact absurd (show false = true from fx) Bool.false_ne_true
  | _ => exact absurd (show false = true from fy) Bool.false_ne_true
theorem call_len_seq : CallR X (.builtin "len") (fun xs H Q => ∃ p ys, xs = [.ref p] ∧ (SqL X.K H p ys ∨ SqT X.K H p ys) ∧ Q (.int ys.length) H) := by
  intro pins s σ H xs us Q I r h
  obtain ⟨p, ys, rfl, hq, q⟩ := h
  obtain ⟨u, rfl, rx⟩ := vals1 r
  cases rx
  have hn := line63
  rcases hq with hq | hq
  · obtain ⟨its, r', pl, hz⟩ := I.list hq
    have hlen := r'.length
    exact Calls.call_len_list pl.isList (by simp only [List.size_toArray] <;> omega) ⟨.int ys.length, H, I.tok _, ⟨s.toks + 1, by rw [List.size_toArray, hlen]⟩, q⟩
  · obtain ⟨its, r', pl, hz⟩ := I.tuple hq
    have hlen := r'.length
    exact len_tuple pl (by simp only [List.size_toArray] <;> omega) ⟨.int ys.length, H, I.tok _, ⟨s.toks + 1, by rw [List.size_toArray, hlen]⟩, q⟩
theorem call_len_str : CallR X (.builtin "len") (fun xs H Q => ∃ z, xs = [.str z] ∧ z.length ≤ sizeLine ∧ Q (.int z.length) H) := by
  intro pins s σ H xs us Q I r h
  obtain ⟨z, rfl, hz, q⟩ := h
  obtain ⟨u, rfl, t, rfl⟩ := vals1 r
  have hn := line63
  exact len_str (by omega) ⟨.int z.length, H, I.tok _, ⟨_, rfl⟩, q⟩
theorem CallR.or {f : Value} {r r' : List V → Hp → VK → Prop} (h : CallR X f r) (h' : CallR X f r') : CallR X f (fun xs H Q => r xs H Q ∨ r' xs H Q) := by
  intro pins s σ H xs us Q I rs q
  rcases q with q | q
  · exact h pins s σ H xs us Q I rs q
  · exact h' pins s σ H xs us Q I rs q
def tyV (K : PySem.W.Frag) (T : String) (x : V) (H : Hp) : Prop := match x with
  | .str _ => T = "str"
  | .int _ => T = "int"
  | .ref p => (T = "list" ∧ ∃ xs, SqL K H p xs) ∨ (T = "tuple" ∧ ∃ o, K.lookup p = some o ∧ o.cls = .type "tuple" ∧ o.dict = none) ∨
      (T = "dict" ∧ ((∃ kvs, H p = some (.dK kvs)) ∨ ∃ kvs, H p = some (.dT kvs))) ∨ (T = "set" ∧ ∃ S n, H p = some (.set S n))
  | _ => False
theorem tyV_is {pins : List (Addr × Obj)} {σ : St} {H : Hp} {s : Shared} {T : String} {x : V} {v : Value} (I : Inv X pins σ H s) (r : RelV x v) (ty : tyV X.K T x H) :
    s.TypeIs v T ∧ ∀ a, v = .ref a → ∃ ob, s.heap.get? a = some ob ∧ ob.dict = none := by
  cases x with
  | str z =>
    obtain ⟨t, rfl⟩ := r
    cases (show T = "str" from ty)
    exact ⟨typeIs_str s z t, fun _ e => nomatch e⟩
  | int i =>
    obtain ⟨t, rfl⟩ := r
    cases (show T = "int" from ty)
    exact ⟨typeIs_int s i t, fun _ e => nomatch e⟩
  | ref p =>
    cases r
    rcases ty with ⟨rfl, xs, hq⟩ | ⟨rfl, o, hk, hc, hd⟩ | ⟨rfl, hk⟩ | ⟨rfl, S, n, hk⟩
    · obtain ⟨its, _, pl, _⟩ := I.list hq
      refine ⟨pl.isList.typeIs, fun a e => ?_⟩
      cases e
      obtain ⟨o, n, e, c, hd, _⟩ := pl
      exact ⟨o, e, hd⟩
    · refine ⟨⟨o, I.kIn p o hk, hc⟩, fun a e => ?_⟩
      cases e
      exact ⟨o, I.kIn _ o hk, hd⟩
    · have z : ∃ o, s.heap.get? p = some o ∧ o.ExactDict := by
        rcases hk with ⟨kvs, hk⟩ | ⟨kvs, hk⟩
        · obtain ⟨_, _, _, _, o, _, _, e, ex, _⟩ := I.hok p _ hk
          exact ⟨o, e, ex⟩
        · obtain ⟨_, _, _, _, o, _, _, e, ex, _⟩ := I.hok p _ hk
          exact ⟨o, e, ex⟩
      obtain ⟨o, e, ex⟩ := z
      refine ⟨⟨o, e, ex.1⟩, fun a e2 => ?_⟩
      cases e2
      exact ⟨o, e, ex.2.1⟩
    · obtain ⟨o, _, _, _, e, ex, _⟩ := I.hok p _ hk
      refine ⟨⟨o, e, ex.1⟩, fun a e2 => ?_⟩
      cases e2
      exact ⟨o, e, ex.2.1⟩
  | _ => exact False.elim ty
def tBM (K : PySem.W.Frag) (T : String) (r : V → List V → Hp → VK → Prop) (to : TE) (t : TA) : TE := fun σ H Q => to σ H fun x H1 => tyV K T x H1 ∧ t σ H1 fun xs H2 => r x xs H2 Q
variable {o e : Expr} {es : List Expr} {to : TE} {t : TA} {name : Str} {apos cpos : Pos} {T id : String} {r : V → List V → Hp → VK → Prop}
theorem pe_bm (pa : PlainAttrs T) (slot : Slot T name id) (hty : typeOf (.builtin id) = pure (.type "method_descriptor")) (hm : MtR X id r) (ho : PE X o to) (ha : PA X (e :: es) t)
    (hbase : attributeBase o name X.env (eval o X.env) = eval o X.env := by rfl)
    (hfew : ((backTo cpos (starEach (e :: es) X.env)).all (fun x => !x.1) && (backToKw cpos (keywordEach [] X.env)).all (fun x => x.1.isSome)
      && decide ((e :: es).length + ([] : List Keyword).length + (if ([] : List Keyword).isEmpty then 0 else 1) < 30)) = true := by rfl)
    (hline : (apos.endLine == cpos.line) = true := by rfl) (hs : starEach (e :: es) X.env = (false, eval e X.env) :: starEach es X.env := by rfl) (hplain : (backTo cpos (starEach es X.env)).any (·.1) = false := by rfl) :
    PE X (.Call (.Attribute o name apos) (e :: es) [] cpos) (tBM X.K T r to t) := by
  intro pins s σ H Q I h
  refine wpAny_Call_method_late hbase hfew hline rfl (thn (ho pins s σ H _ I h) fun v s1 ⟨x, H1, I1, r1, ty, q1⟩ => ?_)
  obtain ⟨h1, h2⟩ := tyV_is I1 r1 ty
  refine ⟨T, id, pa, slot, hty, h1, h2, ?_⟩
  have hA := ha cpos pins s1 σ H1 _ I1 q1
  rw [hs] at hA ⊢
  refine Calls.callWith_builtin (by show (false || (backTo cpos (starEach es X.env)).any (·.1)) = false; rw [hplain] <;> rfl) (Calls.evalArgs_plain ?_)
  exact thn hA fun us s2 ⟨vs, H2, I2, r2, q2⟩ => hm pins s2 σ H2 x vs v us Q I2 r1 r2 q2
/- xs.append(e), list.index on a module's tuple .. are MtR facts of 06m -/
end
end L2
namespace L2
open PySem PySem.Spec PyProof.Rows
def MtM (X : Cx) (id : String) (r : V → List V → Hp → VK → Prop) : Prop :=
  ∀ (pins : List (Addr × Obj)) (s : Shared) (σ : St) (H : Hp) (x : V) (xs : List V) (v : Value) (us : List Value) (Q : VK), Inv X pins σ H s → RelV x v → Vals xs us → r x xs H Q →
    wpAny (model X.prog X.w) X.A (call (.builtin id) (v :: us)) (EP X pins σ Q) X.xe s
theorem Vals.one : ∀ {x : V} {us : List Value}, Vals [x] us → ∃ u, us = [u] ∧ RelV x u
  | _, _, .cons r .nil => ⟨_, rfl, r⟩
section
variable {X : Cx} {pins : List (Addr × Obj)} {σ : St} {H : Hp} {s : Shared} {l b : Addr} {xs ys zs : List V}
theorem Inv.lset {its its' : List Value} {n : Nat} {f : Array Value → Array Value} {t' : Nat} (I : Inv X pins σ H s) (hH : H l = some (.lst xs))
    (e : s.heap.get? l = some { cls := .type "list", data := .seq its.toArray n }) (hf : f its.toArray = its'.toArray) (hv : Vals ys its') (hz : ys.length ≤ sizeLine) :
    Inv X pins σ (upd H l (.lst ys)) { s with heap := s.heap.update l (Obj.mapSeq f), toks := t' } := by
  have q := PySem.IsL.update e f
  rw [hf] at q
  refine I.write (x := l) (e := l) (by rw [hH]; exact trivial) (.inl rfl) (fun b' u hb hu => (Heap.get?_update_other s.heap (Obj.mapSeq f) (Ne.symm hb)).trans hu) ⟨_, q⟩ ?_
  exact ⟨hz, its', _, hv, q⟩
theorem Inv.lnew {its : List Value} {t' : Nat} (I : Inv X pins σ H s) (hv : Vals ys its) (hz : ys.length ≤ sizeLine) :
    Inv X pins σ (upd H s.heap.objs.size (.lst ys)) { s with heap := s.heap.push { cls := .type "list", data := .seq its.toArray }, toks := t' } :=
  I.laid (fun _ _ q => Heap.get?_push_of_some _ q) (Nat.le_refl _) ⟨hz, its, 0, hv, Heap.get?_push_size _ rfl⟩
theorem Inv.fresh (I : Inv X pins σ H s) : H s.heap.objs.size = none := I.hok.fresh (Nat.le_refl _)
theorem Inv.lstM (I : Inv X pins σ H s) (hH : H l = some (.lst xs)) : xs.length ≤ sizeLine ∧ ∃ (its : List Value) (n : Nat), Vals xs its ∧ xs.length = its.length ∧ s.heap.get? l = some { cls := .type "list", data := .seq its.toArray n } := by
  obtain ⟨z, its, n, r, e⟩ := I.hok l _ hH
  exact ⟨z, its, n, r, r.length, e⟩
end
section
variable {X : Cx}
def rAppend : V → List V → Hp → VK → Prop := fun x vs H Q => ∃ l xs y, x = .ref l ∧ vs = [y] ∧ H l = some (.lst xs) ∧ xs.length < sizeLine ∧ Q .non (upd H l (.lst (xs ++ [y])))
theorem mt_append : MtM X "list.append" rAppend := by
  intro pins s σ H x vs v us Q I rx rv h
  obtain ⟨l, xs, y, rfl, rfl, hH, hz, q⟩ := h
  cases rx
  obtain ⟨u, rfl, ru⟩ := rv.one
  obtain ⟨z, its, n, r, hl, e⟩ := I.lstM hH
  refine call_meets F.slot_list_append ⟨_, e, rfl⟩ F.entry_list_append (F.args_list_append_2 _ _) (PySem.list_append l its.toArray n u (by rw [List.size_toArray]; omega)) ⟨e, ?_⟩
  refine ⟨.non, _, I.lset (its' := its ++ [u]) hH e (by simp) (r.append (.cons ru .nil)) ?_, rfl, q⟩
  rw [List.length_append, List.length_singleton]
  omega
end
section
variable {prog : Program} {w : World} {A : Around} {E : Value → Shared → Prop} {s : Shared}
end
section
variable {X : Cx}
end
end L2
namespace Att
open PySem PySem.W PySem.Calls PyProof.Rows
theorem ints_of_wellAll {P : Params} {h : Heap} : ∀ (ns : List Int) (vs : List Value), WellAll P h vs (ns.map WData.int) → IntsAre vs ns := by
  intro ns
  induction ns with
  | nil =>
    intro vs w
    rw [List.map_nil] at w
    cases w
    exact .nil
  | cons n ns ih =>
    intro vs w
    rw [List.map_cons] at w
    cases w with
    | cons a b =>
      cases a
      exact .cons _ _ (ih _ b)
theorem script_of {l : OpenLaw} {n : Nat} (hn : l.most = some n) {P : Params} {h : Heap} {args : List WData} {vals : List Value}
    (hpre : l.row.toRowW.claim.pre args = true) (hwl : WellAll P h vals args) :
    ∃ a vs ns, vals = [Value.ref a] ∧ args = [WData.list (ns.map WData.int)] ∧ h.get? a = some { cls := .type "list", data := .seq vs.toArray } ∧ IntsAre vs ns ∧ ns.length ≤ n := by
  have hsh : WShape.hasAll [] args [.list .int] = true := (pre_splitW hpre).1
  have hc : l.pre.holds [] { args := args } = true := (pre_splitW hpre).2
  obtain ⟨d, r, rfl, h1, h2⟩ := hasAllW_cons hsh
  obtain rfl := hasAllW_nil h2
  obtain ⟨xs, rfl, h3⟩ := hasW_list h1
  obtain ⟨ns, rfl⟩ := items_int h3
  have hlen : ns.length ≤ n := by
    unfold OpenLaw.pre at hc
    have h4 : (WTm.not (.lt (.lit (.int (n : Int))) (.len (.arg 0)))).holds [] { args := [.list (ns.map .int)] } = true := by
      have h4 := (holds_andW hc).1
      rw [hn] at h4
      exact h4
    have h5 := condW_of h4 (w_not (w_lt w_lit (w_len_list (w_arg rfl))))
    rw [List.length_map] at h5
    refine Nat.le_of_not_lt fun q => ?_
    have q' : (n : Int) < ((ns.length : Nat) : Int) := by omega
    first
      | (rw [decide_eq_true q'] at h5; exact absurd h5 (by decide))
      | (simp at h5; omega)
  cases hwl with
  | cons w1 w2 =>
    cases w2
    cases w1 with
    | list ho hall => exact ⟨_, _, ns, rfl, rfl, ho, ints_of_wellAll ns _ hall, hlen⟩
theorem post_true (l : OpenLaw) (args : List WData) : l.row.toRowW.claim.post args (.bool true) args = true :=
  postW_of (r := l.row.toRowW) (X := (true == true))
    (show WShape.has [] (.bool true) .bool = true by first | rfl | decide | simp [WShape.has, WShape.arms, WShape.armsAll])
    (show (WTm.eq .res (.lit (.bool true))).value [] { args := args, res := some (.bool true), after := args } = some (.bool (true == true)) from w_eq_bool (w_res rfl) w_lit) rfl
theorem attach_call {l : OpenLaw} {n : Nat} {q : Program} {loose : List Str} {XP : (Str → Option Value) → Heap → Prop} {YP : World → Heap → Prop} {d : DefRec}
    (hn : l.most = some n) (hdf : d.params.defaults = [])
    (call : ∀ (w : World) (s₀ s₁ : Shared) (mg mb : Str → Option Value) (fa : Addr) (o : Obj) (pm cd doc : Value) (a : Addr) (vs : List Value) (ns : List Int),
      Ground q loose [] XP w s₀ mg mb s₁.heap → YP w s₁.heap →
      s₁.heap.get? fa = some o → o.data = .func (docDef d.name d.params d.body d.scope pm cd doc) → s₁.heap.CodeRec cd d.name → mg d.name = some (.ref fa) →
      s₁.heap.get? a = some { cls := .type "list", data := .seq vs.toArray } → IntsAre vs ns → ns.length ≤ n → s₁.gens = #[] →
      codeAny (model l.prog w) callerA (.call (.ref fa) ⟨[.ref a], []⟩) (fun r s' => r = .ok (.ret (.bool true)) ∧ OldK s₁.heap s'.heap ∧ s'.os = s₁.os ∧ AllBare s'.gens) s₁) :
    WalkO q loose XP YP l.row.toRowW d [] (fun f vs => PySem.call f vs) := by
  intro w s₀ s₁ mg mb G Y fa o pm cd doc dV kV ho hd hcd hD hmg hg args vals as hpre hlay hrd hwl hlo
  obtain rfl : dV = .none := Dflts.none hD hdf
  obtain rfl : kV = .none := Dflts.noKw hD
  obtain ⟨a, vs, ns, rfl, rfl, hobj, hints, hlen⟩ := script_of hn hpre hwl
  refine enter_call (codeAny_mono (call w s₀ s₁ mg mb fa o pm cd doc a vs ns G Y ho (fd_plain hd) hcd hmg hobj hints hlen hg) fun r s' hq => ?_)
  obtain ⟨rfl, h2, h3, h4⟩ := hq
  exact ⟨.inl ⟨.bool true, .bool true, [], rfl, fun _ => rfl, .bool true, post_true l _, fun _ => ⟨List.Pairwise.nil, fun _ hm => (nomatch hm)⟩⟩, h2, h3, h4⟩
section
variable {prog : Program} {w : World} {A : Around} {E : Value → Shared → Prop} {s : Shared} {K : Frag}
end
end Att
namespace L2
open PySem PySem.Spec PyProof.Rows
theorem vals_ints : ∀ {vs : List Value} {ns : List Int}, IntsAre vs ns → Vals (ns.map V.int) vs
  | _, _, .nil => .nil
  | _, _, .cons n t h => .cons ⟨t, rfl⟩ (vals_ints h)
def Only (H : Hp) : Prop := ∀ b, H b = none ∨ ∃ o xs, H b = some (.frz o (.lst xs))
theorem law_call {P : Program} {w : World} {K : PySem.W.Frag} {mg mb : Str → Option Value} {CX : CXT} {k : Nat} {fa a : Addr} {fd : FuncData} {x : Str} {sp : Sp} {s₁ : Shared} {vs : List Value} {ns : List Int}
    (KX : K.In s₁.heap) (hns : s₁.heap.Ns mainGlobals mg) (hb : s₁.heap.Ns builtinsNs mb) (hbb : ∀ x : Str, x ≠ "__name__" → mb x = bootBuiltins x) (hlim : s₁.heap.NoLimit) (hg : s₁.gens = #[])
    (ha : s₁.heap.get? a = some { cls := .type "list", data := .seq vs.toArray }) (hi : IntsAre vs ns) (hl : ns.length ≤ sizeLine) (hr : Room k callerA)
    (F : ∀ base : Heap, K.In base → base.Ns mainGlobals mg → FnOk P w K mg base CX k fa fd [x] sp) (hbind : ∀ (s : Shared) (u : Value), BindsTo s fd ⟨[u], []⟩ [(x, u)])
    (hsp : ∀ H : Hp, Only H → SqL K H a (ns.map V.int) → sp [.ref a] H (fun v _ => v = .bl true) fun _ _ _ => False)
    (hCX : ∀ H e s', CX [] H s₁ (fun _ _ _ => False) e s' → False) :
    codeAny (model P w) callerA (.call (.ref fa) ⟨[.ref a], []⟩) (fun r s' => r = .ok (.ret (.bool true)) ∧ OldK s₁.heap s'.heap ∧ s'.os = s₁.os ∧ AllBare s'.gens) s₁ := by
  have rv := vals_ints hi
  have lenV := hi.length
  -- from an abstract heap in which nothing but the script may be tracked
  have core : ∀ H : Hp, Only H → SqL K H a (ns.map V.int) → HOk P w H s₁.heap → (∀ b, H b ≠ none → b = a) → (H a ≠ none → K.lookup a = none) →
      codeAny (model P w) callerA (.call (.ref fa) ⟨[.ref a], []⟩) (fun r s' => r = .ok (.ret (.bool true)) ∧ OldK s₁.heap s'.heap ∧ s'.os = s₁.os ∧ AllBare s'.gens) s₁ := by
    intro H hO hS hok hA hK
    have base_of : ∀ {b : Addr} {o : Obj}, s₁.heap.get? b = some o → H b = none → (hidT s₁.heap H).get? b = some o := fun e n => hidT_get e n
    have noA : ∀ {b : Addr} {o : Obj} {es : Array DictEntry} {ep : Nat}, s₁.heap.get? b = some o → o.data = .dict es ep → H b = none := fun {b o es ep} e d => by
      cases q : H b with
      | none => rfl
      | some u =>
        have e' : b = a := hA b (by rw [q]; simp)
        subst e'
        rw [ha] at e; cases e
        have d' : Data.seq vs.toArray _ = Data.dict es ep := d
        cases d'
    have nsK : ∀ {b : Addr} {m : Str → Option Value}, s₁.heap.Ns b m → (hidT s₁.heap H).Ns b m := fun {b m} ⟨o, es, ep, e, d, r⟩ => ⟨o, es, ep, base_of e (noA e d), d, r⟩
    have hKb : K.In (hidT s₁.heap H) := fun b o e => base_of (KX b o e) (by
      cases q : H b with
      | none => rfl
      | some u =>
        have e' : b = a := hA b (by rw [q]; simp)
        subst e'
        rw [hK (by rw [q]; simp)] at e; cases e)
    have hM : Mod K mg (hidT s₁.heap H) := ⟨hKb, nsK hns, ⟨mb, nsK hb, hbb⟩, let ⟨mc, h1, h2⟩ := hlim; ⟨mc, nsK h1, h2⟩⟩
    have e0 : Env0 P w K mg (hidT s₁.heap H) callerA [] s₁ H := ⟨rfl, hM, fun b o e => of_hidT e, Nat.le_of_eq (hidT_size _ _), trivial, fun b hb => absurd (show b ∈ ([] : List Addr) from hb) (by simp), hok, .of_eq hg⟩
    refine codeAny_mono ((F _ hKb (nsK hns)).run callerA [] s₁ H ⟨[.ref a], []⟩ [.ref a] [.ref a] _ _ hr e0 (hbind s₁ (.ref a)) (.cons rfl .nil) (hsp H hO hS)) fun r s' h => ?_
    cases r with
    | error e => exact (hCX H e s' h).elim
    | ok fl =>
      cases fl with
      | next => exact False.elim h
      | brk => exact False.elim h
      | cont => exact False.elim h
      | ret u =>
        obtain ⟨v, H', os, bare, un, hok', r', q⟩ := h
        have q' : v = .bl true := q
        subst q'
        obtain rfl : u = Value.bool true := r'
        refine ⟨rfl, OldK.of_keep fun b o e => ?_, os, bare⟩
        cases q : H b with
        | none => exact un.keep b o e q (by intro z; exact absurd (show b ∈ ([] : List Addr) from z) (by simp)) (by simp)
        | some u =>
          rcases hO b with z | ⟨ob, xs, z⟩
          · rw [q] at z; cases z
          · have z2 := un.frzs b ob _ z
            obtain ⟨e1, _⟩ := hok b _ z
            obtain ⟨e2, _⟩ := hok' b _ z2
            rw [e] at e1; cases e1
            exact e2
  cases hk : K.lookup a with
  | some o =>
    -- the script is one of the module's own objects
    have e := KX a o hk
    rw [ha] at e
    cases e
    refine core (fun _ => none) (fun _ => .inl rfl) (.inr ⟨_, vs.toArray, _, hk, rfl, rfl, rfl, by rw [List.size_toArray, lenV]; exact hl, by simpa using rv⟩) (fun b u z => by have z' : (none : Option HO) = some u := z; cases z') (fun b z => absurd rfl z) fun z => absurd rfl z
  | none =>
    refine core (fun b => if b = a then some (.frz { cls := .type "list", data := .seq vs.toArray } (.lst (ns.map V.int))) else none) (fun b => ?_) (.inl (.inr ⟨{ cls := .type "list", data := .seq vs.toArray }, if_pos rfl⟩)) (fun b u z => ?_) (fun b z => ?_) fun _ => hk
    · by_cases hb : b = a
      · exact .inr ⟨_, _, if_pos hb⟩
      · exact .inl (if_neg hb)
    · by_cases hb : b = a
      · have z' := (if_pos hb).symm.trans z
        cases z'
        subst hb
        exact ⟨ha, by rw [List.length_map]; exact hl, vs, _, rv, ha⟩
      · have z' := (if_neg hb).symm.trans z
        cases z'
    · by_cases hb : b = a
      · exact hb
      · exact absurd (if_neg hb) z
end L2
namespace L2
open PySem PySem.Spec PyProof.Rows
theorem walk_of {l : PySem.W.OpenLaw} {n k : Nat} {q : Program} {loose : List Str} {XP : (Str → Option Value) → Heap → Prop} {YP : World → Heap → Prop} {d : DefRec} {K : Params → PySem.W.Frag} {CX : World → CXT} {sp : World → Sp} {x : Str}
    (hn : l.most = some n) (hn2 : n ≤ sizeLine) (hdf : d.params.defaults = []) (hr : Room k callerA)
    (hY : ∀ (w : World) (h : Heap), YP w h → (K w.params).In h)
    (F : ∀ (w : World) (mg : Str → Option Value) (fa : Addr) (h : Heap), (K w.params).In h → h.Ns mainGlobals mg → mg d.name = some (.ref fa) →
      ∃ fd : FuncData, (∀ (s : Shared) (u : Value), BindsTo s fd ⟨[u], []⟩ [(x, u)]) ∧
        ∀ base : Heap, (K w.params).In base → base.Ns mainGlobals mg → FnOk l.prog w (K w.params) mg base (CX w) k fa fd [x] (sp w))
    (hsp : ∀ (w : World) (H : Hp) (a : Addr) (ns : List Int), ns.length ≤ n → Only H → SqL (K w.params) H a (ns.map V.int) → sp w [.ref a] H (fun v _ => v = .bl true) fun _ _ _ => False)
    (hCX : ∀ (w : World) (H : Hp) (s : Shared) (e : Value) (s' : Shared), CX w [] H s (fun _ _ _ => False) e s' → False) :
    PySem.W.WalkO q loose XP YP l.row.toRowW d [] (fun f vs => PySem.call f vs) := by
  refine Att.attach_call hn hdf fun w s₀ s₁ mg mb fa o pm cd doc a vs ns G Y ho hd hcd hmg hobj hints hlen hg => ?_
  have KX := hY w _ Y
  obtain ⟨fd, hb, hF⟩ := F w mg fa _ KX G.T.g hmg
  exact law_call KX G.T.g G.T.b G.T.builtins G.T.nolimit hg hobj hints (Nat.le_trans hlen hn2) hr hF hb (fun H hO hS => hsp w H a ns hlen hO hS) fun H e s' => hCX w H s₁ e s'
theorem walk_ofK {l : PySem.W.OpenLaw} {n k : Nat} {q : Program} {loose : List Str} {XP : (Str → Option Value) → Heap → Prop} {YP : World → Heap → Prop} {d : DefRec} {K : Params → PySem.W.Frag} {CX : CXT} {sp : PySem.W.Frag → Sp} {x : Str}
    (hn : l.most = some n) (hn2 : n ≤ sizeLine) (hdf : d.params.defaults = []) (hr : Room k callerA)
    (hY : ∀ (w : World) (h : Heap), YP w h → (K w.params).In h)
    (F : ∀ (w : World) (mg : Str → Option Value) (fa : Addr) (h : Heap), (K w.params).In h → h.Ns mainGlobals mg → mg d.name = some (.ref fa) →
      ∃ fd : FuncData, (∀ (s : Shared) (u : Value), BindsTo s fd ⟨[u], []⟩ [(x, u)]) ∧
        ∀ base : Heap, (K w.params).In base → base.Ns mainGlobals mg → FnOk l.prog w (K w.params) mg base CX k fa fd [x] (sp (K w.params)))
    (hsp : ∀ (K : PySem.W.Frag) (H : Hp) (a : Addr) (ns : List Int), ns.length ≤ n → Only H → SqL K H a (ns.map V.int) → sp K [.ref a] H (fun v _ => v = .bl true) fun _ _ _ => False)
    (hCX : ∀ (H : Hp) (s : Shared) (e : Value) (s' : Shared), CX [] H s (fun _ _ _ => False) e s' → False) :
    PySem.W.WalkO q loose XP YP l.row.toRowW d [] (fun f vs => PySem.call f vs) :=
  walk_of (K := K) (CX := fun _ => CX) (sp := fun w => sp (K w.params)) hn hn2 hdf hr hY F (fun w H a ns h1 h2 h3 => hsp (K w.params) H a ns h1 h2 h3) fun _ H s e s' => hCX H s e s'
end L2
namespace L2
open PySem PySem.Spec PyProof.Rows
def defArgs (s : Stmt) : Arguments := match s with
  | .FunctionDef _ a _ _ _ _ _ _ _ _ => a
  | _ => { posonlyargs := [], args := [], vararg := none, kwonlyargs := [], kw_defaults := [], kwarg := none, defaults := [] }
def defBody (s : Stmt) : List Stmt := match s with
  | .FunctionDef _ _ b _ _ _ _ _ _ _ => b
  | _ => []
def defScope (s : Stmt) : Scope := match s with
  | .FunctionDef _ _ _ _ _ _ sc _ _ _ => sc
  | _ => { kind := .function, names := [], isGenerator := false, isCoroutine := false }
abbrev CX0 : CXT := fun _ _ _ _ _ _ => False
abbrev E0 : XK := fun _ _ _ => False
theorem pass0 {X : Cx} : Passes CX0 X E0 := fun _ _ _ _ _ _ _ h => h.elim
structure Fun (K : PySem.W.Frag) (x qual : Str) (st : Stmt) (f : Addr) (fd : FuncData) : Prop where
  ex : ∃ (oc : Value) (od : Option Addr) (kV doc pm : Value) (an : Option Addr) (cdv ct : Value) (osl : Array (Option Value)),
    fd = PySem.W.fnOf x qual (defArgs st) (defBody st) (defScope st) .none kV doc pm an cdv ct ∧ K.lookup f = some ⟨oc, od, .func fd, osl⟩ ∧ PySem.W.codeIn K cdv qual = true
  kp : PySem.W.keepIn K (.ref f) = true
section
variable {P : Program} {w : World} {K : PySem.W.Frag} {mg : Str → Option Value} {base : Heap}
theorem Fun.ok {x qual : Str} {st : Stmt} {f : Addr} {fd : FuncData} {N ps : List Str} {k : Nat} {sp : Sp} (F : Fun K x qual st f fd) (S : FnScope N ps (defScope st)) (len : ∀ vs H Q E, sp vs H Q E → vs.length = ps.length)
    (hbody : ∀ (cdv : Value) (A : Around) (outer : List Env) (s : Shared) (H : Hp) (vs : List V) (Q : VK) (E : XK), Room k (A.deeper (envOfC qual (defScope st) s.heap.objs.size f cdv)) → sp vs H Q E →
      ∃ t, PSs (cxOf CX0 P w K mg base N qual (defScope st) f cdv A outer s H E).nox (defBody st) t ∧ t { nx := fun _ H' => Q .non H', rt := Q } (start N vs) H) : FnOk P w K mg base CX0 (k + 1) f fd ps sp := by
  obtain ⟨oc, od, kV, doc, pm, an, cdv, ct, osl, rfl, lk, hcd⟩ := F.ex
  refine fn_of lk hcd S len fun A outer s H vs Q E hr hsp => ?_
  obtain ⟨t, h, q⟩ := hbody cdv A outer s H vs Q E hr hsp
  exact ⟨t, h.nox, q⟩
theorem Fun.binds {x qual : Str} {st : Stmt} {f : Addr} {fd : FuncData} {ps : List Str} (F : Fun K x qual st f fd)
    (h : ∀ (kV doc pm : Value) (an : Option Addr) (cdv ct : Value) (us : List Value), us.length = ps.length → bindArgs (PySem.W.fnOf x qual (defArgs st) (defBody st) (defScope st) .none kV doc pm an cdv ct) ⟨us, []⟩ = pure (ps.zip us)) : Binds K fd ps [] := by
  obtain ⟨oc, od, kV, doc, pm, an, cdv, ct, osl, rfl, lk, hcd⟩ := F.ex
  exact .all (h kV doc pm an cdv ct)
theorem fun_mk {x qual : Str} {st : Stmt} {f : Addr} {oc : Value} {od an : Option Addr} {osl : Array (Option Value)} {kV doc pm cdv ct : Value} (l : K.lookup f = some ⟨oc, od, .func (PySem.W.fnOf x qual (defArgs st) (defBody st) (defScope st) .none kV doc pm an cdv ct), osl⟩)
    (c : PySem.W.codeIn K cdv qual = true) (k : PySem.W.keepIn K (.ref f) = true) : Fun K x qual st f (PySem.W.fnOf x qual (defArgs st) (defBody st) (defScope st) .none kV doc pm an cdv ct) := ⟨⟨oc, od, kV, doc, pm, an, cdv, ct, osl, rfl, l, c⟩, k⟩
end
section
variable {X : Cx}
theorem pv (i : Nat) {x : Str} {pos : Pos} (hN : X.N[i]? = some x := by rfl) (hv : Vis X.env.scope x := by first | exact Or.inl rfl | exact Or.inr (Or.inl rfl) | exact Or.inr (Or.inr rfl)) (hd : (x == ("__debug__" : Str)) = false := by decide)
    (hcd : (x == ("__classdict__" : Str)) = false := by decide) : PE X (.Name x pos) (tVar i) := pe_var hN hv hd hcd
end
def Same (H H' : Hp) : Prop := ∀ b o, H b = some o → H' b = some o
theorem Same.refl (H : Hp) : Same H H := fun _ _ h => h
theorem Same.trans {H H1 H2 : Hp} (a : Same H H1) (b : Same H1 H2) : Same H H2 := fun c o h => b c o (a c o h)
theorem Same.free {H H' : Hp} (e : Same H H') {l : Addr} (h : H' l = Option.none) : H l = Option.none := by
  cases q : H l with
  | none => rfl
  | some o =>
    rw [e l o q] at h
    cases h
end L2
set_option Elab.async false
set_option linter.all false
set_option maxRecDepth 100000
set_option maxHeartbeats 4000000
namespace L2
open PySem PySem.Spec PyProof.Rows
def Its (x : Str) : It := ⟨fun i _ => i < x.cps.size, fun i H v H' => H' = H ∧ ∃ c, x.cps[i]? = some c ∧ v = .str ⟨#[c]⟩, fun i _ => i = x.cps.size⟩
theorem go_str {M : Model} {A : Around} {E : Value → Shared → Prop} {s : Shared} {tg : Expr} {it : Addr} {y : Str} {t : Tok} {Q : Unit → Shared → Prop} (hQ : Q () s) : wpAny M A (letOwnedTupleGo tg (.ref it) (.str y t)) Q E s := by
  unfold letOwnedTupleGo
  cases tg <;> exact wpAny_pure hQ
theorem turn_str {P : Program} {w : World} {K : PySem.W.Frag} {tg : Expr} (T : String) (it : Addr) (x : Str) (t : Tok)
    (W : ∀ A : Around, A.handled = none → Walks P w A it [it] [it] x.cps.size (SignAt x) (fun i h => h.IsStrIter it T x t i))
    (hs : ∀ (A : Around) (i : Nat) (s : Shared) (Q : Value → Shared → Prop) (E : Value → Shared → Prop), s.heap.IsStrIter it T x t i → Q (.ref it) s → wpAny (model P w) A (pyIter (.ref it)) Q E s) :
    Turn P w K tg (Its x) [it] it (fun i h => h.IsStrIter it T x t i) where
  mem := by simp
  obj := fun i h st b hb => by
    have e : b = it := by simpa using hb
    subst e
    obtain ⟨o, e, c, d⟩ := st
    exact ⟨o, e, fun v z => by rw [d] at z; cases z⟩
  keep := fun i h h' st k => by
    obtain ⟨o, e, r⟩ := st
    exact ⟨o, k it (by simp) o e, r⟩
  item := by
    intro X hP hw hK hc i pins s σ H E I hf st hg
    subst hP hw hK
    obtain ⟨f0, f1, f2, f3, f4, f5⟩ := hf it (by simp)
    refine (W X.A (I.ok.hd hc)).item i s _ _ hg st fun v h' tk hv st' kk => ?_
    obtain ⟨c, u, hcu, rfl⟩ := hv
    have I1 : Inv X pins σ H { s with heap := h', toks := tk } := I.turned (fun b o hb e => kk b o (by simpa using hb) e) f0 f1 f3 f4 f5
    exact ⟨_, rfl, go_str ⟨.str ⟨#[c]⟩, H, I1, ⟨u, rfl⟩, ⟨rfl, c, hcu, rfl⟩, st', fun b hb => (hf b hb).1⟩⟩
  done := by
    intro X hP hw hK hc i pins s σ H E I hf st hg
    subst hP hw hK
    obtain ⟨f0, f1, f2, f3, f4, f5⟩ := hf it (by simp)
    have hg' : i = x.cps.size := hg
    subst hg'
    refine (W X.A (I.ok.hd hc)).done s _ _ st fun h' tk kk => ?_
    exact ⟨rfl, I.turned (fun b o hb e => kk b o (by simpa using hb) e) f0 f1 f3 f4 f5⟩
  self := hs
section
variable {X : Cx} {tg : Expr}
end
section
variable {prog : Program} {w : World} {A : Around} {R : Result → Shared → Prop} {s : Shared}
end
section
variable {X : Cx}
end
end L2
set_option Elab.async false
set_option linter.all false
set_option maxRecDepth 100000
set_option maxHeartbeats 4000000
namespace L2
open PySem PySem.Spec PyProof.Rows
section
variable {κ : Type} [DecidableEq κ]
def valV (kvs : List (κ × V)) (k : κ) : Option V := (kvs.find? fun kv => decide (kv.1 = k)).map (·.2)
theorem valV_pos {p : κ × V} {r : List (κ × V)} {k : κ} (e : p.1 = k) : valV (p :: r) k = some p.2 := by simp [valV, List.find?_cons, e]
theorem valV_neg {p : κ × V} {r : List (κ × V)} {k : κ} (e : ¬ p.1 = k) : valV (p :: r) k = valV r k := by simp [valV, List.find?_cons, e]
theorem KV.val {kvs : List (κ × V)} {vs : List (κ × Value)} (r : KV kvs vs) (k : κ) : RelO (valV kvs k) (valueAt vs k) := by
  unfold KV at r
  induction r with
  | nil => exact True.intro
  | @cons p q ps qs h t ih =>
    obtain ⟨h1, h2⟩ := h
    by_cases e : p.1 = k
    · have e' : q.1 = k := h1.symm.trans e
      have b : valueAt (q :: qs) k = some q.2 := by simp [valueAt, List.find?_cons, e']
      rw [valV_pos e, b]; exact h2
    · have e' : ¬ q.1 = k := fun z => e (h1.trans z)
      have b : valueAt (q :: qs) k = valueAt qs k := by simp [valueAt, List.find?_cons, e']
      rw [valV_neg e, b]; exact ih
theorem KV.length {kvs : List (κ × V)} {vs : List (κ × Value)} (r : KV kvs vs) : kvs.length = vs.length := Paired.length r
end
theorem kV_is {P : Program} {w : World} {k : Key} {u : Value} (r : RelV (kV k) u) : (mixKind P w).is k u = true := by
  cases k with
  | inl i => obtain ⟨t, e⟩ := (show ∃ t, u = Value.int i t from r); subst e; exact mixKind_int P w i t
  | inr x => obtain ⟨t, e⟩ := (show ∃ t, u = Value.str x t from r); subst e; exact mixKind_str P w x t
theorem items_are {P : Program} {w : World} : ∀ {ks : List Key} {us : List Value}, Vals (ks.map kV) us → ItemsAre (mixKind P w) ks us
  | [], _, r => by rw [List.map_nil] at r; cases r; exact .nil
  | k :: ks, _, r => by
    rw [List.map_cons] at r
    cases r with
    | cons h t => exact .cons (kV_is h) (items_are t)
abbrev KT (H : Hp) : List (List Key × V) → List (List Key × Addr × Value) → Prop := Paired fun p q => p.1 = q.1 ∧ H q.2.1 = some (.tup (p.1.map kV)) ∧ RelV p.2 q.2.2
theorem KT.val {H : Hp} {kvs : List (List Key × V)} {xs : List (List Key × Addr × Value)} (r : KT H kvs xs) (k : List Key) : RelO (valV kvs k) ((atKey xs k).map (·.2)) := by
  induction r with
  | nil => exact True.intro
  | @cons p q ps qs h t ih =>
    obtain ⟨h1, _, h2⟩ := h
    by_cases e : p.1 = k
    · have e' : q.1 = k := h1.symm.trans e
      have b : atKey (q :: qs) k = some q.2 := by simp [atKey, List.find?_cons, e']
      rw [valV_pos e, b]; exact h2
    · have e' : ¬ q.1 = k := fun z => e (h1.trans z)
      have b : atKey (q :: qs) k = atKey qs k := by simp [atKey, List.find?_cons, e']
      rw [valV_neg e, b]; exact ih
section
variable {P : Program} {w : World} {H : Hp} {h : Heap} {a : Addr}
theorem rd_of {u : HO} (ok : HOk P w H h) (e : Rd H a u) : ObjOk P w H h a u := e.ok ok
theorem dk_rd {kvs : List (Key × V)} (ok : HOk P w H h) (e : Rd H a (.dK kvs)) : kvs.length ≤ sizeLine ∧ (a == sysModules) = false ∧ ∃ vs, KV kvs vs ∧ h.DictOf (mixKind P w) a vs :=
  show ObjOk P w H h a (.dK kvs) from rd_of ok e
theorem key_of {ks : List Key} (ok : HOk P w H h) (e : H a = some (.tup (ks.map kV))) : (tupleKind (mixKind P w)).is h ks a := by
  obtain ⟨_, its, r, o, h1, h2, n, h3⟩ := (show ObjOk P w H h a (.tup (ks.map kV)) from ok a _ e)
  exact ⟨o, its.toArray, n, h1, h2, h3, by simpa using items_are r⟩
theorem dt_rd {kvs : List (List Key × V)} (ok : HOk P w H h) (e : Rd H a (.dT kvs)) : kvs.length ≤ sizeLine ∧ (a == sysModules) = false ∧
    ∃ xs, KT H kvs xs ∧ h.DictOfH (tupleKind (mixKind P w)) a xs := by
  obtain ⟨z, y, xs, r, o, es, ep, h1, h2, h3, h4, h5⟩ := (show ObjOk P w H h a (.dT kvs) from rd_of ok e)
  refine ⟨z, y, xs, r, o, es, ep, h1, h2, h3, h4, fun x hx => ?_, h5⟩
  have all : ∀ {l : List (List Key × V)} {m : List (List Key × Addr × Value)}, KT H l m → ∀ x ∈ m, (tupleKind (mixKind P w)).is h x.1 x.2.1 := by
    intro l m q
    induction q with
    | nil => intro x hx; exact nomatch hx
    | @cons p q ps qs hq t ih =>
      intro x hx
      rcases List.mem_cons.mp hx with e | hx
      · subst e
        exact key_of ok (by rw [← hq.1]; exact hq.2.1)
      · exact ih x hx
  exact all r x hx
end
def DGet (H : Hp) (a : Addr) (y : V) (r : Option V) : Prop :=
  (∃ kvs k, Rd H a (.dK kvs) ∧ y = kV k ∧ r = valV kvs k) ∨ ∃ kvs k b, Rd H a (.dT kvs) ∧ y = .ref b ∧ H b = some (.tup (k.map kV)) ∧ r = valV kvs k
section
variable {X : Cx} {pins : List (Addr × Obj)} {σ : St} {H : Hp} {s : Shared} {a : Addr} {y v : V} {u r : Value} {o : Option V} {A : Around} {E : Value → Shared → Prop}
theorem d_getItem {Q : Value → Shared → Prop} (hu : A.units + 1 < cLine) (I : Inv X pins σ H s) (g : DGet H a y (some v)) (ry : RelV y u) (h : ∀ w' s', Inv X pins σ H s' → RelV v w' → Q w' s') :
    wpAny (model X.prog X.w) A (getItem (.ref a) u) Q E s := by
  rcases g with ⟨kvs, k, e, ey, l⟩ | ⟨kvs, k, b, e, ey, eb, l⟩
  · subst ey
    obtain ⟨z, hd, vs, rel, dd⟩ := dk_rd I.hok e
    obtain ⟨w', hw, rw'⟩ := RelO.some_of (v := v) (o := valueAt vs k) (by rw [l]; exact rel.val k)
    exact wpAny_getItem_of (kV_is ry) dd.mapOf hw (h w' _ (I.tok _) rw')
  · subst ey
    cases (show u = Value.ref b from ry)
    obtain ⟨z, hd, xs, rel, dd⟩ := dt_rd I.hok e
    obtain ⟨w', hw, rw'⟩ := RelO.some_of (v := v) (o := (atKey xs k).map (·.2)) (by rw [l]; exact rel.val k)
    obtain ⟨p, hp, hp2⟩ := Option.map_eq_some_iff.mp hw
    refine wpAny_getItem_heap (tupleKind_room_in1 hu) (key_of I.hok eb) dd hp ?_
    rw [hp2]
    exact h w' _ (I.tok _) rw'
end
section
variable {X : Cx} {pins : List (Addr × Obj)} {σ : St} {H : Hp} {s : Shared} {a : Addr} {kvs : List (Key × V)} {k : Key} {u : Value} {A : Around} {E : Value → Shared → Prop}
theorem d_len {Q : Value → Shared → Prop} (I : Inv X pins σ H s) (e : Rd H a (.dK kvs)) (h : ∀ t s', Inv X pins σ H s' → Q (.int kvs.length t) s') : wpAny (model X.prog X.w) A (call (.builtin "len") [.ref a]) Q E s := by
  obtain ⟨z, hd, vs, rel, dd⟩ := dk_rd I.hok e
  refine call_len_dict hd dd (by rw [← rel.length]; rw [sizeLine_eq] at z; omega) ?_
  rw [← rel.length]
  exact h _ _ (I.tok _)
end
theorem dict_typeIs {X : Cx} {pins : List (Addr × Obj)} {σ : St} {H : Hp} {s : Shared} {a : Addr} {y : V} {o : Option V} (I : Inv X pins σ H s) (g : DGet H a y o) : s.TypeIs (.ref a) "dict" := by
  rcases g with ⟨kvs, k, e, _, _⟩ | ⟨kvs, k, b, e, _, _, _⟩
  · obtain ⟨_, _, vs, _, dd⟩ := dk_rd I.hok e
    exact dd.typeIs
  · obtain ⟨_, _, xs, _, dd⟩ := dt_rd I.hok e
    exact dd.typeIs
section
variable {X : Cx} {o i e value : Expr} {pos pos' tpos : Pos} {td ty tv : TE}
end
section
variable {X : Cx} {pos : Pos}
end
section
variable {X : Cx} {pins : List (Addr × Obj)} {σ : St} {H : Hp} {s : Shared} {a : Addr} {y d : V} {u r : Value} {o : Option V} {A : Around} {E : Value → Shared → Prop}
end
section
variable {X : Cx} {o e f : Expr} {apos cpos : Pos} {td ty tx : TE}
end
section
variable {X : Cx} {pins : List (Addr × Obj)} {σ : St} {H : Hp} {s : Shared} {a : Addr} {kvs : List (Key × V)} {A : Around} {E : Value → Shared → Prop}
end
section
variable {X : Cx} {pins : List (Addr × Obj)} {σ : St} {H : Hp} {s : Shared} {a : Addr} {y : V} {u : Value} {A : Around} {E : Value → Shared → Prop}
end
end L2
namespace L2
open PySem PySem.Spec PyProof.Rows
section
variable {X : Cx}
end
section
variable {κ : Type} [DecidableEq κ]
end
end L2
set_option Elab.async false
set_option linter.all false
set_option maxRecDepth 100000
set_option maxHeartbeats 4000000
namespace L2
open PySem PySem.Spec PyProof.Rows
end L2
namespace L2
open PySem PySem.Spec PyProof.Rows
structure ExcC (K : PySem.W.Frag) (C : Addr) : Prop where
  ga : PySem.W.findIn K (.ref C) "__getattribute__" = some (some (.builtin "BaseException.__getattribute__"))
  gx : PySem.W.findIn K (.ref C) "__getattr__" = some none
  fo : ∀ od, PySem.W.findObj K C od "__class__" = some (.bind (.builtin "getset_descriptor.__get__") (.builtin "object.__class__"))
  ob : PySem.W.mroIn K C (.type "object") = some true
  be : PySem.W.mroIn K C (.type "BaseException") = some true
  self : PySem.W.kitCls K (.ref C) (.ref C) = some true
def ExO (e C : Addr) (od : Option Addr) (h : Heap) : Prop := ∃ ox, h.get? e = some ox ∧ ox.cls = .ref C ∧ PySem.W.notCls ox = true ∧ ox.dict = od
end L2
set_option Elab.async false
set_option linter.all false
set_option maxRecDepth 100000
set_option maxHeartbeats 4000000
namespace L2
open PySem PySem.Spec PyProof.Rows
def Out1 (X : Cx) (b : Addr) : Prop := X.ex = [] ∧ X.s₀.heap.get? b = none ∧ b ≠ X.env.locals ∧ (∀ x c, X.env.cells.lookup x = some c → c ≠ b) ∧ ∀ p ∈ X.pn, p.1 ≠ b
section
variable {X : Cx} {pins : List (Addr × Obj)} {σ : St} {H : Hp} {s : Shared}
end
structure Fly (X : Cx) (H : Hp) (h : Heap) (e C : Addr) (od : Option Addr) : Prop where
  out : Out1 X e
  free : H e = none
  obj : ∃ oe vs, h.get? e = some oe ∧ oe.cls = .ref C ∧ oe.dict = od ∧ oe.data = .fields vs ∧ (vs[1]? = some .none ∨
    ∃ T oT ts, vs[1]? = some (.ref T) ∧ T ≠ e ∧ Out1 X T ∧ H T = none ∧ h.get? T = some oT ∧ oT.data = .fields ts ∧ ts[3]? = some .none)
section
variable {X : Cx} {pins : List (Addr × Obj)} {σ : St} {H : Hp} {s : Shared}
end
end L2
set_option Elab.async false
set_option linter.all false
set_option maxRecDepth 100000
set_option maxHeartbeats 4000000
namespace L2
open PySem PySem.Spec PyProof.Rows
inductive D where
  | non | bl (b : Bool) | int (i : Int) | str (x : Str) | tup (xs : List D) | lst (xs : List D) | dic (ks : List Key) (xs : List D) | obj (c : Str) (ks : List Str) (xs : List D)
mutual
def Rep (K : PySem.W.Frag) (H : Hp) : D → V → Prop
  | .non, v => v = .non
  | .bl b, v => v = .bl b
  | .int i, v => v = .int i
  | .str x, v => v = .str x
  | .tup ds, v => ∃ a vs, v = .ref a ∧ SqT K H a vs ∧ RepL K H ds vs
  | .lst ds, v => ∃ a vs, v = .ref a ∧ SqL K H a vs ∧ RepL K H ds vs
  | .dic ks ds, v => ∃ a vs, v = .ref a ∧ Rd H a (.dK (ks.zip vs)) ∧ ks.length = ds.length ∧ ks.Nodup ∧ RepL K H ds vs
  | .obj c ks ds, v => ∃ a C dx vs, v = .ref a ∧ PySem.W.nsIn K mainGlobals c = some (some (.ref C)) ∧ H a = some (.ins C dx (ks.zip vs)) ∧ H dx = some (.own a) ∧ ks.length = ds.length ∧ RepL K H ds vs
def RepL (K : PySem.W.Frag) (H : Hp) : List D → List V → Prop
  | [], vs => vs = []
  | d :: ds, vs => ∃ v r, vs = v :: r ∧ Rep K H d v ∧ RepL K H ds r
end
theorem Same.rd {H H' : Hp} (e : Same H H') {a : Addr} {u : HO} (h : Rd H a u) : Rd H' a u := h.elim (fun z => .inl (e _ _ z)) fun ⟨o, z⟩ => .inr ⟨o, e _ _ z⟩
theorem Same.sqT {K : PySem.W.Frag} {H H' : Hp} (e : Same H H') {a : Addr} {xs : List V} (h : SqT K H a xs) : SqT K H' a xs := h.elim (fun z => .inl (e.rd z)) .inr
theorem Same.sqL {K : PySem.W.Frag} {H H' : Hp} (e : Same H H') {a : Addr} {xs : List V} (h : SqL K H a xs) : SqL K H' a xs := h.elim (fun z => .inl (e.rd z)) .inr
mutual
theorem Rep.mono {K : PySem.W.Frag} {H H' : Hp} (e : Same H H') : ∀ {d : D} {v : V}, Rep K H d v → Rep K H' d v
  | .non, _, h => by simp only [Rep] at h ⊢; exact h
  | .bl b, _, h => by simp only [Rep] at h ⊢; exact h
  | .int i, _, h => by simp only [Rep] at h ⊢; exact h
  | .str x, _, h => by simp only [Rep] at h ⊢; exact h
  | .tup ds, _, h => by
    simp only [Rep] at h ⊢
    obtain ⟨a, vs, h1, h2, h3⟩ := h
    exact ⟨a, vs, h1, e.sqT h2, RepL.mono e h3⟩
  | .lst ds, _, h => by
    simp only [Rep] at h ⊢
    obtain ⟨a, vs, h1, h2, h3⟩ := h
    exact ⟨a, vs, h1, e.sqL h2, RepL.mono e h3⟩
  | .dic ks ds, _, h => by
    simp only [Rep] at h ⊢
    obtain ⟨a, vs, h1, h2, h3, h4, h5⟩ := h
    exact ⟨a, vs, h1, e.rd h2, h3, h4, RepL.mono e h5⟩
  | .obj c ks ds, _, h => by
    simp only [Rep] at h ⊢
    obtain ⟨a, C, dx, vs, h1, h2, h3, h4, h5, h6⟩ := h
    exact ⟨a, C, dx, vs, h1, h2, e _ _ h3, e _ _ h4, h5, RepL.mono e h6⟩
theorem RepL.mono {K : PySem.W.Frag} {H H' : Hp} (e : Same H H') : ∀ {ds : List D} {vs : List V}, RepL K H ds vs → RepL K H' ds vs
  | [], _, h => by simp only [RepL] at h ⊢; exact h
  | d :: ds, _, h => by
    simp only [RepL] at h ⊢
    obtain ⟨v, r, h1, h2, h3⟩ := h
    exact ⟨v, r, h1, Rep.mono e h2, RepL.mono e h3⟩
end
theorem RepL.length {K : PySem.W.Frag} {H : Hp} : ∀ {ds : List D} {vs : List V}, RepL K H ds vs → ds.length = vs.length
  | [], _, h => by simp only [RepL] at h; subst h; rfl
  | d :: ds, _, h => by
    simp only [RepL] at h
    obtain ⟨v, r, h1, h2, h3⟩ := h
    subst h1
    simp [RepL.length h3]
theorem RepL.get {K : PySem.W.Frag} {H : Hp} : ∀ {ds : List D} {vs : List V} {i : Nat} {d : D}, RepL K H ds vs → ds[i]? = some d → ∃ v, vs[i]? = some v ∧ Rep K H d v
  | [], _, _, _, _, e => by simp at e
  | x :: ds, _, 0, d, h, e => by
    simp only [RepL] at h
    obtain ⟨v, r, h1, h2, h3⟩ := h
    subst h1
    simp at e
    subst e
    exact ⟨v, rfl, h2⟩
  | x :: ds, _, i + 1, d, h, e => by
    simp only [RepL] at h
    obtain ⟨v, r, h1, h2, h3⟩ := h
    subst h1
    obtain ⟨u, h4, h5⟩ := RepL.get (i := i) h3 (by simpa using e)
    exact ⟨u, by simpa using h4, h5⟩
theorem RepL.append {K : PySem.W.Frag} {H : Hp} : ∀ {ds es : List D} {vs us : List V}, RepL K H ds vs → RepL K H es us → RepL K H (ds ++ es) (vs ++ us)
  | [], _, _, _, h, h' => by simp only [RepL] at h; subst h; exact h'
  | d :: ds, _, _, _, h, h' => by
    simp only [RepL] at h
    obtain ⟨v, r, h1, h2, h3⟩ := h
    subst h1
    simp only [List.cons_append, RepL]
    exact ⟨v, _, rfl, h2, RepL.append h3 h'⟩
theorem RepL.snoc {K : PySem.W.Frag} {H : Hp} {ds : List D} {vs : List V} {d : D} {v : V} (h : RepL K H ds vs) (r : Rep K H d v) : RepL K H (ds ++ [d]) (vs ++ [v]) :=
  h.append (by simp only [RepL]; exact ⟨v, [], rfl, r, rfl⟩)
structure Grow (G H G' H' : Hp) : Prop where
  g : Same G G'
  h : Same H H'
  s : Same G' H'
  n : ∀ a o, H a = some o → G a = none → G' a = none
theorem Grow.refl {G H : Hp} (s : Same G H) : Grow G H G H := ⟨Same.refl _, Same.refl _, s, fun _ _ _ n => n⟩
theorem Grow.trans {G H G1 H1 G2 H2 : Hp} (a : Grow G H G1 H1) (b : Grow G1 H1 G2 H2) : Grow G H G2 H2 :=
  ⟨a.g.trans b.g, a.h.trans b.h, b.s, fun x o e n => b.n x o (a.h x o e) (a.n x o e n)⟩
theorem Same.upd {G H : Hp} (s : Same G H) {p : Addr} (o : HO) : Same (upd G p o) (upd H p o) := fun b u e => by
  by_cases hb : b = p
  · subst hb; rw [upd_same] at e ⊢; exact e
  · rw [upd_ne hb] at e ⊢; exact s b u e
theorem same_new {H : Hp} {p : Addr} (o : HO) (n : H p = none) : Same H (L2.upd H p o) := fun b u e => by
  rw [upd_ne (ne_of_none e n)]; exact e
theorem Grow.laid {G H : Hp} (s : Same G H) {p : Addr} (o : HO) (n : H p = none) : Grow G H (L2.upd G p o) (L2.upd H p o) :=
  ⟨same_new o (s.free n), same_new o n, s.upd o, fun a u e z => by rw [upd_ne (ne_of_none e n)]; exact z⟩
inductive Mo where
  | lst (xs : List D) | dic (ks : List Key) (xs : List D)
@[simp] def Mo.d : Mo → D | .lst xs => .lst xs | .dic ks xs => .dic ks xs
@[simp] def Mo.vals : Mo → List D | .lst xs => xs | .dic _ xs => xs
def Mo.ho : Mo → List V → HO | .lst _, vs => .lst vs | .dic ks _, vs => .dK (ks.zip vs)
def Mo.ok : Mo → Prop | .lst _ => True | .dic ks xs => ks.length = xs.length ∧ ks.Nodup
structure Ex where
  n : Str
  ks : List Str
  ds : List D
def Pay (K : PySem.W.Frag) (G : Hp) (c : Ex) : Option Addr → Prop
  | none => c.ks = [] ∧ c.ds = []
  | some dx => ∃ vs, G dx = some (.xd (c.ks.zip vs)) ∧ c.ks.length = c.ds.length ∧ RepL K G c.ds vs
theorem Pay.mono {K : PySem.W.Frag} {H H' : Hp} (s : Same H H') {c : Ex} {od : Option Addr} (h : Pay K H c od) : Pay K H' c od := by
  cases od with
  | none => exact h
  | some dx => obtain ⟨vs, h1, h2, h3⟩ := h; exact ⟨vs, s _ _ h1, h2, h3.mono s⟩
inductive Sl where
  | sh (d : D) | pv (m : Mo) (o : Option Addr) | ob (c : Ex) | tk (P : Program) (w : World) (ts : List (List Key))
@[simp] def Sl.d : Sl → D | .sh d => d | .pv m _ => m.d | .ob _ => .non | .tk _ _ _ => .non
@[simp] def Sl.ok : Sl → Bool | .ob _ => false | .tk _ _ _ => false | _ => true
def tkX (ts : List (List Key)) (as : List Addr) : List (List Key × Addr × Value) := (ts.zip as).map fun p => (p.1, p.2, .bool true)
def TkO (P : Program) (w : World) (a : Addr) (ts : List (List Key)) (as : List Addr) (h : Heap) : Prop := ∃ o es ep, h.get? a = some o ∧ o.ExactDict ∧ o.data = .dict es ep ∧ es.toList = (tkX ts as).map (entryOfKey (tupleKind (mixKind P w)))
structure TkS (G : Hp) (a : Addr) (ts : List (List Key)) (as : List Addr) : Prop where
  sys : (a == sysModules) = false
  nd : ts.Nodup
  len : as.length = ts.length
  keys : ∀ p ∈ ts.zip as, G p.2 = some (.tup (p.1.map kV))
def IsTk (B G H : Hp) (P : Program) (w : World) (ts : List (List Key)) (v : V) : Prop := ∃ a as, v = .ref a ∧ B a = none ∧ G a = none ∧ H a = some (.ext (TkO P w a ts as)) ∧ TkS G a ts as
theorem IsTk.mono {B G H G' H' : Hp} {P : Program} {w : World} {ts : List (List Key)} {v : V} (h : IsTk B G H P w ts v) (g : Same G G') (k : ∀ a φ, v = .ref a → H a = some (.ext φ) → B a = none → G a = none → H' a = some (.ext φ) ∧ G' a = none) : IsTk B G' H' P w ts v := by
  obtain ⟨a, as, h1, h2, h3, h4, h5⟩ := h
  obtain ⟨k1, k2⟩ := k a _ h1 h4 h2 h3
  exact ⟨a, as, h1, h2, k2, k1, h5.sys, h5.nd, h5.len, fun p hp => g _ _ (h5.keys p hp)⟩
def IsEx (K : PySem.W.Frag) (H : Hp) (c : Ex) (v : V) : Prop := ∃ a C od, v = .ref a ∧ PySem.W.nsIn K mainGlobals c.n = some (some (.ref C)) ∧ ExcC K C ∧ H a = some (.ext (ExO a C od)) ∧ Pay K H c od
theorem IsEx.mono {K : PySem.W.Frag} {H H' : Hp} (s : Same H H') {c : Ex} {v : V} (h : IsEx K H c v) : IsEx K H' c v := by
  obtain ⟨a, C, od, h1, h2, h3, h4, h5⟩ := h
  exact ⟨a, C, od, h1, h2, h3, s _ _ h4, h5.mono s⟩
abbrev En := List (Option Sl)
def RepX (K : PySem.W.Frag) (B G H : Hp) : Sl → V → Prop
  | .sh d, v => Rep K G d v
  | .pv m o, v => ∃ a vs, v = .ref a ∧ B a = none ∧ G a = none ∧ H a = some (m.ho vs) ∧ m.ok ∧ RepL K G m.vals vs ∧ ∀ b, o = some b → b = a
  | .ob c, v => IsEx K G c v
  | .tk P w ts, v => IsTk B G H P w ts v
theorem RepX.grow {K : PySem.W.Frag} {B G H G' H' : Hp} (g : Grow G H G' H') : ∀ {x : Sl} {v : V}, RepX K B G H x v → RepX K B G' H' x v
  | .sh d, _, h => Rep.mono g.g h
  | .pv m o, _, ⟨a, vs, h1, h0, h2, h3, h5, h4, h6⟩ => ⟨a, vs, h1, h0, g.n a _ h3 h2, g.h _ _ h3, h5, h4.mono g.g, h6⟩
  | .ob c, _, h => IsEx.mono g.g h
  | .tk P w ts, _, h => IsTk.mono h g.g fun a φ _ e _ n => ⟨g.h _ _ e, g.n a _ e n⟩
structure RepS (K : PySem.W.Frag) (B G H : Hp) (δ : En) (σ : St) : Prop where
  len : δ.length = σ.length
  at_ : ∀ (i : Nat) (x : Sl), δ[i]? = some (some x) → ∃ v, σ[i]? = some (some v) ∧ RepX K B G H x v
  ap : ∀ (i j : Nat) (x y : Mo) (o o' : Option Addr), i ≠ j → δ[i]? = some (some (.pv x o)) → δ[j]? = some (some (.pv y o')) → σ[i]? ≠ σ[j]?
theorem RepS.grow {K : PySem.W.Frag} {B G H G' H' : Hp} {δ : En} {σ : St} (r : RepS K B G H δ σ) (g : Grow G H G' H') : RepS K B G' H' δ σ :=
  ⟨r.len, fun i x e => let ⟨v, h1, h2⟩ := r.at_ i x e; ⟨v, h1, h2.grow g⟩, r.ap⟩
theorem get_set {α : Type} {l : List α} {i j : Nat} {x y : α} (e : (l.set i x)[j]? = some y) : (i = j ∧ x = y) ∨ (i ≠ j ∧ l[j]? = some y) := by
  by_cases h : i = j
  · subst h
    by_cases hl : i < l.length
    · rw [List.getElem?_set_self hl] at e
      exact .inl ⟨rfl, Option.some.inj e⟩
    · rw [List.getElem?_eq_none (by simpa using hl)] at e; cases e
  · rw [List.getElem?_set_ne h] at e
    exact .inr ⟨h, e⟩
theorem RepS.put {K : PySem.W.Frag} {B G H : Hp} {δ : En} {σ : St} (r : RepS K B G H δ σ) (i : Nat) {x : Sl} {v : V} (h : RepX K B G H x v)
    (ha : ∀ m o, x = .pv m o → ∀ (j : Nat) (y : Mo) (o' : Option Addr), j ≠ i → δ[j]? = some (some (.pv y o')) → σ[j]? ≠ some (some v)) : RepS K B G H (δ.set i (some x)) (σ.set i (some v)) := by
  refine ⟨by simp [r.len], fun j y e => ?_, fun j l y z o o' hjl e1 e2 => ?_⟩
  · have hl0 := (List.getElem?_eq_some_iff.mp e).1
    rw [List.length_set, r.len] at hl0
    rcases get_set e with ⟨rfl, e'⟩ | ⟨hj, e'⟩
    · cases e'
      exact ⟨v, List.getElem?_set_self hl0, h⟩
    · rw [List.getElem?_set_ne hj]
      exact r.at_ j y e'
  · have inb : ∀ (m : Nat) (w : Mo) (o : Option Addr), (δ.set i (some x))[m]? = some (some (.pv w o)) → m < σ.length := fun m w o e => by
      have := (List.getElem?_eq_some_iff.mp e).1
      rw [List.length_set, r.len] at this
      exact this
    rcases get_set e1 with ⟨rfl, f1⟩ | ⟨h1, f1⟩
    · rcases get_set e2 with ⟨rfl, f2⟩ | ⟨h2, f2⟩
      · exact absurd rfl hjl
      · cases f1
        rw [List.getElem?_set_self (inb _ _ _ e1), List.getElem?_set_ne h2]
        exact fun z => ha _ _ rfl l _ _ (Ne.symm h2) f2 z.symm
    · rcases get_set e2 with ⟨rfl, f2⟩ | ⟨h2, f2⟩
      · cases f2
        rw [List.getElem?_set_self (inb _ _ _ e2), List.getElem?_set_ne h1]
        exact ha _ _ rfl j _ _ (Ne.symm h1) f1
      · rw [List.getElem?_set_ne h1, List.getElem?_set_ne h2]
        exact r.ap j l y z o o' hjl f1 f2
theorem RepS.set {K : PySem.W.Frag} {B G H : Hp} {δ : En} {σ : St} (r : RepS K B G H δ σ) (i : Nat) {d : D} {v : V} (h : Rep K G d v) : RepS K B G H (δ.set i (some (.sh d))) (σ.set i (some v)) :=
  r.put i (x := .sh d) h fun m o e => nomatch e
def RepB (K : PySem.W.Frag) (G H : Hp) (d : D) (v : V) : Prop := Rep K G d v ∨ ∃ (m : Mo) (a : Addr) (vs : List V), d = m.d ∧ v = .ref a ∧ H a = some (m.ho vs) ∧ m.ok ∧ RepL K G m.vals vs
theorem RepB.grow {K : PySem.W.Frag} {G H G' H' : Hp} {d : D} {v : V} (r : RepB K G H d v) (g : Grow G H G' H') : RepB K G' H' d v := by
  rcases r with r | ⟨m, a, vs, h1, h2, h3, h4, h5⟩
  · exact .inl (r.mono g.g)
  · exact .inr ⟨m, a, vs, h1, h2, g.h _ _ h3, h4, h5.mono g.g⟩
theorem RepB.lst {K : PySem.W.Frag} {G H : Hp} {ds : List D} {v : V} (r : RepB K G H (.lst ds) v) (s : Same G H) : ∃ a vs, v = .ref a ∧ SqL K H a vs ∧ RepL K G ds vs := by
  rcases r with r | ⟨m, a, vs, h1, h2, h3, h4, h5⟩
  · simp only [Rep] at r
    obtain ⟨a, vs, h1, h2, h3⟩ := r
    exact ⟨a, vs, h1, s.sqL h2, h3⟩
  · cases m with
    | lst xs => cases h1; exact ⟨a, vs, h2, SqL.of h3, h5⟩
    | dic ks xs => cases h1
theorem RepB.tup {K : PySem.W.Frag} {G H : Hp} {ds : List D} {v : V} (r : RepB K G H (.tup ds) v) : Rep K G (.tup ds) v := by
  rcases r with r | ⟨m, a, vs, h1, _⟩
  · exact r
  · cases m <;> cases h1
theorem RepB.dic {K : PySem.W.Frag} {G H : Hp} {ks : List Key} {ds : List D} {v : V} (r : RepB K G H (.dic ks ds) v) (s : Same G H) : ∃ a vs, v = .ref a ∧ Rd H a (.dK (ks.zip vs)) ∧ ks.length = ds.length ∧ ks.Nodup ∧ RepL K G ds vs := by
  rcases r with r | ⟨m, a, vs, h1, h2, h3, h4, h5⟩
  · simp only [Rep] at r
    obtain ⟨a, vs, h1, h2, h3, h4, h5⟩ := r
    exact ⟨a, vs, h1, s.rd h2, h3, h4, h5⟩
  · cases m with
    | lst xs => cases h1
    | dic ks' xs => cases h1; exact ⟨a, vs, h2, .inl h3, h4.1, h4.2, h5⟩
theorem RepB.obj {K : PySem.W.Frag} {G H : Hp} {c : Str} {ks : List Str} {ds : List D} {v : V} (r : RepB K G H (.obj c ks ds) v) : Rep K G (.obj c ks ds) v := by
  rcases r with r | ⟨m, a, vs, h1, _⟩
  · exact r
  · cases m <;> cases h1
theorem RepB.all {K : PySem.W.Frag} {G H : Hp} {d : D} {v : V} (r : RepB K G H d v) (s : Same G H) : Rep K H d v := by
  rcases r with r | ⟨m, a, vs, h1, h2, h3, h4, h5⟩
  · exact r.mono s
  · subst h1
    cases m with
    | lst xs => simp only [Mo.d, Rep]; exact ⟨a, vs, h2, SqL.of h3, h5.mono s⟩
    | dic ks xs => simp only [Mo.d, Rep]; exact ⟨a, vs, h2, .inl h3, h4.1, h4.2, h5.mono s⟩
def RepLB (K : PySem.W.Frag) (G H : Hp) : List D → List V → Prop
  | [], vs => vs = []
  | d :: ds, vs => ∃ v r, vs = v :: r ∧ RepB K G H d v ∧ RepLB K G H ds r
abbrev FE := En → Option D
def Gives (K : PySem.W.Frag) (t : TE) (f : FE) : Prop := ∀ (B G H : Hp) (δ : En) (σ : St) (d : D) (Q : VK), Same G H → RepS K B G H δ σ → f δ = some d →
  (∀ v G' H', Grow G H G' H' → Rep K G' d v → Q v H') → t σ H Q
def GivesB (K : PySem.W.Frag) (t : TE) (f : FE) : Prop := ∀ (B G H : Hp) (δ : En) (σ : St) (d : D) (Q : VK), Same G H → RepS K B G H δ σ → f δ = some d →
  (∀ v G' H', Grow G H G' H' → RepB K G' H' d v → Q v H') → t σ H Q
def PD (X : Cx) (e : Expr) (f : FE) : Prop := ∃ t, PE X e t ∧ Gives X.K t f
def PB (X : Cx) (e : Expr) (f : FE) : Prop := ∃ t, PE X e t ∧ GivesB X.K t f
theorem PD.pb {X : Cx} {e : Expr} {f : FE} (h : PD X e f) : PB X e f := by
  obtain ⟨t, pt, k⟩ := h
  exact ⟨t, pt, fun B G H δ σ d Q sG rs ef q => k B G H δ σ d Q sG rs ef fun v G' H' g r => q v G' H' g (.inl r)⟩
inductive Rs where
  | sh (d : D) | fr (m : Mo)
@[simp] def Rs.d : Rs → D | .sh d => d | .fr m => m.d
@[simp] def Rs.sl : Rs → Sl | .sh d => .sh d | .fr m => .pv m none
abbrev FR := En → Option Rs
def WantR (K : PySem.W.Frag) (G H : Hp) (Q : VK) : Rs → Prop
  | .sh d => ∀ v G' H', Grow G H G' H' → Rep K G' d v → Q v H'
  | .fr m => ∀ p vs G' H', Grow G H G' H' → H' p = none → m.ok → RepL K G' m.vals vs → Q (.ref p) (upd H' p (m.ho vs))
def GivesR (K : PySem.W.Frag) (t : TE) (f : FR) : Prop := ∀ (B G H : Hp) (δ : En) (σ : St) (r : Rs) (Q : VK), Same G H → RepS K B G H δ σ → f δ = some r → WantR K G H Q r → t σ H Q
def PR (X : Cx) (e : Expr) (f : FR) : Prop := ∃ t, PE X e t ∧ GivesR X.K t f
@[simp] def fSh (f : FE) : FR := fun δ => (f δ).map .sh
@[simp] def fPub (f : FR) : FE := fun δ => (f δ).map Rs.d
theorem PD.pr {X : Cx} {e : Expr} {f : FE} (h : PD X e f) : PR X e (fSh f) := by
  obtain ⟨t, pt, k⟩ := h
  refine ⟨t, pt, fun B G H δ σ r Q sG rs ef q => ?_⟩
  unfold fSh at ef
  obtain ⟨d, e1, rfl⟩ := Option.map_eq_some_iff.mp ef
  exact k B G H δ σ d Q sG rs e1 q
theorem rep_pub {K : PySem.W.Frag} {G : Hp} {p : Addr} {m : Mo} {vs : List V} (hn : G p = none) (ok : m.ok) (r : RepL K G m.vals vs) : Rep K (upd G p (m.ho vs)) m.d (.ref p) := by
  cases m with
  | lst xs => simp only [Mo.d, Rep]; exact ⟨p, vs, rfl, SqL.of upd_same, r.mono (same_new _ hn)⟩
  | dic ks xs => simp only [Mo.d, Rep]; exact ⟨p, vs, rfl, .inl upd_same, ok.1, ok.2, r.mono (same_new _ hn)⟩
theorem WantR.of {K : PySem.W.Frag} {G H : Hp} {Q : VK} {r : Rs} (q : ∀ v G' H', Grow G H G' H' → Rep K G' r.d v → Q v H') : WantR K G H Q r := by
  cases r with
  | sh d => exact q
  | fr m => exact fun p vs G' H' g hp ok rl => q _ _ _ (g.trans (Grow.laid g.s _ hp)) (rep_pub (g.s.free hp) ok rl)
theorem PR.pd {X : Cx} {e : Expr} {f : FR} (h : PR X e f) : PD X e (fPub f) := by
  obtain ⟨t, pt, k⟩ := h
  refine ⟨t, pt, fun B G H δ σ d Q sG rs ef q => ?_⟩
  unfold fPub at ef
  obtain ⟨r, e1, rfl⟩ := Option.map_eq_some_iff.mp ef
  exact k B G H δ σ r Q sG rs e1 (WantR.of q)
def PDT (X : Cx) (e : Expr) (f : En → Option Bool) : Prop := ∃ t, PT X e t ∧ ∀ (B G H : Hp) (δ : En) (σ : St) (b : Bool) (Q : Bool → Hp → Prop), Same G H → RepS X.K B G H δ σ → f δ = some b →
  (∀ G' H', Grow G H G' H' → Q b H') → t σ H Q
def PDW (X : Cx) (e : Expr) (f : En → Option Bool) : Prop := ∃ t, PW X e t ∧ ∀ (B G H : Hp) (δ : En) (σ : St) (b : Bool) (Q : Bool → Hp → Prop), Same G H → RepS X.K B G H δ σ → f δ = some b →
  (∀ G' H', Grow G H G' H' → Q b H') → t σ H Q
def PAD (X : Cx) (es : List Expr) (f : En → Option (List D)) : Prop := ∃ t, PA X es t ∧ ∀ (B G H : Hp) (δ : En) (σ : St) (ds : List D) (Q : List V → Hp → Prop), Same G H → RepS X.K B G H δ σ → f δ = some ds →
  (∀ vs G' H', Grow G H G' H' → RepL X.K G' ds vs → Q vs H') → t σ H Q
def PAB (X : Cx) (es : List Expr) (f : En → Option (List D)) : Prop := ∃ t, PA X es t ∧ ∀ (B G H : Hp) (δ : En) (σ : St) (ds : List D) (Q : List V → Hp → Prop), Same G H → RepS X.K B G H δ σ → f δ = some ds →
  (∀ vs G' H', Grow G H G' H' → RepLB X.K G' H' ds vs → Q vs H') → t σ H Q
section
variable {X : Cx} {e a b c : Expr} {es : List Expr} {f g h : FE} {pos p : Pos}
@[simp] def fVar (i : Nat) : FE := fun δ => match δ[i]? with | some (some (.sh d)) => some d | _ => none
theorem pd_var (i : Nat) {x : Str} (hN : X.N[i]? = some x := by rfl) (hv : Vis X.env.scope x := by first | exact Or.inl rfl | exact Or.inr (Or.inl rfl) | exact Or.inr (Or.inr rfl)) (hd : (x == ("__debug__" : Str)) = false := by decide)
    (hcd : (x == ("__classdict__" : Str)) = false := by decide) : PD X (.Name x pos) (fVar i) := by
  refine ⟨tVar i, pe_var hN hv hd hcd, fun B G H δ σ d Q sG rs ef k => ?_⟩
  unfold fVar at ef
  split at ef
  · rename_i d' ed
    cases ef
    obtain ⟨v, h1, h2⟩ := rs.at_ i _ ed
    exact ⟨v, h1, k v G H (Grow.refl sG) h2⟩
  · cases ef
@[simp] def fVarB (i : Nat) : FE := fun δ => match δ[i]? with | some (some x) => if x.ok = true then some x.d else none | _ => none
theorem pb_var (i : Nat) {x : Str} (hN : X.N[i]? = some x := by rfl) (hv : Vis X.env.scope x := by first | exact Or.inl rfl | exact Or.inr (Or.inl rfl) | exact Or.inr (Or.inr rfl)) (hd : (x == ("__debug__" : Str)) = false := by decide)
    (hcd : (x == ("__classdict__" : Str)) = false := by decide) : PB X (.Name x pos) (fVarB i) := by
  refine ⟨tVar i, pe_var hN hv hd hcd, fun B G H δ σ d Q sG rs ef k => ?_⟩
  unfold fVarB at ef
  split at ef
  · rename_i y ed
    split at ef
    case isFalse => cases ef
    rename_i yok
    cases ef
    obtain ⟨v, h1, h2⟩ := rs.at_ i _ ed
    refine ⟨v, h1, k v G H (Grow.refl sG) ?_⟩
    cases y with
    | ob c => cases yok
    | tk _ _ _ => cases yok
    | sh d => exact .inl h2
    | pv m o =>
      obtain ⟨a, vs, e1, _, _, e2, e3, e4, _⟩ := h2
      exact .inr ⟨m, a, vs, rfl, e1, e2, e3, e4⟩
  · cases ef
@[simp] def fC (d : D) : FE := fun _ => some d
theorem pd_int {i j} : PD X (.Constant (.int i) j pos) (fC (.int i)) := ⟨_, pe_int, fun B G H δ σ d Q sG rs ef k => by cases ef; exact k _ G H (Grow.refl sG) (by simp [Rep])⟩
theorem pd_bl {i j} : PD X (.Constant (.bool i) j pos) (fC (.bl i)) := ⟨_, pe_bl, fun B G H δ σ d Q sG rs ef k => by cases ef; exact k _ G H (Grow.refl sG) (by simp [Rep])⟩
theorem pd_non {j} : PD X (.Constant .none j pos) (fC .non) := ⟨_, pe_non, fun B G H δ σ d Q sG rs ef k => by cases ef; exact k _ G H (Grow.refl sG) (by simp [Rep])⟩
theorem pd_str {i j} : PD X (.Constant (.str i) j pos) (fC (.str i)) := ⟨_, pe_str, fun B G H δ σ d Q sG rs ef k => by cases ef; exact k _ G H (Grow.refl sG) (by simp [Rep])⟩
@[simp] def fNil : En → Option (List D) := fun _ => some []
@[simp] def fCons (f : FE) (g : En → Option (List D)) : En → Option (List D) := fun δ => (f δ).bind fun d => (g δ).bind fun ds => some (d :: ds)
theorem pad_nil : PAD X [] fNil := ⟨_, pa_nil, fun B G H δ σ d Q sG rs ef k => by cases ef; exact k _ G H (Grow.refl sG) (by simp [RepL])⟩
theorem pad_cons {g : En → Option (List D)} (ha : PD X e f) (hr : PAD X es g) (hs : starEach (e :: es) X.env = (false, eval e X.env) :: starEach es X.env := by rfl) : PAD X (e :: es) (fCons f g) := by
  obtain ⟨ta, pa, ka⟩ := ha
  obtain ⟨tr, pr, kr⟩ := hr
  refine ⟨_, pa_cons pa pr hs, fun B G H δ σ ds Q sG rs ef k => ?_⟩
  unfold fCons at ef
  obtain ⟨d, e1, ef⟩ := Option.bind_eq_some_iff.mp ef
  obtain ⟨ds', e2, ef⟩ := Option.bind_eq_some_iff.mp ef
  cases ef
  refine ka B G H δ σ d _ sG rs e1 fun v G1 H1 g1 r1 => kr B G1 H1 δ σ ds' _ g1.s (rs.grow g1) e2 fun vs G2 H2 g2 r2 => ?_
  exact k _ G2 H2 (g1.trans g2) (by simp only [RepL]; exact ⟨v, vs, rfl, r1.mono g2.g, r2⟩)
theorem pab_nil : PAB X [] fNil := ⟨_, pa_nil, fun B G H δ σ d Q sG rs ef k => by cases ef; exact k _ G H (Grow.refl sG) rfl⟩
theorem pab_cons {g : En → Option (List D)} (ha : PB X e f) (hr : PAB X es g) (hs : starEach (e :: es) X.env = (false, eval e X.env) :: starEach es X.env := by rfl) : PAB X (e :: es) (fCons f g) := by
  obtain ⟨ta, pa, ka⟩ := ha
  obtain ⟨tr, pr, kr⟩ := hr
  refine ⟨_, pa_cons pa pr hs, fun B G H δ σ ds Q sG rs ef k => ?_⟩
  unfold fCons at ef
  obtain ⟨d, e1, ef⟩ := Option.bind_eq_some_iff.mp ef
  obtain ⟨ds', e2, ef⟩ := Option.bind_eq_some_iff.mp ef
  cases ef
  refine ka B G H δ σ d _ sG rs e1 fun v G1 H1 g1 r1 => kr B G1 H1 δ σ ds' _ g1.s (rs.grow g1) e2 fun vs G2 H2 g2 r2 => ?_
  exact k _ G2 H2 (g1.trans g2) ⟨v, vs, rfl, r1.grow g2, r2⟩
def spD (K : PySem.W.Frag) (M : List D → Option Rs) : Sp := fun vs H Q _ => ∃ G ds r, Same G H ∧ RepL K G ds vs ∧ M ds = some r ∧ WantR K G H Q r
def DefOk (P : Program) (w : World) (K : PySem.W.Frag) (mg : Str → Option Value) (base : Heap) (k : Nat) (x : Str) (ps : List Str) (M : List D → Option Rs) : Prop :=
  ∃ f fd, FnOk P w K mg base CX0 k f fd ps (spD K M) ∧ Binds K fd ps [] ∧ PySem.W.keepIn K (.ref f) = true ∧ mg x = some (.ref f)
@[simp] def fCallR (M : List D → Option Rs) (g : En → Option (List D)) : FR := fun δ => (g δ).bind M
theorem WantR.mono {K : PySem.W.Frag} {G H G1 H1 : Hp} {Q : VK} {r : Rs} (q : WantR K G H Q r) (g : Grow G H G1 H1) : WantR K G1 H1 Q r := by
  cases r with
  | sh d => exact fun v G' H' g' => q v G' H' (g.trans g')
  | fr m => exact fun p vs G' H' g' => q p vs G' H' (g.trans g')
theorem pr_call {k : Nat} {x : Str} {ps : List Str} {M : List D → Option Rs} {g : En → Option (List D)} (F : DefOk X.prog X.w X.K X.mg X.base k x ps M) (hr : Room k X.A) (ha : PAD X (e :: es) g) (hg : Gl X x := by rfl)
    (hdb : (x == ("__debug__" : Str)) = false := by decide) (he : starEach (e :: es) X.env = (false, eval e X.env) :: starEach es X.env := by rfl) (hpl : (backTo pos (starEach es X.env)).any (·.1) = false := by rfl) :
    PR X (.Call (.Name x p) (e :: es) [] pos) (fCallR M g) := by
  obtain ⟨f, fd, F, hb, hk, hm⟩ := F
  obtain ⟨ta, pa, ka⟩ := ha
  refine ⟨_, pe_call F hr hg hm hk hb .nil pass0 pa hdb he hpl, fun B G H δ σ r Q sG rs ef k => ?_⟩
  unfold fCallR at ef
  obtain ⟨ds, e1, ef⟩ := Option.bind_eq_some_iff.mp ef
  refine ka B G H δ σ ds _ sG rs e1 fun vs G1 H1 g1 r1 => ?_
  rw [List.append_nil]
  exact ⟨G1, ds, r, g1.s, r1, ef, k.mono g1⟩
def flatD : D → Bool | .non => true | .bl _ => true | .int _ => true | .str _ => true | _ => false
def CallD (X : Cx) (f : Value) (c : List D → Option D) : Prop := ∃ r, CallR X f r ∧ ∀ (G H : Hp) (ds : List D) (vs : List V) (d : D) (Q : VK), Same G H → RepLB X.K G H ds vs → c ds = some d →
  (∀ v G' H', Grow G H G' H' → Rep X.K G' d v → Q v H') → r vs H Q
@[simp] def fCallB (M : List D → Option D) (g : En → Option (List D)) : FE := fun δ => (g δ).bind M
theorem pd_callB {x : Str} {id : String} {cD : List D → Option D} {g : En → Option (List D)} (hc : CallD X (.builtin id) cD) (hm : X.mg x = none) (hv : bootBuiltins x = some (.builtin id)) (ha : PAB X (e :: es) g) (hg : Gl X x := by rfl)
    (hn : x ≠ "__name__" := by decide) (hdb : (x == ("__debug__" : Str)) = false := by decide)
    (he : starEach (e :: es) X.env = (false, eval e X.env) :: starEach es X.env := by rfl) (hpl : (backTo pos (starEach es X.env)).any (·.1) = false := by rfl) : PD X (.Call (.Name x p) (e :: es) [] pos) (fCallB cD g) := by
  obtain ⟨r, hc, kc⟩ := hc
  obtain ⟨ta, pa, ka⟩ := ha
  refine ⟨_, pe_callB hc hg hm hv pa hn hdb he hpl, fun B G H δ σ d Q sG rs ef k => ?_⟩
  unfold fCallB at ef
  obtain ⟨ds, e1, ef⟩ := Option.bind_eq_some_iff.mp ef
  exact ka B G H δ σ ds _ sG rs e1 fun vs G1 H1 g1 r1 => kc G1 H1 ds vs d Q g1.s r1 ef fun v G' H' g2 r2 => k v G' H' (g1.trans g2) r2
theorem pd_callTy {x : Str} {T : String} {cD : List D → Option D} {g : En → Option (List D)} (hc : CallD X (.type T) cD) (hm : X.mg x = none) (hv : bootBuiltins x = some (.type T)) (ha : PAB X (e :: es) g) (hg : Gl X x := by rfl)
    (hn : x ≠ "__name__" := by decide) (hdb : (x == ("__debug__" : Str)) = false := by decide)
    (he : starEach (e :: es) X.env = (false, eval e X.env) :: starEach es X.env := by rfl) (hpl : (backTo pos (starEach es X.env)).any (·.1) = false := by rfl) : PD X (.Call (.Name x p) (e :: es) [] pos) (fCallB cD g) := by
  obtain ⟨r, hc, kc⟩ := hc
  obtain ⟨ta, pa, ka⟩ := ha
  refine ⟨_, pe_callTy hc hg hm hv pa hn hdb he hpl, fun B G H δ σ d Q sG rs ef k => ?_⟩
  unfold fCallB at ef
  obtain ⟨ds, e1, ef⟩ := Option.bind_eq_some_iff.mp ef
  exact ka B G H δ σ ds _ sG rs e1 fun vs G1 H1 g1 r1 => kc G1 H1 ds vs d Q g1.s r1 ef fun v G' H' g2 r2 => k v G' H' (g1.trans g2) r2
def OpD (X : Cx) (f : Value → Value → Sem Value) (o : D → D → Option D) : Prop := ∃ r, OpR X f r ∧ ∀ (G H : Hp) (x y : D) (v u : V) (d : D) (Q : VK), Same G H → RepB X.K G H x v → RepB X.K G H y u → o x y = some d →
  (∀ v G' H', Grow G H G' H' → Rep X.K G' d v → Q v H') → r v u H Q
theorem OpD.or {F : Value → Value → Sem Value} {o o' : D → D → Option D} (h : OpD X F o) (h' : OpD X F o') : OpD X F (fun x y => (o x y).or (o' x y)) := by
  obtain ⟨r, h1, h2⟩ := h
  obtain ⟨r', h1', h2'⟩ := h'
  refine ⟨_, h1.or h1', fun G H x y v u d Q sG rx ry e k => ?_⟩
  cases eo : o x y with
  | some z =>
    have : z = d := by simpa [eo] using e
    subst this
    exact .inl (h2 G H x y v u z Q sG rx ry eo k)
  | none => exact .inr (h2' G H x y v u d Q sG rx ry (by simpa [eo] using e) k)
@[simp] def f2 (o : D → D → Option D) (f g : FE) : FE := fun δ => (f δ).bind fun x => (g δ).bind fun y => o x y
theorem gives_op {r : R2} {o : D → D → Option D} {ta tb : TE} (ka : GivesB X.K ta f) (kb : GivesB X.K tb g) (ko : ∀ (G H : Hp) (x y : D) (v u : V) (d : D) (Q : VK), Same G H → RepB X.K G H x v → RepB X.K G H y u → o x y = some d →
    (∀ v G' H', Grow G H G' H' → Rep X.K G' d v → Q v H') → r v u H Q) : Gives X.K (tOp r ta tb) (f2 o f g) := fun B G H δ σ d Q sG rs ef k => by
  unfold f2 at ef
  obtain ⟨x, e1, ef⟩ := Option.bind_eq_some_iff.mp ef
  obtain ⟨y, e2, ef⟩ := Option.bind_eq_some_iff.mp ef
  exact ka B G H δ σ x _ sG rs e1 fun v G1 H1 g1 r1 => kb B G1 H1 δ σ y _ g1.s (rs.grow g1) e2 fun u G2 H2 g2 r2 =>
    ko G2 H2 x y v u d Q g2.s (r1.grow g2) r2 ef fun v G' H' g3 r3 => k v G' H' ((g1.trans g2).trans g3) r3
theorem pd_op {op : Operator} {o : D → D → Option D} (ho : OpD X (binaryOp op) o) (ha : PB X a f) (hb : PB X b g) : PD X (.BinOp a op b pos) (f2 o f g) := by
  obtain ⟨r, ho, ko⟩ := ho
  obtain ⟨ta, pa, ka⟩ := ha
  obtain ⟨tb, pb, kb⟩ := hb
  exact ⟨_, pe_op ho pa pb, gives_op ka kb ko⟩
theorem pd_cmp {op : CmpOp} {o : D → D → Option D} (ho : OpD X (compareOp op) o) (ha : PB X a f) (hb : PB X b g) (hm : behindInMarks op b = false := by first | exact nomark _ | with_unfolding_all rfl) : PD X (.Compare a [op] [b] pos) (f2 o f g) := by
  obtain ⟨r, ho, ko⟩ := ho
  obtain ⟨ta, pa, ka⟩ := ha
  obtain ⟨tb, pb, kb⟩ := hb
  exact ⟨_, pe_cmpR ho pa pb hm, gives_op ka kb ko⟩
@[simp] def fB (f : FE) : En → Option Bool := fun δ => match f δ with | some (.bl b) => some b | _ => none
theorem fB_some {δ : En} {b : Bool} (e : fB f δ = some b) : f δ = some (.bl b) := by
  unfold fB at e
  split at e
  · rename_i h; cases e; exact h
  · cases e
theorem pdt_cmp {op : CmpOp} {o : D → D → Option D} (ho : OpD X (compareOp op) o) (ha : PB X a f) (hb : PB X b g) (hm : behindInMarks op b = false := by first | exact nomark _ | with_unfolding_all rfl) : PDT X (.Compare a [op] [b] pos) (fB (f2 o f g)) := by
  obtain ⟨r, ho, ko⟩ := ho
  obtain ⟨ta, pa, ka⟩ := ha
  obtain ⟨tb, pb, kb⟩ := hb
  refine ⟨_, pt_cmpR ho pa pb hm, fun B G H δ σ q Q sG rs ef k => ?_⟩
  refine gives_op ka kb ko B G H δ σ _ _ sG rs (fB_some ef) fun v G' H' g1 r1 => ?_
  simp only [Rep] at r1
  exact ⟨q, r1, k G' H' g1⟩
theorem pdt_val (h : PD X e f) (he : ∀ whole, isTrue e X.env whole = (do let v ← whole; standAt e.pos; holding [v] (truthy v)) := by intro _; rfl) : PDT X e (fB f) := by
  obtain ⟨t, pe, ke⟩ := h
  refine ⟨_, pt_val pe he, fun B G H δ σ q Q sG rs ef k => ?_⟩
  refine ke B G H δ σ _ _ sG rs (fB_some ef) fun v G' H' g1 r1 => ?_
  simp only [Rep] at r1
  exact ⟨q, r1, k G' H' g1⟩
@[simp] def f3 (o o' : D → D → Option D) (f g h : FE) : FE := fun δ => (f δ).bind fun x => (g δ).bind fun y => (o x y).bind fun z => match z with | .bl true => (h δ).bind fun w => o' y w | .bl false => some (.bl false) | _ => none
theorem gives_chain {r r' : R2} {o o' : D → D → Option D} {ta tb tc : TE} (ka : GivesB X.K ta f) (kb : GivesB X.K tb g) (kc : GivesB X.K tc h) (ko : ∀ (G H : Hp) (x y : D) (v u : V) (d : D) (Q : VK), Same G H → RepB X.K G H x v → RepB X.K G H y u → o x y = some d →
    (∀ v G' H', Grow G H G' H' → Rep X.K G' d v → Q v H') → r v u H Q) (ko' : ∀ (G H : Hp) (x y : D) (v u : V) (d : D) (Q : VK), Same G H → RepB X.K G H x v → RepB X.K G H y u → o' x y = some d →
    (∀ v G' H', Grow G H G' H' → Rep X.K G' d v → Q v H') → r' v u H Q) : Gives X.K (tChain r r' ta tb tc) (f3 o o' f g h) := fun B G H δ σ d Q sG rs ef k => by
  unfold f3 at ef
  obtain ⟨x, e1, ef⟩ := Option.bind_eq_some_iff.mp ef
  obtain ⟨y, e2, ef⟩ := Option.bind_eq_some_iff.mp ef
  obtain ⟨z, e3, ef⟩ := Option.bind_eq_some_iff.mp ef
  refine ka B G H δ σ x _ sG rs e1 fun v G1 H1 g1 r1 => kb B G1 H1 δ σ y _ g1.s (rs.grow g1) e2 fun u G2 H2 g2 r2 => ko G2 H2 x y v u z _ g2.s (r1.grow g2) r2 e3 fun zz G3 H3 g3 r3 => ?_
  have g13 := (g1.trans g2).trans g3
  split at ef
  · simp only [Rep] at r3
    obtain ⟨w, e4, ef⟩ := Option.bind_eq_some_iff.mp ef
    refine ⟨true, r3, ?_⟩
    rw [if_pos rfl]
    exact kc B G3 H3 δ σ w _ g3.s (rs.grow g13) e4 fun q G4 H4 g4 r4 => ko' G4 H4 y w u q d Q g4.s (r2.grow (g3.trans g4)) r4 ef fun v G' H' g5 r5 => k v G' H' ((g13.trans g4).trans g5) r5
  · simp only [Rep] at r3
    cases ef
    refine ⟨false, r3, ?_⟩
    rw [if_neg Bool.false_ne_true]
    exact k _ G3 H3 g13 (by simp [Rep])
  · cases ef
theorem pd_chain {op op' : CmpOp} {o o' : D → D → Option D} (ho : OpD X (compareOp op) o) (ho' : OpD X (compareOp op') o') (ha : PB X a f) (hb : PB X b g) (hc : PB X c h) (hm : lastMarks [op, op'] [b, c] = false := by with_unfolding_all rfl) :
    PD X (.Compare a [op, op'] [b, c] pos) (f3 o o' f g h) := by
  obtain ⟨r, ho, ko⟩ := ho
  obtain ⟨r', ho', ko'⟩ := ho'
  obtain ⟨ta, pa, ka⟩ := ha
  obtain ⟨tb, pb, kb⟩ := hb
  obtain ⟨tc, pc, kc⟩ := hc
  exact ⟨_, pe_chain ho ho' pa pb pc hm, gives_chain ka kb kc ko ko'⟩
@[simp] def bAnd (f g : En → Option Bool) : En → Option Bool := fun δ => (f δ).bind fun x => if x = true then g δ else some false
@[simp] def bOr (f g : En → Option Bool) : En → Option Bool := fun δ => (f δ).bind fun x => if x = true then some true else g δ
@[simp] def bNot (f : En → Option Bool) : En → Option Bool := fun δ => (f δ).map (!·)
variable {fb gb : En → Option Bool} {rest : List Expr}
theorem PDW.pdt (h : PDW X e fb) : PDT X e fb := by
  obtain ⟨t, pw, k⟩ := h
  exact ⟨t, pw.pt, k⟩
theorem pdw_and1 (ha : PDT X a fb) : PDW X (.BoolOp .And [a] pos) fb := by
  obtain ⟨t, pt, k⟩ := ha
  exact ⟨t, pw_and1 pt, k⟩
theorem pdw_or1 (ha : PDT X a fb) : PDW X (.BoolOp .Or [a] pos) fb := by
  obtain ⟨t, pt, k⟩ := ha
  exact ⟨t, pw_or1 pt, k⟩
theorem pdw_and (ha : PDT X a fb) (hb : PDW X (.BoolOp .And (b :: rest) pos) gb) : PDW X (.BoolOp .And (a :: b :: rest) pos) (bAnd fb gb) := by
  obtain ⟨t, pt, k1⟩ := ha
  obtain ⟨u, pu, k2⟩ := hb
  refine ⟨_, pw_and pt pu, fun B G H δ σ q Q sG rs ef k => ?_⟩
  unfold bAnd at ef
  obtain ⟨x, e1, ef⟩ := Option.bind_eq_some_iff.mp ef
  refine k1 B G H δ σ x _ sG rs e1 fun G1 H1 g1 => ?_
  cases x with
  | true => rw [if_pos rfl] at ef ⊢; exact k2 B G1 H1 δ σ q Q g1.s (rs.grow g1) ef fun G' H' g2 => k G' H' (g1.trans g2)
  | false => rw [if_neg Bool.false_ne_true] at ef ⊢; cases ef; exact k G1 H1 g1
theorem pdw_or (ha : PDT X a fb) (hb : PDW X (.BoolOp .Or (b :: rest) pos) gb) : PDW X (.BoolOp .Or (a :: b :: rest) pos) (bOr fb gb) := by
  obtain ⟨t, pt, k1⟩ := ha
  obtain ⟨u, pu, k2⟩ := hb
  refine ⟨_, pw_or pt pu, fun B G H δ σ q Q sG rs ef k => ?_⟩
  unfold bOr at ef
  obtain ⟨x, e1, ef⟩ := Option.bind_eq_some_iff.mp ef
  refine k1 B G H δ σ x _ sG rs e1 fun G1 H1 g1 => ?_
  cases x with
  | false => rw [if_neg Bool.false_ne_true] at ef ⊢; exact k2 B G1 H1 δ σ q Q g1.s (rs.grow g1) ef fun G' H' g2 => k G' H' (g1.trans g2)
  | true => rw [if_pos rfl] at ef ⊢; cases ef; exact k G1 H1 g1
theorem pdt_not (ha : PDT X a fb) : PDT X (.UnaryOp .Not a pos) (bNot fb) := by
  obtain ⟨t, pt, k1⟩ := ha
  refine ⟨_, L2.pt_not pt, fun B G H δ σ q Q sG rs ef k => ?_⟩
  unfold bNot at ef
  obtain ⟨x, e1, ef⟩ := Option.map_eq_some_iff.mp ef
  subst ef
  exact k1 B G H δ σ x _ sG rs e1 fun G1 H1 g1 => k G1 H1 g1
@[simp] def fAnd (f g : FE) : FE := fun δ => match f δ with | some (.bl true) => g δ | some (.bl false) => some (.bl false) | _ => none
@[simp] def fOr (f g : FE) : FE := fun δ => match f δ with | some (.bl true) => some (.bl true) | some (.bl false) => g δ | _ => none
@[simp] def fNot (f : FE) : FE := fun δ => match f δ with | some (.bl b) => some (.bl (!b)) | _ => none
theorem pd_one {op} (h : PD X a f) : PD X (.BoolOp op [a] pos) f := by
  obtain ⟨t, pt, k⟩ := h
  exact ⟨t, pe_one pt, k⟩
theorem pd_and (ha : PD X a f) (hb : PD X (.BoolOp .And (b :: rest) pos) g) : PD X (.BoolOp .And (a :: b :: rest) pos) (fAnd f g) := by
  obtain ⟨t, pt, k1⟩ := ha
  obtain ⟨u, pu, k2⟩ := hb
  refine ⟨_, pe_and pt pu, fun B G H δ σ q Q sG rs ef k => ?_⟩
  unfold fAnd at ef
  split at ef
  · rename_i e1
    refine k1 B G H δ σ _ _ sG rs e1 fun v G1 H1 g1 r1 => ⟨true, by simpa only [Rep] using r1, ?_⟩
    rw [if_pos rfl]
    exact k2 B G1 H1 δ σ q Q g1.s (rs.grow g1) ef fun v G' H' g2 r2 => k v G' H' (g1.trans g2) r2
  · rename_i e1
    cases ef
    refine k1 B G H δ σ _ _ sG rs e1 fun v G1 H1 g1 r1 => ⟨false, by simpa only [Rep] using r1, ?_⟩
    rw [if_neg Bool.false_ne_true]
    exact k _ G1 H1 g1 (by simp [Rep])
  · cases ef
theorem pd_or (ha : PD X a f) (hb : PD X (.BoolOp .Or (b :: rest) pos) g) : PD X (.BoolOp .Or (a :: b :: rest) pos) (fOr f g) := by
  obtain ⟨t, pt, k1⟩ := ha
  obtain ⟨u, pu, k2⟩ := hb
  refine ⟨_, pe_or pt pu, fun B G H δ σ q Q sG rs ef k => ?_⟩
  unfold fOr at ef
  split at ef
  · rename_i e1
    cases ef
    refine k1 B G H δ σ _ _ sG rs e1 fun v G1 H1 g1 r1 => ⟨true, by simpa only [Rep] using r1, ?_⟩
    rw [if_pos rfl]
    exact k _ G1 H1 g1 (by simp [Rep])
  · rename_i e1
    refine k1 B G H δ σ _ _ sG rs e1 fun v G1 H1 g1 r1 => ⟨false, by simpa only [Rep] using r1, ?_⟩
    rw [if_neg Bool.false_ne_true]
    exact k2 B G1 H1 δ σ q Q g1.s (rs.grow g1) ef fun v G' H' g2 r2 => k v G' H' (g1.trans g2) r2
  · cases ef
theorem pd_not (ha : PD X a f) : PD X (.UnaryOp .Not a pos) (fNot f) := by
  obtain ⟨t, pt, k1⟩ := ha
  refine ⟨_, pe_not pt, fun B G H δ σ q Q sG rs ef k => ?_⟩
  unfold fNot at ef
  split at ef
  · rename_i b e1
    cases ef
    refine k1 B G H δ σ _ _ sG rs e1 fun v G1 H1 g1 r1 => ⟨b, by simpa only [Rep] using r1, k _ G1 H1 g1 (by simp [Rep])⟩
  · cases ef
@[simp] def fTup (g : En → Option (List D)) : FE := fun δ => (g δ).bind fun ds => if ds.length ≤ sizeLine then some (.tup ds) else none
theorem rep_tup {K : PySem.W.Frag} {G : Hp} {p : Addr} {ds : List D} {vs : List V} (hn : G p = none) (r : RepL K G ds vs) : Rep K (upd G p (.tup vs)) (.tup ds) (.ref p) := by
  simp only [Rep]
  exact ⟨p, vs, rfl, SqT.of upd_same, r.mono (same_new _ hn)⟩
theorem rep_lst {K : PySem.W.Frag} {G : Hp} {p : Addr} {ds : List D} {vs : List V} (hn : G p = none) (r : RepL K G ds vs) : Rep K (upd G p (.lst vs)) (.lst ds) (.ref p) := by
  simp only [Rep]
  exact ⟨p, vs, rfl, SqL.of upd_same, r.mono (same_new _ hn)⟩
theorem pd_tup {x1} {g : En → Option (List D)} (ha : PAD X es g) : PD X (.Tuple es x1 pos) (fTup g) := by
  obtain ⟨t, pt, k1⟩ := ha
  refine ⟨_, pe_tup pt, fun B G H δ σ q Q sG rs ef k => ?_⟩
  unfold fTup at ef
  obtain ⟨ds, e1, ef⟩ := Option.bind_eq_some_iff.mp ef
  split at ef
  · rename_i hl
    cases ef
    exact k1 B G H δ σ ds _ sG rs e1 fun vs G1 H1 g1 r1 => ⟨by rw [← r1.length]; exact hl, fun p hp => k _ _ _ (g1.trans (Grow.laid g1.s _ hp)) (rep_tup (g1.s.free hp) r1)⟩
  · cases ef
@[simp] def fLstR (g : En → Option (List D)) : FR := fun δ => (g δ).bind fun ds => if ds.length ≤ sizeLine then some (.fr (.lst ds)) else none
theorem pr_lst {g : En → Option (List D)} (ha : PAD X es g) : PR X (.List es pos) (fLstR g) := by
  obtain ⟨t, pt, k1⟩ := ha
  refine ⟨_, pe_lst pt, fun B G H δ σ q Q sG rs ef k => ?_⟩
  unfold fLstR at ef
  obtain ⟨ds, e1, ef⟩ := Option.bind_eq_some_iff.mp ef
  split at ef
  · rename_i hl
    cases ef
    exact k1 B G H δ σ ds _ sG rs e1 fun vs G1 H1 g1 r1 => ⟨by rw [← r1.length]; exact hl, fun p hp => k p vs G1 H1 g1 hp True.intro r1⟩
  · cases ef
def ixD : D → D → Option D
  | .lst ds, .int i => atI ds i
  | .tup ds, .int i => atI ds i
  | .str z, .int i => if z.length ≤ sizeLine then (atI z.cps.toList i).map fun c => .str ⟨#[c]⟩ else none
  | _, _ => none
theorem RepL.atI {K : PySem.W.Frag} {H : Hp} {ds : List D} {vs : List V} {i : Int} {d : D} (r : RepL K H ds vs) (e : L2.atI ds i = some d) : ∃ v, L2.atI vs i = some v ∧ Rep K H d v := by
  unfold L2.atI at e ⊢
  rw [← r.length]
  obtain ⟨j, e1, e2⟩ := Option.bind_eq_some_iff.mp e
  obtain ⟨v, h1, h2⟩ := r.get e2
  exact ⟨v, by rw [e1]; exact h1, h2⟩
def keyD : D → Option Key | .int i => some (.inl i) | .str x => some (.inr x) | _ => none
def valD (ks : List Key) (ds : List D) (k : Key) : Option D := ((ks.zip ds).find? fun kv => decide (kv.1 = k)).map (·.2)
theorem valD_rep {K : PySem.W.Frag} {G : Hp} (k : Key) : ∀ {ks : List Key} {ds : List D} {vs : List V}, ks.length = ds.length → RepL K G ds vs → (∀ d, valD ks ds k = some d → ∃ v, valV (ks.zip vs) k = some v ∧ Rep K G d v) ∧ (valD ks ds k = none → valV (ks.zip vs) k = none)
  | [], _, _, _, _ => ⟨fun d e => (by cases e), fun _ => rfl⟩
  | k0 :: ks, [], _, hl, _ => by cases hl
  | k0 :: ks, d0 :: ds, _, hl, r => by
    simp only [RepL] at r
    obtain ⟨v, us, rfl, r1, r2⟩ := r
    have ih := valD_rep k (ks := ks) (ds := ds) (by simpa using hl) r2
    by_cases h : k0 = k
    · subst h
      refine ⟨fun d e => ?_, fun e => ?_⟩
      · have : d0 = d := by simpa [valD] using e
        subst this
        exact ⟨v, by simp [valV], r1⟩
      · simp [valD] at e
    · have e1 : valD (k0 :: ks) (d0 :: ds) k = valD ks ds k := by simp [valD, h]
      have e2 : valV ((k0 :: ks).zip (v :: us)) k = valV (ks.zip us) k := by simp [valV, h]
      rw [e1, e2]
      exact ih
theorem keyD_rep {K : PySem.W.Frag} {G H : Hp} {d : D} {k : Key} {v : V} (e : keyD d = some k) (r : RepB K G H d v) : v = kV k := by
  rcases r with r | ⟨m, a, vs, h1, _⟩
  · cases d <;> simp only [keyD, Rep] at e r <;> first | cases e | skip
    all_goals (subst r; rfl)
  · subst h1
    cases m <;> cases e
theorem RepB.flat {K : PySem.W.Frag} {G H : Hp} {d : D} {v : V} (e : flatD d = true) (r : RepB K G H d v) : Rep K G d v := by
  rcases r with r | ⟨m, a, vs, h1, _⟩
  · exact r
  · subst h1; cases m <;> cases e
def rIxD : R2 := fun x y H Q => ∃ a v, x = .ref a ∧ DGet H a y (some v) ∧ Q v H
theorem ix_dict (hu : X.A.units + 1 < cLine) : IxR X rIxD := by
  intro value slice pins s σ H x y v u Q I rx ry h hs
  obtain ⟨a, w', rfl, g, q⟩ := h
  cases rx
  exact tail_any (dict_typeIs I g) PySem.slot_dict_getitem.lookup (d_getItem hu I g ry fun w2 s' I' r' => ⟨_, H, I', r', q⟩) hs
def ixA : D → D → Option D
  | .dic ks ds, y => (keyD y).bind fun k => valD ks ds k
  | x, y => ixD x y
theorem pd_ix (hu : X.A.units + 1 < cLine) (ha : PB X a f) (hb : PB X b g) (hs : PlainIx b := by intro _ _; rfl) : PD X (.Subscript a b pos) (f2 ixA f g) := by
  obtain ⟨ta, pa, ka⟩ := ha
  obtain ⟨tb, pb, kb⟩ := hb
  refine ⟨_, pe_ix (ix_seq.or (ix_dict hu)) pa pb hs, gives_op ka kb fun G H x y v u d Q sG rx ry e k => ?_⟩
  unfold ixA at e
  split at e
  · obtain ⟨kk, e1, e2⟩ := Option.bind_eq_some_iff.mp e
    obtain ⟨a, vs, rfl, hd, hl, nd, rl⟩ := rx.dic sG
    obtain ⟨w', e3, r3⟩ := (valD_rep kk hl rl).1 d e2
    have := keyD_rep e1 ry
    subst this
    exact .inr ⟨a, w', rfl, .inl ⟨_, kk, hd, rfl, e3.symm⟩, k w' G H (Grow.refl sG) r3⟩
  · rename_i x' y' hx
    unfold ixD at e
    split at e
    · obtain ⟨p, vs, rfl, hq, rl⟩ := rx.lst sG
      have ry := ry.flat rfl
      simp only [Rep] at ry
      obtain ⟨w, e1, r1⟩ := rl.atI e
      exact .inl (.inl ⟨p, vs, _, w, rfl, ry, hq, e1, k w G H (Grow.refl sG) r1⟩)
    · have rx := rx.tup
      have ry := ry.flat rfl
      simp only [Rep] at rx ry
      obtain ⟨p, vs, rfl, hq, rl⟩ := rx
      obtain ⟨w, e1, r1⟩ := rl.atI e
      exact .inl (.inr (.inl ⟨p, vs, _, w, rfl, ry, sG.sqT hq, e1, k w G H (Grow.refl sG) r1⟩))
    · have rx := rx.flat rfl
      have ry := ry.flat rfl
      simp only [Rep] at rx ry
      split at e
      · rename_i hl
        obtain ⟨c, e1, rfl⟩ := Option.map_eq_some_iff.mp e
        exact .inl (.inr (.inr ⟨_, _, c, rx, ry, hl, e1, k _ G H (Grow.refl sG) (by simp [Rep])⟩))
      · cases e
    · cases e
end
end L2
set_option Elab.async false
set_option linter.all false
set_option maxRecDepth 100000
set_option maxHeartbeats 4000000
namespace L2
open PySem PySem.Spec PyProof.Rows
section
variable {X : Cx}
theorem opd_i0 {f : Value → Value → Sem Value} {g : Int → Int → V} {g' : Int → Int → D} (h : OpR X f (rI0 g)) (hg : ∀ G i j, Rep X.K G (g' i j) (g i j)) :
    OpD X f (fun x y => match x, y with | .int i, .int j => some (g' i j) | _, _ => none) := by
  refine ⟨_, h, fun G H x y v u d Q sG rx ry e k => ?_⟩
  dsimp only at e
  split at e
  · cases e
    have rx := rx.flat rfl
    have ry := ry.flat rfl
    simp only [Rep] at rx ry
    exact ⟨_, _, rx, ry, k _ G H (Grow.refl sG) (hg _ _ _)⟩
  · cases e
theorem opd_i {f : Value → Value → Sem Value} {C : Int → Int → Prop} [∀ i j, Decidable (C i j)] {g : Int → Int → V} {g' : Int → Int → D} (h : OpR X f (rI C g)) (hg : ∀ G i j, Rep X.K G (g' i j) (g i j)) :
    OpD X f (fun x y => match x, y with | .int i, .int j => if C i j then some (g' i j) else none | _, _ => none) := by
  refine ⟨_, h, fun G H x y v u d Q sG rx ry e k => ?_⟩
  dsimp only at e
  split at e
  · split at e
    · rename_i hc
      cases e
      have rx := rx.flat rfl
      have ry := ry.flat rfl
      simp only [Rep] at rx ry
      exact ⟨_, _, rx, ry, hc, k _ G H (Grow.refl sG) (hg _ _ _)⟩
    · cases e
  · cases e
instance (i j : Int) : Decidable (CDiv i j) := inferInstanceAs (Decidable (_ ∧ _))
instance (i j : Int) : Decidable (CMul i j) := inferInstanceAs (Decidable (_ ∨ _))
instance (i j : Int) : Decidable (CPow i j) := inferInstanceAs (Decidable (_ ∧ _ ∧ _))
def iAdd : D → D → Option D | .int i, .int j => some (.int (i + j)) | _, _ => none
def subD : D → D → Option D | .int i, .int j => some (.int (i - j)) | _, _ => none
def iMul : D → D → Option D | .int i, .int j => if CMul i j then some (.int (i * j)) else none | _, _ => none
def fdivD : D → D → Option D | .int i, .int j => if CDiv i j then some (.int (i / j)) else none | _, _ => none
def modD : D → D → Option D | .int i, .int j => if 0 < j then some (.int (i % j)) else none | _, _ => none
def powD : D → D → Option D | .int i, .int j => if CPow i j then some (.int (i ^ j.toNat)) else none | _, _ => none
theorem od_iadd : OpD X (binaryOp .Add) iAdd := opd_i0 op_add fun _ _ _ => by simp [Rep]
theorem od_sub : OpD X (binaryOp .Sub) subD := opd_i0 op_sub fun _ _ _ => by simp [Rep]
theorem od_imul : OpD X (binaryOp .Mult) iMul := opd_i op_mul fun _ _ _ => by simp [Rep]
theorem od_fdiv : OpD X (binaryOp .FloorDiv) fdivD := opd_i op_fdiv fun _ _ _ => by simp [Rep]
theorem od_mod : OpD X (binaryOp .Mod) modD := opd_i op_mod fun _ _ _ => by simp [Rep]
theorem od_pow : OpD X (binaryOp .Pow) powD := opd_i op_pow fun _ _ _ => by simp [Rep]
def sAdd : D → D → Option D | .str i, .str j => if i.length + j.length ≤ sizeLine then some (.str (i ++ j)) else none | _, _ => none
theorem od_sadd : OpD X (binaryOp .Add) sAdd := by
  refine ⟨_, op_add_str, fun G H x y v u d Q sG rx ry e k => ?_⟩
  unfold sAdd at e
  split at e
  · split at e
    · rename_i hc
      cases e
      have rx := rx.flat rfl
      have ry := ry.flat rfl
      simp only [Rep] at rx ry
      exact ⟨_, _, rx, ry, hc, k _ G H (Grow.refl sG) (by simp [Rep])⟩
    · cases e
  · cases e
def rCatL (K : PySem.W.Frag) : R2 := fun x y H Q => ∃ l b xs zs, x = .ref l ∧ y = .ref b ∧ SqL K H l xs ∧ SqL K H b zs ∧ xs.length + zs.length ≤ sizeLine ∧ ∀ p, H p = none → Q (.ref p) (upd H p (.lst (xs ++ zs)))
def lAdd : D → D → Option D | .lst i, .lst j => if i.length + j.length ≤ sizeLine then some (.lst (i ++ j)) else none | _, _ => none
theorem od_ladd (h : OpR X (binaryOp .Add) (rCatL X.K)) : OpD X (binaryOp .Add) lAdd := by
  refine ⟨_, h, fun G H x y v u d Q sG rx ry e k => ?_⟩
  unfold lAdd at e
  split at e
  · split at e
    · rename_i hc
      cases e
      obtain ⟨p1, xs, rfl, q1, r1⟩ := rx.lst sG
      obtain ⟨p2, ys, rfl, q2, r2⟩ := ry.lst sG
      exact ⟨p1, p2, xs, ys, rfl, rfl, q1, q2, by rw [← r1.length, ← r2.length]; exact hc, fun p hp => k _ _ _ (Grow.laid sG _ hp) (rep_lst (sG.free hp) (r1.append r2))⟩
    · cases e
  · cases e
def iCmp (f : Int → Int → Bool) : D → D → Option D | .int i, .int j => some (.bl (f i j)) | _, _ => none
theorem od_le : OpD X (compareOp .LtE) (iCmp fun i j => decide (i ≤ j)) := opd_i0 op_le fun _ _ _ => by simp [Rep]
theorem od_gt : OpD X (compareOp .Gt) (iCmp fun i j => decide (j < i)) := opd_i0 op_gt fun _ _ _ => by simp [Rep]
theorem od_ge : OpD X (compareOp .GtE) (iCmp fun i j => decide (j ≤ i)) := opd_i0 op_ge fun _ _ _ => by simp [Rep]
theorem op_le_str : OpR X (compareOp .LtE) (fun x y H Q => ∃ i j, x = .str i ∧ y = .str j ∧ Q (.bl (!decide (j.cps.toList < i.cps.toList))) H) := by
  intro pins s σ H x y v u Q I rx ry h
  obtain ⟨i, j, rfl, rfl, q⟩ := h
  obtain ⟨t, rfl⟩ := rx
  obtain ⟨t', rfl⟩ := ry
  exact PySem.P.le_str ⟨.bl _, H, I, rfl, q⟩
def sLe : D → D → Option D | .str i, .str j => some (.bl (!decide (j.cps.toList < i.cps.toList))) | _, _ => none
theorem od_sle : OpD X (compareOp .LtE) sLe := by
  refine ⟨_, op_le_str, fun G H x y v u d Q sG rx ry e k => ?_⟩
  unfold sLe at e
  split at e
  · cases e
    have rx := rx.flat rfl
    have ry := ry.flat rfl
    simp only [Rep] at rx ry
    exact ⟨_, _, rx, ry, k _ G H (Grow.refl sG) (by simp [Rep])⟩
  · cases e
def scalV : D → Option V
  | .non => some .non | .bl b => some (.bl b) | .int i => some (.int i) | .str x => some (.str x) | _ => none
theorem scalV_flat {d : D} {w : V} (e : scalV d = some w) : flatD d = true := by
  cases d <;> first | rfl | cases e
theorem scalV_rep {K : PySem.W.Frag} {G H : Hp} {d : D} {v w : V} (e : scalV d = some w) (r : RepB K G H d v) : v = w := by
  have r := r.flat (scalV_flat e)
  cases d <;> simp only [scalV, Rep] at e r <;> first | cases e | skip
  all_goals exact r
def sEq (n : Bool) : D → D → Option D := fun x y => (scalV x).bind fun v => (scalV y).bind fun u => if scal v u = true then some (.bl (if n then !decide (v = u) else decide (v = u))) else none
theorem od_seq : OpD X (compareOp .Eq) (sEq false) := by
  refine ⟨_, op_eq, fun G H x y v u d Q sG rx ry e k => ?_⟩
  unfold sEq at e
  obtain ⟨v', e1, e⟩ := Option.bind_eq_some_iff.mp e
  obtain ⟨u', e2, e⟩ := Option.bind_eq_some_iff.mp e
  obtain rfl := scalV_rep e1 rx
  obtain rfl := scalV_rep e2 ry
  split at e
  · rename_i hs
    cases e
    exact ⟨hs, k _ G H (Grow.refl sG) (by simp [Rep])⟩
  · cases e
theorem od_sne : OpD X (compareOp .NotEq) (sEq true) := by
  refine ⟨_, op_ne, fun G H x y v u d Q sG rx ry e k => ?_⟩
  unfold sEq at e
  obtain ⟨v', e1, e⟩ := Option.bind_eq_some_iff.mp e
  obtain ⟨u', e2, e⟩ := Option.bind_eq_some_iff.mp e
  obtain rfl := scalV_rep e1 rx
  obtain rfl := scalV_rep e2 ry
  split at e
  · rename_i hs
    cases e
    exact ⟨hs, k _ G H (Grow.refl sG) (by simp [Rep])⟩
  · cases e
def toV : D → V | .non => .non | .bl b => .bl b | .int i => .int i | .str x => .str x | _ => .non
theorem rep_flat {K : PySem.W.Frag} {G : Hp} {d : D} {v : V} (e : flatD d = true) (r : Rep K G d v) : v = toV d ∧ flatV v = true := by
  cases d with
  | non => simp only [Rep] at r; subst r; exact ⟨rfl, rfl⟩
  | bl b => simp only [Rep] at r; subst r; exact ⟨rfl, rfl⟩
  | int b => simp only [Rep] at r; subst r; exact ⟨rfl, rfl⟩
  | str b => simp only [Rep] at r; subst r; exact ⟨rfl, rfl⟩
  | tup b => cases e
  | lst b => cases e
  | dic ks b => cases e
  | obj _ _ _ => cases e
@[simp] def oInt (f : FE) : En → Option (Option Int) := fun δ => match f δ with | some (.int i) => some (some i) | _ => none
def lenD : List D → Option D
  | [.lst ds] => some (.int ds.length)
  | [.tup ds] => some (.int ds.length)
  | [.str z] => if z.length ≤ sizeLine then some (.int z.length) else none
  | [.dic ks ds] => some (.int ds.length)
  | _ => none
theorem repLB_one {K : PySem.W.Frag} {G H : Hp} {d : D} {vs : List V} (r : RepLB K G H [d] vs) : ∃ v, vs = [v] ∧ RepB K G H d v := by
  obtain ⟨v, us, rfl, r1, r2⟩ := r
  simp only [RepLB] at r2
  subst r2
  exact ⟨v, rfl, r1⟩
theorem cd_len : CallD X (.builtin "len") lenD := by
  refine ⟨_, (call_len_seq.or call_len_str).or (show CallR X (.builtin "len") (fun xs H Q => ∃ a kvs, xs = [V.ref a] ∧ Rd H a (.dK kvs) ∧ Q (.int kvs.length) H) from ?_), fun G H ds vs d Q sG r e k => ?_⟩
  · intro pins s σ H xs us Q I r h
    obtain ⟨a, kvs, rfl, ha, q⟩ := h
    obtain ⟨u, rfl, ru⟩ := vals1 r
    cases ru
    exact d_len I ha fun t s' I' => ⟨.int kvs.length, H, I', ⟨t, rfl⟩, q⟩
  unfold lenD at e
  split at e
  · cases e
    obtain ⟨v, rfl, r1⟩ := repLB_one r
    obtain ⟨a, us, rfl, q, rl⟩ := r1.lst sG
    exact .inl (.inl ⟨a, us, rfl, .inl q, k _ G H (Grow.refl sG) (by simp [Rep, rl.length])⟩)
  · cases e
    obtain ⟨v, rfl, r1⟩ := repLB_one r
    have r1 := r1.tup
    simp only [Rep] at r1
    obtain ⟨a, us, rfl, q, rl⟩ := r1
    exact .inl (.inl ⟨a, us, rfl, .inr (sG.sqT q), k _ G H (Grow.refl sG) (by simp [Rep, rl.length])⟩)
  · split at e
    · rename_i hl
      cases e
      obtain ⟨v, rfl, r1⟩ := repLB_one r
      have r1 := r1.flat rfl
      simp only [Rep] at r1
      subst r1
      exact .inl (.inr ⟨_, rfl, hl, k _ G H (Grow.refl sG) (by simp [Rep])⟩)
    · cases e
  · cases e
    obtain ⟨v, rfl, r1⟩ := repLB_one r
    obtain ⟨a, us, rfl, q, hl, nd, rl⟩ := r1.dic sG
    refine .inr ⟨a, _, rfl, q, k _ G H (Grow.refl sG) ?_⟩
    have e2 : us.length = _ := rl.length.symm
    simp only [Rep, List.length_zip]
    congr 1
    omega
  · cases e
end
inductive Out where
  | nx (δ : En) | rt (r : Rs) (δ : En) | bk (δ : En) | ct (δ : En) | ex (c : Ex) (δ : En)
abbrev FS := En → Option Out
structure Stp (B G G' H' : Hp) : Prop where
  g : Same G G'
  s : Same G' H'
  b : Same B H'
  n : ∀ a o, B a = some o → G a = none → G' a = none
theorem Stp.refl {B G H : Hp} (s : Same G H) (b : Same B H) : Stp B G G H := ⟨Same.refl _, s, b, fun _ _ _ n => n⟩
theorem Stp.trans {B G G1 H1 G2 H2 : Hp} (a : Stp B G G1 H1) (c : Stp B G1 G2 H2) : Stp B G G2 H2 := ⟨a.g.trans c.g, c.s, c.b, fun x o e n => c.n x o e (a.n x o e n)⟩
theorem Grow.stp {B G H G' H' : Hp} (g : Grow G H G' H') (b : Same B H) : Stp B G G' H' := ⟨g.g, g.s, b.trans g.h, fun a o e n => g.n a o (b a o e) n⟩
def Want (X : Cx) (B G : Hp) (D : Ends) : Out → Prop
  | .nx δ' => ∀ σ' G' H', Stp B G G' H' → RepS X.K B G' H' δ' σ' → D.nx σ' H'
  | .bk δ' => ∀ σ' G' H', Stp B G G' H' → RepS X.K B G' H' δ' σ' → D.bk σ' H'
  | .ct δ' => ∀ σ' G' H', Stp B G G' H' → RepS X.K B G' H' δ' σ' → D.ct σ' H'
  | .ex c δ' => ∀ pins σ' G' H' s' e C od, Inv X pins σ' H' s' → Stp B G G' H' → RepS X.K B G' H' δ' σ' → PySem.W.nsIn X.K mainGlobals c.n = some (some (.ref C)) → Pay X.K G' c od → Fly X H' s'.heap e C od → X.xe (.ref e) s'
  | .rt (.sh d) δ' => ∀ v σ' G' H', Stp B G G' H' → RepS X.K B G' H' δ' σ' → Rep X.K G' d v → D.rt v H'
  | .rt (.fr m) δ' => ∀ p vs σ' G' H', Stp B G G' H' → RepS X.K B G' H' δ' σ' → H' p = none → m.ok → RepL X.K G' m.vals vs → D.rt (.ref p) (upd H' p (m.ho vs))
def GivesS (X : Cx) (t : TS) (F : FS) : Prop := ∀ (B G H : Hp) (δ : En) (σ : St) (o : Out) (D : Ends), Same G H → Same B H → RepS X.K B G H δ σ → F δ = some o → Want X B G D o → t D σ H
def PSD (X : Cx) (st : Stmt) (F : FS) : Prop := ∃ t, PS X st t ∧ GivesS X t F
def PSsD (X : Cx) (sts : List Stmt) (F : FS) : Prop := ∃ t, PSs X sts t ∧ GivesS X t F
theorem Want.mono {X : Cx} {B G G1 H1 : Hp} {D : Ends} {o : Out} (w : Want X B G D o) (g : Stp B G G1 H1) : Want X B G1 D o := by
  cases o with
  | nx δ => exact fun σ' G' H' a => w σ' G' H' (g.trans a)
  | bk δ => exact fun σ' G' H' a => w σ' G' H' (g.trans a)
  | ct δ => exact fun σ' G' H' a => w σ' G' H' (g.trans a)
  | ex c δ => exact fun pins σ' G' H' s' e C od I a => w pins σ' G' H' s' e C od I (g.trans a)
  | rt r δ =>
    cases r with
    | sh d => exact fun v σ' G' H' a => w v σ' G' H' (g.trans a)
    | fr m => exact fun p vs σ' G' H' a => w p vs σ' G' H' (g.trans a)
section
variable {X : Cx} {st : Stmt} {rest sts : List Stmt} {F F' : FS} {pos : Pos} {f : FE} {e : Expr}
@[simp] def sNil : FS := fun δ => some (.nx δ)
@[simp] def sSeq (F F' : FS) : FS := fun δ => match F δ with | some (.nx δ') => F' δ' | o => o
theorem psd_nil : PSsD X [] sNil := ⟨_, pss_nil, fun B G H δ σ o D sG sB rs e w => by cases e; exact w σ G H (Stp.refl sG sB) rs⟩
theorem psd_cons (h1 : PSD X st F) (h2 : PSsD X rest F') : PSsD X (st :: rest) (sSeq F F') := by
  obtain ⟨t, p1, k1⟩ := h1
  obtain ⟨u, p2, k2⟩ := h2
  refine ⟨_, pss_cons p1 p2, fun B G H δ σ o D sG sB rs e w => ?_⟩
  unfold sSeq at e
  show t { D with nx := u D } σ H
  cases e1 : F δ with
  | none => rw [e1] at e; cases e
  | some o1 =>
    rw [e1] at e
    cases o1 with
    | nx δ' => exact k1 B G H δ σ (.nx δ') _ sG sB rs e1 fun σ' G' H' a r => k2 B G' H' δ' σ' o D a.s a.b r e (w.mono a)
    | rt d δ' =>
      cases e
      cases d with
      | sh d => exact k1 B G H δ σ (.rt (.sh d) δ') _ sG sB rs e1 w
      | fr m => exact k1 B G H δ σ (.rt (.fr m) δ') _ sG sB rs e1 w
    | bk δ' => cases e; exact k1 B G H δ σ (.bk δ') _ sG sB rs e1 w
    | ct δ' => cases e; exact k1 B G H δ σ (.ct δ') _ sG sB rs e1 w
    | ex c δ' => cases e; exact k1 B G H δ σ (.ex c δ') _ sG sB rs e1 w
@[simp] def sSet (i : Nat) (f : FE) : FS := fun δ => (f δ).map fun d => .nx (δ.set i (some (.sh d)))
theorem psd_set (i : Nat) {x : Str} {pos' : Pos} (hN : X.N.Nodup) (he : PD X e f) (hi : X.N[i]? = some x := by rfl) (hx : Loc X.env.scope x := by first | exact Or.inl rfl | exact Or.inr rfl)
    (hs : swapsWith e (some (.Name x pos')) pos.line X.env = pure false := by rfl) (hf : X.fn x = true ∨ X.env.scope.names.lookup x = some .local := by first | exact .inl rfl | exact .inr rfl) : PSD X (.Assign [.Name x pos'] e pos) (sSet i f) := by
  obtain ⟨t, pt, k⟩ := he
  refine ⟨_, ps_set hN hi hx pt hs hf, fun B G H δ σ o D sG sB rs e w => ?_⟩
  unfold sSet at e
  obtain ⟨d, e1, rfl⟩ := Option.map_eq_some_iff.mp e
  exact k B G H δ σ d _ sG rs e1 fun v G' H' g r => w _ G' H' (g.stp sB) ((rs.grow g).set i r)
@[simp] def sRet (f : FR) : FS := fun δ => (f δ).map fun r => .rt r δ
theorem psd_ret {f : FR} (he : PR X e f) : PSD X (.Return (some e) pos) (sRet f) := by
  obtain ⟨t, pt, k⟩ := he
  refine ⟨_, ps_ret pt, fun B G H δ σ o D sG sB rs e w => ?_⟩
  unfold sRet at e
  obtain ⟨d, e1, rfl⟩ := Option.map_eq_some_iff.mp e
  refine k B G H δ σ d _ sG rs e1 ?_
  cases d with
  | sh d => exact fun v G' H' g r => w v σ G' H' (g.stp sB) (rs.grow g) r
  | fr m => exact fun p vs G' H' g => w p vs σ G' H' (g.stp sB) (rs.grow g)
theorem erase_upd {H : Hp} {a : Addr} {o : HO} (h : H a = some o) : upd (fun b => if b = a then none else H b) a o = H := by
  funext b
  by_cases hb : b = a
  · subst hb; rw [upd_same, h]
  · rw [upd_ne hb, if_neg hb]
theorem same_erase {G H : Hp} {a : Addr} (s : Same G H) (n : G a = none) : Same G (fun b => if b = a then none else H b) := fun b o e => by
  have hb : b ≠ a := fun z => by rw [z, n] at e; cases e
  show (if b = a then none else H b) = some o
  rw [if_neg hb]
  exact s b o e
@[simp] def sRetV (i : Nat) : FS := fun δ => match δ[i]? with | some (some (.pv m _)) => some (.rt (.fr m) (δ.set i none)) | some (some (.sh d)) => some (.rt (.sh d) δ) | _ => none
theorem RepS.erase {K : PySem.W.Frag} {B G H : Hp} {δ : En} {σ : St} (r : RepS K B G H δ σ) {i : Nat} {m : Mo} {o : Option Addr} {a : Addr} (em : δ[i]? = some (some (.pv m o))) (ea : σ[i]? = some (some (.ref a))) :
    RepS K B G (fun b => if b = a then none else H b) (δ.set i none) σ := by
  refine ⟨by simp [r.len], fun j x e => ?_, fun j l x y o o' hjl e1 e2 => ?_⟩
  · rcases get_set e with ⟨rfl, e'⟩ | ⟨hj, e'⟩
    · cases e'
    · obtain ⟨v, h1, h2⟩ := r.at_ j x e'
      refine ⟨v, h1, ?_⟩
      cases x with
      | sh d => exact h2
      | ob c => exact h2
      | tk P w ts =>
        obtain ⟨_, z1, a1, us1, rfl, _, _, z3, _⟩ := r.at_ i _ em
        rw [ea] at z1
        cases z1
        refine IsTk.mono h2 (Same.refl _) fun b φ _ e _ n => ⟨?_, n⟩
        have hne : b ≠ a := fun z => by subst z; rw [z3] at e; cases m <;> cases e
        show (if b = a then none else H b) = _
        rw [if_neg hne]; exact e
      | pv m2 o2 =>
        obtain ⟨a2, us2, rfl, q1, q2, q3, q4, q5⟩ := h2
        have hne : a2 ≠ a := fun z => by
          subst z
          exact r.ap i j m m2 _ _ hj em e' (ea.trans h1.symm)
        exact ⟨a2, us2, rfl, q1, q2, by show (if a2 = a then none else H a2) = _; rw [if_neg hne]; exact q3, q4, q5⟩
  · rcases get_set e1 with ⟨rfl, e'⟩ | ⟨_, f1⟩
    · cases e'
    · rcases get_set e2 with ⟨rfl, e'⟩ | ⟨_, f2⟩
      · cases e'
      · exact r.ap j l x y o o' hjl f1 f2
theorem psd_retV (i : Nat) {x : Str} {p : Pos} (hN : X.N[i]? = some x := by rfl) (hv : Vis X.env.scope x := by first | exact Or.inl rfl | exact Or.inr (Or.inl rfl) | exact Or.inr (Or.inr rfl)) (hd : (x == ("__debug__" : Str)) = false := by decide)
    (hcd : (x == ("__classdict__" : Str)) = false := by decide) : PSD X (.Return (some (.Name x p)) pos) (sRetV i) := by
  refine ⟨_, ps_ret (pe_var hN hv hd hcd), fun B G H δ σ o D sG sB rs e w => ?_⟩
  unfold sRetV at e
  split at e
  · rename_i m _ em
    cases e
    obtain ⟨v, h1, a, vs, rfl, h2, h3, h4, h5, h6, _⟩ := rs.at_ i _ em
    refine ⟨_, h1, ?_⟩
    have q := w a vs σ G (fun b => if b = a then none else H b) ⟨Same.refl _, same_erase sG h3, same_erase sB h2, fun _ _ _ n => n⟩ (rs.erase em h1) (by simp) h5 h6
    rw [erase_upd h4] at q
    exact q
  · rename_i d ed
    cases e
    obtain ⟨v, h1, h2⟩ := rs.at_ i _ ed
    exact ⟨v, h1, w v σ G H (Stp.refl sG sB) rs h2⟩
  · cases e
@[simp] def sSetR (i : Nat) (f : FR) : FS := fun δ => (f δ).map fun r => .nx (δ.set i (some r.sl))
theorem psd_setR (i : Nat) {x : Str} {pos' : Pos} {f : FR} (hN : X.N.Nodup) (he : PR X e f) (hi : X.N[i]? = some x := by rfl) (hx : Loc X.env.scope x := by first | exact Or.inl rfl | exact Or.inr rfl)
    (hs : swapsWith e (some (.Name x pos')) pos.line X.env = pure false := by rfl) (hf : X.fn x = true ∨ X.env.scope.names.lookup x = some .local := by first | exact .inl rfl | exact .inr rfl) : PSD X (.Assign [.Name x pos'] e pos) (sSetR i f) := by
  obtain ⟨t, pt, k⟩ := he
  refine ⟨_, ps_set hN hi hx pt hs hf, fun B G H δ σ o D sG sB rs e w => ?_⟩
  unfold sSetR at e
  obtain ⟨d, e1, rfl⟩ := Option.map_eq_some_iff.mp e
  refine k B G H δ σ d _ sG rs e1 ?_
  cases d with
  | sh d => exact fun v G' H' g r => w _ G' H' (g.stp sB) ((rs.grow g).set i r)
  | fr m =>
    intro p vs G' H' g hp ok rl
    have g2 : Grow G' H' G' (upd H' p (m.ho vs)) := ⟨Same.refl _, same_new _ hp, g.s.trans (same_new _ hp), fun _ _ _ n => n⟩
    have g3 := g.trans g2
    refine w _ G' _ (g3.stp sB) ((rs.grow g3).put i (x := .pv m none) ⟨p, vs, rfl, (sB.trans g.h).free hp, g.s.free hp, upd_same, ok, rl, fun _ z => nomatch z⟩ fun m' _ _ j y _ hj ej q => ?_)
    obtain ⟨v, h1, a, us, rfl, _, _, h4, _, _, _⟩ := (rs.grow g).at_ j _ ej
    rw [h1] at q
    cases q
    rw [hp] at h4
    cases h4
theorem RepS.upd {K : PySem.W.Frag} {B G H : Hp} {δ : En} {σ : St} (r : RepS K B G H δ σ) {i : Nat} {m m' : Mo} {o : Option Addr} {a : Addr} {us : List V} (em : δ[i]? = some (some (.pv m o))) (ea : σ[i]? = some (some (.ref a))) (hB : B a = none) (hG : G a = none) (ok : m'.ok) (rl : RepL K G m'.vals us) :
    RepS K B G (L2.upd H a (m'.ho us)) (δ.set i (some (.pv m' o))) σ := by
  refine ⟨by simp [r.len], fun j x e => ?_, fun j l x y o1 o2 hjl e1 e2 => ?_⟩
  · rcases get_set e with ⟨rfl, e'⟩ | ⟨hj, e'⟩
    · cases e'
      obtain ⟨v, w1, b, _, rfl, _, _, _, _, _, tg⟩ := r.at_ _ _ em
      rw [ea] at w1
      cases w1
      exact ⟨_, ea, a, us, rfl, hB, hG, upd_same, ok, rl, tg⟩
    · obtain ⟨v, h1, h2⟩ := r.at_ j x e'
      refine ⟨v, h1, ?_⟩
      cases x with
      | sh d => exact h2
      | ob c => exact h2
      | tk P w ts =>
        obtain ⟨_, z1, a1, us1, rfl, _, _, z3, _⟩ := r.at_ i _ em
        rw [ea] at z1
        cases z1
        refine IsTk.mono h2 (Same.refl _) fun b φ _ e _ n => ⟨?_, n⟩
        have hne : b ≠ a := fun z => by subst z; rw [z3] at e; cases m <;> cases e
        rw [upd_ne hne]; exact e
      | pv m2 o2 =>
        obtain ⟨a2, us2, rfl, q1, q2, q3, q4, q5⟩ := h2
        have hne : a2 ≠ a := fun z => by
          subst z
          exact r.ap i j m m2 _ _ hj em e' (ea.trans h1.symm)
        exact ⟨a2, us2, rfl, q1, q2, by rw [upd_ne hne]; exact q3, q4, q5⟩
  · have old : ∀ (k : Nat) (z : Mo) (u : Option Addr), (δ.set i (some (.pv m' o)))[k]? = some (some (.pv z u)) → ∃ z' u', δ[k]? = some (some (.pv z' u')) := fun k z u e => by
      rcases get_set e with ⟨rfl, e'⟩ | ⟨_, e'⟩
      · exact ⟨m, o, em⟩
      · exact ⟨z, u, e'⟩
    obtain ⟨x', u1, f1⟩ := old j x _ e1
    obtain ⟨y', u2, f2⟩ := old l y _ e2
    exact r.ap j l x' y' _ _ hjl f1 f2
theorem stp_own {B G H : Hp} {a : Addr} {o : HO} (sG : Same G H) (sB : Same B H) (hB : B a = none) (hG : G a = none) : Stp B G G (L2.upd H a o) :=
  ⟨Same.refl _, fun b u e => by rw [upd_ne (ne_of_none e hG)]; exact sG b u e, fun b u e => by rw [upd_ne (ne_of_none e hB)]; exact sB b u e, fun _ _ _ n => n⟩
@[simp] def sApp (i : Nat) (f : FE) : FS := fun δ => match δ[i]? with
  | some (some (.pv (.lst ds) o)) => (f δ).bind fun d => if ds.length < sizeLine then some (.nx (δ.set i (some (.pv (.lst (ds ++ [d])) o)))) else none
  | _ => none
theorem psd_app (i : Nat) {x : Str} {p p1 p2 : Pos} (he : PD X e f) (hN : X.N[i]? = some x := by rfl) (hv : Vis X.env.scope x := by first | exact Or.inl rfl | exact Or.inr (Or.inl rfl) | exact Or.inr (Or.inr rfl))
    (hb : ∀ {t : TE} {tx : TE}, PE X (.Name x p) tx → PE X e t → PE X (.Call (.Attribute (.Name x p) "append" p1) [e] [] p2) (tBM X.K "list" rAppend tx (tCons t tNil)) := by
      intro t tx hx ht; exact pe_bm PySem.F.plainAttrs_list PySem.F.slot_list_append PySem.F.type_list_append mt_append hx (pa_cons ht pa_nil))
    (hd : (x == ("__debug__" : Str)) = false := by decide) (hcd : (x == ("__classdict__" : Str)) = false := by decide) (hs : swapsWith (.Call (.Attribute (.Name x p) "append" p1) [e] [] p2) none pos.line X.env = pure false := by rfl) :
    PSD X (.Expr (.Call (.Attribute (.Name x p) "append" p1) [e] [] p2) pos) (sApp i f) := by
  obtain ⟨t, pt, k⟩ := he
  refine ⟨_, ps_expr (hb (pe_var hN hv hd hcd) pt) hs, fun B G H δ σ o D sG sB rs e w => ?_⟩
  unfold sApp at e
  split at e
  · rename_i ds o em
    obtain ⟨d, e1, e⟩ := Option.bind_eq_some_iff.mp e
    split at e
    · rename_i hl
      cases e
      obtain ⟨v, h1, a, vs, rfl, h2, h3, h4, h5, h6, _⟩ := rs.at_ i _ em
      refine ⟨_, h1, .inl ⟨rfl, _, SqL.of h4⟩, k B G H δ σ d _ sG rs e1 fun u G1 H1 g1 r1 => ?_⟩
      have hH : H1 a = some (.lst vs) := g1.h _ _ h4
      have hG1 : G1 a = none := g1.n a _ h4 h3
      have rl : RepL X.K G1 (ds ++ [d]) (vs ++ [u]) := (h6.mono g1.g).snoc r1
      refine ⟨a, vs, u, rfl, rfl, hH, by rw [← RepL.length h6]; exact hl, ?_⟩
      exact w σ G1 _ ((g1.stp sB).trans (stp_own g1.s (sB.trans g1.h) h2 hG1)) ((rs.grow g1).upd (m' := .lst (ds ++ [d])) (us := vs ++ [u]) em h1 h2 hG1 True.intro rl)
    · cases e
  · cases e
@[simp] def pubS (i : Nat) (δ : En) : En := match δ[i]? with | some (some (.pv m _)) => δ.set i (some (.sh m.d)) | _ => δ
theorem RepS.pub {K : PySem.W.Frag} {B G H : Hp} {δ : En} {σ : St} (r : RepS K B G H δ σ) (sG : Same G H) (sB : Same B H) (i : Nat) : ∃ G', Stp B G G' H ∧ RepS K B G' H (pubS i δ) σ := by
  unfold pubS
  split
  · rename_i m _ em
    obtain ⟨v, h1, a, vs, rfl, h2, h3, h4, h5, h6, _⟩ := r.at_ i _ em
    have st : Stp B G (L2.upd G a (m.ho vs)) H := by
      refine ⟨same_new _ h3, fun b u e => ?_, sB, fun b o e n => ?_⟩
      · by_cases hb : b = a
        · subst hb; rw [upd_same] at e; cases e; exact h4
        · rw [upd_ne hb] at e; exact sG b u e
      · rw [upd_ne (ne_of_none e h2)]; exact n
    refine ⟨_, st, by simp [r.len], fun j x e => ?_, fun j l x y o1 o2 hjl e1 e2 => ?_⟩
    · rcases get_set e with ⟨rfl, e'⟩ | ⟨hj, e'⟩
      · cases e'
        exact ⟨_, h1, rep_pub h3 h5 h6⟩
      · obtain ⟨v, q1, q2⟩ := r.at_ j x e'
        refine ⟨v, q1, ?_⟩
        cases x with
        | sh d => exact Rep.mono st.g q2
        | ob c => exact IsEx.mono st.g q2
        | tk P w ts =>
          refine IsTk.mono q2 st.g fun b φ _ e _ n => ⟨e, ?_⟩
          have hne : b ≠ a := fun z => by subst z; rw [h4] at e; cases m <;> cases e
          rw [upd_ne hne]; exact n
        | pv m2 o2 =>
          obtain ⟨a2, us2, rfl, p1, p2, p3, p4, p5, p6⟩ := q2
          have hne : a2 ≠ a := fun z => by
            subst z
            exact r.ap i j m m2 _ _ hj em e' (h1.trans q1.symm)
          exact ⟨a2, us2, rfl, p1, by rw [upd_ne hne]; exact p2, p3, p4, p5.mono st.g, p6⟩
    · have old : ∀ (k : Nat) (z : Mo) (u : Option Addr), (δ.set i (some (.sh m.d)))[k]? = some (some (.pv z u)) → δ[k]? = some (some (.pv z u)) := fun k z u e => by
        rcases get_set e with ⟨rfl, e'⟩ | ⟨_, e'⟩
        · cases e'
        · exact e'
      exact r.ap j l x y _ _ hjl (old j x _ e1) (old l y _ e2)
  · exact ⟨G, Stp.refl sG sB, r⟩
theorem psd_pub (i : Nat) (h : PSD X st F) : PSD X st (fun δ => F (pubS i δ)) := by
  obtain ⟨t, pt, k⟩ := h
  refine ⟨t, pt, fun B G H δ σ o D sG sB rs e w => ?_⟩
  obtain ⟨G', s1, r1⟩ := rs.pub sG sB i
  exact k B G' H _ σ o D s1.s sB r1 e (w.mono s1)
@[simp] def sIf (c : En → Option Bool) (F F' : FS) : FS := fun δ => (c δ).bind fun b => if b = true then F δ else F' δ
theorem psd_if {c : Expr} {a b : List Stmt} {fb : En → Option Bool} (hc : PDT X c fb) (ha : PSsD X a F) (hb : PSsD X b F') : PSD X (.If c a b pos) (sIf fb F F') := by
  obtain ⟨tc, pc, kc⟩ := hc
  obtain ⟨ta, pa, ka⟩ := ha
  obtain ⟨tb, pb, kb⟩ := hb
  refine ⟨_, ps_if pc pa pb, fun B G H δ σ o D sG sB rs e w => ?_⟩
  unfold sIf at e
  obtain ⟨x, e1, e⟩ := Option.bind_eq_some_iff.mp e
  refine kc B G H δ σ x _ sG rs e1 fun G1 H1 g1 => ?_
  cases x with
  | true => rw [if_pos rfl] at e ⊢; exact ka B G1 H1 δ σ o D g1.s (sB.trans g1.h) (rs.grow g1) e (w.mono (g1.stp sB))
  | false => rw [if_neg Bool.false_ne_true] at e ⊢; exact kb B G1 H1 δ σ o D g1.s (sB.trans g1.h) (rs.grow g1) e (w.mono (g1.stp sB))
structure Wk (K : PySem.W.Frag) (J : It) (G : Hp) (xs : List D) : Prop where
  go : ∀ i d G' H', xs[i]? = some d → Same G G' → Same G' H' → J.go i H' ∧ ∀ x H2, J.yld i H' x H2 → H2 = H' ∧ Rep K G' d x
  stop : ∀ G' H', Same G G' → Same G' H' → J.stop xs.length H'
def PID (X : Cx) (tg iter : Expr) (f : En → Option (List D)) : Prop := ∃ wi, PI X tg iter wi ∧ ∀ (B G H : Hp) (δ : En) (σ : St) (xs : List D) (R : It → Hp → Prop), Same G H → RepS X.K B G H δ σ → f δ = some xs →
  (∀ J G' H', Grow G H G' H' → Wk X.K J G' xs → R J H') → wi σ H R
def signs (z : Str) : List D := z.cps.toList.map fun c => .str ⟨#[c]⟩
def rngD (lo : Int) (n : Nat) : List D := (List.range n).map fun (k : Nat) => .int (lo + (k : Int))
@[simp] def oRng (f : FE) : En → Option (List D) := fun δ => match f δ with | some (.int j) => if -(2 ^ 62) ≤ j ∧ j < 2 ^ 62 then some (rngD 0 j.toNat) else none | _ => none
variable {tg : Expr}
theorem pid_range {p : Pos} (hm : X.mg "range" = none) (he : PD X e f) (hg : Gl X "range" := by rfl) (hs : starEach [e] X.env = [(false, eval e X.env)] := by rfl) : PID X tg (.Call (.Name "range" p) [e] [] pos) (oRng f) := by
  obtain ⟨t, pt, k⟩ := he
  refine ⟨_, pi_range1 hg hm (pa_cons pt pa_nil hs) hs, fun B G H δ σ xs R sG rs e q => ?_⟩
  unfold oRng at e
  split at e
  · rename_i j e1
    split at e
    · rename_i hj
      cases e
      refine k B G H δ σ _ _ sG rs e1 fun v G1 H1 g1 r1 => ?_
      simp only [Rep] at r1
      subst r1
      refine ⟨j, rfl, hj.1, hj.2, q _ G1 H1 g1 ⟨fun i d G' H' ed a1 b1 => ?_, fun G' H' a1 b1 => ?_⟩⟩
      · unfold rngD at ed
        rw [List.getElem?_map] at ed
        obtain ⟨c, ec, rfl⟩ := Option.map_eq_some_iff.mp ed
        obtain ⟨hi, hc⟩ := List.getElem?_eq_some_iff.mp ec
        rw [List.length_range] at hi
        rw [List.getElem_range] at hc
        subst hc
        refine ⟨hi, fun x' H2 y => ⟨y.1, ?_⟩⟩
        rw [y.2]
        simp [Rep]
      · show j.toNat ≤ (rngD 0 j.toNat).length
        simp [rngD]
    · cases e
  · cases e
def forL (i : Nat) (F : FS) : List D → FS
  | [], δ => some (.nx δ)
  | x :: xs, δ => match F (δ.set i (some (.sh x))) with
    | some (.nx δ') => forL i F xs δ'
    | some (.ct δ') => forL i F xs δ'
    | some (.ex c δ') => some (.ex c δ')
    | some (.bk δ') => some (.nx δ')
    | some (.rt d δ') => some (.rt d δ')
    | none => none
@[simp] def sFor (i : Nat) (f : En → Option (List D)) (F : FS) : FS := fun δ => (f δ).bind fun xs => forL i F xs δ
theorem psd_for (i : Nat) {x : Str} {pos' : Pos} {iter : Expr} {body : List Stmt} {g : En → Option (List D)} (hN : X.N.Nodup) (hc : X.calm = true) (hp : PassesOwn (model X.prog X.w) X.A X.env X.xe) (hi : PID X (.Name x pos') iter g) (hb : PSsD X body F)
    (hix : X.N[i]? = some x := by rfl) (hx : Loc X.env.scope x := by first | exact Or.inl rfl | exact Or.inr rfl) (hf : X.fn x = true ∨ X.env.scope.names.lookup x = some .local := by first | exact .inl rfl | exact .inr rfl)
    (hs : ∀ x, foldedSetIterable iter X.env x = pure x := by intro _; rfl) : PSD X (.For (.Name x pos') iter body [] pos) (sFor i g F) := by
  obtain ⟨wi, pw, kw⟩ := hi
  obtain ⟨tb, pb, kb⟩ := hb
  refine ⟨_, ps_for hp hc pw (pg_name hN hix hx hf) pb hs, fun B G H δ σ o D sG sB rs e w => ?_⟩
  unfold sFor at e
  obtain ⟨xs, e1, e⟩ := Option.bind_eq_some_iff.mp e
  refine kw B G H δ σ xs _ sG rs e1 fun J G1 H1 g1 wk => ?_
  have st1 : Stp B G G1 H1 := g1.stp sB
  refine ⟨fun n m σ' H' => ∃ δ' G', m = xs.length - n ∧ n ≤ xs.length ∧ Stp B G1 G' H' ∧ RepS X.K B G' H' δ' σ' ∧ forL i F (xs.drop n) δ' = some o, ⟨_, δ, G1, rfl, Nat.zero_le _, Stp.refl st1.s st1.b, rs.grow g1, by simpa using e⟩, ?_⟩
  rintro n m σ' H' ⟨δ', G', rfl, hn, a1, rs', eo⟩
  by_cases hlt : n < xs.length
  · right
    obtain ⟨go, yl⟩ := wk.go n xs[n] G' H' (by simp [hlt]) a1.g a1.s
    rw [List.drop_eq_getElem_cons hlt] at eo
    unfold forL at eo
    refine ⟨go, fun σ2 H2 => ∃ m', m' < xs.length - n ∧ ∃ δ2 G2, m' = xs.length - (n + 1) ∧ n + 1 ≤ xs.length ∧ Stp B G1 G2 H2 ∧ RepS X.K B G2 H2 δ2 σ2 ∧ forL i F (xs.drop (n + 1)) δ2 = some o, fun σ2 H2 z => z, fun x H2 y => ?_⟩
    obtain ⟨rfl, rx⟩ := yl x H2 y
    show tb _ (σ'.set i (some x)) H2
    have again : ∀ {δ2 : En} {σ2 : St} {G2 H3 : Hp}, Stp B G' G2 H3 → RepS X.K B G2 H3 δ2 σ2 → forL i F (xs.drop (n + 1)) δ2 = some o →
        ∃ m', m' < xs.length - n ∧ ∃ δ2 G2, m' = xs.length - (n + 1) ∧ n + 1 ≤ xs.length ∧ Stp B G1 G2 H3 ∧ RepS X.K B G2 H3 δ2 σ2 ∧ forL i F (xs.drop (n + 1)) δ2 = some o :=
      fun {δ2 σ2 G2 H3} a r e => ⟨xs.length - (n + 1), by omega, δ2, G2, rfl, hlt, a1.trans a, r, e⟩
    cases eF : F (δ'.set i (some (.sh xs[n]))) with
    | none => rw [eF] at eo; cases eo
    | some o1 =>
      rw [eF] at eo
      refine kb B G' H2 _ _ o1 _ a1.s a1.b (rs'.set i rx) eF ?_
      cases o1 with
      | nx δ2 => exact fun σ2 G2 H3 a r => again a r eo
      | ct δ2 => exact fun σ2 G2 H3 a r => again a r eo
      | ex c δ2 =>
        cases eo
        exact fun pins σ2 G2 H3 s3 e C od I a => w pins σ2 G2 H3 s3 e C od I (st1.trans (a1.trans a))
      | bk δ2 =>
        cases eo
        exact fun σ2 G2 H3 a r => w σ2 G2 H3 (st1.trans (a1.trans a)) r
      | rt r δ2 =>
        cases eo
        cases r with
        | sh d => exact fun v σ2 G2 H3 a r => w v σ2 G2 H3 (st1.trans (a1.trans a)) r
        | fr m => exact fun p vs σ2 G2 H3 a => w p vs σ2 G2 H3 (st1.trans (a1.trans a))
  · left
    have hnn : n = xs.length := by omega
    subst hnn
    rw [List.drop_of_length_le (Nat.le_refl _)] at eo
    cases eo
    exact ⟨wk.stop G' H' a1.g a1.s, w σ' G' H' (st1.trans a1) rs'⟩
end
end L2
set_option Elab.async false
set_option linter.all false
set_option maxRecDepth 100000
set_option maxHeartbeats 4000000
namespace L2
open PySem PySem.Spec PyProof.Rows
section
variable {X : Cx}
theorem op_catL : OpR X (binaryOp .Add) (rCatL X.K) := by
  intro pins s σ H x y v u Q I rx ry h
  obtain ⟨l, b, xs, zs, rfl, rfl, hH, hB, hz, q⟩ := h
  cases rx
  cases ry
  obtain ⟨its, r, hl, hz1⟩ := I.list hH
  obtain ⟨its2, r2, hl2, hz2⟩ := I.list hB
  obtain ⟨⟨cls, dd, data, sl⟩, ho, hc, n, hd⟩ := hl.isList
  obtain ⟨⟨cls2, dd2, data2, sl2⟩, ho2, hc2, n2, hd2⟩ := hl2.isList
  simp only at hc hd hc2 hd2
  subst hc hd hc2 hd2
  have ea : its.toArray ++ its2.toArray = (its ++ its2).toArray := by simp
  have h1 := r.length
  have h2 := r2.length
  refine concat_meets ⟨_, ho, rfl⟩ ⟨_, ho2, rfl⟩ noFill_list_add seq_list_add PySem.F.slot_list_add PySem.F.entry_list_add (PySem.F.args_list_add_2 _ _) (list_addW l b its.toArray its2.toArray n n2 dd dd2 sl sl2 (by simp; omega)) ⟨ho, ho2, ?_⟩
  rw [ea]
  exact ⟨.ref _, _, I.lnew (t' := s.toks) (r.append r2) (by rw [List.length_append]; omega), rfl, q _ I.fresh⟩
def rCatT0 (K : PySem.W.Frag) : R2 := fun x y H Q => ∃ a b ys, x = .ref a ∧ y = .ref b ∧ SqT K H a [] ∧ SqT K H b ys ∧ Q (.ref b) H
theorem op_catT0 : OpR X (binaryOp .Add) (rCatT0 X.K) := by
  intro pins s σ H x y v u Q I rx ry h
  obtain ⟨a, b, ys, rfl, rfl, ha, hb, q⟩ := h
  cases rx
  cases ry
  obtain ⟨its, r1, p1, _⟩ := I.tuple ha
  obtain ⟨its2, r2, p2, _⟩ := I.tuple hb
  cases r1
  obtain ⟨⟨cls, dd, data, sl⟩, ho, hc, n, hd⟩ := id p1
  obtain ⟨⟨cls2, dd2, data2, sl2⟩, ho2, hc2, n2, hd2⟩ := id p2
  simp only at hc hd hc2 hd2
  subst hc hd hc2 hd2
  exact concat_meets ⟨_, ho, rfl⟩ ⟨_, ho2, rfl⟩ noFill_tuple_add seq_tuple_add PySem.F.slot_tuple_add PySem.F.entry_tuple_add (PySem.F.args_tuple_add_2 _ _)
      (tuple_addW0 a b #[] its2.toArray n n2 dd dd2 sl sl2 rfl) ⟨ho, ho2, ⟨.ref b, H, I, rfl, q⟩⟩
def tupAdd : D → D → Option D | .tup i, .tup j => if i.length + j.length ≤ sizeLine then some (.tup (i ++ j)) else none | _, _ => none
theorem od_tadd : OpD X (binaryOp .Add) tupAdd := by
  refine ⟨_, op_catT0.or op_catT, fun G H x y v u d Q sG rx ry e k => ?_⟩
  unfold tupAdd at e
  split at e
  · rename_i i j
    split at e
    · rename_i hc
      cases e
      have rx := rx.tup
      have ry := ry.tup
      have rx0 := rx
      have ry0 := ry
      simp only [Rep] at rx ry
      obtain ⟨p1, xs, rfl, q1, r1⟩ := rx
      obtain ⟨p2, ys, rfl, q2, r2⟩ := ry
      cases i with
      | nil =>
        have : xs = [] := by simpa only [RepL] using r1
        subst this
        exact .inl ⟨p1, p2, ys, rfl, rfl, sG.sqT q1, sG.sqT q2, k _ G H (Grow.refl sG) (by simpa using ry0)⟩
      | cons i0 is =>
        refine .inr ⟨p1, p2, xs, ys, rfl, rfl, sG.sqT q1, sG.sqT q2, ?_, by rw [← r1.length, ← r2.length]; exact hc, fun hy => ?_, fun hy p hp => k _ _ _ (Grow.laid sG _ hp) (rep_tup (sG.free hp) (r1.append r2))⟩
        · intro z
          have := r1.length
          rw [z] at this
          cases this
        · have : j = [] := by
            have := r2.length
            rw [hy] at this
            exact List.length_eq_zero_iff.mp this
          subst this
          exact k _ G H (Grow.refl sG) (by simpa using rx0)
    · cases e
  · cases e
def addD (x y : D) : Option D := (iAdd x y).or ((sAdd x y).or ((tupAdd x y).or (lAdd x y)))
theorem od_add : OpD X (binaryOp .Add) addD := od_iadd.or (od_sadd.or (od_tadd.or (od_ladd op_catL)))
def bools : List D → Option (List Bool)
  | [] => some []
  | .bl b :: ds => (bools ds).map (b :: ·)
  | _ => none
def tyD : D → String | .non => "NoneType" | .bl _ => "bool" | .int _ => "int" | .str _ => "str" | .tup _ => "tuple" | .lst _ => "list" | .dic _ _ => "dict" | .obj _ _ _ => ""
def isOb : D → Bool | .obj _ _ _ => true | _ => false
theorem isinst_D {pins : List (Addr × Obj)} {σ : St} {G H : Hp} {s : Shared} {A : Around} {E : Value → Shared → Prop} {Q : Value → Shared → Prop} {c : Value} {b : Bool} {d : D} {x : V} {u : Value} (I : Inv X pins σ H s) (sG : Same G H) (r : Rep X.K G d x) (rx : RelV x u) (ho : isOb d = false)
    (e : PySem.W.kitOne X.K (.type (tyD d)) c = some b) (h : ∀ tk, Q (.bool b) { s with toks := tk }) : wpAny (model X.prog X.w) A (call (.builtin "isinstance") [u, c]) Q E s := by
  cases d with
  | non => simp only [Rep] at r; subst r; exact isinst_ok I rx .non e h
  | bl y => simp only [Rep] at r; subst r; exact isinst_ok I rx (.bl _) e h
  | int i => simp only [Rep] at r; subst r; exact isinst_ok I rx (.int _) e h
  | str y => simp only [Rep] at r; subst r; exact isinst_ok I rx (.str _) e h
  | tup ds =>
    simp only [Rep] at r
    obtain ⟨a, vs, rfl, q, rl⟩ := r
    cases (show u = Value.ref a from rx)
    obtain ⟨its, _, ⟨o, h1, h2, _⟩, _⟩ := I.tuple (sG.sqT q)
    exact PySem.W.kia_one PySem.W.kitx_tuple I.kIn ⟨o, h1, h2⟩ e (fun z => nomatch z) h
  | lst ds =>
    simp only [Rep] at r
    obtain ⟨a, vs, rfl, q, rl⟩ := r
    cases (show u = Value.ref a from rx)
    obtain ⟨its, _, p, _⟩ := I.list (sG.sqL q)
    obtain ⟨o, h1, h2, _⟩ := p.isList
    exact PySem.W.kia_one PySem.W.kitx_list I.kIn ⟨o, h1, h2⟩ e (fun z => nomatch z) h
  | dic ks ds =>
    simp only [Rep] at r
    obtain ⟨a, vs, rfl, q, hl, nd, rl⟩ := r
    cases (show u = Value.ref a from rx)
    obtain ⟨_, _, us, _, dd⟩ := dk_rd I.hok (sG.rd q)
    obtain ⟨o, _, _, h1, h2, _⟩ := dd
    exact PySem.W.kia_one PySem.W.kitx_dict I.kIn ⟨o, h1, h2.1⟩ e (fun z => nomatch z) h
  | obj _ _ _ => cases ho
def isTy (T : String) (d : D) : Bool := tyD d == T || (T == "int" && tyD d == "bool")
def IsTyOk (K : PySem.W.Frag) (T : String) : Prop := ∀ d : D, isOb d = false → PySem.W.kitOne K (.type (tyD d)) (.type T) = some (isTy T d)
@[simp] def fIs (T : String) (f : FE) : FE := fun δ => (f δ).bind fun d => if isOb d = true then none else some (.bl (isTy T d))
theorem pd_is {e : Expr} {f : FE} {T : Str} {p pT pos : Pos} (T' : String) (hT : IsTyOk X.K T') (hm : X.mg "isinstance" = none) (hmT : X.mg T = none) (hv : bootBuiltins T = some (.type T')) (he : PB X e f) (hg : Gl X "isinstance" := by rfl) (hgT : Gl X T := by rfl) (hn : T ≠ "__name__" := by decide) (hd : (T == ("__debug__" : Str)) = false := by decide)
    (hs : starEach [e, .Name T pT] X.env = (false, eval e X.env) :: starEach [.Name T pT] X.env := by rfl) (hs2 : starEach [.Name T pT] X.env = (false, eval (.Name T pT) X.env) :: starEach [] X.env := by rfl) (hpl : (backTo pos (starEach [.Name T pT] X.env)).any (·.1) = false := by rfl)
    (hb : bootBuiltins "isinstance" = some (.builtin "isinstance") := by decide +kernel) :
    PD X (.Call (.Name "isinstance" p) [e, .Name T pT] [] pos) (fIs T' f) := by
  obtain ⟨t, pt, k1⟩ := he
  have hc : CallR X (.builtin "isinstance") (fun xs H Q => ∃ G d v, Same G H ∧ Rep X.K G d v ∧ isOb d = false ∧ xs = [v, .ty T'] ∧ Q (.bl (isTy T' d)) H) := by
    intro pins s σ H xs us Q I r h
    obtain ⟨G, d, v, sG, rd, ho, rfl, q⟩ := h
    obtain ⟨u, w', rfl, r1, r2⟩ := vals2 r
    cases (show w' = Value.type T' from r2)
    exact isinst_D I sG rd r1 ho (hT d ho) fun tk => ⟨.bl _, H, I.tok tk, rfl, q⟩
  refine ⟨_, pe_callB hc hg hm hb (pa_cons pt (pa_cons (pe_bltn (v := .ty T') hgT hmT hv rfl hn hd) pa_nil hs2) hs) (by decide) (by decide) hs hpl, fun B G H δ σ d Q sG rs ef k => ?_⟩
  unfold fIs at ef
  obtain ⟨x, e1, ef⟩ := Option.bind_eq_some_iff.mp ef
  split at ef
  · cases ef
  · rename_i ho
    cases ef
    exact k1 B G H δ σ x _ sG rs e1 fun v G1 H1 g1 r1 => ⟨H1, x, v, Same.refl _, r1.all g1.s, Bool.eq_false_iff.mpr ho, rfl, k _ G1 H1 g1 (by simp [Rep])⟩
end
section
variable {P : Program} {w : World} {K : PySem.W.Frag} {mg : Str → Option Value} {base : Heap}
def startD (N : List Str) (ds : List D) : En := ds.map (fun d => some (.sh d)) ++ List.replicate (N.length - ds.length) none
theorem repS_start {N : List Str} {G H : Hp} {ds : List D} {vs : List V} (r : RepL K G ds vs) : RepS K H G H (startD N ds) (start N vs) := by
  have hl := r.length
  refine ⟨by simp [startD, start, hl], fun i x e => ?_, fun i j x y _ _ _ e => ?_⟩
  · unfold startD at e
    unfold start
    by_cases hi : i < ds.length
    · rw [List.getElem?_append_left (by simpa using hi), List.getElem?_map] at e
      obtain ⟨d, e1, e2⟩ := Option.map_eq_some_iff.mp e
      cases e2
      obtain ⟨v, h1, h2⟩ := r.get e1
      exact ⟨v, by rw [List.getElem?_append_left (by simp; omega), List.getElem?_map, h1]; rfl, h2⟩
    · rw [List.getElem?_append_right (by simpa using hi), List.getElem?_replicate] at e
      split at e <;> cases e
  · exfalso
    unfold startD at e
    by_cases hi : i < ds.length
    · rw [List.getElem?_append_left (by simpa using hi), List.getElem?_map] at e
      obtain ⟨d, e1, e2⟩ := Option.map_eq_some_iff.mp e
      cases e2
    · rw [List.getElem?_append_right (by simpa using hi), List.getElem?_replicate] at e
      split at e <;> cases e
def runF (N : List Str) (n : Nat) (fb : FS) : List D → Option Rs := fun ds => if ds.length = n then (match fb (startD N ds) with | some (.rt d _) => some d | some (.nx _) => some (.sh .non) | _ => none) else none
def DefAt (K : PySem.W.Frag) (mg : Str → Option Value) (x : Str) (st : Stmt) : Prop := ∃ f fd, Fun K x x st f fd ∧ mg x = some (.ref f)
theorem defAt_mk {h : Heap} {x : Str} {st : Stmt} {f : Addr} {oc : Value} {od an : Option Addr} {osl : Array (Option Value)} {kV doc pm cdv ct : Value} (X : K.In h) (G : h.Ns mainGlobals mg) (a : PySem.W.nsIn K mainGlobals x = some (some (.ref f)))
    (l : K.lookup f = some ⟨oc, od, .func (PySem.W.fnOf x x (defArgs st) (defBody st) (defScope st) .none kV doc pm an cdv ct), osl⟩) (c : PySem.W.codeIn K cdv x = true) (k : PySem.W.keepIn K (.ref f) = true) : DefAt K mg x st :=
  ⟨f, _, fun_mk l c k, PySem.W.mg_of X G a⟩
abbrev cxD (P : Program) (w : World) (K : PySem.W.Frag) (mg : Str → Option Value) (base : Heap) (N : List Str) (x : Str) (scope : Scope) (f : Addr) (cdv : Value) (A : Around) (outer : List Env) (s : Shared) (H : Hp) (E : XK) : Cx :=
  (cxOf CX0 P w K mg base N x scope f cdv A outer s H E).nox
theorem def_runF {x : Str} {st : Stmt} {N ps : List Str} {k : Nat} {fb : FS} {f : Addr} {fd : FuncData} (F : Fun K x x st f fd) (S : FnScope N ps (defScope st))
    (hbody : ∀ (f : Addr) (cdv : Value) (A : Around) (outer : List Env) (s : Shared) (H : Hp) (E : XK), Room k (A.deeper (envOfC x (defScope st) s.heap.objs.size f cdv)) → PSsD (cxD P w K mg base N x (defScope st) f cdv A outer s H E) (defBody st) fb) :
    FnOk P w K mg base CX0 (k + 1) f fd ps (spD K (runF N ps.length fb)) := by
  refine F.ok S (fun vs H Q E h => ?_) (fun cdv A outer s H vs Q E hr h => ?_)
  · obtain ⟨G, ds, d, sG, r, e, _⟩ := h
    rw [← r.length]
    unfold runF at e
    split at e
    · rename_i hl; exact hl
    · cases e
  · obtain ⟨G, ds, d, sG, r, e, q⟩ := h
    obtain ⟨t, pt, kt⟩ := hbody f cdv A outer s H E hr
    refine ⟨t, pt, ?_⟩
    have gr : ∀ {G' H' : Hp}, Stp H G G' H' → Grow G H G' H' := fun a => ⟨a.g, a.b, a.s, a.n⟩
    unfold runF at e
    split at e
    · split at e
      · rename_i eb
        cases e
        refine kt H G H _ _ _ _ sG (Same.refl _) (repS_start r) eb ?_
        cases d with
        | sh d => exact fun v _ G' H' a _ rv => q v G' H' (gr a) rv
        | fr m => exact fun p vs _ G' H' a _ => q p vs G' H' (gr a)
      · rename_i eb
        cases e
        exact kt H G H _ _ _ _ sG (Same.refl _) (repS_start r) eb fun σ' G' H' a rv => q _ G' H' (gr a) (by simp [Rep])
      · cases e
    · cases e
theorem def_run {x : Str} {st : Stmt} {N ps : List Str} {k : Nat} {fb : FS} (F : DefAt K mg x st) (S : FnScope N ps (defScope st))
    (hb : ∀ (kV doc pm : Value) (an : Option Addr) (cdv ct : Value) (us : List Value), us.length = ps.length → bindArgs (PySem.W.fnOf x x (defArgs st) (defBody st) (defScope st) .none kV doc pm an cdv ct) ⟨us, []⟩ = pure (ps.zip us))
    (hbody : ∀ (f : Addr) (cdv : Value) (A : Around) (outer : List Env) (s : Shared) (H : Hp) (E : XK), Room k (A.deeper (envOfC x (defScope st) s.heap.objs.size f cdv)) → PSsD (cxD P w K mg base N x (defScope st) f cdv A outer s H E) (defBody st) fb) :
    DefOk P w K mg base (k + 1) x ps (runF N ps.length fb) := by
  obtain ⟨f, fd, F, hm⟩ := F
  exact ⟨f, fd, def_runF F S hbody, F.binds hb, F.kp, hm⟩
theorem law_at {l : PySem.W.OpenLaw} {w : World} {K : PySem.W.Frag} {mg : Str → Option Value} {fa : Addr} {st : Stmt} {k : Nat} {x : Str} {M : List D → Option Rs} (hfa : mg "law" = some (.ref fa)) (F : DefAt K mg "law" st)
    (hb : ∀ (kV doc pm : Value) (an : Option Addr) (cdv ct : Value) (u : Value), bindArgs (PySem.W.fnOf "law" "law" (defArgs st) (defBody st) (defScope st) .none kV doc pm an cdv ct) ⟨[u], []⟩ = pure [(x, u)])
    (ok : ∀ (f : Addr) (fd : FuncData) (base : Heap), Fun K "law" "law" st f fd → FnOk l.prog w K mg base CX0 k f fd [x] (spD K M)) :
    ∃ fd : FuncData, (∀ (s : Shared) (v : Value), BindsTo s fd ⟨[v], []⟩ [(x, v)]) ∧ ∀ base : Heap, K.In base → base.Ns mainGlobals mg → FnOk l.prog w K mg base CX0 k fa fd [x] (spD K M) := by
  obtain ⟨f, fd, F, hm⟩ := F
  rw [hfa] at hm
  cases hm
  refine ⟨fd, fun s v => ?_, fun base _ _ => ok _ _ base F⟩
  obtain ⟨oc, od, kV, doc, pm, an, cdv, ct, osl, rfl, lk, hcd⟩ := F.ex
  exact .of_eq (hb kV doc pm an cdv ct v)
theorem repL_ints {K : PySem.W.Frag} {H : Hp} : ∀ (ns : List Int), RepL K H (ns.map D.int) (ns.map V.int)
  | [] => by simp [RepL]
  | n :: ns => by
    simp only [List.map_cons, RepL]
    exact ⟨_, _, rfl, by simp [Rep], repL_ints ns⟩
theorem law_sp {K : PySem.W.Frag} {H : Hp} {a : Addr} {ns : List Int} {M : List D → Option Rs} (h : SqL K H a (ns.map V.int)) (e : M [.lst (ns.map D.int)] = some (.sh (.bl true))) : spD K M [.ref a] H (fun v _ => v = .bl true) fun _ _ _ => False := by
  refine ⟨H, [.lst (ns.map D.int)], .sh (.bl true), Same.refl _, ?_, e, fun v G' H' g r => by simpa only [Rep] using r⟩
  simp only [RepL, Rep]
  exact ⟨_, _, rfl, ⟨a, _, rfl, h, repL_ints ns⟩, rfl⟩
theorem tyOk_int {K : PySem.W.Frag} : IsTyOk K "int" := fun d ho => by cases d <;> first | rfl | cases ho
theorem tyOk_bool {K : PySem.W.Frag} : IsTyOk K "bool" := fun d ho => by cases d <;> first | rfl | cases ho
theorem tyOk_str {K : PySem.W.Frag} : IsTyOk K "str" := fun d ho => by cases d <;> first | rfl | cases ho
theorem tyOk_tuple {K : PySem.W.Frag} : IsTyOk K "tuple" := fun d ho => by cases d <;> first | rfl | cases ho
end
section
variable {X : Cx}
def leD (x y : D) : Option D := (iCmp (fun i j => decide (i ≤ j)) x y).or (sLe x y)
theorem od_leD : OpD X (compareOp .LtE) leD := od_le.or od_sle
def gtD : D → D → Option D := iCmp fun i j => decide (j < i)
def geD : D → D → Option D := iCmp fun i j => decide (j ≤ i)
def mulD : D → D → Option D := iMul
theorem od_mul : OpD X (binaryOp .Mult) mulD := od_imul
theorem pi_any {tg l : Expr} {tl : TE} (hl : PE X l tl) : PI X tg l (fun σ H R => tl σ H fun x H1 => (∃ a, x = .ref a ∧ (∃ xs, SqL X.K H1 a xs) ∧ R (Itl X.K a) H1) ∨ (∃ a, x = .ref a ∧ (∃ xs, SqT X.K H1 a xs) ∧ R (Itt X.K a) H1) ∨ (∃ z, x = .str z ∧ R (Its z) H1)) := by
  intro pins s σ H R I h
  -- the value first, then the walk by its kind
  refine thn (hl pins s σ H _ I h) fun v s1 ⟨x, H1, I1, r1, q1⟩ => ?_
  have lift : ∀ {wi : (It → Hp → Prop) → Prop}, True := fun {_} => trivial
  rcases q1 with ⟨a, e, ⟨xs, hq⟩, q⟩ | ⟨a, e, ⟨xs, hq⟩, q⟩ | ⟨z, e, q⟩
  · subst e
    cases r1
    obtain ⟨its, rv, p, hz⟩ := I1.list hq
    refine wpAny_pyIter_list p.isList ?_
    refine ⟨s1.heap.objs.size, [s1.heap.objs.size], _, _, H1, rfl, I1.kept (t' := s1.toks) fun b o e => Heap.get?_push_of_some _ e, turn_list a _, ⟨_, Heap.get?_push_size _ rfl, rfl, rfl⟩, fun b hb => ?_, q⟩
    have e : b = s1.heap.objs.size := by simpa using hb
    subst e
    exact I1.fpOk (Nat.le_refl _) (I1.hok.fresh (Nat.le_refl _))
  · subst e
    cases r1
    obtain ⟨its, rv, p, hz⟩ := I1.tuple hq
    refine wpAny_pyIter_tuple (show s1.heap.IsTuple a its.toArray from p) ?_
    refine ⟨s1.heap.objs.size, [s1.heap.objs.size], _, _, H1, rfl, I1.kept (t' := s1.toks) fun b o e => Heap.get?_push_of_some _ e, turn_tuple a _, ⟨_, Heap.get?_push_size _ rfl, rfl, rfl⟩, fun b hb => ?_, q⟩
    have e : b = s1.heap.objs.size := by simpa using hb
    subst e
    exact I1.fpOk (Nat.le_refl _) (I1.hok.fresh (Nat.le_refl _))
  · subst e
    obtain ⟨t, rfl⟩ := r1
    have fin : ∀ (T : String) (o : Obj), Turn X.prog X.w X.K tg (Its z) [s1.heap.objs.size] s1.heap.objs.size (fun i h => h.IsStrIter s1.heap.objs.size T z t i) →
        (s1.heap.push o).IsStrIter s1.heap.objs.size T z t 0 → PIE X pins σ tg R (.ref s1.heap.objs.size) { s1 with heap := s1.heap.push o } := fun T o TT st => by
      refine ⟨s1.heap.objs.size, [s1.heap.objs.size], _, _, H1, rfl, I1.kept (t' := s1.toks) fun b o e => Heap.get?_push_of_some _ e, TT, st, fun b hb => ?_, q⟩
      have e : b = s1.heap.objs.size := by simpa using hb
      subst e
      exact I1.fpOk (Nat.le_refl _) (I1.hok.fresh (Nat.le_refl _))
    cases ha : z.cps.all (· < 128)
    · exact wpAny_pyIter_wide ha (fin "str_iterator" _ (turn_str _ _ z t (fun A hA => Walks.strWide hA _ z t) fun A i s Q E st h => wpAny_pyIter_striter_wide st h) ⟨_, Heap.get?_push_size _ rfl, rfl, rfl⟩)
    · exact wpAny_pyIter_ascii ha (fin "str_ascii_iterator" _ (turn_str _ _ z t (fun A hA => Walks.strAscii hA _ z t) fun A i s Q E st h => wpAny_pyIter_striter_ascii st h) ⟨_, Heap.get?_push_size _ rfl, rfl, rfl⟩)
@[simp] def oSeq (f : FE) : En → Option (List D) := fun δ => match f δ with | some (.lst ds) => some ds | some (.tup ds) => some ds | some (.str z) => some (signs z) | _ => none
theorem pid_seq {tg e : Expr} {f : FE} (he : PD X e f) : PID X tg e (oSeq f) := by
  obtain ⟨t, pt, k⟩ := he
  refine ⟨_, pi_any pt, fun B G H δ σ xs R sG rs e q => ?_⟩
  unfold oSeq at e
  split at e
  · rename_i ds e1
    cases e
    refine k B G H δ σ _ _ sG rs e1 fun v G1 H1 g1 r1 => .inl ?_
    simp only [Rep] at r1
    obtain ⟨a, vs, rfl, hq, rl⟩ := r1
    refine ⟨a, rfl, ⟨vs, g1.s.sqL hq⟩, q _ G1 H1 g1 ⟨fun i d G' H' ed a1 b1 => ?_, fun G' H' a1 b1 => ⟨vs, (a1.trans b1).sqL hq, by rw [rl.length]; exact Nat.le_refl _⟩⟩⟩
    obtain ⟨x, ex, rx⟩ := rl.get ed
    refine ⟨⟨vs, x, (a1.trans b1).sqL hq, ex⟩, fun x' H2 y => ⟨y.1, ?_⟩⟩
    have := y.2 vs ((a1.trans b1).sqL hq)
    rw [ex] at this
    cases this
    exact rx.mono a1
  · rename_i ds e1
    cases e
    refine k B G H δ σ _ _ sG rs e1 fun v G1 H1 g1 r1 => .inr (.inl ?_)
    simp only [Rep] at r1
    obtain ⟨a, vs, rfl, hq, rl⟩ := r1
    refine ⟨a, rfl, ⟨vs, g1.s.sqT hq⟩, q _ G1 H1 g1 ⟨fun i d G' H' ed a1 b1 => ?_, fun G' H' a1 b1 => ⟨vs, (a1.trans b1).sqT hq, by rw [rl.length]; exact Nat.le_refl _⟩⟩⟩
    obtain ⟨x, ex, rx⟩ := rl.get ed
    refine ⟨⟨vs, x, (a1.trans b1).sqT hq, ex⟩, fun x' H2 y => ⟨y.1, ?_⟩⟩
    have := y.2 vs ((a1.trans b1).sqT hq)
    rw [ex] at this
    cases this
    exact rx.mono a1
  · rename_i z e1
    cases e
    refine k B G H δ σ _ _ sG rs e1 fun v G1 H1 g1 r1 => .inr (.inr ?_)
    simp only [Rep] at r1
    refine ⟨z, r1, q _ G1 H1 g1 ⟨fun i d G' H' ed a1 b1 => ?_, fun G' H' a1 b1 => ?_⟩⟩
    · unfold signs at ed
      rw [List.getElem?_map] at ed
      obtain ⟨c, ec, rfl⟩ := Option.map_eq_some_iff.mp ed
      have ec' : z.cps[i]? = some c := by simpa using ec
      refine ⟨?_, fun x' H2 y => ?_⟩
      · show i < z.cps.size
        obtain ⟨hi, _⟩ := Array.getElem?_eq_some_iff.mp ec'
        exact hi
      · obtain ⟨y1, c', ec2, rfl⟩ := y
        rw [ec'] at ec2
        cases ec2
        exact ⟨y1, by simp [Rep]⟩
    · show (signs z).length = z.cps.size
      simp [signs]
  · cases e
@[simp] def f1 (o : D → Option D) (f : FE) : FE := fun δ => (f δ).bind o
def negD : D → Option D | .int i => some (.int (-i)) | _ => none
theorem pd_neg {e : Expr} {f : FE} {pos : Pos} (he : PD X e f) : PD X (.UnaryOp .USub e pos) (f1 negD f) := by
  obtain ⟨t, pt, k1⟩ := he
  refine ⟨_, pe_un un_neg pt, fun B G H δ σ d Q sG rs ef k => ?_⟩
  unfold f1 at ef
  obtain ⟨x, e1, ef⟩ := Option.bind_eq_some_iff.mp ef
  unfold negD at ef
  split at ef
  · cases ef
    exact k1 B G H δ σ _ _ sG rs e1 fun v G1 H1 g1 r1 => ⟨_, by simpa only [Rep] using r1, k _ G1 H1 g1 (by simp [Rep])⟩
  · cases ef
end
end L2
set_option Elab.async false
set_option linter.all false
set_option maxRecDepth 100000
set_option maxHeartbeats 4000000
namespace L2
open PySem PySem.Spec PyProof.Rows
mutual
def eqA : D → D → Bool
  | .tup xs, y => match y with | .tup ys => eqAs xs ys | _ => false
  | .lst xs, y => match y with | .lst ys => eqAs xs ys | _ => false
  | .dic _ _, _ => false
  | .obj _ _ _, _ => false
  | .non, y => if flatD y = true then eqV .non (toV y) else false
  | .bl b, y => if flatD y = true then eqV (.bl b) (toV y) else false
  | .int i, y => if flatD y = true then eqV (.int i) (toV y) else false
  | .str x, y => if flatD y = true then eqV (.str x) (toV y) else false
def eqAs : List D → List D → Bool
  | [], ys => ys.isEmpty
  | x :: xs, ys => match ys with | [] => false | y :: ys => eqA x y && eqAs xs ys
end
def plainN : Nat → D → Bool
  | _, .dic _ _ => false
  | _, .obj _ _ _ => false
  | 0, .tup _ => false
  | 0, .lst _ => false
  | n + 1, .tup xs => xs.all (plainN n)
  | n + 1, .lst xs => xs.all (plainN n)
  | _, _ => true
theorem eqA_flat {x y : D} (hx : flatD x = true) (hy : flatD y = true) : eqA x y = eqV (toV x) (toV y) := by
  cases x with
  | tup _ => cases hx
  | lst _ => cases hx
  | dic _ _ => cases hx
  | obj _ _ _ => cases hx
  | _ => simp only [eqA, hy, if_true, toV]
theorem eqV_refl {v : V} (h : flatV v = true) : eqV v v = true := by
  cases v with
  | non => rfl
  | bl b => simp [eqV]
  | int b => simp [eqV]
  | str b => simp [eqV]
  | _ => cases h
theorem eqAs_ne : ∀ {xs ys : List D}, xs.length ≠ ys.length → eqAs xs ys = false
  | [], [], h => absurd rfl h
  | [], _ :: _, _ => by simp [eqAs]
  | _ :: _, [], _ => by simp [eqAs]
  | x :: xs, y :: ys, h => by
    simp only [eqAs]
    rw [eqAs_ne (fun z => h (by simp [z])), Bool.and_false]
theorem eqAs_all : ∀ {xs ys : List D}, xs.length = ys.length → eqAs xs ys = (List.range xs.length).all fun j => eqA (xs.getD j .non) (ys.getD j .non)
  | [], [], _ => by simp [eqAs]
  | x :: xs, y :: ys, h => by
    simp only [eqAs]
    rw [eqAs_all (show xs.length = ys.length by simpa using h), List.length_cons, List.range_succ_eq_map, List.all_cons, List.all_map]
    rfl
section
variable {X : Cx} {pins : List (Addr × Obj)} {σ : St} {H : Hp} {s : Shared}
theorem eqA_same (I : Inv X pins σ H s) : ∀ (n : Nat) {x y : D} {v : V}, plainN n x = true → plainN n y = true → Rep X.K H x v → Rep X.K H y v → eqA x y = true := by
  intro n
  have flatcase : ∀ {x y : D} {v : V}, flatD x = true → Rep X.K H x v → Rep X.K H y v → eqA x y = true := fun {x y v} hx rx ry => by
    have h1 := rep_flat hx rx
    have hy : flatD y = true := by
      cases y with
      | tup ys => simp only [Rep] at ry; obtain ⟨a, us, e, _⟩ := ry; exact absurd (h1.1.symm.trans e) (by cases x with | tup _ => cases hx | lst _ => cases hx | dic _ _ => cases hx | obj _ _ _ => cases hx | _ => intro z; cases z)
      | lst ys => simp only [Rep] at ry; obtain ⟨a, us, e, _⟩ := ry; exact absurd (h1.1.symm.trans e) (by cases x with | tup _ => cases hx | lst _ => cases hx | dic _ _ => cases hx | obj _ _ _ => cases hx | _ => intro z; cases z)
      | dic ks ys => simp only [Rep] at ry; obtain ⟨a, us, e, _⟩ := ry; exact absurd (h1.1.symm.trans e) (by cases x with | tup _ => cases hx | lst _ => cases hx | dic _ _ => cases hx | obj _ _ _ => cases hx | _ => intro z; cases z)
      | obj c ks ys => simp only [Rep] at ry; obtain ⟨a, _, _, _, e, _⟩ := ry; exact absurd (h1.1.symm.trans e) (by cases x with | tup _ => cases hx | lst _ => cases hx | dic _ _ => cases hx | obj _ _ _ => cases hx | _ => intro z; cases z)
      | _ => rfl
    have h2 := rep_flat hy ry
    rw [eqA_flat hx hy, ← h1.1, ← h2.1]
    exact eqV_refl h1.2
  induction n with
  | zero =>
    intro x y v px py rx ry
    cases x with
    | tup xs => cases px
    | lst xs => cases px
    | dic ks xs => cases px
    | obj _ _ _ => cases px
    | _ => exact flatcase rfl rx ry
  | succ n ih =>
    intro x y v px py rx ry
    have lists : ∀ {xs ys : List D} {vs : List V}, xs.all (plainN n) = true → ys.all (plainN n) = true → RepL X.K H xs vs → RepL X.K H ys vs → eqAs xs ys = true := by
      intro xs
      induction xs with
      | nil =>
        intro ys vs _ _ r1 r2
        simp only [RepL] at r1
        subst r1
        cases ys with
        | nil => simp [eqAs]
        | cons y ys => simp only [RepL] at r2; obtain ⟨_, _, e, _⟩ := r2; cases e
      | cons x xs ih2 =>
        intro ys vs p1 p2 r1 r2
        simp only [RepL] at r1
        obtain ⟨v, us, rfl, q1, q2⟩ := r1
        cases ys with
        | nil => simp only [RepL] at r2; cases r2
        | cons y ys =>
          simp only [RepL] at r2
          obtain ⟨v2, us2, e, q3, q4⟩ := r2
          cases e
          rw [List.all_cons, Bool.and_eq_true] at p1 p2
          simp only [eqAs]
          rw [ih p1.1 p2.1 q1 q3, ih2 p1.2 p2.2 q2 q4]
          rfl
    cases x with
    | tup xs =>
      simp only [Rep] at rx
      obtain ⟨a, vs, rfl, h1, h2⟩ := rx
      cases y with
      | tup ys =>
        simp only [Rep] at ry
        obtain ⟨b, us, e, h3, h4⟩ := ry
        cases e
        obtain rfl := I.tuple_inj h1 h3
        simp only [eqA]
        exact lists px py h2 h4
      | lst ys =>
        simp only [Rep] at ry
        obtain ⟨b, us, e, h3, h4⟩ := ry
        cases e
        obtain ⟨_, _, p1, _⟩ := I.tuple h1
        obtain ⟨_, _, p2, _⟩ := I.list h3
        obtain ⟨o1, g1, c1, _⟩ := p1
        obtain ⟨o2, g2, c2, _⟩ := p2.isList
        rw [g1] at g2; cases g2; rw [c1] at c2; exact absurd (Value.type.inj c2) (by decide)
      | dic ks ys => cases py
      | obj _ _ _ => cases py
      | _ => simp only [Rep] at ry; cases ry
    | lst xs =>
      simp only [Rep] at rx
      obtain ⟨a, vs, rfl, h1, h2⟩ := rx
      cases y with
      | lst ys =>
        simp only [Rep] at ry
        obtain ⟨b, us, e, h3, h4⟩ := ry
        cases e
        obtain rfl := I.list_inj h1 h3
        simp only [eqA]
        exact lists px py h2 h4
      | tup ys =>
        simp only [Rep] at ry
        obtain ⟨b, us, e, h3, h4⟩ := ry
        cases e
        obtain ⟨_, _, p1, _⟩ := I.tuple h3
        obtain ⟨_, _, p2, _⟩ := I.list h1
        obtain ⟨o1, g1, c1, _⟩ := p1
        obtain ⟨o2, g2, c2, _⟩ := p2.isList
        rw [g1] at g2; cases g2; rw [c1] at c2; exact absurd (Value.type.inj c2) (by decide)
      | dic ks ys => cases py
      | obj _ _ _ => cases py
      | _ => simp only [Rep] at ry; cases ry
    | dic ks xs => cases px
    | obj _ _ _ => cases px
    | _ => exact flatcase rfl rx ry
theorem in1_units (A : Around) : A.in1.units = A.units + 1 := rfl
theorem eqAt_A (I : Inv X pins σ H s) : ∀ (n : Nat) {x y : D} {v v' : V} {u u' : Value} {A : Around}, plainN n x = true → plainN n y = true → Rep X.K H x v → Rep X.K H y v' → RelV v u → RelV v' u' → A.units + n < cLine → SeqAt.EqAt A s u u' (eqA x y) := by
  intro n
  -- a scalar and anything of no depth
  have ff : ∀ {x y : D} {v v' : V} {u u' : Value} {A : Around}, flatD x = true → flatD y = true → Rep X.K H x v → Rep X.K H y v' → RelV v u → RelV v' u' → SeqAt.EqAt A s u u' (eqA x y) := fun {x y v v' u u' A} hx hy rx ry r r' => by
    have h1 := rep_flat hx rx
    have h2 := rep_flat hy ry
    rw [eqA_flat hx hy, ← h1.1, ← h2.1]
    exact eqAt_V r r' h1.2 h2.2
  induction n with
  | zero =>
    intro x y v v' u u' A px py rx ry r r' hu
    refine ff ?_ ?_ rx ry r r'
    · cases x <;> first | rfl | cases px
    · cases y <;> first | rfl | cases py
  | succ n ih =>
    intro x y v v' u u' A px py rx ry r r' hu
    have hu' : A.units < cLine := by omega
    have items : ∀ {xs ys : List D} {vs us : List V} {its its2 : List Value}, xs.all (plainN n) = true → ys.all (plainN n) = true → RepL X.K H xs vs → RepL X.K H ys us → Vals vs its → Vals us its2 →
        ∀ j (h1 : j < its.toArray.size) (h2 : j < its2.toArray.size), SeqAt.EqAt A.in1 s its.toArray[j] its2.toArray[j] (eqA (xs.getD j .non) (ys.getD j .non)) := fun {xs ys vs us its its2} p1 p2 r1 r2 v1 v2 j h1 h2 => by
      have l1 := r1.length
      have l2 := r2.length
      have l3 := v1.length
      have l4 := v2.length
      have j1 : j < xs.length := by simp at h1; omega
      have j2 : j < ys.length := by simp at h2; omega
      have e1 : xs[j]? = some (xs.getD j .non) := by rw [List.getD_eq_getElem?_getD, List.getElem?_eq_getElem j1]; rfl
      have e2 : ys[j]? = some (ys.getD j .non) := by rw [List.getD_eq_getElem?_getD, List.getElem?_eq_getElem j2]; rfl
      obtain ⟨w1, g1, q1⟩ := r1.get e1
      obtain ⟨w2, g2, q2⟩ := r2.get e2
      obtain ⟨u1, k1, k2⟩ := v1.get g1
      obtain ⟨u2, k3, k4⟩ := v2.get g2
      have t1 : its.toArray[j] = u1 := by
        obtain ⟨_, z⟩ := List.getElem?_eq_some_iff.mp k1
        simpa using z
      have t2 : its2.toArray[j] = u2 := by
        obtain ⟨_, z⟩ := List.getElem?_eq_some_iff.mp k3
        simpa using z
      rw [t1, t2]
      exact ih (List.all_eq_true.mp p1 _ (List.mem_of_getElem? e1)) (List.all_eq_true.mp p2 _ (List.mem_of_getElem? e2)) q1 q2 k2 k4 (by rw [in1_units]; omega)
    have tups : ∀ {xs ys : List D}, plainN (n + 1) (.tup xs) = true → plainN (n + 1) (.tup ys) = true → Rep X.K H (.tup xs) v → Rep X.K H (.tup ys) v' → SeqAt.EqAt A s u u' (eqA (.tup xs) (.tup ys)) := fun {xs ys} px py rx ry => by
      have rx0 := rx
      have ry0 := ry
      simp only [Rep] at rx ry
      obtain ⟨a, vs, rfl, h1, h2⟩ := rx
      obtain ⟨b, us, rfl, h3, h4⟩ := ry
      cases r
      cases r'
      by_cases hab : a = b
      · subst hab
        rw [eqA_same I (n + 1) px py rx0 ry0]
        exact SeqAt.EqAt.same _
      · obtain ⟨its, v1, p1, _⟩ := I.tuple h1
        obtain ⟨its2, v2, p2, _⟩ := I.tuple h3
        have q := SeqAt.RcAt.tuples (e := fun j => eqA (xs.getD j .non) (ys.getD j .non)) p1 p2 hu' (items px py h2 h4 v1 v2)
        have e : ((List.range (min its.toArray.size its2.toArray.size)).all (fun j => eqA (xs.getD j .non) (ys.getD j .non)) && its.toArray.size == its2.toArray.size) = eqA (.tup xs) (.tup ys) := by
          have l1 := h2.length
          have l2 := h4.length
          have l3 := v1.length
          have l4 := v2.length
          simp only [eqA]
          by_cases hl : xs.length = ys.length
          · rw [eqAs_all hl]
            have : min its.toArray.size its2.toArray.size = xs.length := by simp; omega
            rw [this]
            have : (its.toArray.size == its2.toArray.size) = true := by simp; omega
            rw [this, Bool.and_true]
          · rw [eqAs_ne hl]
            have : (its.toArray.size == its2.toArray.size) = false := by simp; omega
            rw [this, Bool.and_false]
        rw [e] at q
        exact SeqAt.EqAt.of_refs hab q
    have lsts : ∀ {xs ys : List D}, plainN (n + 1) (.lst xs) = true → plainN (n + 1) (.lst ys) = true → Rep X.K H (.lst xs) v → Rep X.K H (.lst ys) v' → SeqAt.EqAt A s u u' (eqA (.lst xs) (.lst ys)) := fun {xs ys} px py rx ry => by
      have rx0 := rx
      have ry0 := ry
      simp only [Rep] at rx ry
      obtain ⟨a, vs, rfl, h1, h2⟩ := rx
      obtain ⟨b, us, rfl, h3, h4⟩ := ry
      cases r
      cases r'
      by_cases hab : a = b
      · subst hab
        rw [eqA_same I (n + 1) px py rx0 ry0]
        exact SeqAt.EqAt.same _
      · obtain ⟨its, v1, p1, _⟩ := I.list h1
        obtain ⟨its2, v2, p2, _⟩ := I.list h3
        have l1 := h2.length
        have l2 := h4.length
        have l3 := v1.length
        have l4 := v2.length
        simp only [eqA]
        by_cases hl : xs.length = ys.length
        · have q := SeqAt.RcAt.lists (e := fun j => eqA (xs.getD j .non) (ys.getD j .non)) p1.isList p2.isList (by simp; omega) hu' (items px py h2 h4 v1 v2)
          rw [eqAs_all hl]
          have : its.toArray.size = xs.length := by simp; omega
          rw [this] at q
          exact SeqAt.EqAt.of_refs hab q
        · rw [eqAs_ne hl]
          exact SeqAt.EqAt.of_refs hab (SeqAt.RcAt.lists_lengths p1.isList p2.isList (by simp; omega) hu')
    have tupAt : ∀ {xs : List D} {v : V} {u : Value}, Rep X.K H (.tup xs) v → RelV v u → ∃ a its, u = .ref a ∧ s.heap.IsTuple a its := fun {xs v u} h r => by
      simp only [Rep] at h
      obtain ⟨a, vs, rfl, h1, h2⟩ := h
      cases r
      obtain ⟨its, _, p, _⟩ := I.tuple h1
      exact ⟨a, _, rfl, p⟩
    have lstAt : ∀ {xs : List D} {v : V} {u : Value}, Rep X.K H (.lst xs) v → RelV v u → ∃ a its, u = .ref a ∧ s.heap.IsList a its := fun {xs v u} h r => by
      simp only [Rep] at h
      obtain ⟨a, vs, rfl, h1, h2⟩ := h
      cases r
      obtain ⟨its, _, p, _⟩ := I.list h1
      exact ⟨a, _, rfl, p.isList⟩
    cases x with
    | dic ks xs => cases px
    | obj _ _ _ => cases px
    | tup xs =>
      cases y with
      | dic ks ys => cases py
      | obj _ _ _ => cases py
      | tup ys => exact tups px py rx ry
      | lst ys =>
        obtain ⟨a, i1, rfl, t1⟩ := tupAt rx r
        obtain ⟨b, i2, rfl, t2⟩ := lstAt ry r'
        exact SeqAt.EqAt.tuple_list t1 t2 hu'
      | non => obtain ⟨a, i1, rfl, t1⟩ := tupAt rx r; simp only [Rep] at ry; subst ry; cases r'; exact SeqAt.EqAt.tuple_none t1 hu'
      | bl b => obtain ⟨a, i1, rfl, t1⟩ := tupAt rx r; simp only [Rep] at ry; subst ry; cases r'; exact SeqAt.EqAt.tuple_bool b t1 hu'
      | int b => obtain ⟨a, i1, rfl, t1⟩ := tupAt rx r; simp only [Rep] at ry; subst ry; obtain ⟨t, rfl⟩ := r'; exact SeqAt.EqAt.tuple_int b t t1 hu'
      | str b => obtain ⟨a, i1, rfl, t1⟩ := tupAt rx r; simp only [Rep] at ry; subst ry; obtain ⟨t, rfl⟩ := r'; exact SeqAt.EqAt.tuple_str b t t1 hu'
    | lst xs =>
      cases y with
      | dic ks ys => cases py
      | obj _ _ _ => cases py
      | lst ys => exact lsts px py rx ry
      | tup ys =>
        obtain ⟨a, i1, rfl, t1⟩ := lstAt rx r
        obtain ⟨b, i2, rfl, t2⟩ := tupAt ry r'
        exact SeqAt.EqAt.list_tuple t1 t2 hu'
      | non => obtain ⟨a, i1, rfl, t1⟩ := lstAt rx r; simp only [Rep] at ry; subst ry; cases r'; exact SeqAt.EqAt.list_none t1 hu'
      | bl b => obtain ⟨a, i1, rfl, t1⟩ := lstAt rx r; simp only [Rep] at ry; subst ry; cases r'; exact SeqAt.EqAt.list_bool b t1 hu'
      | int b => obtain ⟨a, i1, rfl, t1⟩ := lstAt rx r; simp only [Rep] at ry; subst ry; obtain ⟨t, rfl⟩ := r'; exact SeqAt.EqAt.list_int b t t1 hu'
      | str b => obtain ⟨a, i1, rfl, t1⟩ := lstAt rx r; simp only [Rep] at ry; subst ry; obtain ⟨t, rfl⟩ := r'; exact SeqAt.EqAt.list_str b t t1 hu'
    | non =>
      cases y with
      | dic ks ys => cases py
      | obj _ _ _ => cases py
      | tup ys => obtain ⟨a, i1, rfl, t1⟩ := tupAt ry r'; simp only [Rep] at rx; subst rx; cases r; exact SeqAt.EqAt.none_tuple t1 hu'
      | lst ys => obtain ⟨a, i1, rfl, t1⟩ := lstAt ry r'; simp only [Rep] at rx; subst rx; cases r; exact SeqAt.EqAt.none_list t1 hu'
      | _ => exact ff rfl rfl rx ry r r'
    | bl b =>
      cases y with
      | dic ks ys => cases py
      | obj _ _ _ => cases py
      | tup ys => obtain ⟨a, i1, rfl, t1⟩ := tupAt ry r'; simp only [Rep] at rx; subst rx; cases r; exact SeqAt.EqAt.bool_tuple b t1 hu'
      | lst ys => obtain ⟨a, i1, rfl, t1⟩ := lstAt ry r'; simp only [Rep] at rx; subst rx; cases r; exact SeqAt.EqAt.bool_list b t1 hu'
      | _ => exact ff rfl rfl rx ry r r'
    | int b =>
      cases y with
      | dic ks ys => cases py
      | obj _ _ _ => cases py
      | tup ys => obtain ⟨a, i1, rfl, t1⟩ := tupAt ry r'; simp only [Rep] at rx; subst rx; obtain ⟨t, rfl⟩ := r; exact SeqAt.EqAt.int_tuple b t t1 hu'
      | lst ys => obtain ⟨a, i1, rfl, t1⟩ := lstAt ry r'; simp only [Rep] at rx; subst rx; obtain ⟨t, rfl⟩ := r; exact SeqAt.EqAt.int_list b t t1 hu'
      | _ => exact ff rfl rfl rx ry r r'
    | str b =>
      cases y with
      | dic ks ys => cases py
      | obj _ _ _ => cases py
      | tup ys => obtain ⟨a, i1, rfl, t1⟩ := tupAt ry r'; simp only [Rep] at rx; subst rx; obtain ⟨t, rfl⟩ := r; exact SeqAt.EqAt.str_tuple b t t1 hu'
      | lst ys => obtain ⟨a, i1, rfl, t1⟩ := lstAt ry r'; simp only [Rep] at rx; subst rx; obtain ⟨t, rfl⟩ := r; exact SeqAt.EqAt.str_list b t t1 hu'
      | _ => exact ff rfl rfl rx ry r r'
end
end L2
set_option Elab.async false
set_option linter.all false
set_option maxRecDepth 100000
set_option maxHeartbeats 4000000
namespace L2
open PySem PySem.Spec PyProof.Rows
section
variable {X : Cx} {pins : List (Addr × Obj)} {σ : St} {H : Hp} {s : Shared}
theorem items_A (I : Inv X pins σ H s) (n : Nat) {A : Around} (hu : A.units + n < cLine) {xs ys : List D} {vs us : List V} {its its2 : List Value} (p1 : xs.all (plainN n) = true) (p2 : ys.all (plainN n) = true) (r1 : RepL X.K H xs vs) (r2 : RepL X.K H ys us) (v1 : Vals vs its) (v2 : Vals us its2) :
    ∀ j (h1 : j < its.toArray.size) (h2 : j < its2.toArray.size), SeqAt.EqAt A s its.toArray[j] its2.toArray[j] (eqA (xs.getD j .non) (ys.getD j .non)) := fun j h1 h2 => by
  have l1 := r1.length
  have l2 := r2.length
  have l3 := v1.length
  have l4 := v2.length
  have j1 : j < xs.length := by simp at h1; omega
  have j2 : j < ys.length := by simp at h2; omega
  have e1 : xs[j]? = some (xs.getD j .non) := by rw [List.getD_eq_getElem?_getD, List.getElem?_eq_getElem j1]; rfl
  have e2 : ys[j]? = some (ys.getD j .non) := by rw [List.getD_eq_getElem?_getD, List.getElem?_eq_getElem j2]; rfl
  obtain ⟨w1, g1, q1⟩ := r1.get e1
  obtain ⟨w2, g2, q2⟩ := r2.get e2
  obtain ⟨u1, k1, k2⟩ := v1.get g1
  obtain ⟨u2, k3, k4⟩ := v2.get g2
  have t1 : its.toArray[j] = u1 := by
    obtain ⟨_, z⟩ := List.getElem?_eq_some_iff.mp k1
    simpa using z
  have t2 : its2.toArray[j] = u2 := by
    obtain ⟨_, z⟩ := List.getElem?_eq_some_iff.mp k3
    simpa using z
  rw [t1, t2]
  exact eqAt_A I n (List.all_eq_true.mp p1 _ (List.mem_of_getElem? e1)) (List.all_eq_true.mp p2 _ (List.mem_of_getElem? e2)) q1 q2 k2 k4 hu
theorem tups_eq {xs ys : List D} {its its2 : List Value} (l1 : xs.length = its.length) (l2 : ys.length = its2.length) :
    ((List.range (min its.toArray.size its2.toArray.size)).all (fun j => eqA (xs.getD j .non) (ys.getD j .non)) && its.toArray.size == its2.toArray.size) = eqAs xs ys := by
  by_cases hl : xs.length = ys.length
  · rw [eqAs_all hl]
    have : min its.toArray.size its2.toArray.size = xs.length := by simp; omega
    rw [this]
    have : (its.toArray.size == its2.toArray.size) = true := by simp; omega
    rw [this, Bool.and_true]
  · rw [eqAs_ne hl]
    have : (its.toArray.size == its2.toArray.size) = false := by simp; omega
    rw [this, Bool.and_false]
end
section
variable {X : Cx}
def rEqT (K : PySem.W.Frag) (neg : Bool) : R2 := fun v u H Q => ∃ xs ys, Rep K H (.tup xs) v ∧ Rep K H (.tup ys) u ∧ xs.all (plainN 8) = true ∧ ys.all (plainN 8) = true ∧ Q (.bl (if neg then !eqAs xs ys else eqAs xs ys)) H
def rEqLs (K : PySem.W.Frag) (neg : Bool) : R2 := fun v u H Q => ∃ xs ys, Rep K H (.lst xs) v ∧ Rep K H (.lst ys) u ∧ xs.all (plainN 8) = true ∧ ys.all (plainN 8) = true ∧ Q (.bl (if neg then !eqAs xs ys else eqAs xs ys)) H
theorem op_eqT (hu : X.A.units + 20 < cLine) : OpR X (compareOp .Eq) (rEqT X.K false) := by
  intro pins s σ H x y v u Q I rx ry h
  obtain ⟨xs, ys, r1, r2, p1, p2, q⟩ := h
  simp only [Rep] at r1 r2
  obtain ⟨a, vs, rfl, h1, h2⟩ := r1
  obtain ⟨b, us, rfl, h3, h4⟩ := r2
  cases rx
  cases ry
  obtain ⟨its, v1, t1, _⟩ := I.tuple h1
  obtain ⟨its2, v2, t2, _⟩ := I.tuple h3
  refine SeqAt.eq_tupleAt (e := fun j => eqA (xs.getD j .non) (ys.getD j .non)) t1 t2 (by omega) (items_A I 8 (by rw [in1_units]; omega) p1 p2 h2 h4 v1 v2) ?_
  rw [tups_eq (h2.length.trans v1.length) (h4.length.trans v2.length)]
  exact ⟨.bl _, H, I, rfl, q⟩
theorem op_neT (hu : X.A.units + 20 < cLine) : OpR X (compareOp .NotEq) (rEqT X.K true) := by
  intro pins s σ H x y v u Q I rx ry h
  obtain ⟨xs, ys, r1, r2, p1, p2, q⟩ := h
  simp only [Rep] at r1 r2
  obtain ⟨a, vs, rfl, h1, h2⟩ := r1
  obtain ⟨b, us, rfl, h3, h4⟩ := r2
  cases rx
  cases ry
  obtain ⟨its, v1, t1, _⟩ := I.tuple h1
  obtain ⟨its2, v2, t2, _⟩ := I.tuple h3
  refine SeqAt.RcNeAt.tuples (e := fun j => eqA (xs.getD j .non) (ys.getD j .non)) t1 t2 (by omega) (items_A I 8 (by rw [in1_units]; omega) p1 p2 h2 h4 v1 v2) _ _ _ _ ?_
  rw [tups_eq (h2.length.trans v1.length) (h4.length.trans v2.length)]
  exact ⟨.bl _, H, I, rfl, q⟩
theorem op_eqLs' (hu : X.A.units + 20 < cLine) : OpR X (compareOp .Eq) (rEqLs X.K false) := by
  intro pins s σ H x y v u Q I rx ry h
  obtain ⟨xs, ys, r1, r2, p1, p2, q⟩ := h
  simp only [Rep] at r1 r2
  obtain ⟨a, vs, rfl, h1, h2⟩ := r1
  obtain ⟨b, us, rfl, h3, h4⟩ := r2
  cases rx
  cases ry
  obtain ⟨its, v1, t1, _⟩ := I.list h1
  obtain ⟨its2, v2, t2, _⟩ := I.list h3
  have l1 := h2.length.trans v1.length
  have l2 := h4.length.trans v2.length
  by_cases hl : xs.length = ys.length
  · refine SeqAt.eq_listAt (e := fun j => eqA (xs.getD j .non) (ys.getD j .non)) t1.isList t2.isList (by simp; omega) (by omega) (items_A I 8 (by rw [in1_units]; omega) p1 p2 h2 h4 v1 v2) ?_
    have e := eqAs_all hl
    have : its.toArray.size = xs.length := by simp; omega
    rw [this, ← e]
    exact ⟨.bl _, H, I, rfl, q⟩
  · refine SeqAt.eq_list_lengthsAt t1.isList t2.isList (by simp; omega) (by omega) ⟨.bl _, H, I, rfl, ?_⟩
    rw [eqAs_ne hl] at q
    exact q
theorem op_neLs' (hu : X.A.units + 20 < cLine) : OpR X (compareOp .NotEq) (rEqLs X.K true) := by
  intro pins s σ H x y v u Q I rx ry h
  obtain ⟨xs, ys, r1, r2, p1, p2, q⟩ := h
  simp only [Rep] at r1 r2
  obtain ⟨a, vs, rfl, h1, h2⟩ := r1
  obtain ⟨b, us, rfl, h3, h4⟩ := r2
  cases rx
  cases ry
  obtain ⟨its, v1, t1, _⟩ := I.list h1
  obtain ⟨its2, v2, t2, _⟩ := I.list h3
  have l1 := h2.length.trans v1.length
  have l2 := h4.length.trans v2.length
  by_cases hl : xs.length = ys.length
  · refine SeqAt.RcNeAt.lists (e := fun j => eqA (xs.getD j .non) (ys.getD j .non)) t1.isList t2.isList (by simp; omega) (by omega) (items_A I 8 (by rw [in1_units]; omega) p1 p2 h2 h4 v1 v2) _ _ _ _ ?_
    have e := eqAs_all hl
    have : its.toArray.size = xs.length := by simp; omega
    rw [this, ← e]
    exact ⟨.bl _, H, I, rfl, q⟩
  · refine SeqAt.RcNeAt.lists_lengths t1.isList t2.isList (by simp; omega) (by omega) _ _ _ _ ⟨.bl _, H, I, rfl, ?_⟩
    rw [eqAs_ne hl] at q
    exact q
def eqSeq (neg : Bool) : D → D → Option D
  | .tup xs, .tup ys => if xs.all (plainN 8) = true ∧ ys.all (plainN 8) = true then some (.bl (if neg then !eqAs xs ys else eqAs xs ys)) else none
  | .lst xs, .lst ys => if xs.all (plainN 8) = true ∧ ys.all (plainN 8) = true then some (.bl (if neg then !eqAs xs ys else eqAs xs ys)) else none
  | _, _ => none
theorem od_eqSeq {f : Value → Value → Sem Value} {neg : Bool} (h1 : OpR X f (rEqT X.K neg)) (h2 : OpR X f (rEqLs X.K neg)) : OpD X f (eqSeq neg) := by
  refine ⟨_, h1.or h2, fun G H x y v u d Q sG rx ry e k => ?_⟩
  unfold eqSeq at e
  split at e
  · split at e
    · rename_i hc
      cases e
      exact .inl ⟨_, _, rx.all sG, ry.all sG, hc.1, hc.2, k _ G H (Grow.refl sG) (by simp [Rep])⟩
    · cases e
  · split at e
    · rename_i hc
      cases e
      exact .inr ⟨_, _, rx.all sG, ry.all sG, hc.1, hc.2, k _ G H (Grow.refl sG) (by simp [Rep])⟩
    · cases e
  · cases e
def eqDic (ks : List Key) (xs : List D) (ls : List Key) (ys : List D) : Bool := xs.length == ys.length && (ks.zip xs).all fun kv => match valD ls ys kv.1 with | some y => eqA kv.2 y | none => false
theorem hits_D {pins : List (Addr × Obj)} {σ : St} {H : Hp} {s : Shared} (I : Inv X pins σ H s) {A : Around} (hu : A.units + 8 < cLine) {ls : List Key} {ys : List D} {ws : List V} {kb : List (Key × Value)} (hl : ls.length = ys.length) (r2 : RepL X.K H ys ws) (p2 : ys.all (plainN 8) = true) (vb : KV (ls.zip ws) kb) :
    ∀ {ks : List Key} {xs : List D} {vs : List V} {ka : List (Key × Value)}, ks.length = xs.length → RepL X.K H xs vs → xs.all (plainN 8) = true → KV (ks.zip vs) ka →
      PySem.W.KeqHits A s kb ka ((ks.zip xs).all fun kv => match valD ls ys kv.1 with | some y => eqA kv.2 y | none => false) := by
  intro ks
  induction ks with
  | nil =>
    intro xs vs ka _ _ _ va
    simp only [List.zip_nil_left] at va
    cases va
    exact .nil
  | cons k ks ih =>
    intro xs vs ka hl' r1 p1 va
    cases xs with
    | nil => cases hl'
    | cons x xs =>
      simp only [RepL] at r1
      obtain ⟨v, us, rfl, q1, q2⟩ := r1
      rw [List.all_cons, Bool.and_eq_true] at p1
      simp only [List.zip_cons_cons] at va
      cases va with
      | @cons p q l1 l2 hp ht =>
        obtain ⟨k', u⟩ := q
        obtain ⟨e1, ru⟩ := hp
        have e1 : k = k' := e1
        subst e1
        have ru : RelV v u := ru
        rw [List.zip_cons_cons, List.all_cons]
        dsimp only
        have hv := valD_rep k hl r2
        have hw := vb.val k
        cases ev : valD ls ys k with
        | none =>
          rw [hv.2 ev] at hw
          exact .miss hw.none_of
        | some y =>
          obtain ⟨w', e3, r3⟩ := hv.1 y ev
          rw [e3] at hw
          obtain ⟨u', e4, r4⟩ := hw.some_of
          have py : plainN 8 y = true := by
            refine List.all_eq_true.mp p2 y ?_
            unfold valD at ev
            obtain ⟨kv, hkv, rfl⟩ := Option.map_eq_some_iff.mp ev
            exact (List.of_mem_zip (List.mem_of_find?_eq_some hkv)).2
          exact .hit e4 (eqAt_A I 8 p1.1 py q1 r3 ru r4 hu) (ih (by simpa using hl') q2 p1.2 ht)
def rEqDc (K : PySem.W.Frag) (neg : Bool) : R2 := fun v u H Q => ∃ ks xs ls ys, Rep K H (.dic ks xs) v ∧ Rep K H (.dic ls ys) u ∧ xs.all (plainN 8) = true ∧ ys.all (plainN 8) = true ∧ Q (.bl (if neg then !eqDic ks xs ls ys else eqDic ks xs ls ys)) H
theorem dic_at {pins : List (Addr × Obj)} {σ : St} {H : Hp} {s : Shared} (I : Inv X pins σ H s) {ks : List Key} {xs : List D} {v : V} (h : Rep X.K H (.dic ks xs) v) : ∃ a vs ka, v = .ref a ∧ (a == sysModules) = false ∧ s.heap.DictOf (mixKind X.prog X.w) a ka ∧ KV (ks.zip vs) ka ∧ ks.length = xs.length ∧ RepL X.K H xs vs ∧ ka.length = xs.length := by
  simp only [Rep] at h
  obtain ⟨a, vs, rfl, h1, h2, h3, h4⟩ := h
  obtain ⟨_, h5, ka, h6, h7⟩ := dk_rd I.hok h1
  refine ⟨a, vs, ka, rfl, h5, h7, h6, h2, h4, ?_⟩
  have := h6.length
  rw [List.length_zip] at this
  have := h4.length
  omega
theorem op_eqDc (hu : X.A.units + 20 < cLine) : OpR X (compareOp .Eq) (rEqDc X.K false) := by
  intro pins s σ H x y v u Q I rx ry h
  obtain ⟨ks, xs, ls, ys, r1, r2, p1, p2, q⟩ := h
  obtain ⟨a, vs, ka, rfl, m1, d1, k1, l1, rl1, n1⟩ := dic_at I r1
  obtain ⟨b, us, kb, rfl, m2, d2, k2, l2, rl2, n2⟩ := dic_at I r2
  cases rx
  cases ry
  refine PySem.W.keq_eq m1 m2 d1 d2 (by omega) (fun _ => hits_D I (by rw [in1_units]; omega) l2 rl2 p2 k2 l1 rl1 p1 k1) ⟨.bl _, H, I, rfl, ?_⟩
  rw [n1, n2]
  exact q
theorem op_neDc (hu : X.A.units + 20 < cLine) : OpR X (compareOp .NotEq) (rEqDc X.K true) := by
  intro pins s σ H x y v u Q I rx ry h
  obtain ⟨ks, xs, ls, ys, r1, r2, p1, p2, q⟩ := h
  obtain ⟨a, vs, ka, rfl, m1, d1, k1, l1, rl1, n1⟩ := dic_at I r1
  obtain ⟨b, us, kb, rfl, m2, d2, k2, l2, rl2, n2⟩ := dic_at I r2
  cases rx
  cases ry
  refine PySem.W.keq_ne m1 m2 d1 d2 (by omega) (fun _ => hits_D I (by rw [in1_units]; omega) l2 rl2 p2 k2 l1 rl1 p1 k1) ⟨.bl _, H, I, rfl, ?_⟩
  rw [n1, n2]
  exact q
def eqDc (neg : Bool) : D → D → Option D
  | .dic ks xs, .dic ls ys => if xs.all (plainN 8) = true ∧ ys.all (plainN 8) = true then some (.bl (if neg then !eqDic ks xs ls ys else eqDic ks xs ls ys)) else none
  | _, _ => none
theorem od_eqDc {f : Value → Value → Sem Value} {neg : Bool} (h1 : OpR X f (rEqDc X.K neg)) : OpD X f (eqDc neg) := by
  refine ⟨_, h1, fun G H x y v u d Q sG rx ry e k => ?_⟩
  unfold eqDc at e
  split at e
  · split at e
    · rename_i hc
      cases e
      exact ⟨_, _, _, _, rx.all sG, ry.all sG, hc.1, hc.2, k _ G H (Grow.refl sG) (by simp [Rep])⟩
    · cases e
  · cases e
def eqO (neg : Bool) (x y : D) : Option D := (sEq neg x y).or ((eqSeq neg x y).or (eqDc neg x y))
theorem od_eqO (hu : X.A.units + 20 < cLine) : OpD X (compareOp .Eq) (eqO false) := od_seq.or ((od_eqSeq (op_eqT hu) (op_eqLs' hu)).or (od_eqDc (op_eqDc hu)))
theorem od_neO (hu : X.A.units + 20 < cLine) : OpD X (compareOp .NotEq) (eqO true) := od_sne.or ((od_eqSeq (op_neT hu) (op_neLs' hu)).or (od_eqDc (op_neDc hu)))
end
end L2
set_option Elab.async false
set_option linter.all false
set_option maxRecDepth 100000
set_option maxHeartbeats 4000000
namespace L2
open PySem PySem.Spec PyProof.Rows
section
variable {X : Cx} {e : Expr} {f : FE} {pos : Pos}
end
end L2
set_option Elab.async false
set_option linter.all false
set_option maxRecDepth 100000
set_option maxHeartbeats 4000000
namespace L2
open PySem PySem.Spec PyProof.Rows
end L2
set_option Elab.async false
set_option linter.all false
set_option maxRecDepth 100000
set_option maxHeartbeats 4000000
namespace L2
open PySem PySem.Spec PyProof.Rows
section
variable {X : Cx}
def nonD : D → Bool | .non => true | _ => false
theorem nonD_rep {K : PySem.W.Frag} {G H : Hp} {d : D} {v : V} (r : RepB K G H d v) : decide (v = .non) = nonD d := by
  rcases r with r | ⟨m, a, vs, h1, h2, _⟩
  · cases d with
    | non => simp only [Rep] at r; subst r; rfl
    | bl b => simp only [Rep] at r; subst r; rfl
    | int b => simp only [Rep] at r; subst r; rfl
    | str b => simp only [Rep] at r; subst r; rfl
    | tup b => simp only [Rep] at r; obtain ⟨_, _, rfl, _⟩ := r; rfl
    | lst b => simp only [Rep] at r; obtain ⟨_, _, rfl, _⟩ := r; rfl
    | dic b c => simp only [Rep] at r; obtain ⟨_, _, rfl, _⟩ := r; rfl
    | obj a b c => simp only [Rep] at r; obtain ⟨_, _, _, _, rfl, _⟩ := r; rfl
  · subst h1 h2; cases m <;> rfl
def isN (n : Bool) : D → D → Option D | x, .non => some (.bl (if n then !nonD x else nonD x)) | _, _ => none
theorem od_notN : OpD X (compareOp .IsNot) (isN true) := by
  refine ⟨_, op_notN, fun G H x y v u d Q sG rx ry e k => ?_⟩
  unfold isN at e
  split at e
  · cases e
    have ry := ry.flat rfl
    simp only [Rep] at ry
    refine ⟨ry, ?_⟩
    rw [nonD_rep rx]
    exact k _ G H (Grow.refl sG) (by simp [Rep])
  · cases e
theorem repLB_two {K : PySem.W.Frag} {G H : Hp} {d e : D} {vs : List V} (r : RepLB K G H [d, e] vs) : ∃ v u, vs = [v, u] ∧ RepB K G H d v ∧ RepB K G H e u := by
  obtain ⟨v, us, rfl, r1, u, us, rfl, r2, r3⟩ := r
  simp only [RepLB] at r3
  subst r3
  exact ⟨v, u, rfl, r1, r2⟩
def intD : List D → Option D | [.int i] => some (.int i) | [.bl b] => some (.int (if b then 1 else 0)) | _ => none
theorem cd_int : CallD X (.type "int") intD := by
  refine ⟨_, call_int1, fun G H ds vs d Q sG r e k => ?_⟩
  unfold intD at e
  split at e
  · cases e
    obtain ⟨v, rfl, r1⟩ := repLB_one r
    have r1 := r1.flat rfl
    simp only [Rep] at r1
    subst r1
    exact .inl ⟨_, rfl, k _ G H (Grow.refl sG) (by simp [Rep])⟩
  · cases e
    obtain ⟨v, rfl, r1⟩ := repLB_one r
    have r1 := r1.flat rfl
    simp only [Rep] at r1
    subst r1
    exact .inr ⟨_, rfl, k _ G H (Grow.refl sG) (by simp [Rep])⟩
  · cases e
def maxD : List D → Option D | [.int i, .int j] => some (.int (if j > i then j else i)) | _ => none
def minD : List D → Option D | [.int i, .int j] => some (.int (if j < i then j else i)) | _ => none
theorem cd_max (hc : X.calm = true) : CallD X (.builtin "max") maxD := by
  refine ⟨_, call_max2 hc, fun G H ds vs d Q sG r e k => ?_⟩
  unfold maxD at e
  split at e
  · cases e
    obtain ⟨v, u, rfl, r1, r2⟩ := repLB_two r
    have r1 := r1.flat rfl
    have r2 := r2.flat rfl
    simp only [Rep] at r1 r2
    subst r1 r2
    exact ⟨_, _, rfl, k _ G H (Grow.refl sG) (by simp [Rep])⟩
  · cases e
theorem cd_min (hc : X.calm = true) : CallD X (.builtin "min") minD := by
  refine ⟨_, call_min2 hc, fun G H ds vs d Q sG r e k => ?_⟩
  unfold minD at e
  split at e
  · cases e
    obtain ⟨v, u, rfl, r1, r2⟩ := repLB_two r
    have r1 := r1.flat rfl
    have r2 := r2.flat rfl
    simp only [Rep] at r1 r2
    subst r1 r2
    exact ⟨_, _, rfl, k _ G H (Grow.refl sG) (by simp [Rep])⟩
  · cases e
end
end L2
set_option Elab.async false
set_option linter.all false
set_option maxRecDepth 100000
set_option maxHeartbeats 4000000
namespace L2
open PySem PySem.Spec PyProof.Rows
section
variable {X : Cx} {pins : List (Addr × Obj)} {σ : St} {H : Hp} {s : Shared} {a : Addr} {kvs : List (Key × V)} {k : Key} {d : V} {u r : Value} {A : Around} {E : Value → Shared → Prop}
end
section
variable {X : Cx} {o e f : Expr} {apos cpos : Pos} {td ty tx : TE}
end
section
variable {X : Cx} {e a b : Expr} {pos : Pos}
end
end L2
set_option Elab.async false
set_option linter.all false
set_option maxRecDepth 100000
set_option maxHeartbeats 4000000
namespace HT
open PySem PySem.Spec PyProof.Rows
variable {prog : Program} {w : World} {A : Around} {E : Value → Shared → Prop} {s : Shared}
end HT
namespace L2
open PySem PySem.Spec PyProof.Rows
section
variable {X : Cx}
end
end L2
set_option Elab.async false
set_option linter.all false
set_option maxRecDepth 100000
set_option maxHeartbeats 4000000
namespace L2
open PySem PySem.Spec PyProof.Rows
section
variable {prog : Program} {w : World} {A : Around} {E : Value → Shared → Prop} {s : Shared}
end
end L2
set_option Elab.async false
set_option linter.all false
set_option maxRecDepth 100000
set_option maxHeartbeats 4000000
namespace L2
open PySem PySem.Spec PyProof.Rows
section
variable {prog : Program} {w : World} {A : Around} {E : Value → Shared → Prop} {s : Shared}
end
end L2
set_option Elab.async false
set_option linter.all false
set_option maxRecDepth 100000
set_option maxHeartbeats 4000000
namespace L2
open PySem PySem.Spec PyProof.Rows
section
variable {prog : Program} {w : World} {A : Around} {E : Value → Shared → Prop} {s : Shared}
end
end L2
set_option Elab.async false
set_option linter.all false
set_option maxRecDepth 100000
set_option maxHeartbeats 4000000
namespace L2
open PySem PySem.Spec PyProof.Rows
section
variable {prog : Program} {w : World} {A : Around} {E : Value → Shared → Prop} {s : Shared}
end
end L2
set_option Elab.async false
set_option linter.all false
set_option maxRecDepth 100000
set_option maxHeartbeats 4000000
namespace L2
open PySem PySem.Spec PyProof.Rows
section
variable {prog : Program} {w : World} {A : Around} {E : Value → Shared → Prop} {s : Shared}
end
end L2
set_option Elab.async false
set_option linter.all false
set_option maxRecDepth 100000
set_option maxHeartbeats 4000000
namespace L2
open PySem PySem.Spec PyProof.Rows
section
variable {X : Cx} {pins : List (Addr × Obj)} {σ : List (Option V)} {H H' : Hp} {s : Shared} {h' : Heap}
end
section
variable {X : Cx} {pins : List (Addr × Obj)} {σ : St} {H : Hp} {s : Shared}
end
end L2
set_option Elab.async false
set_option linter.all false
set_option maxRecDepth 100000
set_option maxHeartbeats 4000000
namespace L2
open PySem PySem.Spec PyProof.Rows
section
variable {X : Cx}
def forL2 (i j : Nat) (F : FS) : List (D × D) → FS
  | [], δ => some (.nx δ)
  | x :: xs, δ => match F ((δ.set i (some (.sh x.1))).set j (some (.sh x.2))) with
    | some (.nx δ') => forL2 i j F xs δ'
    | some (.ct δ') => forL2 i j F xs δ'
    | some (.ex c δ') => some (.ex c δ')
    | some (.bk δ') => some (.nx δ')
    | some (.rt d δ') => some (.rt d δ')
    | none => none
end
end L2
set_option Elab.async false
set_option linter.all false
set_option maxRecDepth 100000
set_option maxHeartbeats 4000000
namespace L2
open PySem PySem.Spec PyProof.Rows
section
variable {X : Cx} {e : Expr} {es : List Expr} {pos p : Pos}
end
end L2
set_option Elab.async false
set_option linter.all false
set_option maxRecDepth 100000
set_option maxHeartbeats 4000000
namespace L2
open PySem PySem.Spec PyProof.Rows
section
variable {X : Cx}
end
end L2
set_option Elab.async false
set_option linter.all false
set_option maxRecDepth 100000
set_option maxHeartbeats 4000000
namespace L2
open PySem PySem.Spec PyProof.Rows
open Classical in
section
variable {P : Program} {w : World} {K : PySem.W.Frag} {mg : Str → Option Value} {base : Heap}
end
inductive Ar where | own (j : Nat) | val (f : FE)
section
variable {X : Cx} {e : Expr} {es : List Expr} {f : FE} {ars : List Ar} {pos p : Pos}
end
end L2
set_option Elab.async false
set_option linter.all false
set_option maxRecDepth 100000
set_option maxHeartbeats 4000000
namespace L2
open PySem PySem.Spec PyProof.Rows
section
variable {K : PySem.W.Frag} {G : Hp} {δ : En} {σ : St}
end
open Classical in
section
variable {X : Cx} {e : Expr} {es : List Expr} {pos p : Pos} {ars : List Ar}
end
end L2
set_option Elab.async false
set_option linter.all false
set_option maxRecDepth 100000
set_option maxHeartbeats 4000000
namespace L2
open PySem PySem.Spec PyProof.Rows
section
variable {X : Cx} {e : Expr} {es : List Expr} {pos p : Pos}
end
end L2
set_option Elab.async false
set_option linter.all false
set_option maxRecDepth 100000
set_option maxHeartbeats 4000000
namespace L2
open PySem PySem.Spec PyProof.Rows
section
variable {X : Cx} {e : Expr} {es : List Expr} {pos p : Pos}
end
end L2
set_option Elab.async false
set_option linter.all false
set_option maxRecDepth 100000
set_option maxHeartbeats 4000000
namespace L2
open PySem PySem.Spec PyProof.Rows
section
variable {X : Cx} {e : Expr} {es : List Expr} {pos p : Pos}
end
section
variable {X : Cx} {e : Expr} {es : List Expr} {pos p : Pos}
end
end L2
set_option Elab.async false
set_option linter.all false
set_option maxRecDepth 100000
set_option maxHeartbeats 4000000
namespace L2
open PySem PySem.Spec PyProof.Rows
section
variable {X : Cx} {e : Expr} {es : List Expr} {pos p : Pos}
end
end L2
set_option Elab.async false
set_option linter.all false
set_option maxRecDepth 100000
set_option maxHeartbeats 4000000
namespace L2
open PySem PySem.Spec PyProof.Rows
section
variable {X : Cx}
open Classical in
end
end L2
set_option Elab.async false
set_option linter.all false
set_option maxRecDepth 100000
set_option maxHeartbeats 4000000
namespace L2
open PySem PySem.Spec PyProof.Rows
open PySem.AutoSeq1 (wpAny_loadPart')
open PySem.MeetsSeq PySem.MeetsSeq2 PySem.MeetsSeq3 PySem.SeqAt
def EqP (pr : Program) (w : World) (A : Around) (s : Shared) (u v : Value) (c : Bool) : Prop := ∀ (E : Value → Shared → Prop) (Q : Bool → Shared → Prop), Q c s → wpAny (model pr w) A (eqBool u v) Q E s
abbrev lstObj (d : Option Addr) (xs : Array Value) (n : Nat) (sl : Array (Option Value)) : Obj := { cls := .type "list", dict := d, data := .seq xs n, slots := sl }
theorem ne_loopP {pr : Program} {w : World} (p q : Addr) (xs ys : Array Value) (n m : Nat) (d1 d2 : Option Addr) (s1 s2 : Array (Option Value)) (hz : xs.size = ys.size) (e : Nat → Bool) (k : Nat) :
    ∀ i : Nat, xs.size - i = k → ∀ (A : Around) (R : Result → Shared → Prop) (s : Shared), s.heap.get? p = some (lstObj d1 xs n s1) → s.heap.get? q = some (lstObj d2 ys m s2) →
      (∀ j (h1 : j < xs.size) (h2 : j < ys.size), EqP pr w A.in1 s xs[j] ys[j] (e j)) → R (.ok (.ret (.bool (!((List.range xs.size).drop i).all e)))) s →
      wpAny (model pr w) A.in1 (Builtin.«list.__eq__.loop» ⟨[.ref p, .ref q, rawInt i, rawInt 3], []⟩)
        (fun fin s' => match fin with | .done f => R (.ok f) s' | .again c' => c'.quiet = true ∧ codeAny (model pr w) A c' R s') (fun e s' => R (.error e) s') s := by
  induction k with
  | zero =>
    intro i hk A R s hp hq he h
    obtain ⟨hh, g, d, tk, os⟩ := s
    wp_walk using wpAny_loadPart' hp, wpAny_loadPart' hq
    have z1 : xs[((i : Nat) : Int).toNat]? = none := by simp; omega
    have z2 : ys[((i : Nat) : Int).toNat]? = none := by simp; omega
    have zd : (List.range xs.size).drop i = [] := by simp; omega
    rw [zd] at h
    rw [z1, z2]
    wp_walk using wpAny_loadPart' hp, wpAny_loadPart' hq
    show R (.ok (.ret (.bool (xs.size != ys.size)))) _
    rw [hz]
    simpa using h
  | succ k ih =>
    intro i hk A R s hp hq he h
    obtain ⟨hh, g, d, tk, os⟩ := s
    wp_walk using wpAny_loadPart' hp, wpAny_loadPart' hq
    have l1 : i < xs.size := by omega
    have l2 : i < ys.size := by omega
    have z1 : xs[((i : Nat) : Int).toNat]? = some xs[i] := by simp [l1]
    have z2 : ys[((i : Nat) : Int).toNat]? = some ys[i] := by simp [l2]
    have zd : (List.range xs.size).drop i = i :: (List.range xs.size).drop (i + 1) := by simp [List.drop_eq_getElem_cons, l1]
    have zc : ((i : Int) + 1) = ((i + 1 : Nat) : Int) := by push_cast; rfl
    rw [zd, List.all_cons] at h
    rw [z1, z2]
    refine wpAny_bind (he i l1 l2 _ _ ?_)
    cases ei : e i with
    | true =>
      rw [ei] at h
      wp_walk
      rw [zc]
      exact ⟨plainId_quiet plain_eq_loop _, codeAny_builtin entry_eq_loop (by rw [Around.under_plainId plain_eq_loop _]; exact ih (i + 1) (by omega) A R _ hp hq he (by simpa using h))⟩
    | false =>
      rw [ei] at h
      wp_walk using wpAny_loadPart' hp, wpAny_loadPart' hq
      rw [z1, z2]
      wp_walk
      simpa using h
theorem ne_listP {pr : Program} {w : World} {A : Around} {E : Value → Shared → Prop} {s : Shared} {p q : Addr} {xs ys : Array Value} {e : Nat → Bool} {Q : Value → Shared → Prop} (hl : s.heap.IsList p xs) (hb : s.heap.IsList q ys) (hz : xs.size = ys.size) (hu : A.units < cLine)
    (he : ∀ j (h1 : j < xs.size) (h2 : j < ys.size), EqP pr w A.in1 s xs[j] ys[j] (e j)) (h : Q (.bool (!(List.range xs.size).all e)) s) : wpAny (model pr w) A (compareOp .NotEq (.ref p) (.ref q)) Q E s := by
  obtain ⟨⟨c1, d1, dt1, s1⟩, ho, hc, n, hd⟩ := id hl
  obtain ⟨⟨c2, d2, dt2, s2⟩, ho2, hc2, m, hd2⟩ := id hb
  simp only at hc hd hc2 hd2
  subst hc hd hc2 hd2
  refine wpAny_richCompare_same_room (op := .NotEq) ⟨_, ho, rfl⟩ ⟨_, ho2, rfl⟩ PySem.F.slot_list_ne (wpAny_call (codeAny_call_builtin PySem.F.slot_list_ne.plain PySem.F.entry_list_ne (PySem.F.slot_list_ne.check _ _ _ _ _ _ _ _ ⟨_, ho, rfl⟩ (PySem.F.args_list_ne_2 _ _) ?_))) hu
  obtain ⟨hh, g, d, tk, os⟩ := s
  have f3 := PySem.AutoSeq1.sub_list_list
  have hne : ¬ (xs.size != ys.size) = true := by simp [hz]
  wp_walk using wpAny_loadPart' ho, wpAny_loadPart' ho2
  exact ⟨plainId_quiet plain_eq_loop _, codeAny_builtin entry_eq_loop (by rw [Around.under_plainId plain_eq_loop _]; exact ne_loopP p q xs ys n m d1 d2 s1 s2 hz e _ 0 rfl A (PySem.wants (fun v s' => v ≠ .notImplemented ∧ Q v s') E) _ ho ho2 he (show Value.bool (!((List.range xs.size).drop 0).all e) ≠ Value.notImplemented ∧ Q (.bool (!((List.range xs.size).drop 0).all e)) _ from ⟨(fun z => nomatch z), by simpa using h⟩))⟩
def itemOk : D → D → Bool
  | .dic _ xs, .dic _ ys => xs.all (plainN 8) && ys.all (plainN 8)
  | x, y => plainN 8 x && plainN 8 y
def eqI : D → D → Bool
  | .dic ks xs, .dic ls ys => eqDic ks xs ls ys
  | x, y => eqA x y
def itemsOk : List D → List D → Bool
  | x :: xs, y :: ys => itemOk x y && itemsOk xs ys
  | [], [] => true
  | _, _ => false
def eqIs : List D → List D → Bool
  | x :: xs, y :: ys => eqI x y && eqIs xs ys
  | [], [] => true
  | _, _ => false
theorem itemsOk_len : ∀ {xs ys : List D}, itemsOk xs ys = true → xs.length = ys.length
  | [], [], _ => rfl
  | x :: xs, y :: ys, h => by
    simp only [itemsOk, Bool.and_eq_true] at h
    simp [itemsOk_len h.2]
  | [], _ :: _, h => by cases h
  | _ :: _, [], h => by cases h
theorem itemsOk_get : ∀ {xs ys : List D} {j : Nat} {x y : D}, itemsOk xs ys = true → xs[j]? = some x → ys[j]? = some y → itemOk x y = true
  | [], _, j, x, y, _, e, _ => by simp at e
  | _ :: _, [], j, x, y, h, _, _ => by cases h
  | a :: xs, b :: ys, j, x, y, h, e1, e2 => by
    simp only [itemsOk, Bool.and_eq_true] at h
    cases j with
    | zero => simp at e1 e2; subst e1 e2; exact h.1
    | succ j => exact itemsOk_get h.2 (by simpa using e1) (by simpa using e2)
theorem eqIs_all : ∀ {xs ys : List D}, itemsOk xs ys = true → eqIs xs ys = (List.range xs.length).all fun j => eqI (xs.getD j .non) (ys.getD j .non)
  | [], [], _ => rfl
  | x :: xs, y :: ys, h => by
    simp only [itemsOk, Bool.and_eq_true] at h
    simp only [eqIs]
    rw [eqIs_all h.2, List.length_cons, List.range_succ_eq_map, List.all_cons, List.all_map]
    rfl
  | [], _ :: _, h => by cases h
  | _ :: _, [], h => by cases h
theorem rd_inj {H : Hp} {a : Addr} {k1 k2 : List (Key × V)} (h1 : Rd H a (.dK k1)) (h2 : Rd H a (.dK k2)) : k1 = k2 := by
  rcases h1 with h1 | ⟨o1, h1⟩
  · rcases h2 with h2 | ⟨o2, h2⟩
    · rw [h1] at h2; cases h2; rfl
    · rw [h1] at h2; cases h2
  · rcases h2 with h2 | ⟨o2, h2⟩
    · rw [h1] at h2; cases h2
    · rw [h1] at h2; cases h2; rfl
section
variable {X : Cx} {pins : List (Addr × Obj)} {σ : St} {H : Hp} {s : Shared}
theorem zip_inj {α β : Type} : ∀ {as as' : List α} {bs bs' : List β}, as.length = bs.length → as'.length = bs'.length → as.zip bs = as'.zip bs' → as = as' ∧ bs = bs'
  | [], [], [], [], _, _, _ => ⟨rfl, rfl⟩
  | [], a :: as', [], b :: bs', _, _, e => by simp at e
  | a :: as, [], b :: bs, [], _, _, e => by simp at e
  | a :: as, a' :: as', b :: bs, b' :: bs', h1, h2, e => by
    simp only [List.zip_cons_cons, List.cons.injEq, Prod.mk.injEq] at e
    obtain ⟨r1, r2⟩ := zip_inj (by simpa using h1) (by simpa using h2) e.2
    exact ⟨by rw [e.1.1, r1], by rw [e.1.2, r2]⟩
theorem dic_same (I : Inv X pins σ H s) {ks ls : List Key} {xs ys : List D} {v : V} (p1 : xs.all (plainN 8) = true) (p2 : ys.all (plainN 8) = true) (r1 : Rep X.K H (.dic ks xs) v) (r2 : Rep X.K H (.dic ls ys) v) : eqDic ks xs ls ys = true := by
  simp only [Rep] at r1 r2
  obtain ⟨a, vs, rfl, h1, l1, n1, q1⟩ := r1
  obtain ⟨b, us, e, h2, l2, n2, q2⟩ := r2
  cases e
  obtain ⟨rfl, rfl⟩ := zip_inj (l1.trans q1.length) (l2.trans q2.length) (rd_inj h1 h2)
  unfold eqDic
  rw [Bool.and_eq_true, List.all_eq_true]
  refine ⟨by rw [q1.length, q2.length]; simp, fun kv hkv => ?_⟩
  have key : ∀ {ks : List Key} {xs ys : List D} {vs : List V}, ks.Nodup → RepL X.K H xs vs → RepL X.K H ys vs → xs.all (plainN 8) = true → ys.all (plainN 8) = true → ∀ kv ∈ ks.zip xs, ∃ y, valD ks ys kv.1 = some y ∧ eqA kv.2 y = true := by
    intro ks
    induction ks with
    | nil => intro xs ys vs _ _ _ _ _ kv h; simp at h
    | cons k0 ks ih =>
      intro xs ys vs hn a1 a2 b1 b2 kv h
      cases xs with
      | nil => simp at h
      | cons x xs =>
        simp only [RepL] at a1
        obtain ⟨v0, vr, rfl, a3, a4⟩ := a1
        cases ys with
        | nil => simp only [RepL] at a2; cases a2
        | cons y ys =>
          simp only [RepL] at a2
          obtain ⟨v1, vr', e, a5, a6⟩ := a2
          cases e
          rw [List.all_cons, Bool.and_eq_true] at b1 b2
          have hn' := List.nodup_cons.mp hn
          rw [List.zip_cons_cons] at h
          rcases List.mem_cons.mp h with rfl | h
          · exact ⟨y, by unfold valD; simp, eqA_same I 8 b1.1 b2.1 a3 a5⟩
          · obtain ⟨y', e1, e2⟩ := ih hn'.2 a4 a6 b1.2 b2.2 kv h
            have hk : kv.1 ∈ ks := (List.of_mem_zip h).1
            refine ⟨y', ?_, e2⟩
            unfold valD at e1 ⊢
            rw [List.zip_cons_cons, List.find?_cons]
            rw [show decide ((k0, y).1 = kv.1) = false from decide_eq_false fun z => hn'.1 (by rw [show k0 = kv.1 from z]; exact hk)]
            exact e1
  obtain ⟨y, e1, e2⟩ := key n1 q1 q2 p1 p2 kv hkv
  rw [e1]
  exact e2
theorem eqP_I (I : Inv X pins σ H s) {A : Around} (hu : A.units + 12 < cLine) {x y : D} {v v' : V} {u u' : Value} (ok : itemOk x y = true) (rx : Rep X.K H x v) (ry : Rep X.K H y v') (r : RelV v u) (r' : RelV v' u') : EqP X.prog X.w A s u u' (eqI x y) := by
  have plain : plainN 8 x = true → plainN 8 y = true → EqP X.prog X.w A s u u' (eqA x y) := fun p1 p2 E Q hq => eqAt_A I 8 p1 p2 rx ry r r' (by omega) X.prog X.w E Q hq
  cases x with
  | dic ks xs =>
    cases y with
    | dic ls ys =>
      simp only [itemOk, Bool.and_eq_true] at ok
      intro E Q hq
      have r1 := rx
      have r2 := ry
      obtain ⟨a, vs, ka, rfl, m1, d1, k1, l1, rl1, n1⟩ := dic_at I r1
      obtain ⟨b, us, kb, rfl, m2, d2, k2, l2, rl2, n2⟩ := dic_at I r2
      cases r
      cases r'
      by_cases hab : a = b
      · subst hab
        have e1 : eqI (.dic ks xs) (.dic ls ys) = true := dic_same I ok.1 ok.2 rx ry
        rw [e1] at hq
        exact (PySem.SeqAt.EqAt.same (.ref a) : PySem.SeqAt.EqAt A s (.ref a) (.ref a) true) X.prog X.w E Q hq
      · have hne : (Value.ref a == Value.ref b) ≠ true := fun z => hab (by have := eq_of_beq z; injection this)
        unfold eqBool
        refine wpAny_holding ?_
        refine wpAny_ite_split (fun z => absurd z hne) (fun _ => ?_)
        refine wpAny_bind (show wpAny (model X.prog X.w) A (compareOp .Eq (.ref a) (.ref b)) _ E s from ?_)
        refine PySem.W.keq_eq m1 m2 d1 d2 (by omega) (fun _ => hits_D I (by rw [in1_units]; omega) l2 rl2 ok.2 k2 l1 rl1 ok.1 k1) (wpAny_truthy_bool ?_)
        rw [n1, n2]
        exact hq
    | _ => simp [itemOk, plainN] at ok
  | _ =>
    cases y with
    | dic ls ys => simp [itemOk, plainN] at ok
    | _ => simp only [itemOk, Bool.and_eq_true] at ok; exact plain ok.1 ok.2
end
end L2
set_option Elab.async false
set_option linter.all false
set_option maxRecDepth 100000
set_option maxHeartbeats 4000000
namespace L2
open PySem PySem.Spec PyProof.Rows
section
variable {X : Cx}
def rNeI (K : PySem.W.Frag) : R2 := fun v u H Q => ∃ xs ys, Rep K H (.lst xs) v ∧ Rep K H (.lst ys) u ∧ itemsOk xs ys = true ∧ Q (.bl (!eqIs xs ys)) H
theorem op_neI (hu : X.A.units + 20 < cLine) : OpR X (compareOp .NotEq) (rNeI X.K) := by
  intro pins s σ H x y v u Q I rx ry h
  obtain ⟨xs, ys, r1, r2, ok, q⟩ := h
  simp only [Rep] at r1 r2
  obtain ⟨a, vs, rfl, h1, h2⟩ := r1
  obtain ⟨b, us, rfl, h3, h4⟩ := r2
  cases rx
  cases ry
  obtain ⟨its, v1, t1, _⟩ := I.list h1
  obtain ⟨its2, v2, t2, _⟩ := I.list h3
  have le := itemsOk_len ok
  have l1 : xs.length = its.length := h2.length.trans v1.length
  have l2 : ys.length = its2.length := h4.length.trans v2.length
  refine ne_listP (e := fun j => eqI (xs.getD j .non) (ys.getD j .non)) t1.isList t2.isList (by simp; omega) (by omega) (fun j z1 z2 => ?_) ?_
  · have j1 : j < xs.length := by simp at z1; omega
    have j2 : j < ys.length := by simp at z2; omega
    have e1 : xs[j]? = some (xs.getD j .non) := by rw [List.getD_eq_getElem?_getD, List.getElem?_eq_getElem j1]; rfl
    have e2 : ys[j]? = some (ys.getD j .non) := by rw [List.getD_eq_getElem?_getD, List.getElem?_eq_getElem j2]; rfl
    obtain ⟨w1, g1, q1⟩ := h2.get e1
    obtain ⟨w2, g2, q2⟩ := h4.get e2
    obtain ⟨u1, k1, k2⟩ := v1.get g1
    obtain ⟨u2, k3, k4⟩ := v2.get g2
    have t1 : its.toArray[j] = u1 := by
      obtain ⟨_, z⟩ := List.getElem?_eq_some_iff.mp k1
      simpa using z
    have t2 : its2.toArray[j] = u2 := by
      obtain ⟨_, z⟩ := List.getElem?_eq_some_iff.mp k3
      simpa using z
    rw [t1, t2]
    exact eqP_I I (by rw [in1_units]; omega) (itemsOk_get ok e1 e2) q1 q2 k2 k4
  · refine ⟨.bl _, H, I, rfl, ?_⟩
    rw [show its.toArray.size = xs.length by simp; omega, ← eqIs_all ok]
    exact q
def neI : D → D → Option D
  | .lst xs, .lst ys => if itemsOk xs ys = true then some (.bl (!eqIs xs ys)) else none
  | _, _ => none
theorem od_neI (hu : X.A.units + 20 < cLine) : OpD X (compareOp .NotEq) neI := by
  refine ⟨_, op_neI hu, fun G H x y v u d Q sG rx ry e k => ?_⟩
  unfold neI at e
  split at e
  · split at e
    · rename_i ok
      cases e
      exact ⟨_, _, rx.all sG, ry.all sG, ok, k _ G H (Grow.refl sG) (by simp [Rep])⟩
    · cases e
  · cases e
def neE (x y : D) : Option D := (eqO true x y).or (neI x y)
theorem od_neE (hu : X.A.units + 20 < cLine) : OpD X (compareOp .NotEq) neE := (od_neO hu).or (od_neI hu)
end
end L2
set_option Elab.async false
set_option linter.all false
set_option maxRecDepth 100000
set_option maxHeartbeats 4000000
namespace L2
open PySem PySem.Spec PyProof.Rows
end L2
set_option Elab.async false
set_option linter.all false
set_option maxRecDepth 100000
set_option maxHeartbeats 4000000
namespace L2
open PySem PySem.Spec PyProof.Rows
section
variable {X : Cx} {e0 : Expr} {rest : List Expr} {np cpos pos : Pos} {g : En → Option (List D)} {c : Str}
end
end L2
set_option Elab.async false
set_option linter.all false
set_option maxRecDepth 100000
set_option maxHeartbeats 4000000
namespace L2
open PySem PySem.Spec PyProof.Rows
section
variable {P : Program} {w : World} {K : PySem.W.Frag} {mg : Str → Option Value} {base : Heap}
end
section
variable {X : Cx} {k : Nat} {f : Addr} {fd : FuncData} {ps : List Str} {sp : Sp} {x : Str} {p pos : Pos} {e : Expr} {es : List Expr} {t : TA}
end
end L2
set_option Elab.async false
set_option linter.all false
set_option maxRecDepth 100000
set_option maxHeartbeats 4000000
namespace L2
open PySem PySem.Spec PyProof.Rows
section
variable {X : Cx} {pins : List (Addr × Obj)} {σ : St} {H : Hp} {s : Shared}
end
section
variable {X : Cx} {r n : Str} {j : Nat} {F Fh : FS} {cs : List Str} {body suite : List Stmt} {b₀ : Stmt} {np hpos pos : Pos}
end
end L2
set_option Elab.async false
set_option linter.all false
set_option maxRecDepth 100000
set_option maxHeartbeats 4000000
namespace L2
open PySem PySem.Spec PyProof.Rows
section
variable {X : Cx} {x y r : Str} {p px pr pos pos' : Pos} {e : Expr}
theorem pe_clsK {R : Addr} (hR : PySem.W.nsIn X.K mainGlobals r = some (some (.ref R))) (hg : Gl X r) (hd : (r == ("__debug__" : Str)) = false) : PE X (.Name r pr) (tC (.ref R)) :=
  fun pins s σ H Q I h => ld_glob I hg (PySem.W.mg_of I.ok.mod.kin I.ok.mod.glob hR) ⟨.ref R, H, I, rfl, h⟩ hd
end
end L2
set_option Elab.async false
set_option linter.all false
set_option maxRecDepth 100000
set_option maxHeartbeats 4000000
namespace L2
open PySem PySem.Spec PyProof.Rows
def th (a : Addr) (u : HO) (H : Hp) : Hp := fun b => if b = a then (H a).map (fun _ => u) else H b
section
variable {X : Cx} {pins : List (Addr × Obj)} {σ : St} {H : Hp} {s : Shared} {a : Addr} {kvs : List (Key × V)} {o : Obj}
end
end L2
set_option Elab.async false
set_option linter.all false
set_option maxRecDepth 100000
set_option maxHeartbeats 4000000
namespace L2
open PySem PySem.Spec PyProof.Rows
section
variable {X : Cx} {pins : List (Addr × Obj)} {σ : St} {H : Hp} {s : Shared} {a : Addr} {kvs : List (Key × V)} {o : Obj}
end
section
variable {X : Cx} {tg : Expr} {d : Str} {p pos apos : Pos}
end
end L2
set_option Elab.async false
set_option linter.all false
set_option maxRecDepth 100000
set_option maxHeartbeats 4000000
namespace L2
open PySem PySem.Spec PyProof.Rows
section
variable {X : Cx} {F : FS} {B G H : Hp} {δ : En} {σ : St} {o : Out}
end
section
variable {X : Cx} {F : FS} {x d : Str} {p pos pos' apos cpos : Pos} {body : List Stmt}
end
end L2
set_option Elab.async false
set_option linter.all false
set_option maxRecDepth 100000
set_option maxHeartbeats 4000000
namespace L2
open PySem PySem.Spec PyProof.Rows
section
variable {X : Cx} {a b e c : Expr} {pos : Pos} {F F' : FS}
end
section
variable {X : Cx} {a b e c : Expr} {pos p1 p2 : Pos} {f : FE}
end
end L2
set_option Elab.async false
set_option linter.all false
set_option maxRecDepth 100000
set_option maxHeartbeats 4000000
namespace L2
open PySem PySem.Spec PyProof.Rows
section
variable {K : PySem.W.Frag} {c r : Str} {C R R1 R2 R3 R4 R5 : Addr} {b : Bool}
end
end L2
set_option Elab.async false
set_option linter.all false
set_option maxRecDepth 100000
set_option maxHeartbeats 4000000
namespace L2
open PySem PySem.Spec PyProof.Rows
section
variable {prog : Program} {w : World} {A : Around} {E : Value → Shared → Prop} {h : Heap} {g : Array GenState} {d : Drawn} {t : Nat} {os : OsState} {C fI : Addr}
end
end L2
set_option Elab.async false
set_option linter.all false
set_option maxRecDepth 100000
set_option maxHeartbeats 4000000
namespace L2
open PySem PySem.Spec PyProof.Rows PySem.Builtin PySem.Builtin.ObjectAttr
section
variable {prog : Program} {w : World} {A : Around} {E : Value → Shared → Prop} {s : Shared} {K : PySem.W.Frag} {e C : Addr} {ox : Obj} {name : Str} {v : Value}
end
end L2
set_option Elab.async false
set_option linter.all false
set_option maxRecDepth 100000
set_option maxHeartbeats 4000000
namespace L2
open PySem PySem.Spec PyProof.Rows
end L2
set_option Elab.async false
set_option linter.all false
set_option maxRecDepth 100000
set_option maxHeartbeats 4000000
namespace L2
open PySem PySem.Spec PyProof.Rows
section
variable {X : Cx} {o value : Expr} {f : Str} {pos pos' : Pos} {ta tv : TE}
end
end L2
set_option Elab.async false
set_option linter.all false
set_option maxRecDepth 100000
set_option maxHeartbeats 4000000
namespace L2
open PySem PySem.Spec PyProof.Rows
section
variable {X : Cx} {e0 : Expr} {np cpos pos : Pos} {c attr : Str} {C f : Addr} {fd : FuncData} {ps : List Str} {k : Nat} {ta : TA}
end
end L2
set_option Elab.async false
set_option linter.all false
set_option maxRecDepth 100000
set_option maxHeartbeats 4000000
namespace L2
open PySem PySem.Spec PyProof.Rows
section
variable {X : Cx} {x attr : Str} {e : Expr} {p pos : Pos} {ta : TE}
end
end L2
set_option Elab.async false
set_option linter.all false
set_option maxRecDepth 100000
set_option maxHeartbeats 4000000
namespace L2
open PySem PySem.Spec PyProof.Rows
def whileN (c : En → Option Bool) (F : FS) : Nat → FS
  | 0 => fun _ => none
  | n + 1 => fun δ => match c δ with
    | some false => some (.nx δ)
    | some true => match F δ with
      | some (.nx δ') => whileN c F n δ'
      | some (.ct δ') => whileN c F n δ'
      | some (.bk δ') => some (.nx δ')
      | some (.ex x δ') => some (.ex x δ')
      | some (.rt d δ') => some (.rt d δ')
      | none => none
    | none => none
@[simp] def sWhile (c : En → Option Bool) (F : FS) : FS := whileN c F 1000
section
variable {X : Cx} {c : En → Option Bool} {F : FS} {e : Expr} {body : List Stmt} {pos : Pos}
theorem psd_while (hp : PassesOwn (model X.prog X.w) X.A X.env X.xe) (hc : PDT X e c) (hb : PSsD X body F) : PSD X (.While e body [] pos) (sWhile c F) := by
  obtain ⟨tc, pc, kc⟩ := hc
  obtain ⟨tb, pb, kb⟩ := hb
  refine ⟨_, ps_while hp pc pb, fun B G H δ σ o D sG sB rs e w => ?_⟩
  unfold sWhile at e
  refine ⟨fun m σ' H' => ∃ G' δ', Stp B G G' H' ∧ RepS X.K B G' H' δ' σ' ∧ whileN c F m δ' = some o, ⟨1000, G, δ, Stp.refl sG sB, rs, e⟩, ?_⟩
  rintro m σ1 H1 ⟨G1, δ1, st1, rs1, e1⟩
  cases m with
  | zero => cases e1
  | succ m =>
    unfold whileN at e1
    cases ec : c δ1 with
    | none => rw [ec] at e1; cases e1
    | some b =>
      rw [ec] at e1
      refine kc B G1 H1 δ1 σ1 b _ st1.s rs1 ec fun G2 H2 g2 => ?_
      have st2 : Stp B G G2 H2 := st1.trans (g2.stp st1.b)
      cases b with
      | false =>
        cases e1
        exact w σ1 G2 H2 st2 (rs1.grow g2)
      | true =>
        rw [if_pos rfl]
        dsimp only at e1
        refine ⟨fun σ' H' => ∃ m', m' < m + 1 ∧ ∃ G' δ', Stp B G G' H' ∧ RepS X.K B G' H' δ' σ' ∧ whileN c F m' δ' = some o, fun _ _ h => h, ?_⟩
        cases eF : F δ1 with
        | none => rw [eF] at e1; cases e1
        | some u =>
          rw [eF] at e1
          refine kb B G2 H2 δ1 σ1 u _ st2.s st2.b (rs1.grow g2) eF ?_
          cases u with
          | nx δ2 => exact fun σ' G' H' a r => ⟨m, Nat.lt_succ_self m, G', δ2, st2.trans a, r, e1⟩
          | ct δ2 => exact fun σ' G' H' a r => ⟨m, Nat.lt_succ_self m, G', δ2, st2.trans a, r, e1⟩
          | bk δ2 => cases e1; exact fun σ' G' H' a r => w σ' G' H' (st2.trans a) r
          | ex x δ2 => cases e1; exact fun pins σ' G' H' s' e C od I a => w pins σ' G' H' s' e C od I (st2.trans a)
          | rt r δ2 =>
            cases e1
            cases r with
            | sh d => exact fun v σ' G' H' a => w v σ' G' H' (st2.trans a)
            | fr m => exact fun p vs σ' G' H' a => w p vs σ' G' H' (st2.trans a)
end
end L2
set_option Elab.async false
set_option linter.all false
set_option maxRecDepth 100000
set_option maxHeartbeats 4000000
namespace L2
open PySem PySem.Spec PyProof.Rows
section
variable {X : Cx}
end
end L2
set_option Elab.async false
set_option linter.all false
set_option maxRecDepth 100000
set_option maxHeartbeats 4000000
namespace L2
open PySem PySem.Spec PyProof.Rows
section
variable {X : Cx}
end
end L2
set_option Elab.async false
set_option linter.all false
set_option maxRecDepth 100000
set_option maxHeartbeats 4000000
namespace L2
open PySem PySem.Spec PyProof.Rows
section
variable {X : Cx}
end
end L2
set_option Elab.async false
set_option linter.all false
set_option maxRecDepth 100000
set_option maxHeartbeats 4000000
namespace L2
open PySem PySem.Spec PyProof.Rows
section
variable {X : Cx} {pins : List (Addr × Obj)} {σ : St} {H : Hp} {s : Shared} {a b : Addr} {A : Around} {E : Value → Shared → Prop} {ts : List (List Key)} {as : List Addr} {k : List Key}
end
section
variable {X : Cx} {pos pos' : Pos} {o i : Expr} {td ty : TE}
end
end L2
set_option Elab.async false
set_option linter.all false
set_option maxRecDepth 100000
set_option maxHeartbeats 4000000
namespace L2
open PySem PySem.Spec PyProof.Rows
open Classical in
section
variable {X : Cx} {x : Str} {pos pos' p pt pv : Pos}
end
end L2
set_option Elab.async false
set_option linter.all false
set_option maxRecDepth 100000
set_option maxHeartbeats 4000000
namespace L2
open PySem PySem.Spec PyProof.Rows
section
variable {prog : Program} {w : World} {A : Around} {E : Value → Shared → Prop} {s : Shared} {it d : Addr} {i ep : Nat} {es : Array DictEntry}
end
end L2
set_option Elab.async false
set_option linter.all false
set_option maxRecDepth 100000
set_option maxHeartbeats 4000000
namespace L2
open PySem PySem.Spec PyProof.Rows
section
variable {X : Cx}
end
end L2
set_option Elab.async false
set_option linter.all false
set_option maxRecDepth 100000
set_option maxHeartbeats 4000000
namespace L2
open PySem PySem.W PyProof.Rows
section
variable {lt : Nat → Nat → Bool}
end
end L2
set_option Elab.async false
set_option linter.all false
set_option maxRecDepth 100000
set_option maxHeartbeats 4000000
namespace L2
open PySem PySem.Spec PySem.W PyProof.Rows
mutual
def ltA : D → D → Option Bool
  | .int i, y => match y with | .int j => some (decide (i < j)) | _ => none
  | .str x, y => match y with | .str z => some (decide (x.cps.toList < z.cps.toList)) | _ => none
  | .tup xs, y => match y with | .tup ys => ltAs xs ys | _ => none
  | .lst xs, y => match y with | .lst ys => ltAs xs ys | _ => none
  | .non, _ => none
  | .bl _, _ => none
  | .dic _ _, _ => none
  | .obj _ _ _, _ => none
def ltAs : List D → List D → Option Bool
  | [], ys => some (!ys.isEmpty)
  | x :: xs, ys => match ys with | [] => some false | y :: ys => if eqA x y = true then ltAs xs ys else ltA x y
end
def ltE : D → D → Option D := fun x y => if plainN 8 x = true ∧ plainN 8 y = true then (ltA x y).map .bl else none
def isnB : D → D → Option D | .bl i, .bl j => some (.bl (!(i == j))) | _, _ => none
def notA (x y : D) : Option D := (isN true x y).or (isnB x y)
end L2
set_option Elab.async false
set_option linter.all false
set_option maxRecDepth 100000
set_option maxHeartbeats 4000000
namespace L2
open PySem
open PySem.AutoSeq1 (wpAny_loadPart')
open PySem.MeetsSeq PySem.MeetsSeq2 PySem.MeetsSeq3 PySem.SeqRoads2 PySem.SeqAt
def LtRc (A : Around) (s : Shared) (y x : Value) (b : Bool) : Prop :=
  ∀ (prog : Program) (w : World) (E : Value → Shared → Prop) (Q : Value → Shared → Prop), Q (.bool b) s → wpAny (model prog w) A (richCompare .Lt y x) Q E s
def lexF (e t : Nat → Bool) (fin : Bool) : List Nat → Bool
  | [] => fin
  | j :: js => if e j = true then lexF e t fin js else t j
theorem tuple_ltAt (l b : Addr) (items items2 : Array Value) (n n2 : Nat) (dd dd2 : Option Addr) (sl sl2 : Array (Option Value)) (e t : Nat → Bool) :
    Meets (Builtin.«tuple.__lt__» ⟨[.ref l, .ref b], []⟩)
      (fun A R s => s.heap.get? l = some { cls := .type "tuple", dict := dd, data := .seq items n, slots := sl } ∧ s.heap.get? b = some { cls := .type "tuple", dict := dd2, data := .seq items2 n2, slots := sl2 } ∧
        (∀ j (h1 : j < items.size) (h2 : j < items2.size), EqAt A.in1 s items[j] items2[j] (e j)) ∧ (∀ j (h1 : j < items.size) (h2 : j < items2.size), (∀ m, m < j → e m = true) → e j = false → LtRc A.in1 s items[j] items2[j] (t j)) ∧
        R (.ok (.ret (.bool (lexF e t (decide (items.size < items2.size)) (List.range (min items.size items2.size)))))) s) :=
  .of_wp fun prog w A R s h => by
    obtain ⟨hp, g, d, tk, os⟩ := s; obtain ⟨hl, hb, he, ht, h⟩ := h
    have f2 := AutoSeq1.sub_tuple_tuple
    have hZ : (items.toList.zip items2.toList).length = min items.size items2.size := by simp
    wp_walk using wpAny_loadPart' hl, wpAny_loadPart' hb, wpAny_forIn_list _ (fun rest b s' => b.1 = none ∧ s' = ⟨hp, g, d, tk, os⟩ ∧ ∃ i, rest = (items.toList.zip items2.toList).drop i ∧ (∀ m, m < i → e m = true) ∧
      R (.ok (.ret (.bool (lexF e t (decide (items.size < items2.size)) ((List.range (min items.size items2.size)).drop i))))) ⟨hp, g, d, tk, os⟩) _
    case turn =>
      rintro ⟨y, x⟩ rest b s' ⟨hb', rfl, i, hz, hal, hR⟩
      have hlt : i < (items.toList.zip items2.toList).length := by
        rcases Nat.lt_or_ge i (items.toList.zip items2.toList).length with h' | h'
        · exact h'
        · rw [List.drop_of_length_le h'] at hz; cases hz
      have hm : i < min items.size items2.size := hZ ▸ hlt
      have h1 : i < items.size := Nat.lt_of_lt_of_le hm (Nat.min_le_left _ _)
      have h2 : i < items2.size := Nat.lt_of_lt_of_le hm (Nat.min_le_right _ _)
      rw [List.drop_eq_getElem_cons hlt] at hz
      injection hz with hyx hrest
      have hy : y = items[i] := by have := congrArg Prod.fst hyx; simpa using this
      have hx : x = items2[i] := by have := congrArg Prod.snd hyx; simpa using this
      subst hy hx
      have hd : (List.range (min items.size items2.size)).drop i = i :: (List.range (min items.size items2.size)).drop (i + 1) := by simp [List.drop_eq_getElem_cons, hm]
      rw [hd] at hR
      refine wpAny_bind (he i h1 h2 prog w _ _ ?_)
      cases hy : e i with
      | true =>
        have hR : R (.ok (.ret (.bool (lexF e t (decide (items.size < items2.size)) ((List.range (min items.size items2.size)).drop (i + 1)))))) ⟨hp, g, d, tk, os⟩ := by
          simpa only [lexF, hy, if_true] using hR
        wp_walk
        exact ⟨rfl, rfl, i + 1, hrest, fun m hm' => (Nat.lt_succ_iff_lt_or_eq.mp hm').elim (hal m) fun z => z ▸ hy, hR⟩
      | false =>
        have hR : R (.ok (.ret (.bool (t i)))) ⟨hp, g, d, tk, os⟩ := by
          simpa only [lexF, hy, Bool.false_eq_true, if_false] using hR
        generalize hRC : richCompare = RC
        wp_walk
        subst hRC
        refine ht i h1 h2 hal hy prog w _ _ ?_
        wp_walk
        exact ⟨_, rfl, hR⟩
    case fin =>
      rintro ⟨b1, b2⟩ s' ⟨hb', rfl, i, hz, hal, hR⟩
      simp only at hb'
      subst hb'
      have hge : min items.size items2.size ≤ i := by
        rcases Nat.lt_or_ge i (items.toList.zip items2.toList).length with h' | h'
        · rw [List.drop_eq_getElem_cons h'] at hz; cases hz
        · exact hZ ▸ h'
      rw [List.drop_of_length_le (by simpa using hge)] at hR
      wp_walk
      exact ⟨_, rfl, by simpa [Builtin.Tuple.tupleCompareSizes, lexF] using hR⟩
    case h =>
      exact ⟨rfl, rfl, 0, rfl, fun m hm => absurd hm (Nat.not_lt_zero m), by simpa using h⟩
theorem lt_loopAt (l b : Addr) (items items2 : Array Value) (n n2 : Nat) (dd dd2 : Option Addr) (sl sl2 : Array (Option Value)) (e t : Nat → Bool) (k : Nat) :
    ∀ i : Nat, min items.size items2.size - i = k → i ≤ min items.size items2.size → (∀ m, m < i → e m = true) → Meets (Builtin.«list.__eq__.loop» ⟨[.ref l, .ref b, rawInt i, rawInt 0], []⟩)
      (fun A R s => s.heap.get? l = some { cls := .type "list", dict := dd, data := .seq items n, slots := sl } ∧ s.heap.get? b = some { cls := .type "list", dict := dd2, data := .seq items2 n2, slots := sl2 } ∧
        (∀ j (h1 : j < items.size) (h2 : j < items2.size), EqAt A.in1 s items[j] items2[j] (e j)) ∧ (∀ j (h1 : j < items.size) (h2 : j < items2.size), (∀ m, m < j → e m = true) → e j = false → LtRc A.in1 s items[j] items2[j] (t j)) ∧
        R (.ok (.ret (.bool (lexF e t (decide (items.size < items2.size)) ((List.range (min items.size items2.size)).drop i))))) s) := by
  induction k with
  | zero =>
    intro i hk hle hal prog w A R s h
    obtain ⟨hp, g, d, tk, os⟩ := s; obtain ⟨hl, hb, he, ht, h⟩ := h
    wp_walk using wpAny_loadPart' hl, wpAny_loadPart' hb
    have hd : (List.range (min items.size items2.size)).drop i = [] := by simp; omega
    rw [hd] at h
    have hR : R (.ok (.ret (.bool (decide (items.size < items2.size))))) ⟨hp, g, d, tk, os⟩ := h
    by_cases c : i < items.size
    · have hi1 : items[((i : Nat) : Int).toNat]? = some items[i] := by simp [c]
      have hi2 : items2[((i : Nat) : Int).toNat]? = none := by simp; omega
      rw [hi1, hi2]
      wp_walk using wpAny_loadPart' hl, wpAny_loadPart' hb
      exact hR
    · have hi1 : items[((i : Nat) : Int).toNat]? = none := by simp; omega
      rw [hi1]
      by_cases c2 : i < items2.size
      · have hi2 : items2[((i : Nat) : Int).toNat]? = some items2[i] := by simp [c2]
        rw [hi2]
        wp_walk using wpAny_loadPart' hl, wpAny_loadPart' hb
        exact hR
      · have hi2 : items2[((i : Nat) : Int).toNat]? = none := by simp; omega
        rw [hi2]
        wp_walk using wpAny_loadPart' hl, wpAny_loadPart' hb
        exact hR
  | succ k ih =>
    intro i hk hle hal prog w A R s h
    obtain ⟨hp, g, d, tk, os⟩ := s; obtain ⟨hl, hb, he, ht, h⟩ := h
    wp_walk using wpAny_loadPart' hl, wpAny_loadPart' hb
    have hlt : i < items.size := by omega
    have hlt2 : i < items2.size := by omega
    have hi1 : items[((i : Nat) : Int).toNat]? = some items[i] := by simp [hlt]
    have hi2 : items2[((i : Nat) : Int).toNat]? = some items2[i] := by simp [hlt2]
    have hm : i < min items.size items2.size := by omega
    have hd : (List.range (min items.size items2.size)).drop i = i :: (List.range (min items.size items2.size)).drop (i + 1) := by simp [List.drop_eq_getElem_cons, hm]
    have hc : ((i : Int) + 1) = ((i + 1 : Nat) : Int) := by push_cast; rfl
    rw [hd] at h
    rw [hi1, hi2]
    refine wpAny_bind (he i hlt hlt2 prog w _ _ ?_)
    cases hb' : e i with
    | true =>
      have h : R (.ok (.ret (.bool (lexF e t (decide (items.size < items2.size)) ((List.range (min items.size items2.size)).drop (i + 1)))))) ⟨hp, g, d, tk, os⟩ := by
        simpa only [lexF, hb', if_true] using h
      wp_walk
      rw [hc]
      exact ⟨plainId_quiet plain_eq_loop _, codeAny_builtin entry_eq_loop (by
        rw [Around.under_plainId plain_eq_loop _]
        exact ih (i + 1) (by omega) (by omega) (fun m hm' => (Nat.lt_succ_iff_lt_or_eq.mp hm').elim (hal m) fun z => z ▸ hb') prog w A R _ ⟨hl, hb, he, ht, h⟩)⟩
    | false =>
      have h : R (.ok (.ret (.bool (t i)))) ⟨hp, g, d, tk, os⟩ := by
        simpa only [lexF, hb', Bool.false_eq_true, if_false] using h
      generalize hRC : richCompare = RC
      wp_walk using wpAny_loadPart' hl, wpAny_loadPart' hb
      rw [hi1, hi2]
      wp_walk
      subst hRC
      refine ht i hlt hlt2 hal hb' prog w _ _ ?_
      wp_walk
      exact h
theorem list_ltAt (l b : Addr) (items items2 : Array Value) (n n2 : Nat) (dd dd2 : Option Addr) (sl sl2 : Array (Option Value)) (e t : Nat → Bool) :
    Meets (Builtin.«list.__lt__» ⟨[.ref l, .ref b], []⟩)
      (fun A R s => s.heap.get? l = some { cls := .type "list", dict := dd, data := .seq items n, slots := sl } ∧ s.heap.get? b = some { cls := .type "list", dict := dd2, data := .seq items2 n2, slots := sl2 } ∧
        (∀ j (h1 : j < items.size) (h2 : j < items2.size), EqAt A.in1 s items[j] items2[j] (e j)) ∧ (∀ j (h1 : j < items.size) (h2 : j < items2.size), (∀ m, m < j → e m = true) → e j = false → LtRc A.in1 s items[j] items2[j] (t j)) ∧
        R (.ok (.ret (.bool (lexF e t (decide (items.size < items2.size)) (List.range (min items.size items2.size)))))) s) := by
  intro prog w A R s h
  obtain ⟨hp, g, d, tk, os⟩ := s; obtain ⟨hl, hb, he, ht, h⟩ := h
  have f3 := AutoSeq1.sub_list_list
  wp_walk using wpAny_loadPart' hl, wpAny_loadPart' hb
  exact ⟨plainId_quiet plain_eq_loop _, codeAny_builtin entry_eq_loop (by
    rw [Around.under_plainId plain_eq_loop _]
    exact lt_loopAt l b items items2 n n2 dd dd2 sl sl2 e t _ 0 rfl (Nat.zero_le _) (fun m hm => absurd hm (Nat.not_lt_zero m)) prog w A R _ ⟨hl, hb, he, ht, by simpa using h⟩)⟩
section
variable {A : Around} {s : Shared}
theorem LtRc.lists {l b : Addr} {items items2 : Array Value} {e t : Nat → Bool} (hl : s.heap.IsList l items) (hb : s.heap.IsList b items2) (hu : A.units < cLine)
    (he : ∀ j (h1 : j < items.size) (h2 : j < items2.size), EqAt A.in1 s items[j] items2[j] (e j)) (ht : ∀ j (h1 : j < items.size) (h2 : j < items2.size), (∀ m, m < j → e m = true) → e j = false → LtRc A.in1 s items[j] items2[j] (t j)) :
    LtRc A s (.ref l) (.ref b) (lexF e t (decide (items.size < items2.size)) (List.range (min items.size items2.size))) := fun prog w E Q h => by
  obtain ⟨⟨cls, dd, data, sl⟩, ho, hc, n, hd⟩ := id hl
  obtain ⟨⟨cls2, dd2, data2, sl2⟩, ho2, hc2, n2, hd2⟩ := id hb
  simp only at hc hd hc2 hd2
  subst hc hd hc2 hd2
  exact richCompare_meets_room (op := .Lt) ⟨_, ho, rfl⟩ ⟨_, ho2, rfl⟩ F.slot_list_lt F.entry_list_lt (F.args_list_lt_2 _ _) (list_ltAt l b items items2 n n2 dd dd2 sl sl2 e t)
    ⟨ho, ho2, he, ht, show Value.bool _ ≠ Value.notImplemented ∧ Q (.bool _) s from ⟨(fun x => nomatch x), h⟩⟩ hu
theorem LtRc.tuples {l b : Addr} {items items2 : Array Value} {e t : Nat → Bool} (hl : s.heap.IsTuple l items) (hb : s.heap.IsTuple b items2) (hu : A.units < cLine)
    (he : ∀ j (h1 : j < items.size) (h2 : j < items2.size), EqAt A.in1 s items[j] items2[j] (e j)) (ht : ∀ j (h1 : j < items.size) (h2 : j < items2.size), (∀ m, m < j → e m = true) → e j = false → LtRc A.in1 s items[j] items2[j] (t j)) :
    LtRc A s (.ref l) (.ref b) (lexF e t (decide (items.size < items2.size)) (List.range (min items.size items2.size))) := fun prog w E Q h => by
  obtain ⟨⟨cls, dd, data, sl⟩, ho, hc, n, hd⟩ := id hl
  obtain ⟨⟨cls2, dd2, data2, sl2⟩, ho2, hc2, n2, hd2⟩ := id hb
  simp only at hc hd hc2 hd2
  subst hc hd hc2 hd2
  exact richCompare_meets_room (op := .Lt) ⟨_, ho, rfl⟩ ⟨_, ho2, rfl⟩ F.slot_tuple_lt F.entry_tuple_lt (F.args_tuple_lt_2 _ _) (tuple_ltAt l b items items2 n n2 dd dd2 sl sl2 e t)
    ⟨ho, ho2, he, ht, show Value.bool _ ≠ Value.notImplemented ∧ Q (.bool _) s from ⟨(fun x => nomatch x), h⟩⟩ hu
theorem LtRc.int (a b : Int) (t u : Tok) : LtRc A s (.int a t) (.int b u) (decide (a < b)) := fun prog w E Q h => PyProof.Rows.lt_int h
theorem LtRc.str (a b : Str) (t u : Tok) : LtRc A s (.str a t) (.str b u) (decide (a.cps.toList < b.cps.toList)) := fun prog w E Q h => PyProof.Rows.lt_str h
end
end L2
set_option Elab.async false
set_option linter.all false
set_option maxRecDepth 100000
set_option maxHeartbeats 4000000
namespace L2
open PySem PySem.Spec PyProof.Rows
theorem lexF_map (e t : Nat → Bool) (fin : Bool) (f : Nat → Nat) : ∀ l : List Nat, lexF e t fin (l.map f) = lexF (fun j => e (f j)) (fun j => t (f j)) fin l
  | [] => rfl
  | j :: l => by
    simp only [List.map_cons, lexF]
    rw [lexF_map e t fin f l]
def eAt (xs ys : List D) (j : Nat) : Bool := eqA (xs.getD j .non) (ys.getD j .non)
def tAt (xs ys : List D) (j : Nat) : Bool := (ltA (xs.getD j .non) (ys.getD j .non)).getD false
theorem lex_ltAs : ∀ {xs ys : List D} {b : Bool}, ltAs xs ys = some b → lexF (eAt xs ys) (tAt xs ys) (decide (xs.length < ys.length)) (List.range (min xs.length ys.length)) = b
  | [], ys, b, h => by
    simp only [ltAs, Option.some.injEq] at h
    simp only [List.length_nil, Nat.zero_min, List.range_zero, lexF]
    rw [← h]
    cases ys <;> simp
  | x :: xs, [], b, h => by
    simp only [ltAs, Option.some.injEq] at h
    simp only [List.length_nil, Nat.min_zero, List.range_zero, lexF]
    rw [← h]
    simp
  | x :: xs, y :: ys, b, h => by
    simp only [ltAs] at h
    have e1 : min (x :: xs).length (y :: ys).length = min xs.length ys.length + 1 := by simp only [List.length_cons]; omega
    rw [e1, List.range_succ_eq_map, lexF, lexF_map]
    by_cases c : eqA x y = true
    · rw [if_pos c] at h
      rw [if_pos (show eAt (x :: xs) (y :: ys) 0 = true from c)]
      have := lex_ltAs h
      have e2 : decide ((x :: xs).length < (y :: ys).length) = decide (xs.length < ys.length) := by simp only [List.length_cons, Nat.add_lt_add_iff_right]
      rw [e2]
      exact this
    · rw [if_neg c] at h
      rw [if_neg (show ¬ eAt (x :: xs) (y :: ys) 0 = true from c)]
      show (ltA x y).getD false = b
      rw [h]; rfl
theorem first_ltAs : ∀ {xs ys : List D} {b : Bool}, ltAs xs ys = some b → ∀ j, j < xs.length → j < ys.length → (∀ m, m < j → eAt xs ys m = true) → eAt xs ys j = false → ltA (xs.getD j .non) (ys.getD j .non) = some (tAt xs ys j)
  | [], ys, b, h, j, h1, h2, ha, hf => absurd h1 (Nat.not_lt_zero j)
  | x :: xs, [], b, h, j, h1, h2, ha, hf => absurd h2 (Nat.not_lt_zero j)
  | x :: xs, y :: ys, b, h, 0, h1, h2, ha, hf => by
    simp only [ltAs] at h
    rw [if_neg (show ¬ eqA x y = true from fun z => by rw [show eAt (x :: xs) (y :: ys) 0 = true from z] at hf; cases hf)] at h
    show ltA x y = some ((ltA x y).getD false)
    rw [h]; rfl
  | x :: xs, y :: ys, b, h, j + 1, h1, h2, ha, hf => by
    simp only [ltAs] at h
    rw [if_pos (show eqA x y = true from ha 0 (Nat.zero_lt_succ j))] at h
    exact first_ltAs h j (by simpa using h1) (by simpa using h2) (fun m hm => ha (m + 1) (by omega)) hf
section
variable {X : Cx} {pins : List (Addr × Obj)} {σ : St} {H : Hp} {s : Shared}
theorem ltRc_A (I : Inv X pins σ H s) : ∀ (n : Nat) {x y : D} {v v' : V} {u u' : Value} {A : Around} {b : Bool}, plainN n x = true → plainN n y = true → ltA x y = some b → Rep X.K H x v → Rep X.K H y v' → RelV v u → RelV v' u' → A.units + n < cLine → LtRc A s u u' b := by
  intro n
  have ff : ∀ {x y : D} {v v' : V} {u u' : Value} {A : Around} {b : Bool}, (∀ xs, x ≠ .tup xs) → (∀ xs, x ≠ .lst xs) → ltA x y = some b → Rep X.K H x v → Rep X.K H y v' → RelV v u → RelV v' u' → LtRc A s u u' b := by
    intro x y v v' u u' A b n1 n2 h rx ry r r'
    cases x with
    | tup xs => exact absurd rfl (n1 xs)
    | lst xs => exact absurd rfl (n2 xs)
    | non => simp only [ltA] at h; cases h
    | bl _ => simp only [ltA] at h; cases h
    | dic _ _ => simp only [ltA] at h; cases h
    | obj _ _ _ => simp only [ltA] at h; cases h
    | int i =>
      cases y <;> simp only [ltA] at h <;> cases h
      simp only [Rep] at rx ry
      subst rx ry
      obtain ⟨t, rfl⟩ := r
      obtain ⟨t', rfl⟩ := r'
      exact LtRc.int _ _ _ _
    | str i =>
      cases y <;> simp only [ltA] at h <;> cases h
      simp only [Rep] at rx ry
      subst rx ry
      obtain ⟨t, rfl⟩ := r
      obtain ⟨t', rfl⟩ := r'
      exact LtRc.str _ _ _ _
  induction n with
  | zero =>
    intro x y v v' u u' A b px py h rx ry r r' hu
    refine ff ?_ ?_ h rx ry r r'
    · intro xs e; subst e; cases px
    · intro xs e; subst e; cases px
  | succ n ih =>
    intro x y v v' u u' A b px py h rx ry r r' hu
    have items : ∀ {xs ys : List D} {vs us : List V} {its its2 : List Value}, ltAs xs ys = some b → xs.all (plainN n) = true → ys.all (plainN n) = true → RepL X.K H xs vs → RepL X.K H ys us → Vals vs its → Vals us its2 →
        ∀ j (h1 : j < its.toArray.size) (h2 : j < its2.toArray.size), (∀ m, m < j → eAt xs ys m = true) → eAt xs ys j = false → LtRc A.in1 s its.toArray[j] its2.toArray[j] (tAt xs ys j) := fun {xs ys vs us its its2} hlt p1 p2 r1 r2 v1 v2 j h1 h2 ha hf => by
      have l1 := r1.length
      have l2 := r2.length
      have l3 := v1.length
      have l4 := v2.length
      have j1 : j < xs.length := by simp at h1; omega
      have j2 : j < ys.length := by simp at h2; omega
      have e1 : xs[j]? = some (xs.getD j .non) := by rw [List.getD_eq_getElem?_getD, List.getElem?_eq_getElem j1]; rfl
      have e2 : ys[j]? = some (ys.getD j .non) := by rw [List.getD_eq_getElem?_getD, List.getElem?_eq_getElem j2]; rfl
      obtain ⟨w1, g1, q1⟩ := r1.get e1
      obtain ⟨w2, g2, q2⟩ := r2.get e2
      obtain ⟨u1, k1, k2⟩ := v1.get g1
      obtain ⟨u2, k3, k4⟩ := v2.get g2
      have t1 : its.toArray[j] = u1 := by
        obtain ⟨_, z⟩ := List.getElem?_eq_some_iff.mp k1
        simpa using z
      have t2 : its2.toArray[j] = u2 := by
        obtain ⟨_, z⟩ := List.getElem?_eq_some_iff.mp k3
        simpa using z
      rw [t1, t2]
      exact ih (List.all_eq_true.mp p1 _ (List.mem_of_getElem? e1)) (List.all_eq_true.mp p2 _ (List.mem_of_getElem? e2)) (first_ltAs hlt j j1 j2 ha hf) q1 q2 k2 k4 (by rw [in1_units]; omega)
    cases x with
    | tup xs =>
      cases y <;> simp only [ltA] at h <;> try cases h
      rename_i ys
      simp only [Rep] at rx ry
      obtain ⟨a, vs, rfl, h1, h2⟩ := rx
      obtain ⟨b', us, rfl, h3, h4⟩ := ry
      cases r
      cases r'
      obtain ⟨its, v1, p1, _⟩ := I.tuple h1
      obtain ⟨its2, v2, p2, _⟩ := I.tuple h3
      have q := LtRc.tuples (A := A) (e := eAt xs ys) (t := tAt xs ys) p1 p2 (by omega) (items_A I n (by rw [in1_units]; omega) px py h2 h4 v1 v2) (items h px py h2 h4 v1 v2)
      have z1 : its.toArray.size = xs.length := by simp [h2.length, v1.length]
      have z2 : its2.toArray.size = ys.length := by simp [h4.length, v2.length]
      rw [z1, z2, lex_ltAs h] at q
      exact q
    | lst xs =>
      cases y <;> simp only [ltA] at h <;> try cases h
      rename_i ys
      simp only [Rep] at rx ry
      obtain ⟨a, vs, rfl, h1, h2⟩ := rx
      obtain ⟨b', us, rfl, h3, h4⟩ := ry
      cases r
      cases r'
      obtain ⟨its, v1, p1, _⟩ := I.list h1
      obtain ⟨its2, v2, p2, _⟩ := I.list h3
      have q := LtRc.lists (A := A) (e := eAt xs ys) (t := tAt xs ys) p1.isList p2.isList (by omega) (items_A I n (by rw [in1_units]; omega) px py h2 h4 v1 v2) (items h px py h2 h4 v1 v2)
      have z1 : its.toArray.size = xs.length := by simp [h2.length, v1.length]
      have z2 : its2.toArray.size = ys.length := by simp [h4.length, v2.length]
      rw [z1, z2, lex_ltAs h] at q
      exact q
    | _ => exact ff (fun _ z => by cases z) (fun _ z => by cases z) h rx ry r r'
end
section
variable {X : Cx}
def rLtA (K : PySem.W.Frag) : R2 := fun v u H Q => ∃ x y b, Rep K H x v ∧ Rep K H y u ∧ plainN 8 x = true ∧ plainN 8 y = true ∧ ltA x y = some b ∧ Q (.bl b) H
theorem op_ltA (hu : X.A.units + 20 < cLine) : OpR X (compareOp .Lt) (rLtA X.K) := by
  intro pins s σ H x y v u Q I rx ry h
  obtain ⟨dx, dy, b, r1, r2, p1, p2, e, q⟩ := h
  exact ltRc_A I 8 p1 p2 e r1 r2 rx ry (by omega) X.prog X.w _ _ ⟨.bl b, H, I, rfl, q⟩
theorem od_ltE (hu : X.A.units + 20 < cLine) : OpD X (compareOp .Lt) ltE := by
  refine ⟨_, op_ltA hu, fun G H x y v u d Q sG rx ry e k => ?_⟩
  unfold ltE at e
  split at e
  · rename_i hc
    obtain ⟨b, e1, rfl⟩ := Option.map_eq_some_iff.mp e
    exact ⟨x, y, b, rx.all sG, ry.all sG, hc.1, hc.2, e1, k _ G H (Grow.refl sG) (by simp [Rep])⟩
  · cases e
end
end L2
set_option Elab.async false
set_option linter.all false
set_option maxRecDepth 100000
set_option maxHeartbeats 4000000
namespace L2
open PySem PySem.Spec PySem.W PyProof.Rows
section
variable {X : Cx} {pins : List (Addr × Obj)} {σ : St} {H : Hp} {s : Shared}
end
end L2
set_option Elab.async false
set_option linter.all false
set_option maxRecDepth 100000
set_option maxHeartbeats 4000000
namespace L2
open PySem PySem.Spec PySem.W PyProof.Rows
section
variable {X : Cx} {pins : List (Addr × Obj)} {σ : St} {H : Hp} {s : Shared}
end
end L2
set_option Elab.async false
set_option linter.all false
set_option maxRecDepth 100000
set_option maxHeartbeats 4000000
namespace L2
open PySem PySem.Spec PyProof.Rows
end L2
set_option Elab.async false
set_option linter.all false
set_option maxRecDepth 100000
set_option maxHeartbeats 4000000
namespace L2
open PySem PySem.Spec PyProof.Rows
def Op {α : Type} (o : Option α) (R : α → Prop) : Prop := ∃ d, o = some d ∧ R d
def So (o : Option Out) (N : En → Prop) (T : Rs → En → Prop) : Prop := ∃ u, o = some u ∧ match u with | .nx δ => N δ | .rt r δ => T r δ | _ => False
theorem Op.eq {α : Type} {o : Option α} {d : α} (h : Op o fun x => x = d) : o = some d := by obtain ⟨x, e, rfl⟩ := h; exact e
theorem op_of {α : Type} {o : Option α} {d : α} {R : α → Prop} (e : o = some d) (h : R d) : Op o R := ⟨d, e, h⟩
theorem So.mono {o : Option Out} {N N' : En → Prop} {T T' : Rs → En → Prop} (h : So o N T) (k : ∀ δ, N δ → N' δ) (k' : ∀ r δ, T r δ → T' r δ) : So o N' T' := by
  obtain ⟨u, e, h⟩ := h
  refine ⟨u, e, ?_⟩
  cases u with
  | nx δ => exact k δ h
  | rt r δ => exact k' r δ h
  | bk δ => exact h
  | ct δ => exact h
  | ex c δ => exact h
def IsBl (R : Bool → Prop) : D → Prop | .bl b => R b | _ => False
def IsIn (R : Int → Prop) : D → Prop | .int b => R b | _ => False
def IsSq (R : List D → Prop) : D → Prop | .lst xs => R xs | .tup xs => R xs | .str z => R (signs z) | _ => False
def PubR (R : D → Prop) (r : Rs) : Prop := R r.d
def SetK (N : En → Prop) (δ : En) (i : Nat) (x : Sl) : Prop := N (δ.set i (some x))
def SetR (N : En → Prop) (δ : En) (i : Nat) (r : Rs) : Prop := N (δ.set i (some r.sl))
theorem pub_sh {R : D → Prop} {d : D} (k : R d) : PubR R (.sh d) := k
theorem pub_l {R : D → Prop} {xs : List D} (k : R (.lst xs)) : PubR R (.fr (.lst xs)) := k
theorem setK {N : En → Prop} {δ δ' : En} {i : Nat} {x : Sl} (e : δ.set i (some x) = δ') (k : N δ') : SetK N δ i x := by unfold SetK; rw [e]; exact k
theorem setR_fr {N : En → Prop} {δ : En} {i : Nat} {m : Mo} (k : SetK N δ i (.pv m none)) : SetR N δ i (.fr m) := k
theorem ite_t {A B : Prop} (h : A) : if true = true then A else B := h
theorem ite_f {A B : Prop} (h : B) : if false = true then A else B := h
theorem ite_rt {b : Bool} {A B : Prop} (e : b = true) (h : A) : if b = true then A else B := by rw [if_pos e]; exact h
theorem ite_rf {b : Bool} {A B : Prop} (e : b = false) (h : B) : if b = true then A else B := by rw [if_neg (by rw [e]; exact Bool.false_ne_true)]; exact h
theorem isBl_k {R : Bool → Prop} {b : Bool} (k : R b) : IsBl R (.bl b) := k
theorem isIn_k {R : Int → Prop} {b : Int} (k : R b) : IsIn R (.int b) := k
theorem isSq_l {R : List D → Prop} {b : List D} (k : R b) : IsSq R (.lst b) := k
section
variable {f g h : FE} {fr : FR} {F F' : FS} {c c' : En → Option Bool} {δ : En} {i j : Nat} {ga : En → Option (List D)} {R : D → Prop} {Rr : Rs → Prop} {N : En → Prop} {T : Rs → En → Prop}
theorem op_f2 {o : D → D → Option D} (k : Op (f δ) fun x => Op (g δ) fun y => Op (o x y) R) : Op (f2 o f g δ) R := by
  obtain ⟨x, e1, y, e2, z, e3, k⟩ := k
  exact ⟨z, by unfold f2; rw [e1, Option.bind_some, e2, Option.bind_some, e3], k⟩
theorem op_f1 {o : D → Option D} (k : Op (f δ) fun x => Op (o x) R) : Op (f1 o f δ) R := by
  obtain ⟨x, e1, z, e3, k⟩ := k
  exact ⟨z, by unfold f1; rw [e1, Option.bind_some, e3], k⟩
theorem op_varB {x : Sl} (e : δ[i]? = some (some x)) (k : R x.d) (h : x.ok = true := by rfl) : Op (fVarB i δ) R := ⟨x.d, by unfold fVarB; rw [e]; exact if_pos h, k⟩
theorem op_var {x : D} (e : δ[i]? = some (some (.sh x))) (k : R x) : Op (fVar i δ) R := ⟨x, by unfold fVar; rw [e], k⟩
theorem op_varBs {d : D} (e : δ[i]? = some (some (.sh d))) (k : R d) : Op (fVarB i δ) R := op_varB e k
theorem op_varBl {xs : List D} {o : Option Addr} (e : δ[i]? = some (some (.pv (.lst xs) o))) (k : R (.lst xs)) : Op (fVarB i δ) R := op_varB e k
theorem op_C {d : D} (k : R d) : Op (fC d δ) R := ⟨d, rfl, k⟩
theorem op_nil {R : List D → Prop} (k : R []) : Op (fNil δ) R := ⟨_, rfl, k⟩
theorem op_cons {R : List D → Prop} (k : Op (f δ) fun d => Op (ga δ) fun ds => R (d :: ds)) : Op (fCons f ga δ) R := by
  obtain ⟨x, e1, y, e2, k⟩ := k
  exact ⟨_, by unfold fCons; rw [e1, Option.bind_some, e2, Option.bind_some], k⟩
theorem op_callR {M : List D → Option Rs} (k : Op (ga δ) fun ds => Op (M ds) Rr) : Op (fCallR M ga δ) Rr := by
  obtain ⟨x, e1, y, e2, k⟩ := k
  exact ⟨_, by unfold fCallR; rw [e1, Option.bind_some, e2], k⟩
theorem op_callB {M : List D → Option D} (k : Op (ga δ) fun ds => Op (M ds) R) : Op (fCallB M ga δ) R := by
  obtain ⟨x, e1, y, e2, k⟩ := k
  exact ⟨_, by unfold fCallB; rw [e1, Option.bind_some, e2], k⟩
theorem op_pub (k : Op (fr δ) (PubR R)) : Op (fPub fr δ) R := by
  obtain ⟨x, e1, k⟩ := k
  exact ⟨_, by unfold fPub; rw [e1]; rfl, k⟩
theorem op_sh (k : Op (f δ) fun d => Rr (.sh d)) : Op (fSh f δ) Rr := by
  obtain ⟨x, e1, k⟩ := k
  exact ⟨_, by unfold fSh; rw [e1]; rfl, k⟩
theorem op_fB {R : Bool → Prop} (k : Op (f δ) (IsBl R)) : Op (fB f δ) R := by
  obtain ⟨x, e1, k⟩ := k
  cases x with
  | bl b => exact ⟨b, by unfold fB; rw [e1], k⟩
  | _ => exact k.elim
theorem op_f3 {o o' : D → D → Option D} (k : Op (f δ) fun x => Op (g δ) fun y => Op (o x y) (IsBl fun z => if z = true then Op (h δ) fun w => Op (o' y w) R else R (.bl false))) : Op (f3 o o' f g h δ) R := by
  obtain ⟨x, e1, y, e2, z, e3, k⟩ := k
  cases z with
  | bl b =>
    cases b with
    | true =>
      obtain ⟨w, e4, v, e5, k⟩ := (show Op (h δ) fun w => Op (o' y w) R from k)
      exact ⟨v, by unfold f3; rw [e1, Option.bind_some, e2, Option.bind_some, e3, Option.bind_some]; dsimp only; rw [e4, Option.bind_some, e5], k⟩
    | false => exact ⟨_, by unfold f3; rw [e1, Option.bind_some, e2, Option.bind_some, e3, Option.bind_some], k⟩
  | _ => exact k.elim
theorem op_bAnd {R : Bool → Prop} (k : Op (c δ) fun x => if x = true then Op (c' δ) R else R false) : Op (bAnd c c' δ) R := by
  obtain ⟨x, e1, k⟩ := k
  cases x with
  | true => obtain ⟨y, e2, k⟩ := (show Op (c' δ) R from k); exact ⟨y, by unfold bAnd; rw [e1, Option.bind_some, if_pos rfl, e2], k⟩
  | false => exact ⟨false, by unfold bAnd; rw [e1, Option.bind_some, if_neg Bool.false_ne_true], k⟩
theorem op_bOr {R : Bool → Prop} (k : Op (c δ) fun x => if x = true then R true else Op (c' δ) R) : Op (bOr c c' δ) R := by
  obtain ⟨x, e1, k⟩ := k
  cases x with
  | false => obtain ⟨y, e2, k⟩ := (show Op (c' δ) R from k); exact ⟨y, by unfold bOr; rw [e1, Option.bind_some, if_neg Bool.false_ne_true, e2], k⟩
  | true => exact ⟨true, by unfold bOr; rw [e1, Option.bind_some, if_pos rfl], k⟩
theorem op_bNot {R : Bool → Prop} (k : Op (c δ) fun x => R (!x)) : Op (bNot c δ) R := by
  obtain ⟨x, e1, k⟩ := k
  exact ⟨_, by unfold bNot; rw [e1]; rfl, k⟩
theorem op_fAnd (k : Op (f δ) (IsBl fun x => if x = true then Op (g δ) R else R (.bl false))) : Op (fAnd f g δ) R := by
  obtain ⟨x, e1, k⟩ := k
  cases x with
  | bl b =>
    cases b with
    | true => obtain ⟨y, e2, k⟩ := (show Op (g δ) R from k); exact ⟨y, by unfold fAnd; rw [e1]; exact e2, k⟩
    | false => exact ⟨_, by unfold fAnd; rw [e1], k⟩
  | _ => exact k.elim
theorem op_fOr (k : Op (f δ) (IsBl fun x => if x = true then R (.bl true) else Op (g δ) R)) : Op (fOr f g δ) R := by
  obtain ⟨x, e1, k⟩ := k
  cases x with
  | bl b =>
    cases b with
    | false => obtain ⟨y, e2, k⟩ := (show Op (g δ) R from k); exact ⟨y, by unfold fOr; rw [e1]; exact e2, k⟩
    | true => exact ⟨_, by unfold fOr; rw [e1], k⟩
  | _ => exact k.elim
theorem op_tup (k : Op (ga δ) fun ds => ds.length ≤ sizeLine ∧ R (.tup ds)) : Op (fTup ga δ) R := by
  obtain ⟨x, e1, k0, k⟩ := k
  exact ⟨_, by unfold fTup; rw [e1, Option.bind_some, if_pos k0], k⟩
theorem op_lstR (k : Op (ga δ) fun ds => ds.length ≤ sizeLine ∧ Rr (.fr (.lst ds))) : Op (fLstR ga δ) Rr := by
  obtain ⟨x, e1, k0, k⟩ := k
  exact ⟨_, by unfold fLstR; rw [e1, Option.bind_some, if_pos k0], k⟩
theorem op_is {s : String} (k : Op (f δ) fun d => isOb d = false ∧ R (.bl (isTy s d))) : Op (fIs s f δ) R := by
  obtain ⟨x, e1, k0, k⟩ := k
  exact ⟨_, by unfold fIs; rw [e1, Option.bind_some, k0]; rfl, k⟩
theorem op_oSeq {R : List D → Prop} (k : Op (f δ) (IsSq R)) : Op (oSeq f δ) R := by
  obtain ⟨x, e1, k⟩ := k
  cases x with
  | lst xs => exact ⟨_, by unfold oSeq; rw [e1], k⟩
  | tup xs => exact ⟨_, by unfold oSeq; rw [e1], k⟩
  | str xs => exact ⟨_, by unfold oSeq; rw [e1], k⟩
  | _ => exact k.elim
theorem op_oRng {R : List D → Prop} (k : Op (f δ) (IsIn fun i => (-(2 ^ 62) ≤ i ∧ i < 2 ^ 62) ∧ R (rngD 0 i.toNat))) : Op (oRng f δ) R := by
  obtain ⟨x, e1, k⟩ := k
  cases x with
  | int b => obtain ⟨k0, k⟩ := k; exact ⟨_, by unfold oRng; rw [e1]; dsimp only; rw [if_pos k0], k⟩
  | _ => exact k.elim
theorem so_seq (k : So (F δ) (fun δ' => So (F' δ') N T) T) : So (sSeq F F' δ) N T := by
  obtain ⟨u, e, k⟩ := k
  cases u with
  | nx δ' => obtain ⟨w, e2, k⟩ := k; exact ⟨w, by unfold sSeq; rw [e]; exact e2, k⟩
  | rt r δ' => exact ⟨.rt r δ', by unfold sSeq; rw [e], k⟩
  | bk δ => exact k.elim
  | ct δ => exact k.elim
  | ex c δ => exact k.elim
theorem so_mid (P : En → Prop) {o : Option Out} (k : So o P T) (k' : ∀ δ', P δ' → N δ') : So o N T := k.mono k' fun _ _ h => h
theorem so_if (k : Op (c δ) fun x => if x = true then So (F δ) N T else So (F' δ) N T) : So (sIf c F F' δ) N T := by
  obtain ⟨x, e1, k⟩ := k
  cases x with
  | true => obtain ⟨y, e2, k⟩ := (show So (F δ) N T from k); exact ⟨y, by unfold sIf; rw [e1]; exact e2, k⟩
  | false => obtain ⟨y, e2, k⟩ := (show So (F' δ) N T from k); exact ⟨y, by unfold sIf; rw [e1]; exact e2, k⟩
theorem so_nil (k : N δ) : So (sNil δ) N T := ⟨_, rfl, k⟩
theorem so_set (k : Op (f δ) fun d => SetK N δ i (.sh d)) : So (sSet i f δ) N T := by
  obtain ⟨x, e1, k⟩ := k
  exact ⟨_, by unfold sSet; rw [e1]; rfl, k⟩
theorem so_setR (k : Op (fr δ) fun r => SetR N δ i r) : So (sSetR i fr δ) N T := by
  obtain ⟨x, e1, k⟩ := k
  exact ⟨_, by unfold sSetR; rw [e1]; rfl, k⟩
theorem so_ret (k : Op (fr δ) fun r => T r δ) : So (sRet fr δ) N T := by
  obtain ⟨x, e1, k⟩ := k
  exact ⟨_, by unfold sRet; rw [e1]; rfl, k⟩
theorem so_app {ds : List D} {o : Option Addr} (e : δ[i]? = some (some (.pv (.lst ds) o))) (k : Op (f δ) fun d => ds.length < sizeLine ∧ SetK N δ i (.pv (.lst (ds ++ [d])) o)) : So (sApp i f δ) N T := by
  obtain ⟨x, e1, k0, k⟩ := k
  exact ⟨_, by unfold sApp; rw [e]; dsimp only; rw [e1, Option.bind_some, if_pos k0], k⟩
theorem so_for {it : En → Option (List D)} (k : Op (it δ) fun xs => So (forL i F xs δ) N T) : So (sFor i it F δ) N T := by
  obtain ⟨x, e1, u, e2, k⟩ := k
  exact ⟨u, by unfold sFor; rw [e1]; exact e2, k⟩
theorem so_forL (I : Nat → En → Prop) {xs : List D} (h0 : I 0 δ) (st : ∀ k x, xs[k]? = some x → ∀ δ, I k δ → So (F (δ.set i (some (.sh x)))) (I (k + 1)) T) (q : ∀ δ, I xs.length δ → N δ) : So (forL i F xs δ) N T := by
  have key : ∀ (ys : List D) (k : Nat) (δ : En), xs.drop k = ys → k ≤ xs.length → I k δ → So (forL i F ys δ) (I xs.length) T := by
    intro ys
    induction ys with
    | nil =>
      intro k δ e hle h
      have hk : xs.length ≤ k := by simpa using e
      have : k = xs.length := by omega
      subst this
      exact ⟨_, rfl, h⟩
    | cons y ys ih =>
      intro k δ e hle h
      have hk : xs[k]? = some y := by
        have := congrArg (·[0]?) e
        simpa using this
      have hlt : k < xs.length := (List.getElem?_eq_some_iff.mp hk).1
      have hd : xs.drop (k + 1) = ys := by rw [← List.drop_drop, e]; rfl
      obtain ⟨u, e1, k1⟩ := st k y hk δ h
      cases u with
      | nx δ' =>
        obtain ⟨w, e2, k2⟩ := ih (k + 1) δ' hd hlt k1
        exact ⟨w, by unfold forL; rw [e1]; exact e2, k2⟩
      | rt r δ' => exact ⟨.rt r δ', by unfold forL; rw [e1], k1⟩
      | bk δ => exact k1.elim
      | ct δ => exact k1.elim
      | ex c δ => exact k1.elim
  exact (key xs 0 δ rfl (Nat.zero_le _) h0).mono q fun _ _ h => h
theorem so_forL2 (I : Nat → En → Prop) {xs : List (D × D)} (h0 : I 0 δ) (st : ∀ k x, xs[k]? = some x → ∀ δ, I k δ → So (F ((δ.set i (some (.sh x.1))).set j (some (.sh x.2)))) (I (k + 1)) T) (q : ∀ δ, I xs.length δ → N δ) : So (forL2 i j F xs δ) N T := by
  have key : ∀ (ys : List (D × D)) (k : Nat) (δ : En), xs.drop k = ys → k ≤ xs.length → I k δ → So (forL2 i j F ys δ) (I xs.length) T := by
    intro ys
    induction ys with
    | nil =>
      intro k δ e hle h
      have hk : xs.length ≤ k := by simpa using e
      have : k = xs.length := by omega
      subst this
      exact ⟨_, rfl, h⟩
    | cons y ys ih =>
      intro k δ e hle h
      have hk : xs[k]? = some y := by
        have := congrArg (·[0]?) e
        simpa using this
      have hlt : k < xs.length := (List.getElem?_eq_some_iff.mp hk).1
      have hd : xs.drop (k + 1) = ys := by rw [← List.drop_drop, e]; rfl
      obtain ⟨u, e1, k1⟩ := st k y hk δ h
      cases u with
      | nx δ' =>
        obtain ⟨w, e2, k2⟩ := ih (k + 1) δ' hd hlt k1
        exact ⟨w, by unfold forL2; rw [e1]; exact e2, k2⟩
      | rt r δ' => exact ⟨.rt r δ', by unfold forL2; rw [e1], k1⟩
      | bk δ => exact k1.elim
      | ct δ => exact k1.elim
      | ex c δ => exact k1.elim
  exact (key xs 0 δ rfl (Nat.zero_le _) h0).mono q fun _ _ h => h
theorem so_retVs {d : D} (e : δ[i]? = some (some (.sh d))) (k : T (.sh d) δ) : So (sRetV i δ) N T := ⟨_, by unfold sRetV; rw [e], k⟩
theorem so_retVp {m : Mo} {o : Option Addr} (e : δ[i]? = some (some (.pv m o))) (k : T (.fr m) (δ.set i none)) : So (sRetV i δ) N T := ⟨_, by unfold sRetV; rw [e], k⟩
theorem so_pub {m : Mo} {o : Option Addr} (e : δ[i]? = some (some (.pv m o))) (k : So (F (δ.set i (some (.sh m.d)))) N T) : So (F (pubS i δ)) N T := by
  unfold pubS
  rw [e]
  exact k
theorem o_add {i j : Int} (k : R (.int (i + j))) : Op (addD (.int i) (.int j)) R := ⟨_, rfl, k⟩
theorem o_sub {i j : Int} (k : R (.int (i - j))) : Op (subD (.int i) (.int j)) R := ⟨_, rfl, k⟩
theorem o_mod {i j : Int} (h : 0 < j) (k : R (.int (i % j))) : Op (modD (.int i) (.int j)) R := ⟨_, by show (if 0 < j then _ else _) = _; rw [if_pos h], k⟩
theorem o_pow {i j : Int} (h : CPow i j) (k : R (.int (i ^ j.toNat))) : Op (powD (.int i) (.int j)) R := ⟨_, by show (if CPow i j then _ else _) = _; rw [if_pos h], k⟩
theorem o_neg {i : Int} (k : R (.int (-i))) : Op (negD (.int i)) R := ⟨_, rfl, k⟩
theorem o_gt {i j : Int} (k : R (.bl (decide (j < i)))) : Op (gtD (.int i) (.int j)) R := ⟨_, rfl, k⟩
theorem o_ge {i j : Int} (k : R (.bl (decide (j ≤ i)))) : Op (geD (.int i) (.int j)) R := ⟨_, rfl, k⟩
theorem o_le {i j : Int} (k : R (.bl (decide (i ≤ j)))) : Op (leD (.int i) (.int j)) R := ⟨_, rfl, k⟩
theorem dec_intV {i j : Int} : decide (V.int i = V.int j) = decide (i = j) := decide_eq_decide.mpr ⟨V.int.inj, fun e => e ▸ rfl⟩
theorem o_eqI {i j : Int} (k : R (.bl (decide (i = j)))) : Op (eqO false (.int i) (.int j)) R := ⟨_, by show some (D.bl (decide (V.int i = V.int j))) = _; rw [dec_intV], k⟩
theorem o_neI {i j : Int} (k : R (.bl (!decide (i = j)))) : Op (eqO true (.int i) (.int j)) R := ⟨_, by show some (D.bl (!decide (V.int i = V.int j))) = _; rw [dec_intV], k⟩
theorem o_neE {x y : D} (k : Op (eqO true x y) R) : Op (neE x y) R := by
  obtain ⟨d, e, k⟩ := k
  exact ⟨d, by unfold neE; rw [e]; rfl, k⟩
theorem o_neEI {i j : Int} (k : R (.bl (!decide (i = j)))) : Op (neE (.int i) (.int j)) R := o_neE (o_neI k)
theorem o_lenL {xs : List D} (k : R (.int xs.length)) : Op (lenD [.lst xs]) R := ⟨_, rfl, k⟩
theorem o_lenT {xs : List D} (k : R (.int xs.length)) : Op (lenD [.tup xs]) R := ⟨_, rfl, k⟩
theorem o_intB {b : Bool} (k : R (.int (if b then 1 else 0))) : Op (intD [.bl b]) R := ⟨_, rfl, k⟩
theorem o_max {i j : Int} (k : R (.int (if j > i then j else i))) : Op (maxD [.int i, .int j]) R := ⟨_, rfl, k⟩
theorem o_min {i j : Int} (k : R (.int (if j < i then j else i))) : Op (minD [.int i, .int j]) R := ⟨_, rfl, k⟩
theorem o_ixL {xs : List D} {k : Nat} {x : D} (e : xs[k]? = some x) (q : R x) : Op (ixA (.lst xs) (.int k)) R := ⟨x, atI_nat e, q⟩
theorem o_ixT {xs : List D} {k : Nat} {x : D} (e : xs[k]? = some x) (q : R x) : Op (ixA (.tup xs) (.int k)) R := ⟨x, atI_nat e, q⟩
theorem o_ixLm {xs : List D} {i : Int} (h0 : 0 ≤ i) (h1 : i < xs.length) (q : ∀ x ∈ xs, R x) : Op (ixA (.lst xs) (.int i)) R := by
  obtain ⟨n, rfl⟩ : ∃ n : Nat, i = n := ⟨i.toNat, by omega⟩
  have hn : n < xs.length := by omega
  exact o_ixL (List.getElem?_eq_getElem hn) (q _ (List.getElem_mem hn))
theorem op_runE {N : List Str} {n : Nat} {fb : FS} {ds : List D} {R : Rs → Prop} {δ : En} (hl : ds.length = n) (hs : startD N ds = δ) (k : So (fb δ) (fun _ => R (.sh .non)) fun r _ => R r) : Op (runF N n fb ds) R := by
  subst hs
  obtain ⟨u, e, k⟩ := k
  cases u with
  | nx δ => exact ⟨_, by unfold runF; rw [if_pos hl, e], k⟩
  | rt r δ' => exact ⟨_, by unfold runF; rw [if_pos hl, e], k⟩
  | bk δ => exact k.elim
  | ct δ => exact k.elim
  | ex c δ => exact k.elim
end
end L2
local macro_rules | `(tactic| walk_at "wp1") => `(tactic| first
  | with_reducible refine L2.so_retX ?_
  | with_reducible refine L2.so_unp ?_
  | with_reducible refine L2.op_xFst ?_
  | with_reducible refine L2.op_xNil ?_
  | with_reducible refine L2.op_xCons ?_
  | with_reducible refine L2.op_xTup ?_
  | with_reducible refine L2.op_xCallG ?_
  | with_reducible refine L2.op_xCallT ?_
  | with_reducible refine L2.op_xCallM ?_
  | with_reducible refine L2.op_callM1 ?_
  | with_reducible refine L2.op_xComp ?_
  | ((with_reducible refine L2.so_ext (ds := ?ds) (o := ?o) ?h ?_); case h => exact rfl)
  | ((with_reducible refine L2.so_lput (ds := ?ds) (o := ?o) ?h ?_); case h => exact rfl)
  | ((with_reducible refine L2.op_pop (ds := ?ds) (d := ?d) (o := ?o) ?h ?_); case h => exact rfl)
  | with_reducible refine L2.so_seq ?_
  | with_reducible refine L2.so_set ?_
  | with_reducible refine L2.so_setR ?_
  | with_reducible refine L2.so_setX ?_
  | with_reducible refine L2.so_ret ?_
  | with_reducible refine L2.so_nil ?_
  | with_reducible refine L2.so_for ?_
  | with_reducible refine L2.so_forZ ?_
  | ((with_reducible refine L2.so_retVs (d := ?d) ?h ?_); case h => exact rfl)
  | ((with_reducible refine L2.so_retVp (o := ?o) (m := ?m) ?h ?_); case h => exact rfl)
  | ((with_reducible refine L2.so_app (o := ?o) (ds := ?ds) ?h ?_); case h => exact rfl)
  | ((with_reducible refine L2.so_dput (o := ?o) (ks := ?ks) (ds := ?ds) ?h ?_); case h => exact rfl)
  | ((with_reducible refine L2.setK (δ' := ?δ2) ?h ?_); case h => dsimp only [List.set]; exact rfl)
  | with_reducible refine L2.setR_sh ?_
  | with_reducible refine L2.setR_fr ?_
  | with_reducible refine L2.pub_sh ?_
  | with_reducible refine L2.pub_l ?_
  | with_reducible refine L2.pub_d ?_
  | with_reducible refine L2.ite_t ?_
  | with_reducible refine L2.ite_f ?_
  | ((with_reducible refine L2.ite_rt ?h ?_); case h => exact rfl)
  | ((with_reducible refine L2.ite_rf ?h ?_); case h => exact rfl)
  | with_reducible refine L2.isBl_k ?_
  | with_reducible refine L2.isIn_k ?_
  | with_reducible refine L2.isSq_l ?_
  | with_reducible refine L2.isSq_t ?_
  | with_reducible refine L2.isSq_s ?_
  | with_reducible refine L2.op_f2 ?_
  | with_reducible refine L2.op_f1 ?_
  | ((with_reducible refine L2.op_varBs (d := ?d) ?h ?_); case h => exact rfl)
  | ((with_reducible refine L2.op_varBl (o := ?o) (xs := ?xs) ?h ?_); case h => exact rfl)
  | ((with_reducible refine L2.op_varBd (o := ?o) (ks := ?ks) (xs := ?xs) ?h ?_); case h => exact rfl)
  | ((with_reducible refine L2.op_var (x := ?x) ?h ?_); case h => exact rfl)
  | ((with_reducible refine L2.op_xSetd (o := ?o) (ks := ?ks) (ds := ?ds) ?h ?_); case h => exact rfl)
  | with_reducible refine L2.op_C ?_
  | with_reducible refine L2.op_nil ?_
  | with_reducible refine L2.op_cons ?_
  | with_reducible refine L2.op_callR ?_
  | with_reducible refine L2.op_callB ?_
  | with_reducible refine L2.op_callN ?_
  | with_reducible refine L2.op_callG ?_
  | with_reducible refine L2.op_pub ?_
  | with_reducible refine L2.op_sh ?_
  | with_reducible refine L2.op_fB ?_
  | with_reducible refine L2.op_f3 ?_
  | with_reducible refine L2.op_bAnd ?_
  | with_reducible refine L2.op_bOr ?_
  | with_reducible refine L2.op_bNot ?_
  | with_reducible refine L2.op_fAnd ?_
  | with_reducible refine L2.op_fOr ?_
  | with_reducible refine L2.op_fNot ?_
  | with_reducible refine L2.op_fIf ?_
  | with_reducible refine L2.op_bYes ?_
  | with_reducible refine L2.op_tup ?_
  | with_reducible refine L2.op_lstR ?_
  | with_reducible refine L2.op_dicR ?_
  | with_reducible refine L2.op_is ?_
  | with_reducible refine L2.op_oInt ?_
  | with_reducible refine L2.op_sl ?_
  | with_reducible refine L2.op_none ?_
  | with_reducible refine L2.op_some ?_
  | with_reducible refine L2.op_get2 ?_
  | with_reducible refine L2.op_oSeq ?_
  | with_reducible refine L2.op_oRng ?_
  | with_reducible refine L2.op_oRng2 ?_
  | with_reducible refine L2.op_comp ?_
  | with_reducible refine L2.op_xD ?_
  | with_reducible refine L2.op_xIf ?_
  | with_reducible refine L2.op_zip ?_
  | with_reducible refine L2.o_add ?_
  | with_reducible refine L2.o_sub ?_
  | with_reducible refine L2.o_neg ?_
  | with_reducible refine L2.o_lt ?_
  | with_reducible refine L2.o_gt ?_
  | with_reducible refine L2.o_ge ?_
  | with_reducible refine L2.o_le ?_
  | with_reducible refine L2.o_eqI ?_
  | with_reducible refine L2.o_neI ?_
  | with_reducible refine L2.o_neEI ?_
  | with_reducible refine L2.o_lenL ?_
  | with_reducible refine L2.o_lenT ?_
  | with_reducible refine L2.o_tupL ?_
  | with_reducible refine L2.o_tupT ?_
  | with_reducible refine L2.o_intI ?_
  | with_reducible refine L2.o_intB ?_
  | with_reducible refine L2.o_isN ?_
  | with_reducible refine L2.o_slL ?_
  | with_reducible refine L2.o_slT ?_
  | with_reducible refine L2.o_keyI ?_
  | with_reducible refine L2.o_keyS ?_
  | with_reducible refine L2.o_seqT ?_
  | with_reducible refine L2.o_seqL ?_
  | with_reducible refine L2.o_dicN ?_
  | with_reducible refine L2.o_max ?_
  | with_reducible refine L2.o_min ?_
  | ((with_reducible refine L2.o_mul ?h ?_); case h => first | decide | exact Or.inr (by decide) | exact Or.inl (by decide) | exact ⟨by decide, by decide⟩ | omega)
  | ((with_reducible refine L2.o_div ?h ?_); case h => first | decide | exact Or.inr (by decide) | exact Or.inl (by decide) | exact ⟨by decide, by decide⟩ | omega)
  | ((with_reducible refine L2.o_mod ?h ?_); case h => first | decide | exact Or.inr (by decide) | exact Or.inl (by decide) | exact ⟨by decide, by decide⟩ | omega)
  | ((with_reducible refine L2.o_pow ?h ?_); case h => first | decide | exact Or.inr (by decide) | exact Or.inl (by decide) | exact ⟨by decide, by decide⟩ | omega))
local macro_rules | `(tactic| walk_at "wp") => `(tactic| repeat first | walk_at "wp1" | with_reducible refine L2.so_if ?_)
local macro_rules | `(tactic| walk_at "wpn") => `(tactic| repeat walk_at "wp1")
local macro_rules | `(tactic| walk_at "wrun") => `(tactic| (refine L2.op_runE (δ := ?d) rfl ?h ?_; case h => simp only [L2.startD, List.map_cons, List.map_nil, List.length_cons, List.length_nil, List.replicate, List.cons_append, List.nil_append, Nat.reduceAdd, Nat.reduceSub]; exact rfl))
local macro_rules | `(tactic| walk_at "wrunM") => `(tactic| (refine L2.op_runMS (δ := ?d) rfl ?h ?_; case h => simp only [L2.startS, List.map_cons, List.map_nil, List.length_cons, List.length_nil, List.replicate, List.cons_append, List.nil_append, Nat.reduceAdd, Nat.reduceSub]; exact rfl))
set_option Elab.async false
set_option linter.all false
set_option maxRecDepth 100000
set_option maxHeartbeats 4000000
namespace L2
open PySem PySem.Spec PySem.W PyProof.Rows
section
variable {α : Type} {lt : α → α → Bool}
variable [DecidableEq α]
end
end L2
set_option Elab.async false
set_option linter.all false
set_option maxRecDepth 100000
set_option maxHeartbeats 4000000
namespace L2
open PySem PySem.Spec PySem.W PyProof.Rows
section
variable {X : Cx} {pins : List (Addr × Obj)} {σ : St} {H : Hp} {s : Shared}
end
end L2
set_option Elab.async false
set_option linter.all false
set_option maxRecDepth 100000
set_option maxHeartbeats 4000000
namespace L2
open PySem PySem.Spec PySem.W PyProof.Rows
section
variable {X : Cx} {e : Expr} {f : FE} {p1 p2 p3 p4 : Pos}
theorem op_isnB : OpR X (compareOp .IsNot) (fun x y H Q => ∃ i j, x = .bl i ∧ y = .bl j ∧ Q (.bl (!(i == j))) H) := by
  intro pins s σ H x y v u Q I rx ry h
  obtain ⟨i, j, rfl, rfl, q⟩ := h
  cases rx
  cases ry
  exact isnot_bool ⟨.bl _, H, I, rfl, q⟩
theorem od_isnB : OpD X (compareOp .IsNot) isnB := by
  refine ⟨_, op_isnB, fun G H x y v u d Q sG rx ry e k => ?_⟩
  unfold isnB at e
  split at e
  · cases e
    have rx := rx.flat rfl
    have ry := ry.flat rfl
    simp only [Rep] at rx ry
    exact ⟨_, _, rx, ry, k _ G H (Grow.refl sG) (by simp [Rep])⟩
  · cases e
theorem od_notA : OpD X (compareOp .IsNot) notA := od_notN.or od_isnB
end
end L2
set_option Elab.async false
set_option linter.all false
set_option maxRecDepth 100000
set_option maxHeartbeats 4000000
namespace L2
open PySem
section
variable {prog : Program} {w : World} {K : Type} [DecidableEq K] {knd : KeyKind prog w K} {A : Around} {E : Value → Shared → Prop} {s : Shared}
end
end L2
set_option Elab.async false
set_option linter.all false
set_option maxRecDepth 100000
set_option maxHeartbeats 4000000
namespace L2
open PySem
section
variable {prog : Program} {w : World} {K : Type} [DecidableEq K] {knd : KeyKind prog w K} {A : Around} {E : Value → Shared → Prop} {s : Shared}
end
end L2
set_option Elab.async false
set_option linter.all false
set_option maxRecDepth 100000
set_option maxHeartbeats 4000000
namespace L2
open PySem
section
variable {prog : Program} {w : World} {K : Type} [DecidableEq K] {knd : KeyKind prog w K} {A : Around} {E : Value → Shared → Prop} {s : Shared}
end
end L2
set_option Elab.async false
set_option linter.all false
set_option maxRecDepth 100000
set_option maxHeartbeats 4000000
namespace L2
open PySem
section
variable {prog : Program} {w : World} {K : Type} [DecidableEq K] {knd : KeyKind prog w K} {A : Around} {E : Value → Shared → Prop} {s : Shared}
end
end L2
set_option Elab.async false
set_option linter.all false
set_option maxRecDepth 100000
set_option maxHeartbeats 4000000
namespace L2
open PySem
section
variable {prog : Program} {w : World} {K : Type} [DecidableEq K] {knd : KeyKind prog w K} {A : Around} {E : Value → Shared → Prop} {s : Shared}
end
end L2
set_option Elab.async false
set_option linter.all false
set_option maxRecDepth 100000
set_option maxHeartbeats 4000000
namespace L2
open PySem
section
variable {prog : Program} {w : World} {A : Around} {E : Value → Shared → Prop} {s : Shared}
end
end L2
set_option Elab.async false
set_option linter.all false
set_option maxRecDepth 100000
set_option maxHeartbeats 4000000
namespace L2
open PySem
section
variable {prog : Program} {w : World} {A : Around} {E : Value → Shared → Prop} {s : Shared}
end
end L2
set_option Elab.async false
set_option linter.all false
set_option maxRecDepth 100000
set_option maxHeartbeats 4000000
namespace L2
open PySem PyProof.Rows
section
variable {prog : Program} {w : World} {A : Around} {E : Value → Shared → Prop} {s : Shared}
end
end L2
set_option Elab.async false
set_option linter.all false
set_option maxRecDepth 100000
set_option maxHeartbeats 4000000
namespace L2
open PySem PySem.Spec PySem.W PyProof.Rows
end L2
set_option Elab.async false
set_option linter.all false
set_option maxRecDepth 100000
set_option maxHeartbeats 4000000
namespace L2
open PySem PySem.Spec PyProof.Rows
section
variable {X : Cx} {pins : List (Addr × Obj)} {σ : St} {H : Hp} {s : Shared}
section
variable {X : Cx} {e : Expr} {f : FE} {p1 p2 q1 q2 : Pos}
end
end
end L2
set_option Elab.async false
set_option linter.all false
set_option maxRecDepth 100000
set_option maxHeartbeats 4000000
namespace L2
open PySem PySem.Spec PyProof.Rows
section
variable {X : Cx}
end
end L2
set_option Elab.async false
set_option linter.all false
set_option maxRecDepth 100000
set_option maxHeartbeats 4000000
namespace L2
open PySem PySem.Spec PyProof.Rows
section
variable {X : Cx}
end
section
variable {X : Cx} {e : Expr} {es : List Expr} {pos p : Pos}
end
section
variable {δ : En} {i : Nat} {f : FE} {N : En → Prop} {T : Rs → En → Prop}
end
end L2
set_option Elab.async false
set_option linter.all false
set_option maxRecDepth 100000
set_option maxHeartbeats 4000000
namespace L2
open PySem PySem.Spec PyProof.Rows
def pairD : D → Option (D × D) | .tup [a, b] => some (a, b) | _ => none
def pairsD : List D → Option (List (D × D))
  | [] => some []
  | d :: ds => (pairD d).bind fun p => (pairsD ds).map (p :: ·)
theorem pairsD_is : ∀ {xs : List D} {ps : List (D × D)}, pairsD xs = some ps → xs = ps.map fun p => .tup [p.1, p.2]
  | [], ps, h => by cases h; rfl
  | d :: ds, ps, h => by
    unfold pairsD at h
    obtain ⟨p, e1, h⟩ := Option.bind_eq_some_iff.mp h
    obtain ⟨qs, e2, rfl⟩ := Option.map_eq_some_iff.mp h
    unfold pairD at e1
    split at e1
    · cases e1
      rw [pairsD_is e2]
      rfl
    · cases e1
section
variable {X : Cx}
@[simp] def sForP (i j : Nat) (g : En → Option (List D)) (F : FS) : FS := fun δ => (g δ).bind fun xs => (pairsD xs).bind fun ps => forL2 i j F ps δ
theorem psd_forP (i j : Nat) {x y : Str} {px py pt pf : Pos} {k : Nat} {iter : Expr} {g : En → Option (List D)} {F : FS} {body : List Stmt} (hN : X.N.Nodup) (hc : X.calm = true) (hp : PassesOwn (model X.prog X.w) X.A X.env X.xe)
    (hi : PID X (.Tuple [.Name x px, .Name y py] k pt) iter g) (hbody : PSsD X body F)
    (hix : X.N[i]? = some x := by rfl) (hx : Loc X.env.scope x := by first | exact Or.inl rfl | exact Or.inr rfl) (hfx : X.fn x = true ∨ X.env.scope.names.lookup x = some .local := by first | exact .inl rfl | exact .inr rfl)
    (hjy : X.N[j]? = some y := by rfl) (hy : Loc X.env.scope y := by first | exact Or.inl rfl | exact Or.inr rfl) (hfy : X.fn y = true ∨ X.env.scope.names.lookup y = some .local := by first | exact .inl rfl | exact .inr rfl)
    (ht1 : (assignEach [.Name x px, .Name y py] X.env).map (·.2) = assign (.Name x px) X.env :: (assignEach [.Name y py] X.env).map (·.2) := by rfl) (ht2 : (assignEach [.Name y py] X.env).map (·.2) = assign (.Name y py) X.env :: (assignEach [] X.env).map (·.2) := by rfl)
    (hn : (assignEach [.Name x px, .Name y py] X.env).length = 2 := by rfl) (hst : (assignEach [.Name x px, .Name y py] X.env).findIdx? (·.1) = none := by rfl)
    (hfold : ∀ x, foldedSetIterable iter X.env x = pure x := by intro _; rfl) :
    PSD X (.For (.Tuple [.Name x px, .Name y py] k pt) iter body [] pf) (sForP i j g F) := by
  obtain ⟨wi, pw, kw⟩ := hi
  obtain ⟨tb, pb, kb⟩ := hbody
  refine ⟨_, ps_for hp hc pw (pg_tup (n := 2) hc (pgs_cons (pg_name hN hix hx hfx) (pgs_cons (pg_name hN hjy hy hfy) pgs_nil ht2) ht1) hn hst) pb hfold, fun B G H δ σ o D sG sB rs e w => ?_⟩
  unfold sForP at e
  obtain ⟨xs, e1, e⟩ := Option.bind_eq_some_iff.mp e
  obtain ⟨ps, e2, e3⟩ := Option.bind_eq_some_iff.mp e
  clear e
  have hxs := pairsD_is e2
  subst hxs
  refine kw B G H δ σ _ _ sG rs e1 fun J G1 H1 g1 wk => ?_
  have st1 : Stp B G G1 H1 := g1.stp sB
  refine ⟨fun n m σ' H' => ∃ δ' G', m = ps.length - n ∧ n ≤ ps.length ∧ Stp B G1 G' H' ∧ RepS X.K B G' H' δ' σ' ∧ forL2 i j F (ps.drop n) δ' = some o, ⟨_, δ, G1, rfl, Nat.zero_le _, Stp.refl st1.s st1.b, rs.grow g1, by simpa using e3⟩, ?_⟩
  rintro n m σ' H' ⟨δ', G', rfl, hn', a1, rs', eo⟩
  by_cases hlt : n < ps.length
  · right
    obtain ⟨dx', dy', ep⟩ : ∃ p q, ps[n] = (p, q) := ⟨_, _, rfl⟩
    obtain ⟨go, yl⟩ := wk.go n (.tup [dx', dy']) G' H' (by simp [hlt, ep]) a1.g a1.s
    rw [List.drop_eq_getElem_cons hlt, ep] at eo
    unfold forL2 at eo
    refine ⟨go, fun σ2 H2 => ∃ m', m' < ps.length - n ∧ ∃ δ2 G2, m' = ps.length - (n + 1) ∧ n + 1 ≤ ps.length ∧ Stp B G1 G2 H2 ∧ RepS X.K B G2 H2 δ2 σ2 ∧ forL2 i j F (ps.drop (n + 1)) δ2 = some o, fun σ2 H2 z => z, fun x H2 y => ?_⟩
    obtain ⟨rfl, rx⟩ := yl x H2 y
    simp only [Rep, RepL] at rx
    obtain ⟨p, us, rfl, hp1, ux, r1, rfl, rvx, uy, r2, rfl, rvy, rfl⟩ := rx
    refine ⟨p, [ux, uy], rfl, a1.s.sqT hp1, rfl, ux, [uy], rfl, uy, [], rfl, rfl, ?_⟩
    have again : ∀ {δ2 : En} {σ2 : St} {G2 H3 : Hp}, Stp B G' G2 H3 → RepS X.K B G2 H3 δ2 σ2 → forL2 i j F (ps.drop (n + 1)) δ2 = some o →
        ∃ m', m' < ps.length - n ∧ ∃ δ2 G2, m' = ps.length - (n + 1) ∧ n + 1 ≤ ps.length ∧ Stp B G1 G2 H3 ∧ RepS X.K B G2 H3 δ2 σ2 ∧ forL2 i j F (ps.drop (n + 1)) δ2 = some o :=
      fun {δ2 σ2 G2 H3} a r e => ⟨ps.length - (n + 1), by omega, δ2, G2, rfl, hlt, a1.trans a, r, e⟩
    cases eF : F ((δ'.set i (some (.sh dx'))).set j (some (.sh dy'))) with
    | none => rw [eF] at eo; cases eo
    | some o1 =>
      rw [eF] at eo
      refine kb B G' _ _ _ o1 _ a1.s a1.b ((rs'.set i rvx).set j rvy) eF ?_
      cases o1 with
      | nx δ2 => exact fun σ2 G2 H3 a r => again a r eo
      | ct δ2 => exact fun σ2 G2 H3 a r => again a r eo
      | ex c δ2 =>
        cases eo
        exact fun pins σ2 G2 H3 s3 e C od I a => w pins σ2 G2 H3 s3 e C od I (st1.trans (a1.trans a))
      | bk δ2 =>
        cases eo
        exact fun σ2 G2 H3 a r => w σ2 G2 H3 (st1.trans (a1.trans a)) r
      | rt r δ2 =>
        cases eo
        cases r with
        | sh d => exact fun v σ2 G2 H3 a r => w v σ2 G2 H3 (st1.trans (a1.trans a)) r
        | fr m => exact fun p vs σ2 G2 H3 a => w p vs σ2 G2 H3 (st1.trans (a1.trans a))
  · left
    have hnn : n = ps.length := by omega
    subst hnn
    rw [List.drop_of_length_le (Nat.le_refl _)] at eo
    cases eo
    have := wk.stop G' H' a1.g a1.s
    rw [List.length_map] at this
    exact ⟨this, w σ' G' H' (st1.trans a1) rs'⟩
end
section
variable {δ : En} {i j : Nat} {g : En → Option (List D)} {F : FS} {N : En → Prop} {T : Rs → En → Prop}
theorem so_forP (k : Op (g δ) fun xs => Op (pairsD xs) fun ps => So (forL2 i j F ps δ) N T) : So (sForP i j g F δ) N T := by
  obtain ⟨xs, e1, ps, e2, u, e3, k⟩ := k
  exact ⟨u, by unfold sForP; rw [e1]; show (pairsD xs).bind _ = _; rw [e2]; exact e3, k⟩
end
end L2
set_option Elab.async false
set_option linter.all false
set_option maxRecDepth 100000
set_option maxHeartbeats 4000000
namespace L2
open PySem
section
variable {prog : Program} {w : World} {A : Around} {E : Value → Shared → Prop} {s : Shared}
end
end L2
namespace L2
open PySem PySem.Spec PyProof.Rows
section
variable {X : Cx}
end
end L2
set_option Elab.async false
set_option linter.all false
set_option maxRecDepth 100000
set_option maxHeartbeats 4000000
namespace L2
open PySem PySem.Spec PyProof.Rows
def clsBody : Stmt → List Stmt
  | .ClassDef _ _ _ b _ _ _ _ _ _ _ => b
  | _ => []
def clsAt (st : Stmt) (i : Nat) : Stmt := (clsBody st).getD i (.Pass ⟨0, 0, 0, 0⟩)
section
variable {X : Cx} {e0 : Expr} {np cpos pos : Pos} {c attr q par : Str} {st : Stmt} {g : FE}
end
end L2
set_option Elab.async false
set_option linter.all false
set_option maxRecDepth 100000
set_option maxHeartbeats 4000000
namespace L2
open PySem PySem.Spec PyProof.Rows
section
variable {K : PySem.W.Frag} {c attr q : Str} {C f : Addr} {st : Stmt} {od : Option Addr} {kV doc pm cdv ct : Value} {an : Option Addr} {osl : Array (Option Value)}
end
end L2
set_option Elab.async false
set_option linter.all false
set_option maxRecDepth 100000
set_option maxHeartbeats 4000000
namespace L2
open PySem PySem.Spec PyProof.Rows
section
variable {P : Program} {w : World} {K : PySem.W.Frag} {mg : Str → Option Value} {base : Heap}
theorem meth_run {x q : Str} {st : Stmt} {N ps : List Str} {k : Nat} {fb : FS} {f : Addr} {fd : FuncData} (F : Fun K x q st f fd) (S : FnScope N ps (defScope st))
    (hbody : ∀ (f : Addr) (cdv : Value) (A : Around) (outer : List Env) (s : Shared) (H : Hp) (E : XK), Room k (A.deeper (envOfC q (defScope st) s.heap.objs.size f cdv)) → PSsD (cxD P w K mg base N q (defScope st) f cdv A outer s H E) (defBody st) fb) :
    FnOk P w K mg base CX0 (k + 1) f fd ps (spD K (runF N ps.length fb)) := by
  refine F.ok S (fun vs H Q E h => ?_) (fun cdv A outer s H vs Q E hr h => ?_)
  · obtain ⟨G, ds, d, sG, r, e, _⟩ := h
    rw [← r.length]
    unfold runF at e
    split at e
    · rename_i hl; exact hl
    · cases e
  · obtain ⟨G, ds, d, sG, r, e, q⟩ := h
    obtain ⟨t, pt, kt⟩ := hbody f cdv A outer s H E hr
    refine ⟨t, pt, ?_⟩
    have gr : ∀ {G' H' : Hp}, Stp H G G' H' → Grow G H G' H' := fun a => ⟨a.g, a.b, a.s, a.n⟩
    unfold runF at e
    split at e
    · split at e
      · rename_i eb
        cases e
        refine kt H G H _ _ _ _ sG (Same.refl _) (repS_start r) eb ?_
        cases d with
        | sh d => exact fun v _ G' H' a _ rv => q v G' H' (gr a) rv
        | fr m => exact fun p vs _ G' H' a _ => q p vs G' H' (gr a)
      · rename_i eb
        cases e
        exact kt H G H _ _ _ _ sG (Same.refl _) (repS_start r) eb fun _ G' H' a _ => q .non G' H' (gr a) (by simp [Rep])
      · cases e
    · cases e
def MethAt (K : PySem.W.Frag) (c m q : Str) (st : Stmt) : Prop := ∃ C f fd, PySem.W.nsIn K mainGlobals c = some (some (.ref C)) ∧ Cls K C ∧ Meth K C m f ∧ Fun K m q st f fd
def MethOk (P : Program) (w : World) (K : PySem.W.Frag) (mg : Str → Option Value) (base : Heap) (k : Nat) (c m : Str) (ps : List Str) (M : List D → Option Rs) : Prop :=
  ∃ C f fd, PySem.W.nsIn K mainGlobals c = some (some (.ref C)) ∧ Cls K C ∧ Meth K C m f ∧ FnOk P w K mg base CX0 k f fd ps (spD K M) ∧ Binds K fd ps []
theorem meth_ok {c m q : Str} {st : Stmt} {N ps : List Str} {k : Nat} {fb : FS} (F : MethAt K c m q st) (S : FnScope N ps (defScope st))
    (hb : ∀ (kV doc pm : Value) (an : Option Addr) (cdv ct : Value) (us : List Value), us.length = ps.length → bindArgs (PySem.W.fnOf m q (defArgs st) (defBody st) (defScope st) .none kV doc pm an cdv ct) ⟨us, []⟩ = pure (ps.zip us))
    (hbody : ∀ (f : Addr) (cdv : Value) (A : Around) (outer : List Env) (s : Shared) (H : Hp) (E : XK), Room k (A.deeper (envOfC q (defScope st) s.heap.objs.size f cdv)) → PSsD (cxD P w K mg base N q (defScope st) f cdv A outer s H E) (defBody st) fb) :
    MethOk P w K mg base (k + 1) c m ps (runF N ps.length fb) := by
  obtain ⟨C, f, fd, h1, h2, h3, F⟩ := F
  exact ⟨C, f, fd, h1, h2, h3, meth_run F S hbody, F.binds hb⟩
theorem MethOk.mono {j k : Nat} {c m : Str} {ps : List Str} {M : List D → Option Rs} (h : MethOk P w K mg base j c m ps M) (l : j ≤ k) : MethOk P w K mg base k c m ps M := by
  obtain ⟨C, f, fd, h1, h2, h3, h4, h5⟩ := h
  exact ⟨C, f, fd, h1, h2, h3, h4.mono l, h5⟩
end
abbrev MTab := List (Str × (List D → Option Rs))
section
variable {X : Cx} {o e : Expr} {es : List Expr} {m : Str} {apos pos : Pos} {f : FE} {g : En → Option (List D)}
@[simp] def fMeth (m : Str) (tbl : MTab) (f : FE) (g : En → Option (List D)) : FR := fun δ => (f δ).bind fun d => match d with
  | .obj c ks ds => if ks.contains m = true then none else (tbl.lookup c).bind fun M => (g δ).bind fun as => M (.obj c ks ds :: as)
  | _ => none
theorem lookup_zip_none {m : Str} : ∀ {ks : List Str} {vs : List V}, ks.contains m = false → (ks.zip vs).lookup m = none
  | [], _, _ => by simp
  | _ :: _, [], _ => by simp
  | k :: ks, v :: vs, h => by
    rw [List.contains_cons, Bool.or_eq_false_iff] at h
    rw [List.zip_cons_cons, List.lookup_cons, h.1]
    exact lookup_zip_none h.2
theorem pr_meth {k : Nat} {ps : List Str} {tbl : MTab} (ho : PB X o f) (hT : ∀ c M, tbl.lookup c = some M → MethOk X.prog X.w X.K X.mg X.base k c m ps M) (hr : Room k X.A) (ha : PAD X (e :: es) g) {pl : Sem Bool}
    (hst : starEach (e :: es) X.env = (false, eval e X.env) :: starEach es X.env := by rfl) (hpl : (backTo pos (starEach es X.env)).any (·.1) = false := by rfl)
    (ht : eval (.Call (.Attribute o m apos) (e :: es) [] pos) X.env = (do
      let ov ← eval o X.env
      standAt apos.atName
      let (f, first) ← holding [ov] (getMethod ov m pl)
      callWith pos f first (backTo pos (starEach (e :: es) X.env)) (backToKw pos (keywordEach [] X.env))) := by rfl) : PR X (.Call (.Attribute o m apos) (e :: es) [] pos) (fMeth m tbl f g) := by
  obtain ⟨ta, pa, ka⟩ := ho
  obtain ⟨tg, pg, kg⟩ := ha
  refine ⟨fun σ H Q => ∃ c M C f fd, tbl.lookup c = some M ∧ Cls X.K C ∧ Meth X.K C m f ∧ FnOk X.prog X.w X.K X.mg X.base CX0 k f fd ps (spD X.K M) ∧ Binds X.K fd ps [] ∧ tMeth C m (spD X.K M) [] (fun _ _ _ => False) ta tg σ H Q, ?_, fun B G H δ σ r Q sG rs ef w => ?_⟩
  · intro pins s σ H Q I h
    obtain ⟨c, M, C, f, fd, _, h2, h3, h4, h5, h6⟩ := h
    exact pe_meth pa h2 h3 h4 hr h5 .nil pass0 pg hst hpl ht pins s σ H Q I h6
  · unfold fMeth at ef
    obtain ⟨d, e1, ef⟩ := Option.bind_eq_some_iff.mp ef
    split at ef
    · rename_i c ks ds
      split at ef
      · cases ef
      · rename_i hm
        obtain ⟨M, e2, ef⟩ := Option.bind_eq_some_iff.mp ef
        obtain ⟨as, e3, ef⟩ := Option.bind_eq_some_iff.mp ef
        obtain ⟨C, f, fd, h1, h2, h3, h4, h5⟩ := hT c M e2
        refine ⟨c, M, C, f, fd, e2, h2, h3, h4, h5, ?_⟩
        refine ka B G H δ σ _ _ sG rs e1 fun v G1 H1 g1 r1 => ?_
        have r1 := r1.obj
        have r1' := r1
        simp only [Rep] at r1'
        obtain ⟨a, C', dx, vs, rfl, q1, q2, q3, q4, q5⟩ := r1'
        rw [h1] at q1
        cases q1
        refine ⟨a, dx, _, rfl, g1.s _ _ q2, lookup_zip_none (Bool.eq_false_iff.mpr hm), ?_⟩
        refine kg B G1 H1 δ σ as _ g1.s (rs.grow g1) e3 fun us G2 H2 g2 r2 => ?_
        rw [List.append_nil]
        refine ⟨G2, _, r, g2.s, ?_, ef, (w.mono g1).mono g2⟩
        simp only [RepL]
        exact ⟨_, _, rfl, r1.mono g2.g, r2⟩
    · cases ef
@[simp] def fFld (cs : List Str) (a : Str) (f : FE) : FE := fun δ => (f δ).bind fun d => match d with
  | .obj c ks ds => if cs.contains c = true then (ks.zip ds).lookup a else none
  | _ => none
def FldAt (K : PySem.W.Frag) (c a : Str) : Prop := ∃ C, PySem.W.nsIn K mainGlobals c = some (some (.ref C)) ∧ Cls K C ∧ NoAttr K C a
theorem lookup_rep {K : PySem.W.Frag} {G : Hp} {a : Str} : ∀ {ks : List Str} {ds : List D} {vs : List V} {d : D}, RepL K G ds vs → (ks.zip ds).lookup a = some d → ∃ v, (ks.zip vs).lookup a = some v ∧ Rep K G d v
  | [], _, _, _, _, h => by simp at h
  | _ :: _, [], _, _, _, h => by simp at h
  | k :: ks, x :: ds, _, d, r, h => by
    simp only [RepL] at r
    obtain ⟨v, us, rfl, r1, r2⟩ := r
    rw [List.zip_cons_cons, List.lookup_cons] at h ⊢
    cases e : a == k with
    | true => rw [e] at h; cases h; exact ⟨v, rfl, r1⟩
    | false => rw [e] at h; exact lookup_rep r2 h
theorem pd_fld {cs : List Str} {a : Str} (ho : PB X o f) (hT : ∀ c ∈ cs, FldAt X.K c a) (hb : attributeBase o a X.env (eval o X.env) = eval o X.env := by rfl) : PD X (.Attribute o a pos) (fFld cs a f) := by
  obtain ⟨ta, pa, ka⟩ := ho
  refine ⟨_, pe_fld pa hb, fun B G H δ σ d Q sG rs ef w => ?_⟩
  unfold fFld at ef
  obtain ⟨d0, e1, ef⟩ := Option.bind_eq_some_iff.mp ef
  split at ef
  · rename_i c ks ds
    split at ef
    · rename_i hc
      obtain ⟨C, h1, h2, h3⟩ := hT c (List.contains_iff_mem.mp hc)
      refine ka B G H δ σ _ _ sG rs e1 fun v G1 H1 g1 r1 => ?_
      have r1 := r1.obj
      simp only [Rep] at r1
      obtain ⟨a, C', dx, vs, rfl, q1, q2, q3, q4, q5⟩ := r1
      rw [h1] at q1
      cases q1
      obtain ⟨u, l1, l2⟩ := lookup_rep q5 ef
      exact ⟨a, C, dx, _, u, rfl, g1.s _ _ q2, h2, h3, l1, w u G1 H1 g1 l2⟩
    · cases ef
  · cases ef
@[simp] def fIsC (tbl : List (Str × Bool)) (f : FE) : FE := fun δ => (f δ).bind fun d => match d with | .obj c _ _ => (tbl.lookup c).map .bl | _ => none
def InsC (K : PySem.W.Frag) (C : Addr) : Prop := Cls K C ∧ PySem.W.findIn K (.ref C) "__class__" = some (some (.builtin "object.__class__")) ∧ PySem.W.specialIn K (.builtin "object.__class__") "__get__" = some (some (.builtin "getset_descriptor.__get__")) ∧
  PySem.W.takesIn K (.builtin "object.__class__") = some true ∧ PySem.W.mroIn K C (.type "object") = some true
def IsC1 (K : PySem.W.Frag) (r : Str) (tbl : List (Str × Bool)) : Prop := ∃ R, PySem.W.nsIn K mainGlobals r = some (some (.ref R)) ∧ ∀ c b, tbl.lookup c = some b → ∃ C, PySem.W.nsIn K mainGlobals c = some (some (.ref C)) ∧ InsC K C ∧ PySem.W.kitOne K (.ref C) (.ref R) = some b
theorem pd_isC {r : Str} {p pr : Pos} {tbl : List (Str × Bool)} (hT : IsC1 X.K r tbl) (hm : X.mg "isinstance" = none) (ho : PB X o f) (hg : Gl X "isinstance" := by rfl) (hgr : Gl X r := by rfl) (hdr : (r == ("__debug__" : Str)) = false := by decide)
    (hs : starEach [o, .Name r pr] X.env = (false, eval o X.env) :: starEach [.Name r pr] X.env := by rfl) (hs2 : starEach [.Name r pr] X.env = (false, eval (.Name r pr) X.env) :: starEach [] X.env := by rfl) (hpl : (backTo pos (starEach [.Name r pr] X.env)).any (·.1) = false := by rfl)
    (hb : bootBuiltins "isinstance" = some (.builtin "isinstance") := by decide +kernel) : PD X (.Call (.Name "isinstance" p) [o, .Name r pr] [] pos) (fIsC tbl f) := by
  obtain ⟨R, hR, hT⟩ := hT
  obtain ⟨t, pt, k1⟩ := ho
  have hc : CallR X (.builtin "isinstance") (fun xs H Q => ∃ a C dx fs b, xs = [.ref a, .ref R] ∧ H a = some (.ins C dx fs) ∧ InsC X.K C ∧ PySem.W.kitOne X.K (.ref C) (.ref R) = some b ∧ Q (.bl b) H) := by
    intro pins s σ H xs us Q I r h
    obtain ⟨a, C, dx, fs, b, rfl, hH, ⟨i1, i2, i3, i4, i5⟩, hk, q⟩ := h
    obtain ⟨u, w', rfl, r1, r2⟩ := vals2 r
    cases (show w' = Value.ref R from r2)
    exact isinst_ok I r1 (.ins hH i1 i2 i3 i4 i5) hk fun tk => ⟨.bl b, H, I.tok tk, rfl, q⟩
  refine ⟨_, pe_callB hc hg hm hb (pa_cons pt (pa_cons (pe_clsK hR hgr hdr) pa_nil hs2) hs) (by decide) (by decide) hs hpl, fun B G H δ σ d Q sG rs ef w => ?_⟩
  unfold fIsC at ef
  obtain ⟨d0, e1, ef⟩ := Option.bind_eq_some_iff.mp ef
  split at ef
  · rename_i c ks ds
    obtain ⟨b, e2, rfl⟩ := Option.map_eq_some_iff.mp ef
    obtain ⟨C, h1, h2, h3⟩ := hT c b e2
    refine k1 B G H δ σ _ _ sG rs e1 fun v G1 H1 g1 r1 => ?_
    have r1 := r1.obj
    simp only [Rep] at r1
    obtain ⟨a, C', dx, vs, rfl, q1, q2, q3, q4, q5⟩ := r1
    rw [h1] at q1
    cases q1
    exact ⟨a, C, dx, _, b, rfl, g1.s _ _ q2, h2, h3, w _ G1 H1 g1 (by simp [Rep])⟩
  · cases ef
end
end L2
set_option Elab.async false
set_option linter.all false
set_option maxRecDepth 100000
set_option maxHeartbeats 4000000
namespace L2
open PySem PySem.Spec PyProof.Rows
abbrev Fls := List (Str × (Nat ⊕ Int))
def mkV : Fls → List V → Option (List V)
  | [], _ => some []
  | (_, .inl i) :: r, us => (us[i]?).bind fun v => (mkV r us).map (v :: ·)
  | (_, .inr z) :: r, us => (mkV r us).map (.int z :: ·)
def mkD : Fls → List D → Option (List D)
  | [], _ => some []
  | (_, .inl i) :: r, us => (us[i]?).bind fun v => (mkD r us).map (v :: ·)
  | (_, .inr z) :: r, us => (mkD r us).map (.int z :: ·)
theorem repL_get {K : PySem.W.Frag} {G : Hp} : ∀ {ds : List D} {vs : List V} {i : Nat} {d : D}, RepL K G ds vs → ds[i]? = some d → ∃ v, vs[i]? = some v ∧ Rep K G d v
  | [], _, _, _, _, h => by simp at h
  | x :: ds, _, i, d, r, h => by
    simp only [RepL] at r
    obtain ⟨v, us, rfl, r1, r2⟩ := r
    cases i with
    | zero => simp at h; subst h; exact ⟨v, rfl, r1⟩
    | succ i => exact repL_get (i := i) r2 (by simpa using h)
theorem mk_rep {K : PySem.W.Frag} {G : Hp} {ds : List D} {vs : List V} (r : RepL K G ds vs) : ∀ {fl : Fls} {xs : List D}, mkD fl ds = some xs → ∃ ws, mkV fl vs = some ws ∧ RepL K G xs ws ∧ xs.length = fl.length
  | [], _, h => by cases h; exact ⟨[], rfl, by simp [RepL], rfl⟩
  | (k, .inl i) :: fl, _, h => by
    unfold mkD at h
    obtain ⟨d, e1, h⟩ := Option.bind_eq_some_iff.mp h
    obtain ⟨ys, e2, rfl⟩ := Option.map_eq_some_iff.mp h
    obtain ⟨v, q1, q2⟩ := repL_get r e1
    obtain ⟨ws, q3, q4, q5⟩ := mk_rep r e2
    refine ⟨v :: ws, by unfold mkV; rw [q1, Option.bind_some, q3]; rfl, ?_, by simp [q5]⟩
    simp only [RepL]
    exact ⟨v, ws, rfl, q2, q4⟩
  | (k, .inr z) :: fl, _, h => by
    unfold mkD at h
    obtain ⟨ys, e2, rfl⟩ := Option.map_eq_some_iff.mp h
    obtain ⟨ws, q3, q4, q5⟩ := mk_rep r e2
    refine ⟨.int z :: ws, by unfold mkV; rw [q3]; rfl, ?_, by simp [q5]⟩
    simp only [RepL]
    exact ⟨.int z, ws, rfl, by simp [Rep], q4⟩
def spI (K : PySem.W.Frag) (fl : Fls) (n : Nat) : Sp := fun vs H Q _ => ∃ x us C dx ws, vs = .ref x :: us ∧ us.length = n ∧ H x = some (.ins C dx []) ∧ Cls K C ∧ (∀ k ∈ fl, NoAttr K C k.1) ∧ mkV fl us = some ws ∧ Q .non (upd H x (.ins C dx ((fl.map (·.1)).zip ws)))
theorem spI_len {K : PySem.W.Frag} {fl : Fls} {n : Nat} : ∀ vs H Q E, spI K fl n vs H Q E → vs.length = n + 1 := fun vs H Q E ⟨x, us, C, dx, ws, h, hl, _⟩ => by rw [h]; simp [hl]
def MkAt (K : PySem.W.Frag) (mg : Str → Option Value) (c q : Str) (st : Stmt) (fl : Fls) : Prop := ∃ C f fd, PySem.W.nsIn K mainGlobals c = some (some (.ref C)) ∧ Mk K C f ∧ Cls K C ∧ (∀ k ∈ fl, NoAttr K C k.1) ∧ Fun K "__init__" q st f fd ∧ mg c = some (.ref C)
def MkOk (P : Program) (w : World) (K : PySem.W.Frag) (mg : Str → Option Value) (base : Heap) (k : Nat) (c : Str) (ps : List Str) (fl : Fls) (n : Nat) : Prop :=
  ∃ C f fd, PySem.W.nsIn K mainGlobals c = some (some (.ref C)) ∧ Mk K C f ∧ Cls K C ∧ (∀ k ∈ fl, NoAttr K C k.1) ∧ FnOk P w K mg base CX0 k f fd ps (spI K fl n) ∧ Binds K fd ps [] ∧ mg c = some (.ref C)
section
variable {X : Cx} {e : Expr} {es : List Expr} {c m : Str} {p apos pos : Pos} {g : En → Option (List D)}
@[simp] def fMake (c : Str) (fl : Fls) (n : Nat) (g : En → Option (List D)) : FE := fun δ => (g δ).bind fun ds => if ds.length = n then (mkD fl ds).map fun xs => .obj c (fl.map (·.1)) xs else none
theorem pd_make {k n : Nat} {ps : List Str} {fl : Fls} (M : MkOk X.prog X.w X.K X.mg X.base k c ps fl n) (hr : Room (k + 1) X.A) (ha : PAD X (e :: es) g) (hg : Gl X c := by rfl) (hdb : (c == ("__debug__" : Str)) = false := by decide)
    (he : starEach (e :: es) X.env = (false, eval e X.env) :: starEach es X.env := by rfl) (hpl : (backTo pos (starEach es X.env)).any (·.1) = false := by rfl) : PD X (.Call (.Name c p) (e :: es) [] pos) (fMake c fl n g) := by
  obtain ⟨C, f, fd, h1, h2, h3, h4, h5, h6, h7⟩ := M
  obtain ⟨tg, pg, kg⟩ := ha
  refine ⟨_, pe_make h2 h5 hr hg h7 h6 .nil pass0 pg hdb he hpl, fun B G H δ σ d Q sG rs ef w => ?_⟩
  unfold fMake at ef
  obtain ⟨ds, e1, ef⟩ := Option.bind_eq_some_iff.mp ef
  split at ef
  · rename_i hn
    obtain ⟨xs, e2, rfl⟩ := Option.map_eq_some_iff.mp ef
    refine kg B G H δ σ ds _ sG rs e1 fun vs G1 H1 g1 r1 x dx hx hdx hne => ?_
    obtain ⟨ws, q1, q2, q3⟩ := mk_rep r1 e2
    rw [List.append_nil]
    refine ⟨x, vs, C, dx, ws, rfl, by rw [← r1.length]; exact hn, upd_same, h3, h4, q1, rfl, ?_⟩
    rw [upd_upd]
    have ga := Grow.laid g1.s (.own x) hdx
    have hx2 : upd H1 dx (.own x) x = none := by rw [upd_ne (Ne.symm hne)]; exact hx
    have gb := Grow.laid ga.s (.ins C dx ((fl.map (·.1)).zip ws)) hx2
    refine w _ _ _ (g1.trans (ga.trans gb)) ?_
    simp only [Rep]
    refine ⟨x, C, dx, ws, rfl, h1, upd_same, ?_, by rw [List.length_map, q3], q2.mono (ga.g.trans gb.g)⟩
    rw [upd_ne hne]
    exact upd_same
  · cases ef
theorem pe_callC {C f : Addr} {fd : FuncData} {ps : List Str} {sp : Sp} {k : Nat} {mc : Value} {t : TA} {pl : Sem Bool} (hC : PySem.W.nsIn X.K mainGlobals c = some (some (.ref C))) (hga : PySem.W.specialIn X.K (.ref C) "__getattribute__" = some (some (.builtin "type.__getattribute__"))) (hrd : PySem.W.readsIn X.K C mc = true)
    (hf : PySem.W.findCls X.K (.ref C) mc m = some (.val (.ref f))) (hk : PySem.W.keepIn X.K (.ref f) = true) (F : FnOk X.prog X.w X.K X.mg X.base CX0 k f fd ps sp) (hr : Room k X.A) (hb : Binds X.K fd ps []) (ha : PA X (e :: es) t) (hg : Gl X c := by rfl) (hd : (c == ("__debug__" : Str)) = false := by decide)
    (he : starEach (e :: es) X.env = (false, eval e X.env) :: starEach es X.env := by rfl) (hpl : (backTo pos (starEach es X.env)).any (·.1) = false := by rfl)
    (ht : eval (.Call (.Attribute (.Name c p) m apos) (e :: es) [] pos) X.env = (do
      let ov ← eval (.Name c p) X.env
      standAt apos.atName
      let (f, first) ← holding [ov] (getMethod ov m pl)
      callWith pos f first (backTo pos (starEach (e :: es) X.env)) (backToKw pos (keywordEach [] X.env))) := by rfl) :
    PE X (.Call (.Attribute (.Name c p) m apos) (e :: es) [] pos) (tCall sp [] E0 t) := by
  intro pins s σ H Q I h
  refine PySem.W.methodCall_KW (pl := pl) (ld_glob I hg (PySem.W.mg_of I.ok.mod.kin I.ok.mod.glob hC) ?_ hd) ht
  refine PySem.W.method_cls I.kIn hga (PySem.W.cls_value I.kIn hrd hf rfl ?_)
  have I1 := I.tok (s.toks + 1)
  refine PySem.W.callWith_K (first := []) (h₀ := X.base) I.ok.mod.kin hk (thn (ha pos pins _ σ H _ I1 h) fun us s1 ⟨vs, H1, I2, r, q⟩ => ⟨I2.kIn, ?_⟩) he hpl
  exact run_fn F hr hb .nil pass0 I2 r q
end
theorem psd_dead {X : Cx} {st : Stmt} : PSD X st (fun _ => none) := ⟨fun _ _ _ => False, fun pins s σ H D I h => h.elim, fun B G H δ σ o D sG sB rs e w => nomatch e⟩
end L2
set_option Elab.async false
set_option linter.all false
set_option maxRecDepth 100000
set_option maxHeartbeats 4000000
namespace L2
open PySem PySem.Spec PyProof.Rows
section
variable {X : Cx}
def CDivB (i j : Int) : Prop := 0 < j ∧ j < 2 ^ 1000
def CMulB (i j : Int) : Prop := -(2 ^ 1000) < i ∧ i < 2 ^ 1000 ∧ -(2 ^ 1000) < j ∧ j < 2 ^ 1000
instance (i j : Int) : Decidable (CDivB i j) := inferInstanceAs (Decidable (_ ∧ _))
instance (i j : Int) : Decidable (CMulB i j) := inferInstanceAs (Decidable (_ ∧ _))
theorem log2_lt {n : Nat} (h : n < 2 ^ 1000) : n.log2 < 9000 := by
  by_cases h0 : n = 0
  · subst h0; decide
  · exact Nat.lt_trans ((Nat.log2_lt h0).mpr h) (by decide)
theorem bits_le {a : Int} (h1 : -(2 ^ 1000) < a) (h2 : a < 2 ^ 1000) : Builtin.Int.intBits a ≤ 2 ^ 20 := by
  have hn : a.natAbs < 2 ^ 1000 := by omega
  unfold Builtin.Int.intBits
  split
  · exact Nat.zero_le _
  · rename_i h0
    have := (Nat.log2_lt (n := a.natAbs) (k := 1000) (by simpa using h0)).mpr hn
    omega
theorem op_fdivB : OpR X (binaryOp .FloorDiv) (rI CDivB fun i j => .int (i / j)) := opI fun i j _ _ _ _ _ hc q => by
  have h1 : (0 : Int) < j := hc.1
  have h2 : j < 2 ^ 1000 := hc.2
  refine floordiv_int (by omega) (by rw [Int.fdiv_eq_ediv_of_nonneg i (by omega)]; exact q) (.inl (PyProof.noPylong_of_log2 (log2_lt ?_)))
  omega
theorem op_mulB : OpR X (binaryOp .Mult) (rI CMulB fun i j => .int (i * j)) := opI fun _ _ _ _ _ _ _ hc q => mul_int q (IntMulOk.of_bits (bits_le hc.1 hc.2.1) (bits_le hc.2.2.1 hc.2.2.2))
def fdivB' : D → D → Option D | .int i, .int j => if CDivB i j then some (.int (i / j)) else none | _, _ => none
def mulB' : D → D → Option D | .int i, .int j => if CMulB i j then some (.int (i * j)) else none | _, _ => none
theorem od_fdivB' : OpD X (binaryOp .FloorDiv) fdivB' := opd_i op_fdivB fun _ _ _ => by simp [Rep]
theorem od_mulB' : OpD X (binaryOp .Mult) mulB' := opd_i op_mulB fun _ _ _ => by simp [Rep]
def fdivB (x y : D) : Option D := (fdivD x y).or (fdivB' x y)
def mulB (x y : D) : Option D := (mulD x y).or (mulB' x y)
theorem od_fdivB : OpD X (binaryOp .FloorDiv) fdivB := od_fdiv.or od_fdivB'
theorem od_mulB : OpD X (binaryOp .Mult) mulB := od_mul.or od_mulB'
def borD : D → D → Option D | .int i, .int j => some (.int (Builtin.bitOr i j)) | _, _ => none
def bandD : D → D → Option D | .int i, .int j => some (.int (Builtin.bitAnd i j)) | _, _ => none
theorem od_bor : OpD X (binaryOp .BitOr) borD := opd_i0 op_or fun _ _ _ => by simp [Rep]
theorem od_band : OpD X (binaryOp .BitAnd) bandD := opd_i0 op_and fun _ _ _ => by simp [Rep]
end
section
variable {P : Program} {w : World} {K : PySem.W.Frag} {mg : Str → Option Value} {base : Heap} {k : Nat} {m : Str} {ps : List Str}
theorem tab_nil : ∀ c M, ([] : MTab).lookup c = some M → MethOk P w K mg base k c m ps M := fun c M h => by simp at h
theorem tab_cons {c0 : Str} {M0 : List D → Option Rs} {tbl : MTab} (h : MethOk P w K mg base k c0 m ps M0) (r : ∀ c M, tbl.lookup c = some M → MethOk P w K mg base k c m ps M) : ∀ c M, ((c0, M0) :: tbl).lookup c = some M → MethOk P w K mg base k c m ps M := fun c M e => by
  rw [List.lookup_cons] at e
  cases hc : c == c0 with
  | true => rw [hc] at e; cases e; rw [beq_iff_eq.mp hc]; exact h
  | false => rw [hc] at e; exact r c M e
theorem fld_nil {a : Str} : ∀ c ∈ ([] : List Str), FldAt K c a := fun _ h => nomatch h
theorem fld_cons {a c0 : Str} {cs : List Str} (h : FldAt K c0 a) (r : ∀ c ∈ cs, FldAt K c a) : ∀ c ∈ c0 :: cs, FldAt K c a := fun c hc => by
  rcases List.mem_cons.mp hc with e | hc
  · rw [e]; exact h
  · exact r c hc
end
section
variable {X : Cx} {pos : Pos}
@[simp] def sPar (i j : Nat) (g : En → Option (List D)) : FS := fun δ => (g δ).bind fun ds => match ds with | [a, b] => some (.nx ((δ.set i (some (.sh a))).set j (some (.sh b)))) | _ => none
theorem psd_par (i j : Nat) {x y : Str} {a b : Expr} {g : En → Option (List D)} {px py pt : Pos} {kt k2 pt2} (hN : X.N.Nodup) (hc : X.calm = true) (ha : PAD X [a, b] g) (hi : X.N[i]? = some x := by rfl) (hj : X.N[j]? = some y := by rfl) (hij : i ≠ j := by decide)
    (hx : X.env.scope.names.lookup x = some .local := by rfl) (hy : X.env.scope.names.lookup y = some .local := by rfl) (hw : swappedStores [.Tuple [.Name x px, .Name y py] kt pt] (.Tuple [a, b] k2 pt2) X.env = pure (some [x, y]) := by rfl)
    (hs : swapsWithSole [.Tuple [.Name x px, .Name y py] kt pt] (.Tuple [a, b] k2 pt2) pos.line X.env = pure false := by rfl) : PSD X (.Assign [.Tuple [.Name x px, .Name y py] kt pt] (.Tuple [a, b] k2 pt2) pos) (sPar i j g) := by
  obtain ⟨t, pt', kt'⟩ := ha
  refine ⟨_, ps_par hc hN hi hj hij hx hy pt' hw hs, fun B G H δ σ o D sG sB rs e w => ?_⟩
  unfold sPar at e
  obtain ⟨ds, e1, e⟩ := Option.bind_eq_some_iff.mp e
  split at e
  · cases e
    refine kt' B G H δ σ _ _ sG rs e1 fun vs G1 H1 g1 r1 => ?_
    simp only [RepL] at r1
    obtain ⟨v1, r, rfl, q1, v2, r', rfl, q2, rfl⟩ := r1
    exact ⟨v1, v2, rfl, w _ G1 H1 (g1.stp sB) (((rs.grow g1).set i q1).set j q2)⟩
  · cases e
end
end L2
set_option Elab.async false
set_option linter.all false
set_option maxRecDepth 100000
set_option maxHeartbeats 4000000
namespace L2
open PySem PySem.Spec PyProof.Rows
section
variable {prog : Program} {w : World} {A : Around} {E : Value → Shared → Prop}
theorem draw_lst {it l : Addr} {its : Array Value} (ne : l ≠ it) : ∀ (n i : Nat) (s : Shared) (Q : List Value → Shared → Prop), s.heap.IsListIter it l i → s.heap.IsList l its → i + n ≤ its.size →
    (∀ g, g.IsListIter it l (i + n) → Heap.SameBut it s.heap g → Q ((its.toList.drop i).take n) { s with heap := g }) → wpAny (model prog w) A (draw (.ref it) n) Q E s
  | 0, i, s, Q, a, _, _, q => by
    show wpAny _ _ (pure []) Q E s
    exact wpAny_pure (by simpa using q s.heap a (.refl ..))
  | n + 1, i, s, Q, a, b, le, q => by
    have lt : i < its.size := by omega
    show wpAny _ _ (pyNext (.ref it) >>= _) Q E s
    refine wpAny_bind (wpAny_pyNext_list_item a b (x := its[i]) (by simp [lt]) fun g1 a1 s1 => wpAny_bind (wpAny_holding ?_))
    refine draw_lst ne n (i + 1) _ _ a1 (b.extBut s1.extBut ne) (by omega) fun g2 a2 s2 => wpAny_pure ?_
    have e : its.toList.drop i = its[i] :: its.toList.drop (i + 1) := by simp [List.drop_eq_getElem_cons, lt]
    have r := q g2 (by rw [show i + (n + 1) = i + 1 + n by omega]; exact a2) (s1.trans s2)
    rw [e, List.take_succ_cons] at r
    exact r
theorem unp_lst {s : Shared} {l : Addr} {its : Array Value} {Q : List Value → Shared → Prop} (hh : A.handled = none) (b : s.heap.IsList l its)
    (q : ∀ g, Heap.ExtBut s.heap.objs.size s.heap g → Q its.toList { s with heap := g }) : wpAny (model prog w) A (unpackItems (.ref l) its.size none) Q E s := by
  have ne : l ≠ s.heap.objs.size := by obtain ⟨o, ho, _⟩ := b; exact Nat.ne_of_lt (Heap.lt_size ho)
  unfold unpackItems notIterableAtAll
  refine wpAny_bind (wpAny_bind (wpAny_specialOf b.typeIs slot_list_iter.lookup (wpAny_pure ?_)))
  simp only [Bool.false_eq_true, if_false]
  refine wpAny_bind (wpAny_holding (wpAny_pyIter_list b (wpAny_bind (wpAny_holding ?_))))
  refine draw_lst ne its.size 0 _ _ ⟨_, Heap.get?_push_size _ rfl, rfl, rfl⟩ (b.push _) (by omega) fun g1 a1 s1 => ?_
  rw [show (its.toList.drop 0).take its.size = its.toList by rw [List.drop_zero]; exact List.take_of_length_le (by simp), if_neg (by simp)]
  refine wpAny_bind (wpAny_holding (wpAny_pyNext_list_end hh a1 ((b.push _).extBut s1.extBut ne) (by simp) fun g2 e2 => ?_))
  simp only [Option.isSome_none, Bool.false_eq_true, if_false]
  exact wpAny_pure (q g2 fun c o hc e => e2 c o hc (s1.extBut c o hc (Heap.get?_push_of_some _ e)))
end
section
variable {X : Cx} {pos : Pos} {e : Expr}
def gLst (K : PySem.W.Frag) (n : Nat) (t : TGs) : TG := fun v σ H Q => ∃ a xs, v = .ref a ∧ SqL K H a xs ∧ xs.length = n ∧ t xs σ H Q
theorem pg_lst {es : List Expr} {k : Nat} {t : TGs} {n : Nat} (hc : X.calm = true) (h : PGs X es t) (hn : (assignEach es X.env).length = n := by rfl) (hst : (assignEach es X.env).findIdx? (·.1) = none := by rfl) : PG X (.Tuple es k pos) (gLst X.K n t) := by
  intro pins s σ H v u Q I r hw
  obtain ⟨a, xs, e1, hq, hl, hw⟩ := hw
  subst e1
  cases r
  obtain ⟨its, rv, p, hz⟩ := I.list hq
  rw [PyProof.Rows.assign_Tuple]
  refine wpAny_bind (wpAny_standAt ?_)
  unfold unpack
  have hsz : (assignEach es X.env).length = its.toArray.size := by simp [hn, ← hl, rv.length]
  rw [hsz, hst]
  refine wpAny_bind (wpAny_holding (unp_lst (I.ok.hd hc) p.isList fun g hx => ?_))
  have I1 : Inv X pins σ H { s with heap := g } := I.kept (t' := s.toks) fun b o e => hx b o (Nat.ne_of_lt (Heap.lt_size e)) e
  exact h pins _ σ H xs _ Q I1 (by simpa using rv) hw
@[simp] def sUnpL (i j l : Nat) (f : FE) : FS := fun δ => (f δ).bind fun d => match d with | .lst [a, b, c] => some (.nx (((δ.set i (some (.sh a))).set j (some (.sh b))).set l (some (.sh c)))) | _ => none
theorem psd_unpL (i j l : Nat) {x y z : Str} {f : FE} {px py pz pt : Pos} {k : Nat} (hN : X.N.Nodup) (hc : X.calm = true) (he : PB X e f)
    (hix : X.N[i]? = some x := by rfl) (hx : Loc X.env.scope x := by first | exact Or.inl rfl | exact Or.inr rfl) (hfx : X.fn x = true ∨ X.env.scope.names.lookup x = some .local := by first | exact .inl rfl | exact .inr rfl)
    (hjy : X.N[j]? = some y := by rfl) (hy : Loc X.env.scope y := by first | exact Or.inl rfl | exact Or.inr rfl) (hfy : X.fn y = true ∨ X.env.scope.names.lookup y = some .local := by first | exact .inl rfl | exact .inr rfl)
    (hlz : X.N[l]? = some z := by rfl) (hz : Loc X.env.scope z := by first | exact Or.inl rfl | exact Or.inr rfl) (hfz : X.fn z = true ∨ X.env.scope.names.lookup z = some .local := by first | exact .inl rfl | exact .inr rfl)
    (hs : swapsWithSole [.Tuple [.Name x px, .Name y py, .Name z pz] k pt] e pos.line X.env = pure false := by rfl) (hw : swappedStores [.Tuple [.Name x px, .Name y py, .Name z pz] k pt] e X.env = pure none := by rfl)
    (h1 : (assignEach [.Tuple [.Name x px, .Name y py, .Name z pz] k pt] X.env).map (·.2) = [assign (.Tuple [.Name x px, .Name y py, .Name z pz] k pt) X.env] := by rfl)
    (ht1 : (assignEach [.Name x px, .Name y py, .Name z pz] X.env).map (·.2) = assign (.Name x px) X.env :: (assignEach [.Name y py, .Name z pz] X.env).map (·.2) := by rfl)
    (ht2 : (assignEach [.Name y py, .Name z pz] X.env).map (·.2) = assign (.Name y py) X.env :: (assignEach [.Name z pz] X.env).map (·.2) := by rfl)
    (ht3 : (assignEach [.Name z pz] X.env).map (·.2) = assign (.Name z pz) X.env :: (assignEach [] X.env).map (·.2) := by rfl)
    (hn : (assignEach [.Name x px, .Name y py, .Name z pz] X.env).length = 3 := by rfl) (hst : (assignEach [.Name x px, .Name y py, .Name z pz] X.env).findIdx? (·.1) = none := by rfl) :
    PSD X (.Assign [.Tuple [.Name x px, .Name y py, .Name z pz] k pt] e pos) (sUnpL i j l f) := by
  obtain ⟨t, pt', kt⟩ := he
  refine ⟨_, ps_asg pt' (pg_lst (n := 3) hc (pgs_cons (pg_name hN hix hx hfx) (pgs_cons (pg_name hN hjy hy hfy) (pgs_cons (pg_name hN hlz hz hfz) pgs_nil ht3) ht2) ht1) hn hst) hs hw h1, fun B G H δ σ o D sG sB rs e w => ?_⟩
  unfold sUnpL at e
  obtain ⟨d, e1, e⟩ := Option.bind_eq_some_iff.mp e
  split at e
  · cases e
    refine kt B G H δ σ _ _ sG rs e1 fun v G1 H1 g1 r1 => ?_
    obtain ⟨a, vs, rfl, hq, rl⟩ := r1.lst g1.s
    simp only [RepL] at rl
    obtain ⟨v1, r, rfl, q1, v2, r', rfl, q2, v3, r3, rfl, q3, rfl⟩ := rl
    exact ⟨a, [v1, v2, v3], rfl, hq, rfl, v1, [v2, v3], rfl, v2, [v3], rfl, v3, [], rfl, rfl, w _ G1 H1 (g1.stp sB) ((((rs.grow g1).set i q1).set j q2).set l q3)⟩
  · cases e
end
end L2
set_option Elab.async false
set_option linter.all false
set_option maxRecDepth 100000
set_option maxHeartbeats 4000000
namespace L2
open PySem PySem.Spec PyProof.Rows
def ClsCall (K : PySem.W.Frag) (c m q : Str) (st : Stmt) : Prop := ∃ C mc f fd, PySem.W.nsIn K mainGlobals c = some (some (.ref C)) ∧ PySem.W.specialIn K (.ref C) "__getattribute__" = some (some (.builtin "type.__getattribute__")) ∧ PySem.W.readsIn K C mc = true ∧
  PySem.W.findCls K (.ref C) mc m = some (.val (.ref f)) ∧ Fun K m q st f fd
section
variable {K : PySem.W.Frag} {mg : Str → Option Value} {h : Heap} {c m q a r : Str} {C f R : Addr} {st : Stmt} {od an : Option Addr} {oc kV doc pm cdv ct mc : Value} {osl : Array (Option Value)} {fl : Fls} {b : Bool}
theorem cls_mk (pg : PySem.W.plainGet K C Str.empty = true) (hd : PySem.W.hasDictIn K C = true) (po : PySem.W.plainOver K C = true) (sa : PySem.W.findIn K (.ref C) "__setattr__" = some (some (.builtin "object.__setattr__"))) : Cls K C := ⟨pg, hd, po, sa⟩
theorem methAt_mk (a : PySem.W.nsIn K mainGlobals c = some (some (.ref C))) (cl : Cls K C) (i : PySem.W.findIn K (.ref C) m = some (some (.ref f))) (fn : PySem.W.isFn K (.ref f) = true) (kp : PySem.W.keepIn K (.ref f) = true)
    (l : K.lookup f = some ⟨oc, od, .func (PySem.W.fnOf m q (defArgs st) (defBody st) (defScope st) .none kV doc pm an cdv ct), osl⟩) (cd : PySem.W.codeIn K cdv q = true) : MethAt K c m q st :=
  ⟨C, f, _, a, cl, ⟨i, fn, kp⟩, ⟨⟨_, od, kV, doc, pm, an, cdv, ct, osl, rfl, l, cd⟩, kp⟩⟩
theorem na_nil : ∀ k ∈ ([] : Fls), NoAttr K C k.1 := fun _ h => nomatch h
theorem na_cons {k : Str × (Nat ⊕ Int)} (h : PySem.W.findIn K (.ref C) k.1 = some none) (t : ∀ k ∈ fl, NoAttr K C k.1) : ∀ k' ∈ k :: fl, NoAttr K C k'.1 := fun k' hk => by
  rcases List.mem_cons.mp hk with e | hk
  · rw [e]; exact h
  · exact t k' hk
theorem mkAt_mk (X : K.In h) (G : h.Ns mainGlobals mg) (a : PySem.W.nsIn K mainGlobals c = some (some (.ref C))) (m1 : PySem.W.makesIn K C = true) (i : PySem.W.findIn K (.ref C) "__init__" = some (some (.ref f))) (fn : PySem.W.isFn K (.ref f) = true) (kc : PySem.W.keepIn K (.ref C) = true) (cl : Cls K C)
    (na : ∀ k ∈ fl, NoAttr K C k.1) (l : K.lookup f = some ⟨oc, od, .func (PySem.W.fnOf "__init__" q (defArgs st) (defBody st) (defScope st) .none kV doc pm an cdv ct), osl⟩) (cd : PySem.W.codeIn K cdv q = true) (kp : PySem.W.keepIn K (.ref f) = true) : MkAt K mg c q st fl :=
  ⟨C, f, _, a, ⟨m1, i, fn, kc⟩, cl, na, ⟨⟨_, od, kV, doc, pm, an, cdv, ct, osl, rfl, l, cd⟩, kp⟩, PySem.W.mg_of X G a⟩
theorem fldAt_mk (e : PySem.W.nsIn K mainGlobals c = some (some (.ref C))) (cl : Cls K C) (na : PySem.W.findIn K (.ref C) a = some none) : FldAt K c a := ⟨C, e, cl, na⟩
theorem insC_mk (cl : Cls K C) (h1 : PySem.W.findIn K (.ref C) "__class__" = some (some (.builtin "object.__class__"))) (h2 : PySem.W.specialIn K (.builtin "object.__class__") "__get__" = some (some (.builtin "getset_descriptor.__get__"))) (h3 : PySem.W.takesIn K (.builtin "object.__class__") = some true)
    (h4 : PySem.W.mroIn K C (.type "object") = some true) : InsC K C := ⟨cl, h1, h2, h3, h4⟩
def IsCs (K : PySem.W.Frag) (R : Addr) (tbl : List (Str × Bool)) : Prop := ∀ c b, tbl.lookup c = some b → ∃ C, PySem.W.nsIn K mainGlobals c = some (some (.ref C)) ∧ InsC K C ∧ PySem.W.kitOne K (.ref C) (.ref R) = some b
theorem isCs_nil : IsCs K R [] := fun c b h => by simp at h
theorem isCs_cons {tbl : List (Str × Bool)} (e : PySem.W.nsIn K mainGlobals c = some (some (.ref C))) (i : InsC K C) (k : PySem.W.kitOne K (.ref C) (.ref R) = some b) (t : IsCs K R tbl) : IsCs K R ((c, b) :: tbl) := fun c' b' h => by
  rw [List.lookup_cons] at h
  cases hc : c' == c with
  | true => rw [hc] at h; cases h; rw [beq_iff_eq.mp hc]; exact ⟨C, e, i, k⟩
  | false => rw [hc] at h; exact t c' b' h
theorem isC1_mk {tbl : List (Str × Bool)} (e : PySem.W.nsIn K mainGlobals r = some (some (.ref R))) (t : IsCs K R tbl) : IsC1 K r tbl := ⟨R, e, t⟩
theorem clsCall_mk (e : PySem.W.nsIn K mainGlobals c = some (some (.ref C))) (_ : PySem.W.typeIn K (.ref C) = some mc) (_ : PySem.W.findIn K (.ref C) m = some (some (.ref f))) (h1 : PySem.W.specialIn K (.ref C) "__getattribute__" = some (some (.builtin "type.__getattribute__"))) (h2 : PySem.W.readsIn K C mc = true) (h3 : PySem.W.findCls K (.ref C) mc m = some (.val (.ref f)))
    (l : K.lookup f = some ⟨oc, od, .func (PySem.W.fnOf m q (defArgs st) (defBody st) (defScope st) .none kV doc pm an cdv ct), osl⟩) (cd : PySem.W.codeIn K cdv q = true) (kp : PySem.W.keepIn K (.ref f) = true) : ClsCall K c m q st :=
  ⟨C, mc, f, _, e, h1, h2, h3, ⟨⟨_, od, kV, doc, pm, an, cdv, ct, osl, rfl, l, cd⟩, kp⟩⟩
end
theorem mkV2 {p q : Str} {us ws : List V} (hl : us.length = 2) (h : mkV [(p, .inl 0), (q, .inl 1)] us = some ws) : ∃ u v, us = [u, v] ∧ ws = [u, v] := by
  match us, hl with
  | [u, v], _ => cases h; exact ⟨u, v, rfl, rfl⟩
theorem mkV1 {p q : Str} {z : Int} {us ws : List V} (hl : us.length = 1) (h : mkV [(p, .inr z), (q, .inl 0)] us = some ws) : ∃ u, us = [u] ∧ ws = [.int z, u] := by
  match us, hl with
  | [u], _ => cases h; exact ⟨u, rfl, rfl⟩
end L2
set_option Elab.async false
set_option linter.all false
set_option maxRecDepth 100000
set_option maxHeartbeats 4000000
namespace K58
open PySem PySem.Spec PyProof.Rows L2
def top (i : Nat) : Stmt := PySem.Challenge.pw_reason_k58_measures.main.body.getD i (.Pass ⟨0, 0, 0, 0⟩)
def fl_Bits : Fls := [("nought", .inr 0), ("top", .inl 0)]
def fl_Chain : Fls := [("nought", .inr 0), ("top", .inl 0)]
def fl_Measure : Fls := [("nought", .inl 0), ("top", .inl 1)]
def fl_Shares : Fls := [("nought", .inr 1), ("top", .inl 0)]
def ic_Measure : List (Str × Bool) := [("Bits", true), ("Chain", true), ("Shares", true)]
structure Txt (K : PySem.W.Frag) (mg : Str → Option Value) : Prop where
  d_is_whole : DefAt K mg "is_whole" (top 5)
  d_measure_of : DefAt K mg "measure_of" (top 11)
  d__law_cell_at : DefAt K mg "_law_cell_at" (top 13)
  d__law_draws : DefAt K mg "_law_draws" (top 14)
  d__law_share : DefAt K mg "_law_share" (top 15)
  d__law_bits : DefAt K mg "_law_bits" (top 16)
  d__law_common : DefAt K mg "_law_common" (top 17)
  d__law_due : DefAt K mg "_law_due" (top 18)
  d__law_is_value : DefAt K mg "_law_is_value" (top 19)
  d__law_agrees : DefAt K mg "_law_agrees" (top 20)
  d_law : DefAt K mg "law" (top 21)
  m_bool : mg "bool" = none
  m_int : mg "int" = none
  m_isinstance : mg "isinstance" = none
  m_len : mg "len" = none
  m_max : mg "max" = none
  m_min : mg "min" = none
  m_range : mg "range" = none
  m_str : mg "str" = none
  m_tuple : mg "tuple" = none
  t_bool : IsTyOk K "bool"
  t_int : IsTyOk K "int"
  t_str : IsTyOk K "str"
  t_tuple : IsTyOk K "tuple"
  mt_Bits_both : MethAt K "Bits" "both" "Bits.both" (clsAt (top 8) 2)
  mt_Chain_both : MethAt K "Chain" "both" "Measure.both" (clsAt (top 7) 3)
  mt_Shares_both : MethAt K "Shares" "both" "Shares.both" (clsAt (top 10) 2)
  mt_Bits_either : MethAt K "Bits" "either" "Bits.either" (clsAt (top 8) 1)
  mt_Chain_either : MethAt K "Chain" "either" "Measure.either" (clsAt (top 7) 2)
  mt_Shares_either : MethAt K "Shares" "either" "Shares.either" (clsAt (top 10) 1)
  mt_Bits_has : MethAt K "Bits" "has" "Measure.has" (clsAt (top 7) 1)
  mt_Chain_has : MethAt K "Chain" "has" "Measure.has" (clsAt (top 7) 1)
  mt_Shares_has : MethAt K "Shares" "has" "Measure.has" (clsAt (top 7) 1)
  mk_Bits : MkAt K mg "Bits" "Bits.__init__" (clsAt (top 8) 0) fl_Bits
  mk_Chain : MkAt K mg "Chain" "Chain.__init__" (clsAt (top 9) 0) fl_Chain
  mk_Shares : MkAt K mg "Shares" "Shares.__init__" (clsAt (top 10) 0) fl_Shares
  cc_Measure : ClsCall K "Measure" "__init__" "Measure.__init__" (clsAt (top 7) 0)
  fl_nought : ∀ c ∈ (["Bits", "Chain", "Shares"] : List Str), FldAt K c "nought"
  fl_top : ∀ c ∈ (["Bits", "Chain", "Shares"] : List Str), FldAt K c "top"
  ic_Measure : IsC1 K "Measure" ic_Measure
noncomputable section
def fb_is_whole : FS := (sSeq (sRet (fSh (fAnd (fIs "int" (fVarB 0)) (fNot (fIs "bool" (fVarB 0))))))
    sNil)
def M_is_whole : List D → Option Rs := runF ["thing"] 1 fb_is_whole
def fb_measure_of : FS := (sSeq (sIf (bOr (bNot (fB (fIs "tuple" (fVarB 0)))) (bOr (fB (f2 (neE) (fCallB lenD (fCons (fVarB 0) fNil)) (fC (.int 2)))) (bOr (bNot (fB (fIs "str" (f2 ixA (fVarB 0) (fC (.int 0)))))) (bNot (fB (fPub (fCallR M_is_whole (fCons (f2 ixA (fVarB 0) (fC (.int 1))) fNil)))))))) (sSeq (fun _ => none)
    sNil) sNil)
    (sSeq (sIf (fB (f2 (geD) (f2 ixA (fVarB 0) (fC (.int 1))) (fC (.int 1)))) (sSeq (sIf (fB (f2 (eqO false) (f2 ixA (fVarB 0) (fC (.int 0))) (fC (.str "bits")))) (sSeq (sRet (fSh (fMake "Bits" fl_Bits 1 (fCons (f2 ixA (fVarB 0) (fC (.int 1))) fNil))))
    sNil) sNil)
    (sSeq (sIf (fB (f2 (eqO false) (f2 ixA (fVarB 0) (fC (.int 0))) (fC (.str "chain")))) (sSeq (sRet (fSh (fMake "Chain" fl_Chain 1 (fCons (f2 ixA (fVarB 0) (fC (.int 1))) fNil))))
    sNil) sNil)
    (sSeq (sIf (fB (f2 (eqO false) (f2 ixA (fVarB 0) (fC (.int 0))) (fC (.str "shares")))) (sSeq (sRet (fSh (fMake "Shares" fl_Shares 1 (fCons (f2 ixA (fVarB 0) (fC (.int 1))) fNil))))
    sNil) sNil)
    sNil))) sNil)
    (sSeq (fun _ => none)
    sNil)))
def M_measure_of : List D → Option Rs := runF ["thing"] 1 fb_measure_of
def fb__law_cell_at : FS := (sSeq (sIf (fB (f2 (ltE) (fVarB 1) (fCallB lenD (fCons (fVarB 0) fNil)))) (sSeq (sRet (fSh (f2 ixA (fVarB 0) (fVarB 1))))
    sNil) sNil)
    (sSeq (sRet (fSh (fC (.int 0))))
    sNil))
def M__law_cell_at : List D → Option Rs := runF ["_law_script", "_law_k"] 2 fb__law_cell_at
def fb__law_draws : FS := (sSeq (sSetR 4 (fLstR fNil))
    (sSeq (sFor 5 (oRng (fVar 2)) (sSeq (sIf (fB (fVar 3)) (sSeq (sApp 4 (f2 modD (fVarB 0) (fVarB 1)))
    (sSeq (sSet 0 (f2 fdivB (fVarB 0) (fVarB 1)))
    sNil)) (sSeq (sSet 6 (f2 modD (f2 addD (f2 addD (f2 mulB (fVarB 0) (fC (.int 48271))) (f2 mulB (fVarB 5) (fC (.int 69621)))) (fC (.int 11))) (fC (.int 2147483647))))
    (sSeq (sSet 6 (f2 modD (f2 mulB (f2 modD (f2 addD (f2 addD (f2 mulB (fVarB 6) (fVarB 6)) (f2 mulB (fC (.int 7)) (fVarB 5))) (f2 modD (fVarB 0) (fC (.int 1009)))) (fC (.int 2147483629))) (fC (.int 16807))) (fC (.int 2147483587))))
    (sSeq (sApp 4 (f2 modD (f2 fdivB (fVarB 6) (fC (.int 31))) (fVarB 1)))
    sNil))))
    sNil))
    (sSeq (sRetV 4)
    sNil)))
def M__law_draws : List D → Option Rs := runF ["_law_cell", "_law_m", "_law_many", "_law_free", "_law_found", "_law_k", "_law_n"] 4 fb__law_draws
def fb__law_share : FS := (sSeq (sSet 2 (fC (.int 1)))
    (sSeq (sFor 3 (oSeq (fPub (fLstR (fCons (fC (.int 2)) (fCons (fC (.int 3)) (fCons (fC (.int 5)) (fCons (fC (.int 7)) (fCons (fC (.int 11)) (fCons (fC (.int 13)) fNil))))))))) (sSeq (sWhile (bAnd (fB (f2 (eqO false) (f2 modD (fVarB 1) (fC (.int 2))) (fC (.int 1)))) (fB (f2 (eqO false) (f2 modD (fVarB 0) (f2 mulB (fVarB 2) (fVarB 3))) (fC (.int 0))))) (sSeq (sSet 2 (f2 mulB (fVarB 2) (fVarB 3)))
    (sSeq (sSet 1 (f2 fdivB (fVarB 1) (fC (.int 2))))
    sNil)))
    (sSeq (sSet 1 (f2 fdivB (fVarB 1) (fC (.int 2))))
    sNil)))
    (sSeq (sIf (fB (f2 (eqO false) (f2 modD (fVarB 1) (fC (.int 5))) (fC (.int 1)))) (sSeq (sRet (fSh (f2 fdivB (fVarB 0) (fVarB 2))))
    sNil) sNil)
    (sSeq (sRetV 2)
    sNil))))
def M__law_share : List D → Option Rs := runF ["_law_top", "_law_n", "_law_found", "_law_k"] 2 fb__law_share
def fb__law_bits : FS := (sSeq (sSet 3 (fC (.int 0)))
    (sSeq (sSet 4 (fC (.int 1)))
    (sSeq (sWhile (bOr (fB (f2 (gtD) (fVarB 0) (fC (.int 0)))) (fB (f2 (gtD) (fVarB 1) (fC (.int 0))))) (sSeq (sSet 5 (f2 modD (fVarB 0) (fC (.int 2))))
    (sSeq (sSet 6 (f2 modD (fVarB 1) (fC (.int 2))))
    (sSeq (sIf (bOr (bAnd (fB (fVar 2)) (fB (f2 (gtD) (f2 addD (fVarB 5) (fVarB 6)) (fC (.int 0))))) (fB (f2 (eqO false) (f2 addD (fVarB 5) (fVarB 6)) (fC (.int 2))))) (sSeq (sSet 3 (f2 addD (fVarB 3) (fVarB 4)))
    sNil) sNil)
    (sSeq (sSet 0 (f2 fdivB (fVarB 0) (fC (.int 2))))
    (sSeq (sSet 1 (f2 fdivB (fVarB 1) (fC (.int 2))))
    (sSeq (sSet 4 (f2 mulB (fVarB 4) (fC (.int 2))))
    sNil)))))))
    (sSeq (sRetV 3)
    sNil))))
def M__law_bits : List D → Option Rs := runF ["_law_one", "_law_other", "_law_is_either", "_law_found", "_law_place", "_law_a", "_law_b"] 3 fb__law_bits
def fb__law_common : FS := (sSeq (sWhile (bAnd (fB (f2 (neE) (fVarB 0) (fVarB 1))) (fB (f2 (gtD) (fVarB 1) (fC (.int 0))))) (sSeq (sPar 0 1 (fCons (fVar 1) (fCons (f2 modD (fVarB 0) (fVarB 1)) fNil)))
    sNil))
    (sSeq (sRetV 0)
    sNil))
def M__law_common : List D → Option Rs := runF ["_law_one", "_law_other"] 2 fb__law_common
def fb__law_due : FS := (sSeq (sIf (fB (f2 (eqO false) (fVarB 0) (fC (.int 0)))) (sSeq (sRet (fCallR M__law_bits (fCons (fVar 1) (fCons (fVar 2) (fCons (fVar 3) fNil)))))
    sNil) sNil)
    (sSeq (sIf (fB (f2 (eqO false) (fVarB 0) (fC (.int 1)))) (sSeq (sRet (fSh (f2 ixA (fPub (fLstR (fCons (fCallB minD (fCons (fVarB 1) (fCons (fVarB 2) fNil))) (fCons (fCallB maxD (fCons (fVarB 1) (fCons (fVarB 2) fNil))) fNil)))) (fCallB intD (fCons (fVarB 3) fNil)))))
    sNil) sNil)
    (sSeq (sSet 4 (fPub (fCallR M__law_common (fCons (fCallB maxD (fCons (fVarB 1) (fCons (fVarB 2) fNil))) (fCons (fCallB minD (fCons (fVarB 1) (fCons (fVarB 2) fNil))) fNil)))))
    (sSeq (sRet (fSh (f2 ixA (fPub (fLstR (fCons (fVar 4) (fCons (f2 fdivB (f2 mulB (fVarB 1) (fVarB 2)) (fVarB 4)) fNil)))) (fCallB intD (fCons (fVarB 3) fNil)))))
    sNil))))
def M__law_due : List D → Option Rs := runF ["_law_kind", "_law_one", "_law_other", "_law_is_either", "_law_part"] 4 fb__law_due
def fb__law_is_value : FS := (sSeq (sIf (bOr (bNot (fB (fIs "int" (fVarB 2)))) (fB (fIs "bool" (fVarB 2)))) (sSeq (sRet (fSh (fC (.bl false))))
    sNil) sNil)
    (sSeq (sIf (fB (f2 (eqO false) (fVarB 0) (fC (.int 2)))) (sSeq (sRet (fSh (fAnd (f2 (gtD) (fVarB 2) (fC (.int 0))) (f2 (eqO false) (f2 modD (fVarB 1) (fVarB 2)) (fC (.int 0))))))
    sNil) sNil)
    (sSeq (sRet (fSh (fAnd (f3 (leD) (leD) (fC (.int 0)) (fVarB 2) (fVarB 1)) (fOr (f2 (eqO false) (fVarB 0) (fC (.int 1))) (f2 (eqO false) (fPub (fCallR M__law_bits (fCons (fVar 2) (fCons (fVar 1) (fCons (fC (.bl true)) fNil))))) (fVarB 1))))))
    sNil)))
def M__law_is_value : List D → Option Rs := runF ["_law_kind", "_law_top", "_law_thing"] 3 fb__law_is_value
def fb_Bits_both : FS := (sSeq (sRet (fSh (f2 bandD (fVarB 1) (fVarB 2))))
    sNil)
def M_Bits_both : List D → Option Rs := runF ["self", "one", "other"] 3 fb_Bits_both
def fb_Measure_both : FS := (sSeq (sRet (fSh (fCallB minD (fCons (fVarB 1) (fCons (fVarB 2) fNil)))))
    sNil)
def M_Measure_both : List D → Option Rs := runF ["self", "one", "other"] 3 fb_Measure_both
def fb_Shares_both : FS := (sSeq (sWhile (fB (f2 (neE) (fVarB 2) (fC (.int 0)))) (sSeq (sSet 3 (f2 modD (fVarB 1) (fVarB 2)))
    (sSeq (sSet 1 (fVar 2))
    (sSeq (sSet 2 (fVar 3))
    sNil))))
    (sSeq (sRetV 1)
    sNil))
def M_Shares_both : List D → Option Rs := runF ["self", "one", "other", "rest"] 3 fb_Shares_both
def tb_both : MTab := [("Bits", M_Bits_both), ("Chain", M_Measure_both), ("Shares", M_Shares_both)]
def fb_Bits_either : FS := (sSeq (sRet (fSh (f2 borD (fVarB 1) (fVarB 2))))
    sNil)
def M_Bits_either : List D → Option Rs := runF ["self", "one", "other"] 3 fb_Bits_either
def fb_Measure_either : FS := (sSeq (sRet (fSh (fCallB maxD (fCons (fVarB 1) (fCons (fVarB 2) fNil)))))
    sNil)
def M_Measure_either : List D → Option Rs := runF ["self", "one", "other"] 3 fb_Measure_either
def fb_Shares_either : FS := (sSeq (sRet (fSh (f2 mulB (f2 fdivB (fVarB 1) (fPub (fMeth "both" tb_both (fVarB 0) (fCons (fVar 1) (fCons (fVar 2) fNil))))) (fVarB 2))))
    sNil)
def M_Shares_either : List D → Option Rs := runF ["self", "one", "other"] 3 fb_Shares_either
def tb_either : MTab := [("Bits", M_Bits_either), ("Chain", M_Measure_either), ("Shares", M_Shares_either)]
def fb_Measure_has : FS := (sSeq (sRet (fSh (fAnd (fPub (fCallR M_is_whole (fCons (fVar 1) fNil))) (fAnd (f2 (geD) (fVarB 1) (fFld ["Bits", "Chain", "Shares"] "nought" (fVarB 0))) (f2 (eqO false) (fPub (fMeth "either" tb_either (fVarB 0) (fCons (fVar 1) (fCons (fFld ["Bits", "Chain", "Shares"] "top" (fVarB 0)) fNil)))) (fFld ["Bits", "Chain", "Shares"] "top" (fVarB 0)))))))
    sNil)
def M_Measure_has : List D → Option Rs := runF ["self", "thing"] 2 fb_Measure_has
def tb_has : MTab := [("Bits", M_Measure_has), ("Chain", M_Measure_has), ("Shares", M_Measure_has)]
def fb__law_agrees : FS := (sSeq (sForP 4 5 (oSeq (fPub (fLstR (fCons (fTup (fCons (fVar 2) (fCons (fVar 3) fNil))) (fCons (fTup (fCons (fVar 3) (fCons (fVar 2) fNil))) fNil))))) (sSeq (sSet 6 (fPub (fMeth "either" tb_either (fVarB 0) (fCons (fVar 4) (fCons (fVar 5) fNil)))))
    (sSeq (sSet 7 (fPub (fMeth "both" tb_both (fVarB 0) (fCons (fVar 4) (fCons (fVar 5) fNil)))))
    (sSeq (sIf (bOr (fB (fIs "bool" (fVarB 6))) (fB (f2 (neE) (fVarB 6) (fPub (fCallR M__law_due (fCons (fVar 1) (fCons (fVar 4) (fCons (fVar 5) (fCons (fC (.bl true)) fNil))))))))) (sSeq (sRet (fSh (fC (.bl false))))
    sNil) sNil)
    (sSeq (sIf (bOr (fB (fIs "bool" (fVarB 7))) (fB (f2 (neE) (fVarB 7) (fPub (fCallR M__law_due (fCons (fVar 1) (fCons (fVar 4) (fCons (fVar 5) (fCons (fC (.bl false)) fNil))))))))) (sSeq (sRet (fSh (fC (.bl false))))
    sNil) sNil)
    (sSeq (sIf (bOr (bNot (fB (fPub (fMeth "has" tb_has (fVarB 0) (fCons (fVar 6) fNil))))) (bNot (fB (fPub (fMeth "has" tb_has (fVarB 0) (fCons (fVar 7) fNil)))))) (sSeq (sRet (fSh (fC (.bl false))))
    sNil) sNil)
    (sSeq (sIf (bOr (fB (f2 (neE) (fPub (fMeth "both" tb_both (fVarB 0) (fCons (fVar 4) (fCons (fVar 6) fNil)))) (fVarB 4))) (fB (f2 (neE) (fPub (fMeth "either" tb_either (fVarB 0) (fCons (fVar 4) (fCons (fVar 7) fNil)))) (fVarB 4)))) (sSeq (sRet (fSh (fC (.bl false))))
    sNil) sNil)
    sNil)))))))
    (sSeq (sRet (fSh (fAnd (f2 (eqO false) (fPub (fMeth "either" tb_either (fVarB 0) (fCons (fVar 2) (fCons (fVar 2) fNil)))) (fVarB 2)) (f2 (eqO false) (fPub (fMeth "both" tb_both (fVarB 0) (fCons (fVar 2) (fCons (fVar 2) fNil)))) (fVarB 2)))))
    sNil))
def M__law_agrees : List D → Option Rs := runF ["_law_measure", "_law_kind", "_law_one", "_law_other", "_law_first", "_law_second", "_law_joined", "_law_met"] 4 fb__law_agrees
def fb_law : FS := (sSeq (sSet 1 (f2 (eqO false) (f2 modD (fPub (fCallR M__law_cell_at (fCons (fVar 0) (fCons (fC (.int 0)) fNil)))) (fC (.int 2))) (fC (.int 0))))
    (sSeq (sSet 2 (f2 modD (f2 fdivB (fPub (fCallR M__law_cell_at (fCons (fVar 0) (fCons (fC (.int 0)) fNil)))) (fC (.int 2))) (fC (.int 3))))
    (sSeq (sSet 3 (fPub (fCallR M__law_draws (fCons (fPub (fCallR M__law_cell_at (fCons (fVar 0) (fCons (fC (.int 1)) fNil)))) (fCons (f2 powD (fC (.int 10)) (fC (.int 29))) (fCons (fC (.int 5)) (fCons (fVar 1) fNil)))))))
    (sSeq (sSet 4 (f2 ixA (fPub (fLstR (fCons (f2 addD (fC (.int 1)) (f2 ixA (fVarB 3) (fC (.int 0)))) (fCons (f2 addD (fC (.int 1)) (f2 modD (f2 ixA (fVarB 3) (fC (.int 0))) (fC (.int 60)))) (fCons (f2 mulB (fC (.int 360360)) (f2 addD (fC (.int 1)) (f2 modD (f2 ixA (fVarB 3) (fC (.int 0))) (fC (.int 97))))) (fCons (f2 addD (fC (.int 1)) (f2 modD (f2 ixA (fVarB 3) (fC (.int 0))) (fC (.int 4095)))) fNil)))))) (f2 modD (f2 fdivB (fPub (fCallR M__law_cell_at (fCons (fVar 0) (fCons (fC (.int 0)) fNil)))) (fC (.int 6))) (fC (.int 4)))))
    (sSeq (sSetR 5 (fLstR fNil))
    (sSeq (sFor 6 (oRng (fC (.int 3))) (sSeq (sApp 5 (f2 ixA (fPub (fLstR (fCons (fPub (fCallR M__law_bits (fCons (f2 ixA (fVarB 3) (f2 addD (fC (.int 1)) (fVarB 6))) (fCons (fVar 4) (fCons (fC (.bl false)) fNil))))) (fCons (f2 modD (f2 ixA (fVarB 3) (f2 addD (fC (.int 1)) (fVarB 6))) (f2 addD (fVarB 4) (fC (.int 1)))) (fCons (fPub (fCallR M__law_share (fCons (fVar 4) (fCons (f2 ixA (fVarB 3) (f2 addD (fC (.int 1)) (fVarB 6))) fNil)))) fNil))))) (fVarB 2)))
    sNil))
    (sSeq (sSet 7 (f2 ixA (fPub (fLstR (fCons (fC (.str "bits")) (fCons (fC (.str "chain")) (fCons (fC (.str "shares")) fNil))))) (fVarB 2)))
    (sSeq (sSet 8 (fPub (fCallR M_measure_of (fCons (fTup (fCons (fVar 7) (fCons (fVar 4) fNil))) fNil))))
    (sSeq (sSet 9 (f2 ixA (fPub (fLstR (fCons (fMake "Bits" fl_Bits 1 (fCons (fVar 4) fNil)) (fCons (fMake "Chain" fl_Chain 1 (fCons (fVar 4) fNil)) (fCons (fMake "Shares" fl_Shares 1 (fCons (fVar 4) fNil)) fNil))))) (fVarB 2)))
    (sSeq (sSet 10 (fCallB intD (fCons (f2 (eqO false) (fVarB 2) (fC (.int 2))) fNil)))
    (sSeq (sIf (bOr (bNot (fB (fIsC ic_Measure (fVarB 8)))) (bNot (fB (fIsC ic_Measure (fVarB 9))))) (sSeq (sRet (fSh (fC (.bl false))))
    sNil) sNil)
    (sSeq (sFor 11 (oSeq (fPub (fLstR (fCons (fVar 8) (fCons (fVar 9) fNil))))) (sSeq (sIf (bOr (fB (f2 (neE) (fFld ["Bits", "Chain", "Shares"] "nought" (fVarB 11)) (fVarB 10))) (bOr (fB (f2 (neE) (fFld ["Bits", "Chain", "Shares"] "top" (fVarB 11)) (fVarB 4))) (fB (fIs "bool" (fFld ["Bits", "Chain", "Shares"] "nought" (fVarB 11)))))) (sSeq (sRet (fSh (fC (.bl false))))
    sNil) sNil)
    (sSeq (sFor 12 (oSeq (f2 addD (fVarB 5) (fPub (fLstR (fCons (fVar 10) (fCons (fVar 4) fNil)))))) (sSeq (sIf (bOr (fB (f2 (notA) (fPub (fMeth "has" tb_has (fVarB 11) (fCons (fVar 12) fNil))) (fC (.bl true)))) (bNot (fB (fPub (fCallR M__law_agrees (fCons (fVar 11) (fCons (fVar 2) (fCons (fVar 12) (fCons (f2 ixA (fVarB 5) (fC (.int 0))) fNil))))))))) (sSeq (sRet (fSh (fC (.bl false))))
    sNil) sNil)
    (sSeq (sIf (bOr (fB (f2 (neE) (fPub (fMeth "either" tb_either (fVarB 11) (fCons (fVar 12) (fCons (fVar 10) fNil)))) (fVarB 12))) (fB (f2 (neE) (fPub (fMeth "both" tb_both (fVarB 11) (fCons (fVar 12) (fCons (fVar 4) fNil)))) (fVarB 12)))) (sSeq (sRet (fSh (fC (.bl false))))
    sNil) sNil)
    (sSeq (sIf (bOr (fB (f2 (neE) (fPub (fMeth "both" tb_both (fVarB 11) (fCons (fVar 12) (fCons (fVar 10) fNil)))) (fVarB 10))) (fB (f2 (neE) (fPub (fMeth "either" tb_either (fVarB 11) (fCons (fVar 12) (fCons (fVar 4) fNil)))) (fVarB 4)))) (sSeq (sRet (fSh (fC (.bl false))))
    sNil) sNil)
    sNil))))
    sNil)))
    (sSeq (fun δ => (sUnpL 13 14 15 (fVarB 5)) (pubS 5 δ))
    (sSeq (sIf (fB (f2 (neE) (fPub (fMeth "both" tb_both (fVarB 8) (fCons (fVar 13) (fCons (fPub (fMeth "either" tb_either (fVarB 8) (fCons (fVar 14) (fCons (fVar 15) fNil)))) fNil)))) (fPub (fMeth "either" tb_either (fVarB 8) (fCons (fPub (fMeth "both" tb_both (fVarB 8) (fCons (fVar 13) (fCons (fVar 14) fNil)))) (fCons (fPub (fMeth "both" tb_both (fVarB 8) (fCons (fVar 13) (fCons (fVar 15) fNil)))) fNil)))))) (sSeq (sRet (fSh (fC (.bl false))))
    sNil) sNil)
    (sSeq (sSet 16 (f2 ixA (fPub (fLstR (fCons (f2 ixA (fVarB 3) (fC (.int 4))) (fCons (f2 subD (f1 negD (fC (.int 1))) (f2 ixA (fVarB 3) (fC (.int 4)))) (fCons (fC (.bl true)) (fCons (fC .non) (fCons (fC (.str "a")) (fCons (f2 addD (fVarB 4) (fC (.int 1))) (fCons (fTup (fCons (fVar 4) fNil)) (fCons (fPub (fLstR (fCons (fC (.int 0)) fNil))) fNil)))))))))) (f2 modD (fPub (fCallR M__law_cell_at (fCons (fVar 0) (fCons (fC (.int 2)) fNil)))) (fC (.int 8)))))
    (sSeq (sSet 17 (fPub (fMeth "has" tb_has (fVarB 8) (fCons (fVar 16) fNil))))
    (sSeq (sRet (fSh (fAnd (fIs "bool" (fVarB 17)) (f2 (eqO false) (fVarB 17) (fPub (fCallR M__law_is_value (fCons (fVar 2) (fCons (fVar 4) (fCons (fVar 16) fNil)))))))))
    sNil)))))))))))))))))
def M_law : List D → Option Rs := runF ["_law_script", "_law_free", "_law_kind", "_law_n", "_law_top", "_law_values", "_law_k", "_law_word", "_law_measure", "_law_named", "_law_nought", "_law_one", "_law_value", "_law_a", "_law_b", "_law_c", "_law_thing", "_law_found"] 1 fb_law
end
theorem hu_of2 {k : Nat} {A : Around} (r : Room k A) : A.units + 20 < cLine := by have := r.un; omega
end K58
set_option Elab.async false
set_option linter.all false
set_option maxRecDepth 100000
set_option maxHeartbeats 4000000
namespace K58
open PySem PySem.Spec PyProof.Rows L2
theorem sci_Measure : FnScope ["self", "nought", "top"] ["self", "nought", "top"] (defScope (clsAt (top 7) 0)) := ⟨rfl, rfl, rfl, by decide +kernel, rfl, by decide +kernel, by decide +kernel⟩
theorem inib_Measure {K : PySem.W.Frag} {f : Addr} {fd : FuncData} (F : Fun K "__init__" "Measure.__init__" (clsAt (top 7) 0) f fd) : Binds K fd ["self", "nought", "top"] [] := F.binds fun _ _ _ _ _ _ us hl => match us, hl with | [_, _, _], _ => rfl
theorem ini_Measure {P : Program} {w : World} {K : PySem.W.Frag} {mg : Str → Option Value} {base : Heap} {f : Addr} {fd : FuncData} (T : Txt K mg) (F : Fun K "__init__" "Measure.__init__" (clsAt (top 7) 0) f fd) : FnOk P w K mg base CX0 1 f fd ["self", "nought", "top"] (spI K fl_Measure 2) :=
  F.ok sci_Measure spI_len fun cdv A outer s H vs Q E hr h => ⟨_, pss_cons (ps_fld (pv 0) (pv 1) rfl) (pss_cons (ps_fld (pv 0) (pv 2) rfl) pss_nil), by
    obtain ⟨x, us, C, dx, ws, rfl, hl, hx, c, na, hm, q⟩ := h
    obtain ⟨u, v, rfl, rfl⟩ := mkV2 hl hm
    exact ⟨u, rfl, .ref x, rfl, x, C, dx, _, rfl, hx, c, na _ (.head _), by decide, v, rfl, .ref x, rfl, x, C, dx, _, rfl, upd_same, c, na _ (.tail _ (.head _)), (by show (1 : Nat) < 1000; decide), by rw [upd_upd]; exact q⟩⟩
theorem sci_Bits : FnScope ["self", "top"] ["self", "top"] (defScope (clsAt (top 8) 0)) := ⟨rfl, rfl, rfl, by decide +kernel, rfl, by decide +kernel, by decide +kernel⟩
theorem inib_Bits {K : PySem.W.Frag} {f : Addr} {fd : FuncData} (F : Fun K "__init__" "Bits.__init__" (clsAt (top 8) 0) f fd) : Binds K fd ["self", "top"] [] := F.binds fun _ _ _ _ _ _ us hl => match us, hl with | [_, _], _ => rfl
theorem ini_Bits {P : Program} {w : World} {K : PySem.W.Frag} {mg : Str → Option Value} {base : Heap} {f : Addr} {fd : FuncData} (T : Txt K mg) (F : Fun K "__init__" "Bits.__init__" (clsAt (top 8) 0) f fd) : FnOk P w K mg base CX0 2 f fd ["self", "top"] (spI K fl_Bits 1) :=
  F.ok sci_Bits spI_len fun cdv A outer s H vs Q E hr h => by
    obtain ⟨C1, mc, f1, fd1, h1, h2, h3, h4, F1⟩ := T.cc_Measure
    refine ⟨_, pss_cons (ps_expr (pe_callC h1 h2 h3 h4 F1.kp (ini_Measure T F1) hr (inib_Measure F1) (pa_cons (pv 0) (pa_cons pe_int (pa_cons (pv 1) pa_nil))))) pss_nil, ?_⟩
    obtain ⟨x, us, C, dx, ws, rfl, hl, hx, c, na, hm, q⟩ := h
    obtain ⟨u, rfl, rfl⟩ := mkV1 hl hm
    have n1 : NoAttr K C "nought" := na _ (.head _)
    have n2 : NoAttr K C "top" := na _ (.tail _ (.head _))
    have na2 : ∀ k ∈ fl_Measure, NoAttr K C k.1 := by
      intro k hk
      rcases List.mem_cons.mp hk with e | hk
      · rw [e]; exact n1
      · rcases List.mem_cons.mp hk with e | hk
        · rw [e]; exact n2
        · cases hk
    exact ⟨.ref x, rfl, u, rfl, x, [.int 0, u], C, dx, [.int 0, u], rfl, rfl, hx, c, na2, rfl, q⟩
theorem mkc_Bits {P : Program} {w : World} {K : PySem.W.Frag} {mg : Str → Option Value} {base : Heap} (T : Txt K mg) : MkOk P w K mg base 2 "Bits" ["self", "top"] fl_Bits 1 := by
  obtain ⟨C, f, fd, h1, h2, h3, h4, h5, h6⟩ := T.mk_Bits
  exact ⟨C, f, fd, h1, h2, h3, h4, ini_Bits T h5, inib_Bits h5, h6⟩
theorem sci_Chain : FnScope ["self", "top"] ["self", "top"] (defScope (clsAt (top 9) 0)) := ⟨rfl, rfl, rfl, by decide +kernel, rfl, by decide +kernel, by decide +kernel⟩
theorem inib_Chain {K : PySem.W.Frag} {f : Addr} {fd : FuncData} (F : Fun K "__init__" "Chain.__init__" (clsAt (top 9) 0) f fd) : Binds K fd ["self", "top"] [] := F.binds fun _ _ _ _ _ _ us hl => match us, hl with | [_, _], _ => rfl
theorem ini_Chain {P : Program} {w : World} {K : PySem.W.Frag} {mg : Str → Option Value} {base : Heap} {f : Addr} {fd : FuncData} (T : Txt K mg) (F : Fun K "__init__" "Chain.__init__" (clsAt (top 9) 0) f fd) : FnOk P w K mg base CX0 2 f fd ["self", "top"] (spI K fl_Chain 1) :=
  F.ok sci_Chain spI_len fun cdv A outer s H vs Q E hr h => by
    obtain ⟨C1, mc, f1, fd1, h1, h2, h3, h4, F1⟩ := T.cc_Measure
    refine ⟨_, pss_cons (ps_expr (pe_callC h1 h2 h3 h4 F1.kp (ini_Measure T F1) hr (inib_Measure F1) (pa_cons (pv 0) (pa_cons pe_int (pa_cons (pv 1) pa_nil))))) pss_nil, ?_⟩
    obtain ⟨x, us, C, dx, ws, rfl, hl, hx, c, na, hm, q⟩ := h
    obtain ⟨u, rfl, rfl⟩ := mkV1 hl hm
    have n1 : NoAttr K C "nought" := na _ (.head _)
    have n2 : NoAttr K C "top" := na _ (.tail _ (.head _))
    have na2 : ∀ k ∈ fl_Measure, NoAttr K C k.1 := by
      intro k hk
      rcases List.mem_cons.mp hk with e | hk
      · rw [e]; exact n1
      · rcases List.mem_cons.mp hk with e | hk
        · rw [e]; exact n2
        · cases hk
    exact ⟨.ref x, rfl, u, rfl, x, [.int 0, u], C, dx, [.int 0, u], rfl, rfl, hx, c, na2, rfl, q⟩
theorem mkc_Chain {P : Program} {w : World} {K : PySem.W.Frag} {mg : Str → Option Value} {base : Heap} (T : Txt K mg) : MkOk P w K mg base 2 "Chain" ["self", "top"] fl_Chain 1 := by
  obtain ⟨C, f, fd, h1, h2, h3, h4, h5, h6⟩ := T.mk_Chain
  exact ⟨C, f, fd, h1, h2, h3, h4, ini_Chain T h5, inib_Chain h5, h6⟩
theorem sci_Shares : FnScope ["self", "top"] ["self", "top"] (defScope (clsAt (top 10) 0)) := ⟨rfl, rfl, rfl, by decide +kernel, rfl, by decide +kernel, by decide +kernel⟩
theorem inib_Shares {K : PySem.W.Frag} {f : Addr} {fd : FuncData} (F : Fun K "__init__" "Shares.__init__" (clsAt (top 10) 0) f fd) : Binds K fd ["self", "top"] [] := F.binds fun _ _ _ _ _ _ us hl => match us, hl with | [_, _], _ => rfl
theorem ini_Shares {P : Program} {w : World} {K : PySem.W.Frag} {mg : Str → Option Value} {base : Heap} {f : Addr} {fd : FuncData} (T : Txt K mg) (F : Fun K "__init__" "Shares.__init__" (clsAt (top 10) 0) f fd) : FnOk P w K mg base CX0 2 f fd ["self", "top"] (spI K fl_Shares 1) :=
  F.ok sci_Shares spI_len fun cdv A outer s H vs Q E hr h => by
    obtain ⟨C1, mc, f1, fd1, h1, h2, h3, h4, F1⟩ := T.cc_Measure
    refine ⟨_, pss_cons (ps_expr (pe_callC h1 h2 h3 h4 F1.kp (ini_Measure T F1) hr (inib_Measure F1) (pa_cons (pv 0) (pa_cons pe_int (pa_cons (pv 1) pa_nil))))) pss_nil, ?_⟩
    obtain ⟨x, us, C, dx, ws, rfl, hl, hx, c, na, hm, q⟩ := h
    obtain ⟨u, rfl, rfl⟩ := mkV1 hl hm
    have n1 : NoAttr K C "nought" := na _ (.head _)
    have n2 : NoAttr K C "top" := na _ (.tail _ (.head _))
    have na2 : ∀ k ∈ fl_Measure, NoAttr K C k.1 := by
      intro k hk
      rcases List.mem_cons.mp hk with e | hk
      · rw [e]; exact n1
      · rcases List.mem_cons.mp hk with e | hk
        · rw [e]; exact n2
        · cases hk
    exact ⟨.ref x, rfl, u, rfl, x, [.int 1, u], C, dx, [.int 1, u], rfl, rfl, hx, c, na2, rfl, q⟩
theorem mkc_Shares {P : Program} {w : World} {K : PySem.W.Frag} {mg : Str → Option Value} {base : Heap} (T : Txt K mg) : MkOk P w K mg base 2 "Shares" ["self", "top"] fl_Shares 1 := by
  obtain ⟨C, f, fd, h1, h2, h3, h4, h5, h6⟩ := T.mk_Shares
  exact ⟨C, f, fd, h1, h2, h3, h4, ini_Shares T h5, inib_Shares h5, h6⟩
theorem sc_is_whole : FnScope ["thing"] ["thing"] (defScope (top 5)) := ⟨rfl, rfl, rfl, by decide +kernel, rfl, by decide +kernel, by decide +kernel⟩
theorem mk_is_whole {P : Program} {w : World} {K : PySem.W.Frag} {mg : Str → Option Value} {base : Heap} (T : Txt K mg)  : DefOk P w K mg base 1 "is_whole" ["thing"] M_is_whole :=
  def_run T.d_is_whole sc_is_whole (fun _ _ _ _ _ _ us hl => match us, hl with | [_], _ => rfl) fun f cdv A outer s H E hr => by
    have nd : (["thing"] : List Str).Nodup := sc_is_whole.nd
    have hu := hu_of2 hr
    exact (psd_cons (psd_ret (PD.pr (pd_and (pd_is "int" T.t_int T.m_isinstance T.m_int boot_int (pb_var 0)) (pd_one (pd_not (pd_is "bool" T.t_bool T.m_isinstance T.m_bool boot_bool (pb_var 0)))))))
    psd_nil)
theorem sc_measure_of : FnScope ["thing"] ["thing"] (defScope (top 11)) := ⟨rfl, rfl, rfl, by decide +kernel, rfl, by decide +kernel, by decide +kernel⟩
theorem mk_measure_of {P : Program} {w : World} {K : PySem.W.Frag} {mg : Str → Option Value} {base : Heap} (T : Txt K mg) (oc_Bits : MkOk P w K mg base 2 "Bits" ["self", "top"] fl_Bits 1) (oc_Chain : MkOk P w K mg base 2 "Chain" ["self", "top"] fl_Chain 1) (oc_Shares : MkOk P w K mg base 2 "Shares" ["self", "top"] fl_Shares 1) (ok_is_whole : DefOk P w K mg base 1 "is_whole" ["thing"] M_is_whole) : DefOk P w K mg base 4 "measure_of" ["thing"] M_measure_of :=
  def_run T.d_measure_of sc_measure_of (fun _ _ _ _ _ _ us hl => match us, hl with | [_], _ => rfl) fun f cdv A outer s H E hr => by
    have nd : (["thing"] : List Str).Nodup := sc_measure_of.nd
    have hu := hu_of2 hr
    exact (psd_cons (psd_if (PDW.pdt (pdw_or (pdt_not (pdt_val (pd_is "tuple" T.t_tuple T.m_isinstance T.m_tuple boot_tuple (pb_var 0)))) (pdw_or (pdt_cmp (od_neE hu) (PD.pb (pd_callB cd_len T.m_len boot_len (pab_cons (pb_var 0) pab_nil))) (PD.pb pd_int)) (pdw_or (pdt_not (pdt_val (pd_is "str" T.t_str T.m_isinstance T.m_str boot_str (PD.pb (pd_ix (Nat.lt_of_le_of_lt (Nat.add_le_add_left (by decide) _) hu) (pb_var 0) (PD.pb pd_int)))))) (pdw_or1 (pdt_not (pdt_val (PR.pd (pr_call ok_is_whole (hr.mono (by decide)) (pad_cons (pd_ix (Nat.lt_of_le_of_lt (Nat.add_le_add_left (by decide) _) hu) (pb_var 0) (PD.pb pd_int)) pad_nil)))))))))) (psd_cons psd_dead
    psd_nil) psd_nil)
    (psd_cons (psd_if (pdt_cmp od_ge (PD.pb (pd_ix (Nat.lt_of_le_of_lt (Nat.add_le_add_left (by decide) _) hu) (pb_var 0) (PD.pb pd_int))) (PD.pb pd_int)) (psd_cons (psd_if (pdt_cmp (od_eqO hu) (PD.pb (pd_ix (Nat.lt_of_le_of_lt (Nat.add_le_add_left (by decide) _) hu) (pb_var 0) (PD.pb pd_int))) (PD.pb pd_str)) (psd_cons (psd_ret (PD.pr (pd_make oc_Bits (hr.mono (by decide)) (pad_cons (pd_ix (Nat.lt_of_le_of_lt (Nat.add_le_add_left (by decide) _) hu) (pb_var 0) (PD.pb pd_int)) pad_nil))))
    psd_nil) psd_nil)
    (psd_cons (psd_if (pdt_cmp (od_eqO hu) (PD.pb (pd_ix (Nat.lt_of_le_of_lt (Nat.add_le_add_left (by decide) _) hu) (pb_var 0) (PD.pb pd_int))) (PD.pb pd_str)) (psd_cons (psd_ret (PD.pr (pd_make oc_Chain (hr.mono (by decide)) (pad_cons (pd_ix (Nat.lt_of_le_of_lt (Nat.add_le_add_left (by decide) _) hu) (pb_var 0) (PD.pb pd_int)) pad_nil))))
    psd_nil) psd_nil)
    (psd_cons (psd_if (pdt_cmp (od_eqO hu) (PD.pb (pd_ix (Nat.lt_of_le_of_lt (Nat.add_le_add_left (by decide) _) hu) (pb_var 0) (PD.pb pd_int))) (PD.pb pd_str)) (psd_cons (psd_ret (PD.pr (pd_make oc_Shares (hr.mono (by decide)) (pad_cons (pd_ix (Nat.lt_of_le_of_lt (Nat.add_le_add_left (by decide) _) hu) (pb_var 0) (PD.pb pd_int)) pad_nil))))
    psd_nil) psd_nil)
    psd_nil))) psd_nil)
    (psd_cons psd_dead
    psd_nil)))
theorem sc__law_cell_at : FnScope ["_law_script", "_law_k"] ["_law_script", "_law_k"] (defScope (top 13)) := ⟨rfl, rfl, rfl, by decide +kernel, rfl, by decide +kernel, by decide +kernel⟩
theorem mk__law_cell_at {P : Program} {w : World} {K : PySem.W.Frag} {mg : Str → Option Value} {base : Heap} (T : Txt K mg)  : DefOk P w K mg base 1 "_law_cell_at" ["_law_script", "_law_k"] M__law_cell_at :=
  def_run T.d__law_cell_at sc__law_cell_at (fun _ _ _ _ _ _ us hl => match us, hl with | [_, _], _ => rfl) fun f cdv A outer s H E hr => by
    have nd : (["_law_script", "_law_k"] : List Str).Nodup := sc__law_cell_at.nd
    have hu := hu_of2 hr
    exact (psd_cons (psd_if (pdt_cmp (od_ltE hu) (pb_var 1) (PD.pb (pd_callB cd_len T.m_len boot_len (pab_cons (pb_var 0) pab_nil)))) (psd_cons (psd_ret (PD.pr (pd_ix (Nat.lt_of_le_of_lt (Nat.add_le_add_left (by decide) _) hu) (pb_var 0) (pb_var 1))))
    psd_nil) psd_nil)
    (psd_cons (psd_ret (PD.pr pd_int))
    psd_nil))
theorem sc__law_draws : FnScope ["_law_cell", "_law_m", "_law_many", "_law_free", "_law_found", "_law_k", "_law_n"] ["_law_cell", "_law_m", "_law_many", "_law_free"] (defScope (top 14)) := ⟨rfl, rfl, rfl, by decide +kernel, rfl, by decide +kernel, by decide +kernel⟩
theorem mk__law_draws {P : Program} {w : World} {K : PySem.W.Frag} {mg : Str → Option Value} {base : Heap} (T : Txt K mg)  : DefOk P w K mg base 1 "_law_draws" ["_law_cell", "_law_m", "_law_many", "_law_free"] M__law_draws :=
  def_run T.d__law_draws sc__law_draws (fun _ _ _ _ _ _ us hl => match us, hl with | [_, _, _, _], _ => rfl) fun f cdv A outer s H E hr => by
    have nd : (["_law_cell", "_law_m", "_law_many", "_law_free", "_law_found", "_law_k", "_law_n"] : List Str).Nodup := sc__law_draws.nd
    have hu := hu_of2 hr
    exact (psd_cons (psd_setR 4 nd (pr_lst pad_nil))
    (psd_cons (psd_for 5 nd rfl PassesOwn.never (pid_range T.m_range (pd_var 2)) (psd_cons (psd_if (pdt_val (pd_var 3)) (psd_cons (psd_app 4 (pd_op od_mod (pb_var 0) (pb_var 1)))
    (psd_cons (psd_set 0 nd (pd_op od_fdivB (pb_var 0) (pb_var 1)))
    psd_nil)) (psd_cons (psd_set 6 nd (pd_op od_mod (PD.pb (pd_op od_add (PD.pb (pd_op od_add (PD.pb (pd_op od_mulB (pb_var 0) (PD.pb pd_int))) (PD.pb (pd_op od_mulB (pb_var 5) (PD.pb pd_int))))) (PD.pb pd_int))) (PD.pb pd_int)))
    (psd_cons (psd_set 6 nd (pd_op od_mod (PD.pb (pd_op od_mulB (PD.pb (pd_op od_mod (PD.pb (pd_op od_add (PD.pb (pd_op od_add (PD.pb (pd_op od_mulB (pb_var 6) (pb_var 6))) (PD.pb (pd_op od_mulB (PD.pb pd_int) (pb_var 5))))) (PD.pb (pd_op od_mod (pb_var 0) (PD.pb pd_int))))) (PD.pb pd_int))) (PD.pb pd_int))) (PD.pb pd_int)))
    (psd_cons (psd_app 4 (pd_op od_mod (PD.pb (pd_op od_fdivB (pb_var 6) (PD.pb pd_int))) (pb_var 1)))
    psd_nil))))
    psd_nil))
    (psd_cons (psd_retV 4)
    psd_nil)))
theorem sc__law_share : FnScope ["_law_top", "_law_n", "_law_found", "_law_k"] ["_law_top", "_law_n"] (defScope (top 15)) := ⟨rfl, rfl, rfl, by decide +kernel, rfl, by decide +kernel, by decide +kernel⟩
theorem mk__law_share {P : Program} {w : World} {K : PySem.W.Frag} {mg : Str → Option Value} {base : Heap} (T : Txt K mg)  : DefOk P w K mg base 1 "_law_share" ["_law_top", "_law_n"] M__law_share :=
  def_run T.d__law_share sc__law_share (fun _ _ _ _ _ _ us hl => match us, hl with | [_, _], _ => rfl) fun f cdv A outer s H E hr => by
    have nd : (["_law_top", "_law_n", "_law_found", "_law_k"] : List Str).Nodup := sc__law_share.nd
    have hu := hu_of2 hr
    exact (psd_cons (psd_set 2 nd pd_int)
    (psd_cons (psd_for 3 nd rfl PassesOwn.never (pid_seq (PR.pd (pr_lst (pad_cons pd_int (pad_cons pd_int (pad_cons pd_int (pad_cons pd_int (pad_cons pd_int (pad_cons pd_int pad_nil))))))))) (psd_cons (psd_while PassesOwn.never (PDW.pdt (pdw_and (pdt_cmp (od_eqO hu) (PD.pb (pd_op od_mod (pb_var 1) (PD.pb pd_int))) (PD.pb pd_int)) (pdw_and1 (pdt_cmp (od_eqO hu) (PD.pb (pd_op od_mod (pb_var 0) (PD.pb (pd_op od_mulB (pb_var 2) (pb_var 3))))) (PD.pb pd_int))))) (psd_cons (psd_set 2 nd (pd_op od_mulB (pb_var 2) (pb_var 3)))
    (psd_cons (psd_set 1 nd (pd_op od_fdivB (pb_var 1) (PD.pb pd_int)))
    psd_nil)))
    (psd_cons (psd_set 1 nd (pd_op od_fdivB (pb_var 1) (PD.pb pd_int)))
    psd_nil)))
    (psd_cons (psd_if (pdt_cmp (od_eqO hu) (PD.pb (pd_op od_mod (pb_var 1) (PD.pb pd_int))) (PD.pb pd_int)) (psd_cons (psd_ret (PD.pr (pd_op od_fdivB (pb_var 0) (pb_var 2))))
    psd_nil) psd_nil)
    (psd_cons (psd_retV 2)
    psd_nil))))
theorem sc__law_bits : FnScope ["_law_one", "_law_other", "_law_is_either", "_law_found", "_law_place", "_law_a", "_law_b"] ["_law_one", "_law_other", "_law_is_either"] (defScope (top 16)) := ⟨rfl, rfl, rfl, by decide +kernel, rfl, by decide +kernel, by decide +kernel⟩
theorem mk__law_bits {P : Program} {w : World} {K : PySem.W.Frag} {mg : Str → Option Value} {base : Heap} (T : Txt K mg)  : DefOk P w K mg base 1 "_law_bits" ["_law_one", "_law_other", "_law_is_either"] M__law_bits :=
  def_run T.d__law_bits sc__law_bits (fun _ _ _ _ _ _ us hl => match us, hl with | [_, _, _], _ => rfl) fun f cdv A outer s H E hr => by
    have nd : (["_law_one", "_law_other", "_law_is_either", "_law_found", "_law_place", "_law_a", "_law_b"] : List Str).Nodup := sc__law_bits.nd
    have hu := hu_of2 hr
    exact (psd_cons (psd_set 3 nd pd_int)
    (psd_cons (psd_set 4 nd pd_int)
    (psd_cons (psd_while PassesOwn.never (PDW.pdt (pdw_or (pdt_cmp od_gt (pb_var 0) (PD.pb pd_int)) (pdw_or1 (pdt_cmp od_gt (pb_var 1) (PD.pb pd_int))))) (psd_cons (psd_set 5 nd (pd_op od_mod (pb_var 0) (PD.pb pd_int)))
    (psd_cons (psd_set 6 nd (pd_op od_mod (pb_var 1) (PD.pb pd_int)))
    (psd_cons (psd_if (PDW.pdt (pdw_or (PDW.pdt (pdw_and (pdt_val (pd_var 2)) (pdw_and1 (pdt_cmp od_gt (PD.pb (pd_op od_add (pb_var 5) (pb_var 6))) (PD.pb pd_int))))) (pdw_or1 (pdt_cmp (od_eqO hu) (PD.pb (pd_op od_add (pb_var 5) (pb_var 6))) (PD.pb pd_int))))) (psd_cons (psd_set 3 nd (pd_op od_add (pb_var 3) (pb_var 4)))
    psd_nil) psd_nil)
    (psd_cons (psd_set 0 nd (pd_op od_fdivB (pb_var 0) (PD.pb pd_int)))
    (psd_cons (psd_set 1 nd (pd_op od_fdivB (pb_var 1) (PD.pb pd_int)))
    (psd_cons (psd_set 4 nd (pd_op od_mulB (pb_var 4) (PD.pb pd_int)))
    psd_nil)))))))
    (psd_cons (psd_retV 3)
    psd_nil))))
theorem sc__law_common : FnScope ["_law_one", "_law_other"] ["_law_one", "_law_other"] (defScope (top 17)) := ⟨rfl, rfl, rfl, by decide +kernel, rfl, by decide +kernel, by decide +kernel⟩
theorem mk__law_common {P : Program} {w : World} {K : PySem.W.Frag} {mg : Str → Option Value} {base : Heap} (T : Txt K mg)  : DefOk P w K mg base 1 "_law_common" ["_law_one", "_law_other"] M__law_common :=
  def_run T.d__law_common sc__law_common (fun _ _ _ _ _ _ us hl => match us, hl with | [_, _], _ => rfl) fun f cdv A outer s H E hr => by
    have nd : (["_law_one", "_law_other"] : List Str).Nodup := sc__law_common.nd
    have hu := hu_of2 hr
    exact (psd_cons (psd_while PassesOwn.never (PDW.pdt (pdw_and (pdt_cmp (od_neE hu) (pb_var 0) (pb_var 1)) (pdw_and1 (pdt_cmp od_gt (pb_var 1) (PD.pb pd_int))))) (psd_cons (psd_par 0 1 nd rfl (pad_cons (pd_var 1) (pad_cons (pd_op od_mod (pb_var 0) (pb_var 1)) pad_nil)))
    psd_nil))
    (psd_cons (psd_retV 0)
    psd_nil))
theorem sc__law_due : FnScope ["_law_kind", "_law_one", "_law_other", "_law_is_either", "_law_part"] ["_law_kind", "_law_one", "_law_other", "_law_is_either"] (defScope (top 18)) := ⟨rfl, rfl, rfl, by decide +kernel, rfl, by decide +kernel, by decide +kernel⟩
theorem mk__law_due {P : Program} {w : World} {K : PySem.W.Frag} {mg : Str → Option Value} {base : Heap} (T : Txt K mg) (ok__law_bits : DefOk P w K mg base 1 "_law_bits" ["_law_one", "_law_other", "_law_is_either"] M__law_bits) (ok__law_common : DefOk P w K mg base 1 "_law_common" ["_law_one", "_law_other"] M__law_common) : DefOk P w K mg base 2 "_law_due" ["_law_kind", "_law_one", "_law_other", "_law_is_either"] M__law_due :=
  def_run T.d__law_due sc__law_due (fun _ _ _ _ _ _ us hl => match us, hl with | [_, _, _, _], _ => rfl) fun f cdv A outer s H E hr => by
    have nd : (["_law_kind", "_law_one", "_law_other", "_law_is_either", "_law_part"] : List Str).Nodup := sc__law_due.nd
    have hu := hu_of2 hr
    exact (psd_cons (psd_if (pdt_cmp (od_eqO hu) (pb_var 0) (PD.pb pd_int)) (psd_cons (psd_ret (pr_call ok__law_bits (hr.mono (by decide)) (pad_cons (pd_var 1) (pad_cons (pd_var 2) (pad_cons (pd_var 3) pad_nil)))))
    psd_nil) psd_nil)
    (psd_cons (psd_if (pdt_cmp (od_eqO hu) (pb_var 0) (PD.pb pd_int)) (psd_cons (psd_ret (PD.pr (pd_ix (Nat.lt_of_le_of_lt (Nat.add_le_add_left (by decide) _) hu) (PD.pb (PR.pd (pr_lst (pad_cons (pd_callB (cd_min rfl) T.m_min boot_min (pab_cons (pb_var 1) (pab_cons (pb_var 2) pab_nil))) (pad_cons (pd_callB (cd_max rfl) T.m_max boot_max (pab_cons (pb_var 1) (pab_cons (pb_var 2) pab_nil))) pad_nil))))) (PD.pb (pd_callTy cd_int T.m_int boot_int (pab_cons (pb_var 3) pab_nil))))))
    psd_nil) psd_nil)
    (psd_cons (psd_set 4 nd (PR.pd (pr_call ok__law_common (hr.mono (by decide)) (pad_cons (pd_callB (cd_max rfl) T.m_max boot_max (pab_cons (pb_var 1) (pab_cons (pb_var 2) pab_nil))) (pad_cons (pd_callB (cd_min rfl) T.m_min boot_min (pab_cons (pb_var 1) (pab_cons (pb_var 2) pab_nil))) pad_nil)))))
    (psd_cons (psd_ret (PD.pr (pd_ix (Nat.lt_of_le_of_lt (Nat.add_le_add_left (by decide) _) hu) (PD.pb (PR.pd (pr_lst (pad_cons (pd_var 4) (pad_cons (pd_op od_fdivB (PD.pb (pd_op od_mulB (pb_var 1) (pb_var 2))) (pb_var 4)) pad_nil))))) (PD.pb (pd_callTy cd_int T.m_int boot_int (pab_cons (pb_var 3) pab_nil))))))
    psd_nil))))
theorem sc__law_is_value : FnScope ["_law_kind", "_law_top", "_law_thing"] ["_law_kind", "_law_top", "_law_thing"] (defScope (top 19)) := ⟨rfl, rfl, rfl, by decide +kernel, rfl, by decide +kernel, by decide +kernel⟩
theorem mk__law_is_value {P : Program} {w : World} {K : PySem.W.Frag} {mg : Str → Option Value} {base : Heap} (T : Txt K mg) (ok__law_bits : DefOk P w K mg base 1 "_law_bits" ["_law_one", "_law_other", "_law_is_either"] M__law_bits) : DefOk P w K mg base 2 "_law_is_value" ["_law_kind", "_law_top", "_law_thing"] M__law_is_value :=
  def_run T.d__law_is_value sc__law_is_value (fun _ _ _ _ _ _ us hl => match us, hl with | [_, _, _], _ => rfl) fun f cdv A outer s H E hr => by
    have nd : (["_law_kind", "_law_top", "_law_thing"] : List Str).Nodup := sc__law_is_value.nd
    have hu := hu_of2 hr
    exact (psd_cons (psd_if (PDW.pdt (pdw_or (pdt_not (pdt_val (pd_is "int" T.t_int T.m_isinstance T.m_int boot_int (pb_var 2)))) (pdw_or1 (pdt_val (pd_is "bool" T.t_bool T.m_isinstance T.m_bool boot_bool (pb_var 2)))))) (psd_cons (psd_ret (PD.pr pd_bl))
    psd_nil) psd_nil)
    (psd_cons (psd_if (pdt_cmp (od_eqO hu) (pb_var 0) (PD.pb pd_int)) (psd_cons (psd_ret (PD.pr (pd_and (pd_cmp od_gt (pb_var 2) (PD.pb pd_int)) (pd_one (pd_cmp (od_eqO hu) (PD.pb (pd_op od_mod (pb_var 1) (pb_var 2))) (PD.pb pd_int))))))
    psd_nil) psd_nil)
    (psd_cons (psd_ret (PD.pr (pd_and (pd_chain od_leD od_leD (PD.pb pd_int) (pb_var 2) (pb_var 1)) (pd_one (pd_or (pd_cmp (od_eqO hu) (pb_var 0) (PD.pb pd_int)) (pd_one (pd_cmp (od_eqO hu) (PD.pb (PR.pd (pr_call ok__law_bits (hr.mono (by decide)) (pad_cons (pd_var 2) (pad_cons (pd_var 1) (pad_cons pd_bl pad_nil)))))) (pb_var 1))))))))
    psd_nil)))
theorem sc_Bits_both : FnScope ["self", "one", "other"] ["self", "one", "other"] (defScope (clsAt (top 8) 2)) := ⟨rfl, rfl, rfl, by decide +kernel, rfl, by decide +kernel, by decide +kernel⟩
theorem mk_Bits_both {P : Program} {w : World} {K : PySem.W.Frag} {mg : Str → Option Value} {base : Heap} {c : Str} (T : Txt K mg) (F : MethAt K c "both" "Bits.both" (clsAt (top 8) 2))  : MethOk P w K mg base 1 c "both" ["self", "one", "other"] M_Bits_both :=
  meth_ok F sc_Bits_both (fun _ _ _ _ _ _ us hl => match us, hl with | [_, _, _], _ => rfl) fun f cdv A outer s H E hr => by
    have nd : (["self", "one", "other"] : List Str).Nodup := sc_Bits_both.nd
    have hu := hu_of2 hr
    exact (psd_cons (psd_ret (PD.pr (pd_op od_band (pb_var 1) (pb_var 2))))
    psd_nil)
theorem sc_Measure_both : FnScope ["self", "one", "other"] ["self", "one", "other"] (defScope (clsAt (top 7) 3)) := ⟨rfl, rfl, rfl, by decide +kernel, rfl, by decide +kernel, by decide +kernel⟩
theorem mk_Measure_both {P : Program} {w : World} {K : PySem.W.Frag} {mg : Str → Option Value} {base : Heap} {c : Str} (T : Txt K mg) (F : MethAt K c "both" "Measure.both" (clsAt (top 7) 3))  : MethOk P w K mg base 1 c "both" ["self", "one", "other"] M_Measure_both :=
  meth_ok F sc_Measure_both (fun _ _ _ _ _ _ us hl => match us, hl with | [_, _, _], _ => rfl) fun f cdv A outer s H E hr => by
    have nd : (["self", "one", "other"] : List Str).Nodup := sc_Measure_both.nd
    have hu := hu_of2 hr
    exact (psd_cons (psd_ret (PD.pr (pd_callB (cd_min rfl) T.m_min boot_min (pab_cons (pb_var 1) (pab_cons (pb_var 2) pab_nil)))))
    psd_nil)
theorem sc_Shares_both : FnScope ["self", "one", "other", "rest"] ["self", "one", "other"] (defScope (clsAt (top 10) 2)) := ⟨rfl, rfl, rfl, by decide +kernel, rfl, by decide +kernel, by decide +kernel⟩
theorem mk_Shares_both {P : Program} {w : World} {K : PySem.W.Frag} {mg : Str → Option Value} {base : Heap} {c : Str} (T : Txt K mg) (F : MethAt K c "both" "Shares.both" (clsAt (top 10) 2))  : MethOk P w K mg base 1 c "both" ["self", "one", "other"] M_Shares_both :=
  meth_ok F sc_Shares_both (fun _ _ _ _ _ _ us hl => match us, hl with | [_, _, _], _ => rfl) fun f cdv A outer s H E hr => by
    have nd : (["self", "one", "other", "rest"] : List Str).Nodup := sc_Shares_both.nd
    have hu := hu_of2 hr
    exact (psd_cons (psd_while PassesOwn.never (pdt_cmp (od_neE hu) (pb_var 2) (PD.pb pd_int)) (psd_cons (psd_set 3 nd (pd_op od_mod (pb_var 1) (pb_var 2)))
    (psd_cons (psd_set 1 nd (pd_var 2))
    (psd_cons (psd_set 2 nd (pd_var 3))
    psd_nil))))
    (psd_cons (psd_retV 1)
    psd_nil))
theorem sc_Bits_either : FnScope ["self", "one", "other"] ["self", "one", "other"] (defScope (clsAt (top 8) 1)) := ⟨rfl, rfl, rfl, by decide +kernel, rfl, by decide +kernel, by decide +kernel⟩
theorem mk_Bits_either {P : Program} {w : World} {K : PySem.W.Frag} {mg : Str → Option Value} {base : Heap} {c : Str} (T : Txt K mg) (F : MethAt K c "either" "Bits.either" (clsAt (top 8) 1))  : MethOk P w K mg base 1 c "either" ["self", "one", "other"] M_Bits_either :=
  meth_ok F sc_Bits_either (fun _ _ _ _ _ _ us hl => match us, hl with | [_, _, _], _ => rfl) fun f cdv A outer s H E hr => by
    have nd : (["self", "one", "other"] : List Str).Nodup := sc_Bits_either.nd
    have hu := hu_of2 hr
    exact (psd_cons (psd_ret (PD.pr (pd_op od_bor (pb_var 1) (pb_var 2))))
    psd_nil)
theorem sc_Measure_either : FnScope ["self", "one", "other"] ["self", "one", "other"] (defScope (clsAt (top 7) 2)) := ⟨rfl, rfl, rfl, by decide +kernel, rfl, by decide +kernel, by decide +kernel⟩
theorem mk_Measure_either {P : Program} {w : World} {K : PySem.W.Frag} {mg : Str → Option Value} {base : Heap} {c : Str} (T : Txt K mg) (F : MethAt K c "either" "Measure.either" (clsAt (top 7) 2))  : MethOk P w K mg base 1 c "either" ["self", "one", "other"] M_Measure_either :=
  meth_ok F sc_Measure_either (fun _ _ _ _ _ _ us hl => match us, hl with | [_, _, _], _ => rfl) fun f cdv A outer s H E hr => by
    have nd : (["self", "one", "other"] : List Str).Nodup := sc_Measure_either.nd
    have hu := hu_of2 hr
    exact (psd_cons (psd_ret (PD.pr (pd_callB (cd_max rfl) T.m_max boot_max (pab_cons (pb_var 1) (pab_cons (pb_var 2) pab_nil)))))
    psd_nil)
theorem sc_Shares_either : FnScope ["self", "one", "other"] ["self", "one", "other"] (defScope (clsAt (top 10) 1)) := ⟨rfl, rfl, rfl, by decide +kernel, rfl, by decide +kernel, by decide +kernel⟩
theorem mk_Shares_either {P : Program} {w : World} {K : PySem.W.Frag} {mg : Str → Option Value} {base : Heap} {c : Str} (T : Txt K mg) (F : MethAt K c "either" "Shares.either" (clsAt (top 10) 1)) (ot_both : ∀ c M, tb_both.lookup c = some M → MethOk P w K mg base 1 c "both" ["self", "one", "other"] M) : MethOk P w K mg base 2 c "either" ["self", "one", "other"] M_Shares_either :=
  meth_ok F sc_Shares_either (fun _ _ _ _ _ _ us hl => match us, hl with | [_, _, _], _ => rfl) fun f cdv A outer s H E hr => by
    have nd : (["self", "one", "other"] : List Str).Nodup := sc_Shares_either.nd
    have hu := hu_of2 hr
    exact (psd_cons (psd_ret (PD.pr (pd_op od_mulB (PD.pb (pd_op od_fdivB (pb_var 1) (PD.pb (PR.pd (pr_meth (pb_var 0) ot_both (hr.mono (by decide)) (pad_cons (pd_var 1) (pad_cons (pd_var 2) pad_nil))))))) (pb_var 2))))
    psd_nil)
theorem sc_Measure_has : FnScope ["self", "thing"] ["self", "thing"] (defScope (clsAt (top 7) 1)) := ⟨rfl, rfl, rfl, by decide +kernel, rfl, by decide +kernel, by decide +kernel⟩
theorem mk_Measure_has {P : Program} {w : World} {K : PySem.W.Frag} {mg : Str → Option Value} {base : Heap} {c : Str} (T : Txt K mg) (F : MethAt K c "has" "Measure.has" (clsAt (top 7) 1)) (ok_is_whole : DefOk P w K mg base 1 "is_whole" ["thing"] M_is_whole) (ot_either : ∀ c M, tb_either.lookup c = some M → MethOk P w K mg base 2 c "either" ["self", "one", "other"] M) : MethOk P w K mg base 3 c "has" ["self", "thing"] M_Measure_has :=
  meth_ok F sc_Measure_has (fun _ _ _ _ _ _ us hl => match us, hl with | [_, _], _ => rfl) fun f cdv A outer s H E hr => by
    have nd : (["self", "thing"] : List Str).Nodup := sc_Measure_has.nd
    have hu := hu_of2 hr
    exact (psd_cons (psd_ret (PD.pr (pd_and (PR.pd (pr_call ok_is_whole (hr.mono (by decide)) (pad_cons (pd_var 1) pad_nil))) (pd_and (pd_cmp od_ge (pb_var 1) (PD.pb (pd_fld (pb_var 0) T.fl_nought))) (pd_one (pd_cmp (od_eqO hu) (PD.pb (PR.pd (pr_meth (pb_var 0) ot_either (hr.mono (by decide)) (pad_cons (pd_var 1) (pad_cons (pd_fld (pb_var 0) T.fl_top) pad_nil))))) (PD.pb (pd_fld (pb_var 0) T.fl_top))))))))
    psd_nil)
theorem sc__law_agrees : FnScope ["_law_measure", "_law_kind", "_law_one", "_law_other", "_law_first", "_law_second", "_law_joined", "_law_met"] ["_law_measure", "_law_kind", "_law_one", "_law_other"] (defScope (top 20)) := ⟨rfl, rfl, rfl, by decide +kernel, rfl, by decide +kernel, by decide +kernel⟩
theorem mk__law_agrees {P : Program} {w : World} {K : PySem.W.Frag} {mg : Str → Option Value} {base : Heap} (T : Txt K mg) (ok__law_due : DefOk P w K mg base 2 "_law_due" ["_law_kind", "_law_one", "_law_other", "_law_is_either"] M__law_due) (ot_both : ∀ c M, tb_both.lookup c = some M → MethOk P w K mg base 1 c "both" ["self", "one", "other"] M) (ot_either : ∀ c M, tb_either.lookup c = some M → MethOk P w K mg base 2 c "either" ["self", "one", "other"] M) (ot_has : ∀ c M, tb_has.lookup c = some M → MethOk P w K mg base 3 c "has" ["self", "thing"] M) : DefOk P w K mg base 4 "_law_agrees" ["_law_measure", "_law_kind", "_law_one", "_law_other"] M__law_agrees :=
  def_run T.d__law_agrees sc__law_agrees (fun _ _ _ _ _ _ us hl => match us, hl with | [_, _, _, _], _ => rfl) fun f cdv A outer s H E hr => by
    have nd : (["_law_measure", "_law_kind", "_law_one", "_law_other", "_law_first", "_law_second", "_law_joined", "_law_met"] : List Str).Nodup := sc__law_agrees.nd
    have hu := hu_of2 hr
    exact (psd_cons (psd_forP 4 5 nd rfl PassesOwn.never (pid_seq (PR.pd (pr_lst (pad_cons (pd_tup (pad_cons (pd_var 2) (pad_cons (pd_var 3) pad_nil))) (pad_cons (pd_tup (pad_cons (pd_var 3) (pad_cons (pd_var 2) pad_nil))) pad_nil))))) (psd_cons (psd_set 6 nd (PR.pd (pr_meth (pb_var 0) ot_either (hr.mono (by decide)) (pad_cons (pd_var 4) (pad_cons (pd_var 5) pad_nil)))))
    (psd_cons (psd_set 7 nd (PR.pd (pr_meth (pb_var 0) ot_both (hr.mono (by decide)) (pad_cons (pd_var 4) (pad_cons (pd_var 5) pad_nil)))))
    (psd_cons (psd_if (PDW.pdt (pdw_or (pdt_val (pd_is "bool" T.t_bool T.m_isinstance T.m_bool boot_bool (pb_var 6))) (pdw_or1 (pdt_cmp (od_neE hu) (pb_var 6) (PD.pb (PR.pd (pr_call ok__law_due (hr.mono (by decide)) (pad_cons (pd_var 1) (pad_cons (pd_var 4) (pad_cons (pd_var 5) (pad_cons pd_bl pad_nil))))))))))) (psd_cons (psd_ret (PD.pr pd_bl))
    psd_nil) psd_nil)
    (psd_cons (psd_if (PDW.pdt (pdw_or (pdt_val (pd_is "bool" T.t_bool T.m_isinstance T.m_bool boot_bool (pb_var 7))) (pdw_or1 (pdt_cmp (od_neE hu) (pb_var 7) (PD.pb (PR.pd (pr_call ok__law_due (hr.mono (by decide)) (pad_cons (pd_var 1) (pad_cons (pd_var 4) (pad_cons (pd_var 5) (pad_cons pd_bl pad_nil))))))))))) (psd_cons (psd_ret (PD.pr pd_bl))
    psd_nil) psd_nil)
    (psd_cons (psd_if (PDW.pdt (pdw_or (pdt_not (pdt_val (PR.pd (pr_meth (pb_var 0) ot_has (hr.mono (by decide)) (pad_cons (pd_var 6) pad_nil))))) (pdw_or1 (pdt_not (pdt_val (PR.pd (pr_meth (pb_var 0) ot_has (hr.mono (by decide)) (pad_cons (pd_var 7) pad_nil)))))))) (psd_cons (psd_ret (PD.pr pd_bl))
    psd_nil) psd_nil)
    (psd_cons (psd_if (PDW.pdt (pdw_or (pdt_cmp (od_neE hu) (PD.pb (PR.pd (pr_meth (pb_var 0) ot_both (hr.mono (by decide)) (pad_cons (pd_var 4) (pad_cons (pd_var 6) pad_nil))))) (pb_var 4)) (pdw_or1 (pdt_cmp (od_neE hu) (PD.pb (PR.pd (pr_meth (pb_var 0) ot_either (hr.mono (by decide)) (pad_cons (pd_var 4) (pad_cons (pd_var 7) pad_nil))))) (pb_var 4))))) (psd_cons (psd_ret (PD.pr pd_bl))
    psd_nil) psd_nil)
    psd_nil)))))))
    (psd_cons (psd_ret (PD.pr (pd_and (pd_cmp (od_eqO hu) (PD.pb (PR.pd (pr_meth (pb_var 0) ot_either (hr.mono (by decide)) (pad_cons (pd_var 2) (pad_cons (pd_var 2) pad_nil))))) (pb_var 2)) (pd_one (pd_cmp (od_eqO hu) (PD.pb (PR.pd (pr_meth (pb_var 0) ot_both (hr.mono (by decide)) (pad_cons (pd_var 2) (pad_cons (pd_var 2) pad_nil))))) (pb_var 2))))))
    psd_nil))
theorem sc_law : FnScope ["_law_script", "_law_free", "_law_kind", "_law_n", "_law_top", "_law_values", "_law_k", "_law_word", "_law_measure", "_law_named", "_law_nought", "_law_one", "_law_value", "_law_a", "_law_b", "_law_c", "_law_thing", "_law_found"] ["_law_script"] (defScope (top 21)) := ⟨rfl, rfl, rfl, by decide +kernel, rfl, by decide +kernel, by decide +kernel⟩
theorem mk_law {P : Program} {w : World} {K : PySem.W.Frag} {mg : Str → Option Value} {base : Heap} (T : Txt K mg) {f : Addr} {fd : FuncData} (F : Fun K "law" "law" (top 21) f fd) (ok__law_agrees : DefOk P w K mg base 4 "_law_agrees" ["_law_measure", "_law_kind", "_law_one", "_law_other"] M__law_agrees) (ok__law_bits : DefOk P w K mg base 1 "_law_bits" ["_law_one", "_law_other", "_law_is_either"] M__law_bits) (ok__law_cell_at : DefOk P w K mg base 1 "_law_cell_at" ["_law_script", "_law_k"] M__law_cell_at) (ok__law_draws : DefOk P w K mg base 1 "_law_draws" ["_law_cell", "_law_m", "_law_many", "_law_free"] M__law_draws) (ok__law_is_value : DefOk P w K mg base 2 "_law_is_value" ["_law_kind", "_law_top", "_law_thing"] M__law_is_value) (ok__law_share : DefOk P w K mg base 1 "_law_share" ["_law_top", "_law_n"] M__law_share) (oc_Bits : MkOk P w K mg base 2 "Bits" ["self", "top"] fl_Bits 1) (oc_Chain : MkOk P w K mg base 2 "Chain" ["self", "top"] fl_Chain 1) (oc_Shares : MkOk P w K mg base 2 "Shares" ["self", "top"] fl_Shares 1) (ok_measure_of : DefOk P w K mg base 4 "measure_of" ["thing"] M_measure_of) (ot_both : ∀ c M, tb_both.lookup c = some M → MethOk P w K mg base 1 c "both" ["self", "one", "other"] M) (ot_either : ∀ c M, tb_either.lookup c = some M → MethOk P w K mg base 2 c "either" ["self", "one", "other"] M) (ot_has : ∀ c M, tb_has.lookup c = some M → MethOk P w K mg base 3 c "has" ["self", "thing"] M) : FnOk P w K mg base CX0 5 f fd ["_law_script"] (spD K M_law) :=
  def_runF F sc_law fun f cdv A outer s H E hr => by
    have nd : (["_law_script", "_law_free", "_law_kind", "_law_n", "_law_top", "_law_values", "_law_k", "_law_word", "_law_measure", "_law_named", "_law_nought", "_law_one", "_law_value", "_law_a", "_law_b", "_law_c", "_law_thing", "_law_found"] : List Str).Nodup := sc_law.nd
    have hu := hu_of2 hr
    exact (psd_cons (psd_set 1 nd (pd_cmp (od_eqO hu) (PD.pb (pd_op od_mod (PD.pb (PR.pd (pr_call ok__law_cell_at (hr.mono (by decide)) (pad_cons (pd_var 0) (pad_cons pd_int pad_nil))))) (PD.pb pd_int))) (PD.pb pd_int)))
    (psd_cons (psd_set 2 nd (pd_op od_mod (PD.pb (pd_op od_fdivB (PD.pb (PR.pd (pr_call ok__law_cell_at (hr.mono (by decide)) (pad_cons (pd_var 0) (pad_cons pd_int pad_nil))))) (PD.pb pd_int))) (PD.pb pd_int)))
    (psd_cons (psd_set 3 nd (PR.pd (pr_call ok__law_draws (hr.mono (by decide)) (pad_cons (PR.pd (pr_call ok__law_cell_at (hr.mono (by decide)) (pad_cons (pd_var 0) (pad_cons pd_int pad_nil)))) (pad_cons (pd_op od_pow (PD.pb pd_int) (PD.pb pd_int)) (pad_cons pd_int (pad_cons (pd_var 1) pad_nil)))))))
    (psd_cons (psd_set 4 nd (pd_ix (Nat.lt_of_le_of_lt (Nat.add_le_add_left (by decide) _) hu) (PD.pb (PR.pd (pr_lst (pad_cons (pd_op od_add (PD.pb pd_int) (PD.pb (pd_ix (Nat.lt_of_le_of_lt (Nat.add_le_add_left (by decide) _) hu) (pb_var 3) (PD.pb pd_int)))) (pad_cons (pd_op od_add (PD.pb pd_int) (PD.pb (pd_op od_mod (PD.pb (pd_ix (Nat.lt_of_le_of_lt (Nat.add_le_add_left (by decide) _) hu) (pb_var 3) (PD.pb pd_int))) (PD.pb pd_int)))) (pad_cons (pd_op od_mulB (PD.pb pd_int) (PD.pb (pd_op od_add (PD.pb pd_int) (PD.pb (pd_op od_mod (PD.pb (pd_ix (Nat.lt_of_le_of_lt (Nat.add_le_add_left (by decide) _) hu) (pb_var 3) (PD.pb pd_int))) (PD.pb pd_int)))))) (pad_cons (pd_op od_add (PD.pb pd_int) (PD.pb (pd_op od_mod (PD.pb (pd_ix (Nat.lt_of_le_of_lt (Nat.add_le_add_left (by decide) _) hu) (pb_var 3) (PD.pb pd_int))) (PD.pb pd_int)))) pad_nil))))))) (PD.pb (pd_op od_mod (PD.pb (pd_op od_fdivB (PD.pb (PR.pd (pr_call ok__law_cell_at (hr.mono (by decide)) (pad_cons (pd_var 0) (pad_cons pd_int pad_nil))))) (PD.pb pd_int))) (PD.pb pd_int)))))
    (psd_cons (psd_setR 5 nd (pr_lst pad_nil))
    (psd_cons (psd_for 6 nd rfl PassesOwn.never (pid_range T.m_range pd_int) (psd_cons (psd_app 5 (pd_ix (Nat.lt_of_le_of_lt (Nat.add_le_add_left (by decide) _) hu) (PD.pb (PR.pd (pr_lst (pad_cons (PR.pd (pr_call ok__law_bits (hr.mono (by decide)) (pad_cons (pd_ix (Nat.lt_of_le_of_lt (Nat.add_le_add_left (by decide) _) hu) (pb_var 3) (PD.pb (pd_op od_add (PD.pb pd_int) (pb_var 6)))) (pad_cons (pd_var 4) (pad_cons pd_bl pad_nil))))) (pad_cons (pd_op od_mod (PD.pb (pd_ix (Nat.lt_of_le_of_lt (Nat.add_le_add_left (by decide) _) hu) (pb_var 3) (PD.pb (pd_op od_add (PD.pb pd_int) (pb_var 6))))) (PD.pb (pd_op od_add (pb_var 4) (PD.pb pd_int)))) (pad_cons (PR.pd (pr_call ok__law_share (hr.mono (by decide)) (pad_cons (pd_var 4) (pad_cons (pd_ix (Nat.lt_of_le_of_lt (Nat.add_le_add_left (by decide) _) hu) (pb_var 3) (PD.pb (pd_op od_add (PD.pb pd_int) (pb_var 6)))) pad_nil)))) pad_nil)))))) (pb_var 2)))
    psd_nil))
    (psd_cons (psd_set 7 nd (pd_ix (Nat.lt_of_le_of_lt (Nat.add_le_add_left (by decide) _) hu) (PD.pb (PR.pd (pr_lst (pad_cons pd_str (pad_cons pd_str (pad_cons pd_str pad_nil)))))) (pb_var 2)))
    (psd_cons (psd_set 8 nd (PR.pd (pr_call ok_measure_of (hr.mono (by decide)) (pad_cons (pd_tup (pad_cons (pd_var 7) (pad_cons (pd_var 4) pad_nil))) pad_nil))))
    (psd_cons (psd_set 9 nd (pd_ix (Nat.lt_of_le_of_lt (Nat.add_le_add_left (by decide) _) hu) (PD.pb (PR.pd (pr_lst (pad_cons (pd_make oc_Bits (hr.mono (by decide)) (pad_cons (pd_var 4) pad_nil)) (pad_cons (pd_make oc_Chain (hr.mono (by decide)) (pad_cons (pd_var 4) pad_nil)) (pad_cons (pd_make oc_Shares (hr.mono (by decide)) (pad_cons (pd_var 4) pad_nil)) pad_nil)))))) (pb_var 2)))
    (psd_cons (psd_set 10 nd (pd_callTy cd_int T.m_int boot_int (pab_cons (PD.pb (pd_cmp (od_eqO hu) (pb_var 2) (PD.pb pd_int))) pab_nil)))
    (psd_cons (psd_if (PDW.pdt (pdw_or (pdt_not (pdt_val (pd_isC T.ic_Measure T.m_isinstance (pb_var 8)))) (pdw_or1 (pdt_not (pdt_val (pd_isC T.ic_Measure T.m_isinstance (pb_var 9))))))) (psd_cons (psd_ret (PD.pr pd_bl))
    psd_nil) psd_nil)
    (psd_cons (psd_for 11 nd rfl PassesOwn.never (pid_seq (PR.pd (pr_lst (pad_cons (pd_var 8) (pad_cons (pd_var 9) pad_nil))))) (psd_cons (psd_if (PDW.pdt (pdw_or (pdt_cmp (od_neE hu) (PD.pb (pd_fld (pb_var 11) T.fl_nought)) (pb_var 10)) (pdw_or (pdt_cmp (od_neE hu) (PD.pb (pd_fld (pb_var 11) T.fl_top)) (pb_var 4)) (pdw_or1 (pdt_val (pd_is "bool" T.t_bool T.m_isinstance T.m_bool boot_bool (PD.pb (pd_fld (pb_var 11) T.fl_nought)))))))) (psd_cons (psd_ret (PD.pr pd_bl))
    psd_nil) psd_nil)
    (psd_cons (psd_for 12 nd rfl PassesOwn.never (pid_seq (pd_op od_add (pb_var 5) (PD.pb (PR.pd (pr_lst (pad_cons (pd_var 10) (pad_cons (pd_var 4) pad_nil))))))) (psd_cons (psd_if (PDW.pdt (pdw_or (pdt_cmp od_notA (PD.pb (PR.pd (pr_meth (pb_var 11) ot_has (hr.mono (by decide)) (pad_cons (pd_var 12) pad_nil)))) (PD.pb pd_bl)) (pdw_or1 (pdt_not (pdt_val (PR.pd (pr_call ok__law_agrees (hr.mono (by decide)) (pad_cons (pd_var 11) (pad_cons (pd_var 2) (pad_cons (pd_var 12) (pad_cons (pd_ix (Nat.lt_of_le_of_lt (Nat.add_le_add_left (by decide) _) hu) (pb_var 5) (PD.pb pd_int)) pad_nil))))))))))) (psd_cons (psd_ret (PD.pr pd_bl))
    psd_nil) psd_nil)
    (psd_cons (psd_if (PDW.pdt (pdw_or (pdt_cmp (od_neE hu) (PD.pb (PR.pd (pr_meth (pb_var 11) ot_either (hr.mono (by decide)) (pad_cons (pd_var 12) (pad_cons (pd_var 10) pad_nil))))) (pb_var 12)) (pdw_or1 (pdt_cmp (od_neE hu) (PD.pb (PR.pd (pr_meth (pb_var 11) ot_both (hr.mono (by decide)) (pad_cons (pd_var 12) (pad_cons (pd_var 4) pad_nil))))) (pb_var 12))))) (psd_cons (psd_ret (PD.pr pd_bl))
    psd_nil) psd_nil)
    (psd_cons (psd_if (PDW.pdt (pdw_or (pdt_cmp (od_neE hu) (PD.pb (PR.pd (pr_meth (pb_var 11) ot_both (hr.mono (by decide)) (pad_cons (pd_var 12) (pad_cons (pd_var 10) pad_nil))))) (pb_var 10)) (pdw_or1 (pdt_cmp (od_neE hu) (PD.pb (PR.pd (pr_meth (pb_var 11) ot_either (hr.mono (by decide)) (pad_cons (pd_var 12) (pad_cons (pd_var 4) pad_nil))))) (pb_var 4))))) (psd_cons (psd_ret (PD.pr pd_bl))
    psd_nil) psd_nil)
    psd_nil))))
    psd_nil)))
    (psd_cons (psd_pub 5 (psd_unpL 13 14 15 nd rfl (pb_var 5)))
    (psd_cons (psd_if (pdt_cmp (od_neE hu) (PD.pb (PR.pd (pr_meth (pb_var 8) ot_both (hr.mono (by decide)) (pad_cons (pd_var 13) (pad_cons (PR.pd (pr_meth (pb_var 8) ot_either (hr.mono (by decide)) (pad_cons (pd_var 14) (pad_cons (pd_var 15) pad_nil)))) pad_nil))))) (PD.pb (PR.pd (pr_meth (pb_var 8) ot_either (hr.mono (by decide)) (pad_cons (PR.pd (pr_meth (pb_var 8) ot_both (hr.mono (by decide)) (pad_cons (pd_var 13) (pad_cons (pd_var 14) pad_nil)))) (pad_cons (PR.pd (pr_meth (pb_var 8) ot_both (hr.mono (by decide)) (pad_cons (pd_var 13) (pad_cons (pd_var 15) pad_nil)))) pad_nil)))))) (psd_cons (psd_ret (PD.pr pd_bl))
    psd_nil) psd_nil)
    (psd_cons (psd_set 16 nd (pd_ix (Nat.lt_of_le_of_lt (Nat.add_le_add_left (by decide) _) hu) (PD.pb (PR.pd (pr_lst (pad_cons (pd_ix (Nat.lt_of_le_of_lt (Nat.add_le_add_left (by decide) _) hu) (pb_var 3) (PD.pb pd_int)) (pad_cons (pd_op od_sub (PD.pb (pd_neg pd_int)) (PD.pb (pd_ix (Nat.lt_of_le_of_lt (Nat.add_le_add_left (by decide) _) hu) (pb_var 3) (PD.pb pd_int)))) (pad_cons pd_bl (pad_cons pd_non (pad_cons pd_str (pad_cons (pd_op od_add (pb_var 4) (PD.pb pd_int)) (pad_cons (pd_tup (pad_cons (pd_var 4) pad_nil)) (pad_cons (PR.pd (pr_lst (pad_cons pd_int pad_nil))) pad_nil))))))))))) (PD.pb (pd_op od_mod (PD.pb (PR.pd (pr_call ok__law_cell_at (hr.mono (by decide)) (pad_cons (pd_var 0) (pad_cons pd_int pad_nil))))) (PD.pb pd_int)))))
    (psd_cons (psd_set 17 nd (PR.pd (pr_meth (pb_var 8) ot_has (hr.mono (by decide)) (pad_cons (pd_var 16) pad_nil))))
    (psd_cons (psd_ret (PD.pr (pd_and (pd_is "bool" T.t_bool T.m_isinstance T.m_bool boot_bool (pb_var 17)) (pd_one (pd_cmp (od_eqO hu) (pb_var 17) (PD.pb (PR.pd (pr_call ok__law_is_value (hr.mono (by decide)) (pad_cons (pd_var 2) (pad_cons (pd_var 4) (pad_cons (pd_var 16) pad_nil)))))))))))
    psd_nil)))))))))))))))))
end K58
set_option Elab.async false
set_option linter.all false
set_option maxRecDepth 100000
set_option maxHeartbeats 4000000
namespace K58
open PySem PySem.Spec PyProof.Rows L2
section
variable {R : D → Prop} {N : En → Prop} {T : Rs → En → Prop} {δ : En}
theorem o_divB {i j : Int} (h : 0 < j ∧ j < 2 ^ 1000) (k : R (.int (i / j))) : Op (fdivB (.int i) (.int j)) R := by
  by_cases c : CDiv i j
  · exact ⟨_, by show Option.or (if CDiv i j then some (D.int (i / j)) else none) _ = _; rw [if_pos c]; rfl, k⟩
  · exact ⟨_, by show Option.or (if CDiv i j then some (D.int (i / j)) else none) (if CDivB i j then some (D.int (i / j)) else none) = _; rw [if_neg c, if_pos (show CDivB i j from h)]; rfl, k⟩
theorem o_mulB {i j : Int} (h : CMul i j ∨ CMulB i j) (k : R (.int (i * j))) : Op (mulB (.int i) (.int j)) R := by
  by_cases c : CMul i j
  · exact ⟨_, by show Option.or (if CMul i j then some (D.int (i * j)) else none) _ = _; rw [if_pos c]; rfl, k⟩
  · exact ⟨_, by show Option.or (if CMul i j then some (D.int (i * j)) else none) (if CMulB i j then some (D.int (i * j)) else none) = _; rw [if_neg c, if_pos (h.resolve_left c)]; rfl, k⟩
theorem so_while {c : En → Option Bool} {F : FS} (I : Nat → En → Prop) {n : Nat} (hn : n < 1000) (h0 : I n δ) (st : ∀ n δ, I n δ → Op (c δ) fun b => if b = true then ∃ m, n = m + 1 ∧ So (F δ) (I m) T else N δ) : So (sWhile c F δ) N T := by
  have key : ∀ fuel n δ, n < fuel → I n δ → So (whileN c F fuel δ) N T := by
    intro fuel
    induction fuel with
    | zero => intro n δ h; omega
    | succ fuel ih =>
      intro n δ h hi
      obtain ⟨b, e, k⟩ := st n δ hi
      cases b with
      | false => exact ⟨_, by unfold whileN; rw [e], k⟩
      | true =>
        obtain ⟨m, rfl, u, e2, k⟩ := (show ∃ m, n = m + 1 ∧ So (F δ) (I m) T from k)
        cases u with
        | nx δ' => obtain ⟨u, e3, k⟩ := ih m δ' (by omega) k; exact ⟨u, by unfold whileN; rw [e]; dsimp only; rw [e2]; exact e3, k⟩
        | rt r δ' => exact ⟨_, by unfold whileN; rw [e]; dsimp only; rw [e2], k⟩
        | bk δ => exact k.elim
        | ct δ => exact k.elim
        | ex c δ => exact k.elim
  exact key 1000 n δ hn h0
theorem so_par {i j : Nat} {g : En → Option (List D)} (k : Op (g δ) fun ds => ∃ a b, ds = [a, b] ∧ N ((δ.set i (some (.sh a))).set j (some (.sh b)))) : So (sPar i j g δ) N T := by
  obtain ⟨_, e, a, b, rfl, k⟩ := k
  exact ⟨_, by unfold sPar; rw [e]; rfl, k⟩
theorem bor_nat {a b : Nat} : Builtin.bitOr a b = ((a ||| b : Nat) : Int) := by
  have h : ∀ n : Nat, Builtin.bitNot (Builtin.bitNot n) = (n : Int) := fun n => by unfold Builtin.bitNot; omega
  have f : ∀ n : Nat, decide (0 ≤ Builtin.bitNot (n : Int)) = false := fun n => by unfold Builtin.bitNot; simp; omega
  unfold Builtin.bitOr Builtin.bitAnd
  rw [f, f]
  dsimp only
  rw [h, h, h]
  rfl
theorem band_nat {a b : Nat} : Builtin.bitAnd a b = ((a &&& b : Nat) : Int) := by
  unfold Builtin.bitAnd
  rw [decide_eq_true (show (0 : Int) ≤ (a : Int) by omega), decide_eq_true (show (0 : Int) ≤ (b : Int) by omega)]
  rfl
end
end K58
local macro_rules | `(tactic| walk_at "wq") => `(tactic| repeat first | walk_at "wp1" | with_reducible refine L2.so_if ?_ | ((with_reducible refine K58.o_divB ?h ?_); case h => exact ⟨by decide, by decide⟩) | ((with_reducible refine K58.o_mulB ?h ?_); case h => exact Or.inl (by first | exact Or.inr (by decide) | exact Or.inl (by decide))))
namespace K58
open PySem PySem.Spec PyProof.Rows L2
def EG (n a b : Nat) : Prop := (b ≤ a ∧ a * b < 2 ^ n) ∨ (1 ≤ n ∧ a < b ∧ a * b < 2 ^ (n - 1))
theorem EG.step {n a b : Nat} (h : EG n a b) (hb : 0 < b) : ∃ m, n = m + 1 ∧ EG m b (a % b) := by
  rcases h with ⟨h1, h2⟩ | ⟨h1, h2, h3⟩
  · have hp : 0 < a * b := Nat.mul_pos (by omega) hb
    cases n with
    | zero => exact absurd h2 (by simp; omega)
    | succ m =>
      have hlt : a % b < b := Nat.mod_lt _ hb
      refine ⟨m, rfl, .inl ⟨by omega, ?_⟩⟩
      have hd : a % b + b ≤ a := by
        have := Nat.div_add_mod a b
        have h4 : 1 ≤ a / b := (Nat.one_le_div_iff hb).mpr h1
        have h5 : b * 1 ≤ b * (a / b) := Nat.mul_le_mul_left _ h4
        omega
      have h6 : 2 * (a % b) ≤ a := by omega
      have h7 : b * (2 * (a % b)) ≤ b * a := Nat.mul_le_mul_left _ h6
      have h8 : b * (2 * (a % b)) = 2 * (b * (a % b)) := by rw [Nat.mul_left_comm]
      have h9 : b * a = a * b := Nat.mul_comm _ _
      rw [Nat.pow_succ] at h2
      omega
  · obtain ⟨m, rfl⟩ : ∃ m, n = m + 1 := ⟨n - 1, by omega⟩
    refine ⟨m, rfl, ?_⟩
    rw [Nat.mod_eq_of_lt h2]
    exact .inl ⟨by omega, by rw [Nat.mul_comm]; simpa using h3⟩
theorem EG.start {a b : Nat} (ha : a < 2 ^ 200) (hb : b < 2 ^ 200) : EG 401 a b := by
  have h : a * b < 2 ^ 400 := Nat.lt_of_lt_of_le (Nat.mul_lt_mul'' ha hb) (by rw [← Nat.pow_add]; exact Nat.le_refl _)
  by_cases c : b ≤ a
  · exact .inl ⟨c, Nat.lt_of_lt_of_le h (Nat.pow_le_pow_right (by decide) (by decide))⟩
  · exact .inr ⟨by decide, by omega, h⟩
theorem e_Shares_both {s : D} {a b : Nat} (ha : a < 2 ^ 200) (hb : b < 2 ^ 200) : M_Shares_both [s, .int a, .int b] = some (.sh (.int (Nat.gcd a b))) := by
  refine Op.eq ?_
  unfold M_Shares_both fb_Shares_both
  walk_at "wrun"
  walk_at "wp"
  refine so_while (fun n δ => ∃ a' b' x, δ = [some (.sh s), some (.sh (.int (a' : Nat))), some (.sh (.int (b' : Nat))), x] ∧ Nat.gcd a' b' = Nat.gcd a b ∧ EG n a' b') (n := 401) (by decide) ⟨a, b, none, rfl, rfl, .start ha hb⟩ ?_
  rintro n δ ⟨a', b', x, rfl, hg, hE⟩
  walk_at "wp"
  by_cases h : b' = 0
  · subst h
    walk_at "wp"
    rw [Nat.gcd_zero_right] at hg
    rw [hg]
  · rw [decide_eq_false (by omega)]
    refine ite_t ?_
    obtain ⟨m, rfl, hE'⟩ := hE.step (by omega)
    refine ⟨m, rfl, ?_⟩
    walk_at "wp"
    refine ⟨b', a' % b', _, rfl, ?_, hE'⟩
    rw [← hg, Nat.gcd_comm a', Nat.gcd_rec b' a', Nat.gcd_comm]
theorem e_common {a b : Nat} (ha : a < 2 ^ 200) (hb : b < 2 ^ 200) : M__law_common [.int a, .int b] = some (.sh (.int (Nat.gcd a b))) := by
  refine Op.eq ?_
  unfold M__law_common fb__law_common
  walk_at "wrun"
  walk_at "wp"
  refine so_while (fun n δ => ∃ a' b', δ = [some (.sh (.int (a' : Nat))), some (.sh (.int (b' : Nat)))] ∧ Nat.gcd a' b' = Nat.gcd a b ∧ EG n a' b') (n := 401) (by decide) ⟨a, b, rfl, rfl, .start ha hb⟩ ?_
  rintro n δ ⟨a', b', rfl, hg, hE⟩
  walk_at "wp"
  by_cases h : a' = b'
  · subst h
    rw [decide_eq_true rfl]
    walk_at "wp"
    rw [Nat.gcd_self] at hg
    rw [hg]
  · rw [decide_eq_false (by omega)]
    walk_at "wp"
    by_cases h : b' = 0
    · subst h
      walk_at "wp"
      rw [Nat.gcd_zero_right] at hg
      rw [hg]
    · rw [decide_eq_true (by omega)]
      refine ite_t ?_
      obtain ⟨m, rfl, hE'⟩ := hE.step (by omega)
      refine ⟨m, rfl, ?_⟩
      walk_at "wp"
      refine so_par ?_
      walk_at "wp"
      refine ⟨_, _, rfl, ?_⟩
      walk_at "wp"
      refine ⟨b', a' % b', rfl, ?_, hE'⟩
      rw [← hg, Nat.gcd_comm a', Nat.gcd_rec b' a', Nat.gcd_comm]
end K58
set_option Elab.async false
set_option linter.all false
set_option maxRecDepth 100000
set_option maxHeartbeats 4000000
set_option exponentiation.threshold 2000
namespace K58
open PySem PySem.Spec PyProof.Rows L2
def bo (e : Bool) (a b : Nat) : Nat := if e then a ||| b else a &&& b
theorem bo_mod {e : Bool} {a b i : Nat} : bo e a b % 2 ^ (i + 1) = bo e a b % 2 ^ i + if (e = true ∧ a / 2 ^ i % 2 + b / 2 ^ i % 2 > 0) ∨ a / 2 ^ i % 2 + b / 2 ^ i % 2 = 2 then 2 ^ i else 0 := by
  rw [Nat.mod_pow_succ]
  congr 1
  have ha : a / 2 ^ i % 2 < 2 := Nat.mod_lt _ (by decide)
  have hb : b / 2 ^ i % 2 < 2 := Nat.mod_lt _ (by decide)
  have h : (bo e a b).testBit i = decide ((e = true ∧ a / 2 ^ i % 2 + b / 2 ^ i % 2 > 0) ∨ a / 2 ^ i % 2 + b / 2 ^ i % 2 = 2) := by
    unfold bo
    cases e
    · rw [if_neg Bool.false_ne_true, Nat.testBit_and, Nat.testBit_eq_decide_div_mod_eq, Nat.testBit_eq_decide_div_mod_eq, ← Bool.decide_and]
      exact decide_eq_decide.mpr ⟨fun h => .inr (by omega), fun h => by simp at h; omega⟩
    · rw [if_pos rfl, Nat.testBit_or, Nat.testBit_eq_decide_div_mod_eq, Nat.testBit_eq_decide_div_mod_eq, ← Bool.decide_or]
      exact decide_eq_decide.mpr ⟨fun h => .inl ⟨rfl, by omega⟩, fun h => by simp at h; omega⟩
  rw [Nat.testBit_eq_decide_div_mod_eq] at h
  have h2 : bo e a b / 2 ^ i % 2 < 2 := Nat.mod_lt _ (by decide)
  split
  · rename_i c; rw [decide_eq_true c] at h; rw [of_decide_eq_true h, Nat.mul_one]
  · rename_i c; rw [decide_eq_false c] at h; have := of_decide_eq_false h; rw [show bo e a b / 2 ^ i % 2 = 0 by omega, Nat.mul_zero]
theorem bo_lt {e : Bool} {a b i : Nat} (ha : a < 2 ^ i) (hb : b < 2 ^ i) : bo e a b < 2 ^ i := by
  unfold bo
  split
  · exact Nat.or_lt_two_pow ha hb
  · exact Nat.and_lt_two_pow _ hb
theorem o_cond {c : Bool} {A B : Prop} (h1 : c = true → A) (h2 : c = false → B) : if c = true then A else B := by
  cases c
  · exact ite_f (h2 rfl)
  · exact ite_t (h1 rfl)
theorem e_bits {a b : Nat} {e : Bool} (ha : a < 2 ^ 200) (hb : b < 2 ^ 200) : M__law_bits [.int a, .int b, .bl e] = some (.sh (.int (bo e a b))) := by
  refine Op.eq ?_
  unfold M__law_bits fb__law_bits
  walk_at "wrun"
  walk_at "wp"
  refine so_while (fun n δ => ∃ i x y, δ = [some (.sh (.int (a / 2 ^ i : Nat))), some (.sh (.int (b / 2 ^ i : Nat))), some (.sh (.bl e)), some (.sh (.int (bo e a b % 2 ^ i : Nat))), some (.sh (.int (2 ^ i : Nat))), x, y] ∧ i + n = 200) (n := 200) (by decide) ⟨0, none, none, by simp [Nat.mod_one], rfl⟩ ?_
  rintro n δ ⟨i, x, y, rfl, hi⟩
  walk_at "wp"
  have stop : a / 2 ^ i = 0 → b / 2 ^ i = 0 → bo e a b % 2 ^ i = bo e a b := fun h1 h2 => by
    have p : 0 < 2 ^ i := Nat.two_pow_pos i
    exact Nat.mod_eq_of_lt (bo_lt (Nat.lt_of_div_eq_zero p h1) (Nat.lt_of_div_eq_zero p h2))
  have go : (0 < a / 2 ^ i ∨ 0 < b / 2 ^ i) → ∃ m, n = m + 1 := fun h => by
    cases n with
    | succ m => exact ⟨m, rfl⟩
    | zero =>
      have hi : i = 200 := by omega
      rw [hi, Nat.div_eq_of_lt ha, Nat.div_eq_of_lt hb] at h
      omega
  have turn : (0 < a / 2 ^ i ∨ 0 < b / 2 ^ i) → ∃ m, n = m + 1 ∧ So ((sSeq (sSet 5 (f2 modD (fVarB 0) (fC (.int 2))))
    (sSeq (sSet 6 (f2 modD (fVarB 1) (fC (.int 2))))
    (sSeq (sIf (bOr (bAnd (fB (fVar 2)) (fB (f2 (gtD) (f2 addD (fVarB 5) (fVarB 6)) (fC (.int 0))))) (fB (f2 (eqO false) (f2 addD (fVarB 5) (fVarB 6)) (fC (.int 2))))) (sSeq (sSet 3 (f2 addD (fVarB 3) (fVarB 4)))
    sNil) sNil)
    (sSeq (sSet 0 (f2 fdivB (fVarB 0) (fC (.int 2))))
    (sSeq (sSet 1 (f2 fdivB (fVarB 1) (fC (.int 2))))
    (sSeq (sSet 4 (f2 mulB (fVarB 4) (fC (.int 2))))
    sNil)))))) [some (.sh (.int (a / 2 ^ i : Nat))), some (.sh (.int (b / 2 ^ i : Nat))), some (.sh (.bl e)), some (.sh (.int (bo e a b % 2 ^ i : Nat))), some (.sh (.int (2 ^ i : Nat))), x, y]) (fun δ => ∃ i x y, δ = [some (.sh (.int (a / 2 ^ i : Nat))), some (.sh (.int (b / 2 ^ i : Nat))), some (.sh (.bl e)), some (.sh (.int (bo e a b % 2 ^ i : Nat))), some (.sh (.int (2 ^ i : Nat))), x, y] ∧ i + m = 200) (fun r _ => r = .sh (.int (bo e a b))) := fun h => by
    obtain ⟨m, rfl⟩ := go h
    refine ⟨m, rfl, ?_⟩
    walk_at "wpn"
    refine so_mid (fun δ => δ = [some (.sh (.int (a / 2 ^ i : Nat))), some (.sh (.int (b / 2 ^ i : Nat))), some (.sh (.bl e)), some (.sh (.int (bo e a b % 2 ^ (i + 1) : Nat))), some (.sh (.int (2 ^ i : Nat))), some (.sh (.int (a / 2 ^ i % 2 : Nat))), some (.sh (.int (b / 2 ^ i % 2 : Nat)))]) ?_ ?_
    · rw [bo_mod]
      have zz : ∀ x y : Nat, x = y → (some (Sl.sh (D.int x)) : Option Sl) = some (.sh (.int y)) := fun x y h => by rw [h]
      generalize a / 2 ^ i = A
      generalize b / 2 ^ i = B
      cases e
      · walk_at "wp"
        refine o_cond (fun h => ?_) fun h => ?_
        · have h := of_decide_eq_true h
          walk_at "wp"
          rw [if_pos (.inr (by omega))]
          rfl
        · have h := of_decide_eq_false h
          walk_at "wp"
          rw [if_neg (by intro c; simp at c; omega)]
          rfl
      · walk_at "wp"
        refine o_cond (fun h => ?_) fun h => ?_
        · have h := of_decide_eq_true h
          walk_at "wp"
          rw [if_pos (.inl ⟨rfl, by omega⟩)]
          rfl
        · have h := of_decide_eq_false h
          walk_at "wp"
          rw [decide_eq_false (by omega)]
          walk_at "wp"
          rw [if_neg (by intro c; simp at c; omega)]
          rfl
    · rintro δ rfl
      walk_at "wq"
      refine ⟨i + 1, some (.sh (.int (a / 2 ^ i % 2 : Nat))), some (.sh (.int (b / 2 ^ i % 2 : Nat))), ?_, by omega⟩
      rw [Nat.pow_succ, ← Nat.div_div_eq_div_mul, ← Nat.div_div_eq_div_mul]
      rfl
  by_cases h1 : 0 < a / 2 ^ i
  · rw [decide_eq_true (by omega)]
    walk_at "wp"
    exact turn (.inl h1)
  · rw [decide_eq_false (by omega)]
    walk_at "wp"
    by_cases h2 : 0 < b / 2 ^ i
    · rw [decide_eq_true (by omega)]
      walk_at "wp"
      exact turn (.inr h2)
    · rw [decide_eq_false (by omega)]
      walk_at "wp"
      rw [stop (Nat.eq_zero_of_not_pos h1) (Nat.eq_zero_of_not_pos h2)]
end K58
set_option Elab.async false
set_option linter.all false
set_option maxRecDepth 100000
set_option maxHeartbeats 4000000
set_option exponentiation.threshold 2000
namespace K58
open PySem PySem.Spec PyProof.Rows L2
theorem e_share {top n : Nat} (ht : 0 < top) (hT : top < 2 ^ 100) (hn : n < 2 ^ 100) : ∃ v : Nat, M__law_share [.int top, .int n] = some (.sh (.int v)) ∧ 0 < v ∧ v ∣ top := by
  have key : Op (M__law_share [.int top, .int n]) fun r => ∃ v : Nat, r = .sh (.int v) ∧ 0 < v ∧ v ∣ top := by
    unfold M__law_share fb__law_share
    walk_at "wrun"
    walk_at "wp"
    refine ⟨by decide, ?_⟩
    walk_at "wp"
    refine so_forL (fun k δ => ∃ (m f : Nat) (x : Option Sl), δ = [some (.sh (.int top)), some (.sh (.int m)), some (.sh (.int f)), x] ∧ m < 2 ^ 100 ∧ 0 < f ∧ f ∣ top) ⟨n, 1, none, rfl, hn, by decide, Nat.one_dvd _⟩ ?_ ?_
    · rintro k x hx δ ⟨m, f, y, rfl, hm, hf, hd⟩
      have hp : ∃ p : Nat, x = .int p ∧ 0 < p ∧ p < 14 := by
        rcases k with _ | _ | _ | _ | _ | _ | k
        · cases hx; exact ⟨2, rfl, by decide, by decide⟩
        · cases hx; exact ⟨3, rfl, by decide, by decide⟩
        · cases hx; exact ⟨5, rfl, by decide, by decide⟩
        · cases hx; exact ⟨7, rfl, by decide, by decide⟩
        · cases hx; exact ⟨11, rfl, by decide, by decide⟩
        · cases hx; exact ⟨13, rfl, by decide, by decide⟩
        · simp at hx
      obtain ⟨p, rfl, p1, p2⟩ := hp
      walk_at "wp"
      refine so_while (fun j δ => ∃ (m f : Nat), δ = [some (.sh (.int top)), some (.sh (.int m)), some (.sh (.int f)), some (.sh (.int p))] ∧ m < 2 ^ j ∧ j ≤ 100 ∧ 0 < f ∧ f ∣ top) (n := 100) (by decide) ⟨m, f, rfl, hm, by decide, hf, hd⟩ ?_
      rintro j δ ⟨m, f, rfl, hm, hj, hf, hd⟩
      have hle : m < 2 ^ 100 := Nat.lt_of_lt_of_le hm (Nat.pow_le_pow_right (by decide) hj)
      have fin : So (sSeq (sSet 1 (f2 fdivB (fVarB 1) (fC (.int 2)))) sNil [some (.sh (.int top)), some (.sh (.int m)), some (.sh (.int f)), some (.sh (.int p))]) (fun δ => ∃ (m f : Nat) (x : Option Sl), δ = [some (.sh (.int top)), some (.sh (.int m)), some (.sh (.int f)), x] ∧ m < 2 ^ 100 ∧ 0 < f ∧ f ∣ top) (fun r _ => ∃ v : Nat, r = .sh (.int v) ∧ 0 < v ∧ v ∣ top) := by
        walk_at "wq"
        exact ⟨m / 2, f, _, rfl, by omega, hf, hd⟩
      have hpr : 0 < f * p := Nat.mul_pos hf p1
      walk_at "wp"
      refine o_cond (fun h => ?_) fun h => ?_
      · have h := of_decide_eq_true h
        walk_at "wp"
        refine o_mulB (.inl (.inr ⟨by omega, by omega⟩)) ?_
        walk_at "wp"
        have e1 : ((f : Int) * (p : Int)) = ((f * p : Nat) : Int) := rfl
        rw [e1]
        refine o_cond (fun h2 => ?_) fun h2 => ?_
        · have h2 := of_decide_eq_true h2
          have hdv : f * p ∣ top := Nat.dvd_of_mod_eq_zero (by
            have e2 : ((top : Int) % ((f * p : Nat) : Int)) = ((top % (f * p) : Nat) : Int) := rfl
            rw [e2] at h2
            omega)
          cases j with
          | zero => exfalso; simp at hm; subst hm; simp at h
          | succ j =>
            refine ⟨j, rfl, ?_⟩
            walk_at "wp"
            refine o_mulB (.inl (.inr ⟨by omega, by omega⟩)) ?_
            walk_at "wq"
            refine ⟨m / 2, f * p, rfl, by rw [Nat.pow_succ] at hm; omega, by omega, hpr, hdv⟩
        · exact fin
      · exact fin
    · rintro δ ⟨m, f, x, rfl, hm, hf, hd⟩
      have hft : f ≤ top := Nat.le_of_dvd ht hd
      walk_at "wp"
      refine o_cond (fun h => ?_) fun h => ?_
      · walk_at "wp"
        refine o_divB ⟨by omega, by have : (top : Int) < 2 ^ 1000 := Int.lt_of_lt_of_le (show (top : Int) < 2 ^ 100 by exact_mod_cast hT) (by decide); omega⟩ ?_
        walk_at "wp"
        exact ⟨top / f, rfl, Nat.div_pos hft hf, Nat.div_dvd_of_dvd hd⟩
      · walk_at "wp"
        exact ⟨f, rfl, hf, hd⟩
  obtain ⟨r, e, v, rfl, h⟩ := key
  exact ⟨v, e, h⟩
theorem e_draws {c : Int} {fr : Bool} : ∃ a b c' d e : Nat, M__law_draws [.int c, .int (10 ^ 29), .int 5, .bl fr] = some (.fr (.lst [.int a, .int b, .int c', .int d, .int e])) ∧ a < 10 ^ 29 ∧ b < 10 ^ 29 ∧ c' < 10 ^ 29 ∧ d < 10 ^ 29 ∧ e < 10 ^ 29 := by
  have key : Op (M__law_draws [.int c, .int (10 ^ 29), .int 5, .bl fr]) fun r => ∃ ds : List Nat, r = .fr (.lst (ds.map fun n : Nat => D.int n)) ∧ ds.length = 5 ∧ ∀ x ∈ ds, x < 10 ^ 29 := by
    unfold M__law_draws fb__law_draws
    walk_at "wrun"
    walk_at "wp"
    refine ⟨by decide, ?_⟩
    walk_at "wp"
    refine ⟨by decide, ?_⟩
    refine so_forL (fun k δ => ∃ (c : Int) (ds : List Nat) (x y : Option Sl), δ = [some (.sh (.int c)), some (.sh (.int (10 ^ 29))), some (.sh (.int 5)), some (.sh (.bl fr)), some (.pv (.lst (ds.map fun n : Nat => D.int n)) none), x, y] ∧ ds.length = k ∧ ∀ x ∈ ds, x < 10 ^ 29) ⟨c, [], none, none, rfl, rfl, fun _ h => nomatch h⟩ ?_ ?_
    · rintro k x hx δ ⟨c, ds, x1, y1, rfl, hl, hd⟩
      have hk : k < 5 := by
        have := (List.getElem?_eq_some_iff.mp hx).1
        simpa [rngD] using this
      have hp : ∃ p : Int, x = .int p ∧ 0 ≤ p ∧ p < 5 := by
        rcases k with _ | _ | _ | _ | _ | k
        · cases hx; exact ⟨_, rfl, by decide, by decide⟩
        · cases hx; exact ⟨_, rfl, by decide, by decide⟩
        · cases hx; exact ⟨_, rfl, by decide, by decide⟩
        · cases hx; exact ⟨_, rfl, by decide, by decide⟩
        · cases hx; exact ⟨_, rfl, by decide, by decide⟩
        · omega
      obtain ⟨p, rfl, p1, p2⟩ := hp
      have new : ∀ z : Int, 0 ≤ z → z < 10 ^ 29 → ∀ (c' : Int) (x2 y2 : Option Sl), (fun δ => ∃ (c : Int) (ds : List Nat) (x y : Option Sl), δ = [some (.sh (.int c)), some (.sh (.int (10 ^ 29))), some (.sh (.int 5)), some (.sh (.bl fr)), some (.pv (.lst (ds.map fun n : Nat => D.int n)) none), x, y] ∧ ds.length = k + 1 ∧ ∀ x ∈ ds, x < 10 ^ 29)
          [some (.sh (.int c')), some (.sh (.int (10 ^ 29))), some (.sh (.int 5)), some (.sh (.bl fr)), some (.pv (.lst (ds.map (fun n : Nat => D.int n) ++ [.int z])) none), x2, y2] := fun z z1 z2 c' x2 y2 => by
        obtain ⟨n, rfl⟩ : ∃ n : Nat, z = n := ⟨z.toNat, by omega⟩
        refine ⟨c', ds ++ [n], x2, y2, by simp, by simp [hl], fun x hx => ?_⟩
        rcases List.mem_append.mp hx with hx | hx
        · exact hd x hx
        · rw [List.mem_singleton.mp hx]; omega
      cases fr
      · walk_at "wq"
        refine o_mulB ?h ?_
        case h => exact .inl (.inl ⟨by omega, by omega⟩)
        walk_at "wq"
        refine ⟨by rw [List.length_map, hl]; exact Nat.lt_of_lt_of_le hk (by decide), ?_⟩
        walk_at "wq"
        exact new _ (Int.emod_nonneg _ (by decide)) (Int.emod_lt_of_pos _ (by decide)) _ _ _
      · walk_at "wq"
        refine ⟨by rw [List.length_map, hl]; exact Nat.lt_of_lt_of_le hk (by decide), ?_⟩
        walk_at "wq"
        exact new _ (Int.emod_nonneg _ (by decide)) (Int.emod_lt_of_pos _ (by decide)) _ _ _
    · rintro δ ⟨c, ds, x, y, rfl, hl, hd⟩
      walk_at "wp"
      exact ⟨ds, rfl, hl, hd⟩
  obtain ⟨r, e, ds, rfl, hl, hd⟩ := key
  match ds, hl with
  | [a, b, c', d, f], _ => exact ⟨a, b, c', d, f, e, hd a (by simp), hd b (by simp), hd c' (by simp), hd d (by simp), hd f (by simp)⟩
end K58
set_option Elab.async false
set_option linter.all false
set_option maxRecDepth 100000
set_option maxHeartbeats 4000000
set_option exponentiation.threshold 2000
namespace K58
open PySem PySem.Spec PyProof.Rows L2
def jn (k a b : Nat) : Nat := if k = 0 then a ||| b else if k = 1 then max a b else Nat.lcm a b
def mt (k a b : Nat) : Nat := if k = 0 then a &&& b else if k = 1 then min a b else Nat.gcd a b
def vl (k top a : Nat) : Prop := if k = 0 then a ||| top = top else if k = 1 then a ≤ top else 0 < a ∧ a ∣ top
instance (k top a : Nat) : Decidable (vl k top a) := by unfold vl; exact inferInstance
def nt (k : Nat) : Nat := if k = 2 then 1 else 0
def cn (k : Nat) : Str := if k = 0 then "Bits" else if k = 1 then "Chain" else "Shares"
def mO (k top : Nat) : D := .obj (cn k) ["nought", "top"] [.int (nt k), .int top]
theorem vl_le {k top a : Nat} (ht : 0 < top) (h : vl k top a) : a ≤ top := by
  unfold vl at h
  split at h
  · rw [← h]; exact Nat.left_le_or
  · split at h
    · exact h
    · exact Nat.le_of_dvd ht h.2
theorem vl_nt {k top a : Nat} (hk : k < 3) (h : vl k top a) : nt k ≤ a := by
  unfold vl at h; unfold nt
  split at h
  · subst_vars; simp
  · split at h
    · subst_vars; simp
    · split
      · exact h.1
      · omega
theorem vl_jn {k top a b : Nat} (h1 : vl k top a) (h2 : vl k top b) : vl k top (jn k a b) := by
  unfold vl jn at *
  by_cases h : k = 0
  · simp only [if_pos h] at *; rw [Nat.or_assoc, h2, h1]
  · simp only [if_neg h] at *
    by_cases h : k = 1
    · simp only [if_pos h] at *; omega
    · simp only [if_neg h] at *; exact ⟨Nat.lcm_pos h1.1 h2.1, Nat.lcm_dvd h1.2 h2.2⟩
theorem and_or_top {a top : Nat} (h : a ||| top = top) (b : Nat) : (a &&& b) ||| top = top := by
  apply Nat.eq_of_testBit_eq
  intro i
  have := congrArg (Nat.testBit · i) h
  simp only [Nat.testBit_or, Nat.testBit_and] at *
  revert this
  cases a.testBit i <;> cases b.testBit i <;> cases top.testBit i <;> simp
theorem vl_mt {k top a b : Nat} (h1 : vl k top a) (h2 : vl k top b) : vl k top (mt k a b) := by
  unfold vl mt at *
  by_cases h : k = 0
  · simp only [if_pos h] at *; exact and_or_top h1 b
  · simp only [if_neg h] at *
    by_cases h : k = 1
    · simp only [if_pos h] at *; omega
    · simp only [if_neg h] at *; exact ⟨Nat.gcd_pos_of_pos_left _ h1.1, Nat.dvd_trans (Nat.gcd_dvd_left _ _) h1.2⟩
theorem mt_jn {k a b : Nat} : mt k a (jn k a b) = a := by
  unfold mt jn
  split
  · apply Nat.eq_of_testBit_eq; intro i; simp only [Nat.testBit_or, Nat.testBit_and]; cases a.testBit i <;> simp
  · split
    · omega
    · exact Nat.gcd_eq_left (Nat.dvd_lcm_left _ _)
theorem jn_mt {k a b : Nat} : jn k a (mt k a b) = a := by
  unfold mt jn
  split
  · apply Nat.eq_of_testBit_eq; intro i; simp only [Nat.testBit_or, Nat.testBit_and]; cases a.testBit i <;> simp
  · split
    · omega
    · exact Nat.dvd_antisymm (Nat.lcm_dvd (Nat.dvd_refl _) (Nat.gcd_dvd_left _ _)) (Nat.dvd_lcm_left _ _)
theorem jn_self {k a : Nat} : jn k a a = a := by
  unfold jn; split
  · exact Nat.or_self _
  · split
    · omega
    · exact Nat.lcm_self _
theorem mt_self {k a : Nat} : mt k a a = a := by
  unfold mt; split
  · exact Nat.and_self _
  · split
    · omega
    · exact Nat.gcd_self _
theorem lcm_top {a t : Nat} (h : a ∣ t) : Nat.lcm a t = t := Nat.dvd_antisymm (Nat.lcm_dvd h (Nat.dvd_refl _)) (Nat.dvd_lcm_right _ _)
theorem jn_top {k a top : Nat} (h : vl k top a) : jn k a top = top := by
  unfold vl at h; unfold jn; split
  · rename_i c; rwa [if_pos c] at h
  · rename_i c; rw [if_neg c] at h; split
    · rename_i c; rw [if_pos c] at h; omega
    · rename_i c; rw [if_neg c] at h; exact lcm_top h.2
theorem mt_top {k a top : Nat} (h : vl k top a) : mt k a top = a := by
  have := mt_jn (k := k) (a := a) (b := top); rwa [jn_top h] at this
theorem vl_top {k top : Nat} (ht : 0 < top) : vl k top top := by
  unfold vl; split
  · exact Nat.or_self _
  · split
    · exact Nat.le_refl _
    · exact ⟨ht, Nat.dvd_refl _⟩
theorem vl_nought {k top : Nat} (hk : k < 3) : vl k top (nt k) := by
  unfold vl nt; split
  · subst_vars; simp
  · split
    · subst_vars; simp
    · rw [if_pos (by omega)]; exact ⟨by decide, Nat.one_dvd _⟩
theorem jn_nought {k a : Nat} (hk : k < 3) : jn k a (nt k) = a := by
  unfold jn nt; split
  · subst_vars; simp
  · split
    · subst_vars; simp
    · rw [if_pos (by omega)]; exact Nat.lcm_one_right _
theorem mt_nought {k a : Nat} (hk : k < 3) : mt k a (nt k) = nt k := by
  unfold mt nt; split
  · subst_vars; simp
  · split
    · subst_vars; simp
    · rw [if_pos (by omega)]; exact Nat.gcd_one_right _
theorem gcd_lcm {a b c : Nat} (hb : 0 < b) (hc : 0 < c) (ha : 0 < a) : Nat.gcd a (Nat.lcm b c) = Nat.lcm (Nat.gcd a b) (Nat.gcd a c) := by
  apply Nat.dvd_antisymm
  · have hg : 0 < Nat.gcd (Nat.gcd a b) (Nat.gcd a c) := Nat.gcd_pos_of_pos_left _ (Nat.gcd_pos_of_pos_left _ ha)
    have e := Nat.gcd_mul_lcm (Nat.gcd a b) (Nat.gcd a c)
    apply Nat.dvd_of_mul_dvd_mul_left hg
    rw [e]
    have d1 : Nat.gcd (Nat.gcd a b) (Nat.gcd a c) ∣ a := Nat.dvd_trans (Nat.gcd_dvd_left _ _) (Nat.gcd_dvd_left _ _)
    have d2 : Nat.gcd (Nat.gcd a b) (Nat.gcd a c) ∣ b := Nat.dvd_trans (Nat.gcd_dvd_left _ _) (Nat.gcd_dvd_right _ _)
    have d3 : Nat.gcd (Nat.gcd a b) (Nat.gcd a c) ∣ c := Nat.dvd_trans (Nat.gcd_dvd_right _ _) (Nat.gcd_dvd_right _ _)
    have x1 : Nat.gcd a (Nat.lcm b c) ∣ a := Nat.gcd_dvd_left _ _
    have x2 : Nat.gcd a (Nat.lcm b c) ∣ Nat.lcm b c := Nat.gcd_dvd_right _ _
    generalize Nat.gcd (Nat.gcd a b) (Nat.gcd a c) = g at *
    generalize Nat.gcd a (Nat.lcm b c) = x at *
    rw [← Nat.gcd_mul_left, ← Nat.gcd_mul_right, ← Nat.gcd_mul_right]
    refine Nat.dvd_gcd (Nat.dvd_gcd (Nat.mul_dvd_mul d1 x1) (Nat.mul_dvd_mul d2 x1)) (Nat.dvd_gcd ?_ ?_)
    · rw [Nat.mul_comm a c]; exact Nat.mul_dvd_mul d3 x1
    · rw [← Nat.gcd_mul_lcm b c]; exact Nat.mul_dvd_mul (Nat.dvd_gcd d2 d3) x2
  · exact Nat.lcm_dvd (Nat.dvd_gcd (Nat.gcd_dvd_left _ _) (Nat.dvd_trans (Nat.gcd_dvd_right _ _) (Nat.dvd_lcm_left _ _))) (Nat.dvd_gcd (Nat.gcd_dvd_left _ _) (Nat.dvd_trans (Nat.gcd_dvd_right _ _) (Nat.dvd_lcm_right _ _)))
theorem spread {k top a b c : Nat} (ha : vl k top a) (hb : vl k top b) (hc : vl k top c) : mt k a (jn k b c) = jn k (mt k a b) (mt k a c) := by
  unfold vl at ha hb hc; unfold mt jn; split
  · exact Nat.and_or_distrib_left _ _ _
  · rename_i h; rw [if_neg h] at ha hb hc; split
    · omega
    · rename_i h; rw [if_neg h] at ha hb hc; exact gcd_lcm hb.1 hc.1 ha.1
theorem vl_jt {k top n : Nat} (hn : nt k ≤ n) (hk : k < 3) : jn k n top = top ↔ vl k top n := by
  refine ⟨fun h => ?_, jn_top⟩
  unfold jn at h; unfold vl; unfold nt at hn; split at h
  · rename_i c; rwa [if_pos c]
  · rename_i c; rw [if_neg c]; split at h
    · rename_i c; rw [if_pos c]; omega
    · rename_i c; rw [if_neg c]; rw [if_pos (by omega)] at hn; exact ⟨hn, by rw [← h]; exact Nat.dvd_lcm_left _ _⟩
end K58
set_option Elab.async false
set_option linter.all false
set_option maxRecDepth 100000
set_option maxHeartbeats 4000000
set_option exponentiation.threshold 2000
namespace K58
open PySem PySem.Spec PyProof.Rows L2
section
variable {f : FE} {g : En → Option (List D)} {δ : En} {k top a b : Nat} {R : D → Prop} {Rr : Rs → Prop}
theorem o_bor (h : R (.int ((a ||| b : Nat) : Int))) : Op (borD (.int a) (.int b)) R := ⟨_, rfl, by rw [bor_nat]; exact h⟩
theorem o_band (h : R (.int ((a &&& b : Nat) : Int))) : Op (bandD (.int a) (.int b)) R := ⟨_, rfl, by rw [band_nat]; exact h⟩
theorem big {a : Nat} (h : a < 2 ^ 200) : (a : Int) < 2 ^ 1000 := Int.lt_of_lt_of_le (show (a : Int) < 2 ^ 200 by exact_mod_cast h) (by decide)
theorem big0 {a : Nat} : -(2 ^ 1000) < (a : Int) := Int.lt_of_lt_of_le (show -(2 ^ 1000) < (0 : Int) by decide) (by omega)
theorem maxI : (if (b : Int) > (a : Int) then (b : Int) else a) = ((max a b : Nat) : Int) := by split <;> omega
theorem minI : (if (b : Int) < (a : Int) then (b : Int) else a) = ((min a b : Nat) : Int) := by split <;> omega
theorem e_Bits_either {s : D} : M_Bits_either [s, .int a, .int b] = some (.sh (.int ((a ||| b : Nat) : Int))) := by
  refine Op.eq ?_
  unfold M_Bits_either fb_Bits_either
  walk_at "wrun"; walk_at "wp"
  refine o_bor ?_
  rfl
theorem e_Bits_both {s : D} : M_Bits_both [s, .int a, .int b] = some (.sh (.int ((a &&& b : Nat) : Int))) := by
  refine Op.eq ?_
  unfold M_Bits_both fb_Bits_both
  walk_at "wrun"; walk_at "wp"
  refine o_band ?_
  rfl
theorem e_Measure_either {s : D} : M_Measure_either [s, .int a, .int b] = some (.sh (.int ((max a b : Nat) : Int))) := by
  refine Op.eq ?_
  unfold M_Measure_either fb_Measure_either
  walk_at "wrun"; walk_at "wp"
  rw [maxI]
theorem e_Measure_both {s : D} : M_Measure_both [s, .int a, .int b] = some (.sh (.int ((min a b : Nat) : Int))) := by
  refine Op.eq ?_
  unfold M_Measure_both fb_Measure_both
  walk_at "wrun"; walk_at "wp"
  rw [minI]
theorem f_both (hk : k < 3) (ha : a < 2 ^ 200) (hb : b < 2 ^ 200) (hf : f δ = some (mO k top)) (hg : g δ = some [.int a, .int b]) : fMeth "both" tb_both f g δ = some (.sh (.int (mt k a b))) := by
  have h : k = 0 ∨ k = 1 ∨ k = 2 := by omega
  rcases h with rfl | rfl | rfl
  · have e : fMeth "both" tb_both f g δ = M_Bits_both [mO 0 top, .int a, .int b] := by unfold fMeth; rw [hf, hg]; rfl
    rw [e, e_Bits_both]; rfl
  · have e : fMeth "both" tb_both f g δ = M_Measure_both [mO 1 top, .int a, .int b] := by unfold fMeth; rw [hf, hg]; rfl
    rw [e, e_Measure_both]; rfl
  · have e : fMeth "both" tb_both f g δ = M_Shares_both [mO 2 top, .int a, .int b] := by unfold fMeth; rw [hf, hg]; rfl
    rw [e, e_Shares_both ha hb]; rfl
theorem e_Shares_either (h0 : 0 < a) (ha : a < 2 ^ 200) (hb : b < 2 ^ 200) : M_Shares_either [mO 2 top, .int a, .int b] = some (.sh (.int (Nat.lcm a b))) := by
  refine Op.eq ?_
  unfold M_Shares_either fb_Shares_either
  walk_at "wrun"; walk_at "wp"
  refine op_of (f_both (k := 2) (top := top) (by decide) ha hb rfl rfl) ?_
  walk_at "wp"
  have g0 : 0 < Nat.gcd a b := Nat.gcd_pos_of_pos_left _ h0
  have g1 : Nat.gcd a b ≤ a := Nat.gcd_le_left _ h0
  show Op (fdivB (.int a) (.int (Nat.gcd a b : Nat))) _
  refine o_divB ⟨by omega, big (by omega)⟩ ?_
  walk_at "wp"
  have e1 : ((a : Int) / ((Nat.gcd a b : Nat) : Int)) = ((a / Nat.gcd a b : Nat) : Int) := rfl
  rw [e1]
  refine o_mulB (.inr ⟨big0, big (Nat.lt_of_le_of_lt (Nat.div_le_self _ _) ha), big0, big hb⟩) ?_
  walk_at "wp"
  have e2 : ((a / Nat.gcd a b : Nat) : Int) * (b : Int) = ((a / Nat.gcd a b * b : Nat) : Int) := rfl
  rw [e2, Nat.div_mul_right_comm (Nat.gcd_dvd_left _ _)]
  rfl
theorem f_either (hk : k < 3) (h0 : k = 2 → 0 < a) (ha : a < 2 ^ 200) (hb : b < 2 ^ 200) (hf : f δ = some (mO k top)) (hg : g δ = some [.int a, .int b]) : fMeth "either" tb_either f g δ = some (.sh (.int (jn k a b))) := by
  have h : k = 0 ∨ k = 1 ∨ k = 2 := by omega
  rcases h with rfl | rfl | rfl
  · have e : fMeth "either" tb_either f g δ = M_Bits_either [mO 0 top, .int a, .int b] := by unfold fMeth; rw [hf, hg]; rfl
    rw [e, e_Bits_either]; rfl
  · have e : fMeth "either" tb_either f g δ = M_Measure_either [mO 1 top, .int a, .int b] := by unfold fMeth; rw [hf, hg]; rfl
    rw [e, e_Measure_either]; rfl
  · have e : fMeth "either" tb_either f g δ = M_Shares_either [mO 2 top, .int a, .int b] := by unfold fMeth; rw [hf, hg]; rfl
    rw [e, e_Shares_either (h0 rfl) ha hb]; rfl
theorem f_nought {cs : List Str} (hk : k < 3) (hc : cs = ([("Bits" : Str), ("Chain" : Str), ("Shares" : Str)] : List Str)) (hf : f δ = some (mO k top)) : fFld cs "nought" f δ = some (.int (nt k)) := by
  have h : k = 0 ∨ k = 1 ∨ k = 2 := by omega
  subst hc
  unfold fFld
  rw [hf]
  rcases h with rfl | rfl | rfl <;> rfl
theorem f_top {cs : List Str} (hk : k < 3) (hc : cs = ([("Bits" : Str), ("Chain" : Str), ("Shares" : Str)] : List Str)) (hf : f δ = some (mO k top)) : fFld cs "top" f δ = some (.int top) := by
  have h : k = 0 ∨ k = 1 ∨ k = 2 := by omega
  subst hc
  unfold fFld
  rw [hf]
  rcases h with rfl | rfl | rfl <;> rfl
theorem e_whole {z : Int} : M_is_whole [.int z] = some (.sh (.bl true)) := by kernel_rfl
def vb (k top : Nat) : D → Bool
  | .int z => decide (0 ≤ z ∧ vl k top z.toNat)
  | _ => false
theorem e_has {z : Int} (hk : k < 3) (hz : z < 2 ^ 200) (ht : top < 2 ^ 200) : M_Measure_has [mO k top, .int z] = some (.sh (.bl (vb k top (.int z)))) := by
  refine Op.eq ?_
  unfold M_Measure_has fb_Measure_has
  walk_at "wrun"; walk_at "wp"
  refine op_of e_whole ?_
  walk_at "wp"
  refine op_of (f_nought hk rfl rfl) ?_
  walk_at "wp"
  refine o_cond (fun h => ?_) fun h => ?_
  · have h := of_decide_eq_true h
    obtain ⟨n, rfl⟩ : ∃ n : Nat, z = n := ⟨z.toNat, by omega⟩
    walk_at "wp"
    refine op_of (f_either (a := n) (b := top) hk (fun e => by subst e; unfold nt at h; rw [if_pos rfl] at h; omega) (by exact_mod_cast hz) ht rfl (Op.eq (by walk_at "wp"; refine op_of (f_top hk rfl rfl) ?_; walk_at "wp"; rfl))) ?_
    walk_at "wp"
    refine op_of (f_top hk rfl rfl) ?_
    walk_at "wp"
    have e1 : decide ((jn k n top : Int) = (top : Int)) = vb k top (.int n) := decide_eq_decide.mpr (by
      rw [← vl_jt (by omega) hk]
      constructor
      · intro e; exact ⟨by omega, by simp only [Int.toNat_natCast]; omega⟩
      · rintro ⟨_, e⟩; simp only [Int.toNat_natCast] at e; omega)
    rw [e1]
  · have h := of_decide_eq_false h
    walk_at "wp"
    have e1 : vb k top (.int z) = false := decide_eq_false (by
      rintro ⟨h0, hv⟩
      have := vl_nt hk hv
      omega)
    rw [e1]
theorem e_has_not {d : D} (hk : k < 3) (hd : M_is_whole [d] = some (.sh (.bl false))) : M_Measure_has [mO k top, d] = some (.sh (.bl false)) := by
  refine Op.eq ?_
  unfold M_Measure_has fb_Measure_has
  walk_at "wrun"; walk_at "wp"
  refine op_of hd ?_
  walk_at "wp"
  rfl
theorem f_has {d r : D} (hk : k < 3) (hf : f δ = some (mO k top)) (hg : g δ = some [d]) (h : M_Measure_has [mO k top, d] = some (.sh r)) : fMeth "has" tb_has f g δ = some (.sh r) := by
  have hh : k = 0 ∨ k = 1 ∨ k = 2 := by omega
  have e : fMeth "has" tb_has f g δ = M_Measure_has [mO k top, d] := by
    unfold fMeth; rw [hf, hg]
    rcases hh with rfl | rfl | rfl <;> rfl
  rw [e, h]
theorem f_hasV (hk : k < 3) (ha : a < 2 ^ 200) (ht : top < 2 ^ 200) (hv : vl k top a) (hf : f δ = some (mO k top)) (hg : g δ = some [.int a]) : fMeth "has" tb_has f g δ = some (.sh (.bl true)) := by
  have e1 : vb k top (.int a) = true := decide_eq_true ⟨by omega, by simpa using hv⟩
  refine f_has hk hf hg ?_
  rw [e_has hk (by exact_mod_cast ha) ht, e1]
theorem e_due {e : Bool} (hk : k < 3) (h0 : k = 2 → 0 < a) (ha : a < 2 ^ 200) (hb : b < 2 ^ 200) : M__law_due [.int k, .int a, .int b, .bl e] = some (.sh (.int (if e then jn k a b else mt k a b : Nat))) := by
  refine Op.eq ?_
  unfold M__law_due fb__law_due
  have h : k = 0 ∨ k = 1 ∨ k = 2 := by omega
  rcases h with rfl | rfl | rfl
  · walk_at "wrun"; walk_at "wp"
    refine op_of (e_bits ha hb) ?_
    walk_at "wp"
    cases e <;> rfl
  · walk_at "wrun"; walk_at "wp"
    refine ⟨(by show (2 : Nat) ≤ sizeLine; decide), ?_⟩
    walk_at "wp"
    rw [maxI, minI]
    cases e
    · exact o_ixL (k := 0) rfl rfl
    · exact o_ixL (k := 1) rfl rfl
  · walk_at "wrun"; walk_at "wp"
    rw [maxI, minI]
    refine op_of (e_common (by omega) (by omega)) ?_
    have e1 : Nat.gcd (max a b) (min a b) = Nat.gcd a b := by
      by_cases c : a ≤ b
      · rw [Nat.max_eq_right c, Nat.min_eq_left c, Nat.gcd_comm]
      · rw [Nat.max_eq_left (by omega), Nat.min_eq_right (by omega)]
    rw [e1]
    walk_at "wp"
    refine o_mulB (.inr ⟨big0, big ha, big0, big hb⟩) ?_
    walk_at "wp"
    have g0 : 0 < Nat.gcd a b := Nat.gcd_pos_of_pos_left _ (h0 rfl)
    have g1 : Nat.gcd a b ≤ a := Nat.gcd_le_left _ (h0 rfl)
    refine o_divB ⟨by omega, big (by omega)⟩ ?_
    walk_at "wp"
    refine ⟨(by show (2 : Nat) ≤ sizeLine; decide), ?_⟩
    walk_at "wp"
    cases e
    · exact o_ixL (k := 0) rfl rfl
    · exact o_ixL (k := 1) rfl rfl
theorem e_isval {z : Int} (hk : k < 3) (h0 : 0 < top) (hz : z < 2 ^ 200) (ht : top < 2 ^ 200) : M__law_is_value [.int k, .int top, .int z] = some (.sh (.bl (vb k top (.int z)))) := by
  refine Op.eq ?_
  unfold M__law_is_value fb__law_is_value
  have h : k = 0 ∨ k = 1 ∨ k = 2 := by omega
  walk_at "wrun"; walk_at "wp"
  refine ⟨rfl, ?_⟩
  walk_at "wp"
  refine ⟨rfl, ?_⟩
  walk_at "wp"
  by_cases h2 : k = 2
  · subst h2
    walk_at "wp"
    refine o_cond (fun h => ?_) fun h => ?_
    · have h := of_decide_eq_true h
      walk_at "wp"
      obtain ⟨n, rfl⟩ : ∃ n : Nat, z = n := ⟨z.toNat, by omega⟩
      have e1 : decide ((top : Int) % (n : Int) = 0) = vb 2 top (.int n) := decide_eq_decide.mpr (by
        have e2 : ((top : Int) % (n : Int)) = ((top % n : Nat) : Int) := rfl
        rw [e2]
        simp only [Int.toNat_natCast]
        constructor
        · intro e; exact ⟨by omega, by omega, Nat.dvd_of_mod_eq_zero (by omega)⟩
        · rintro ⟨_, _, e⟩; rw [Nat.mod_eq_zero_of_dvd e]; rfl)
      rw [e1]
    · have h := of_decide_eq_false h
      walk_at "wp"
      have e1 : vb 2 top (.int z) = false := decide_eq_false (by
        rintro ⟨h0, hv⟩
        have := vl_nt hk hv
        have : nt 2 = 1 := rfl
        omega)
      rw [e1]
  · rw [decide_eq_false (by omega)]
    walk_at "wp"
    refine o_cond (fun h => ?_) fun h => ?_
    · have h := of_decide_eq_true h
      obtain ⟨n, rfl⟩ : ∃ n : Nat, z = n := ⟨z.toNat, by omega⟩
      walk_at "wp"
      refine o_cond (fun h => ?_) fun h => ?_
      · have h := of_decide_eq_true h
        walk_at "wp"
        by_cases h1 : k = 1
        · subst h1
          walk_at "wp"
          have e1 : vb 1 top (.int n) = true := decide_eq_true ⟨by omega, by simp only [Int.toNat_natCast]; exact (show n ≤ top by omega)⟩
          rw [e1]
        · rw [decide_eq_false (by omega)]
          walk_at "wp"
          refine op_of (e_bits (by exact_mod_cast hz) ht) ?_
          walk_at "wp"
          have h3 : k = 0 := by omega
          subst h3
          have e1 : decide (((bo true n top : Nat) : Int) = (top : Int)) = vb 0 top (.int n) := decide_eq_decide.mpr (by
            simp only [Int.toNat_natCast]
            show _ ↔ _ ∧ n ||| top = top
            have e2 : bo true n top = n ||| top := rfl
            rw [e2]
            omega)
          rw [e1]
      · have h := of_decide_eq_false h
        walk_at "wp"
        have e1 : vb k top (.int n) = false := decide_eq_false (by
          rintro ⟨_, hv⟩
          have := vl_le h0 hv
          simp only [Int.toNat_natCast] at this
          omega)
        rw [e1]
    · have h := of_decide_eq_false h
      walk_at "wp"
      have e1 : vb k top (.int z) = false := decide_eq_false (by rintro ⟨_, _⟩; omega)
      rw [e1]
end
end K58
set_option Elab.async false
set_option linter.all false
set_option maxRecDepth 100000
set_option maxHeartbeats 4000000
set_option exponentiation.threshold 2000
namespace K58
open PySem PySem.Spec PyProof.Rows L2
theorem nat2 {k top a : Nat} (ht : 0 < top) (hT : top < 2 ^ 100) (h : vl k top a) : a < 2 ^ 200 := by have := vl_le ht h; omega
theorem decN (b : Bool) (h : b = true) {A B : Prop} (k : B) : if (!b) = true then A else B := by rw [h]; exact ite_f k
section
variable {k top a b : Nat}
theorem e_agrees (hk : k < 3) (ht : 0 < top) (hT : top < 2 ^ 100) (ha : vl k top a) (hb : vl k top b) : M__law_agrees [mO k top, .int k, .int a, .int b] = some (.sh (.bl true)) := by
  have pos : ∀ {x : Nat}, vl k top x → k = 2 → 0 < x := fun h e => by have := vl_nt hk h; subst e; exact this
  have lt : ∀ {x : Nat}, vl k top x → x < 2 ^ 200 := fun h => nat2 ht hT h
  have hT2 : top < 2 ^ 200 := by omega
  refine Op.eq ?_
  unfold M__law_agrees fb__law_agrees
  walk_at "wrun"; walk_at "wp"
  refine so_forP ?_
  walk_at "wp"
  refine ⟨(by show (2 : Nat) ≤ sizeLine; decide), ?_⟩
  walk_at "wp"
  refine ⟨(by show (2 : Nat) ≤ sizeLine; decide), ?_⟩
  walk_at "wp"
  refine ⟨(by show (2 : Nat) ≤ sizeLine; decide), ?_⟩
  walk_at "wp"
  refine op_of (d := [(.int a, .int b), (.int b, .int a)]) rfl ?_
  refine so_forL2 (fun _ δ => ∃ x4 x5 x6 x7 : Option Sl, δ = [some (.sh (mO k top)), some (.sh (.int k)), some (.sh (.int a)), some (.sh (.int b)), x4, x5, x6, x7]) ⟨none, none, none, none, rfl⟩ ?_ ?_
  · rintro i p hp δ ⟨x4, x5, x6, x7, rfl⟩
    have hxy : ∃ x y : Nat, p = (.int x, .int y) ∧ vl k top x ∧ vl k top y := by
      rcases i with _ | _ | i
      · cases hp; exact ⟨a, b, rfl, ha, hb⟩
      · cases hp; exact ⟨b, a, rfl, hb, ha⟩
      · simp at hp
    obtain ⟨x, y, rfl, hx, hy⟩ := hxy
    have hj := vl_jn hx hy
    have hm := vl_mt hx hy
    walk_at "wpn"
    refine op_of (f_either hk (pos hx) (lt hx) (lt hy) rfl rfl) ?_
    walk_at "wpn"
    refine op_of (f_both hk (lt hx) (lt hy) rfl rfl) ?_
    walk_at "wp"
    refine ⟨rfl, ?_⟩
    walk_at "wp"
    refine op_of (e_due hk (pos hx) (lt hx) (lt hy)) ?_
    walk_at "wp"
    refine decN _ (decide_eq_true rfl) ?_
    walk_at "wp"
    refine ⟨rfl, ?_⟩
    walk_at "wp"
    refine op_of (e_due hk (pos hx) (lt hx) (lt hy)) ?_
    walk_at "wp"
    refine decN _ (decide_eq_true rfl) ?_
    walk_at "wp"
    refine op_of (f_hasV hk (lt hj) hT2 hj rfl rfl) ?_
    walk_at "wp"
    refine op_of (f_hasV hk (lt hm) hT2 hm rfl rfl) ?_
    walk_at "wp"
    refine op_of (f_both hk (lt hx) (lt hj) rfl rfl) ?_
    walk_at "wp"
    rw [mt_jn]
    refine decN _ (decide_eq_true rfl) ?_
    walk_at "wp"
    refine op_of (f_either hk (pos hx) (lt hx) (lt hm) rfl rfl) ?_
    walk_at "wp"
    rw [jn_mt]
    refine decN _ (decide_eq_true rfl) ?_
    walk_at "wp"
    exact ⟨_, _, _, _, rfl⟩
  · rintro δ ⟨x4, x5, x6, x7, rfl⟩
    walk_at "wp"
    refine op_of (f_either hk (pos ha) (lt ha) (lt ha) rfl rfl) ?_
    walk_at "wp"
    rw [jn_self, decide_eq_true rfl]
    walk_at "wp"
    refine op_of (f_both hk (lt ha) (lt ha) rfl rfl) ?_
    walk_at "wp"
    rw [mt_self, decide_eq_true rfl]
def wd (k : Nat) : Str := if k = 0 then "bits" else if k = 1 then "chain" else "shares"
theorem e_measure_of (hk : k < 3) (ht : 0 < top) : M_measure_of [.tup [.str (wd k), .int top]] = some (.sh (mO k top)) := by
  refine Op.eq ?_
  unfold M_measure_of fb_measure_of
  have h : k = 0 ∨ k = 1 ∨ k = 2 := by omega
  have ge : decide ((1 : Int) ≤ (top : Int)) = true := decide_eq_true (by omega)
  walk_at "wrun"
  walk_at "wp"
  refine ⟨rfl, ?_⟩
  walk_at "wp"
  refine o_ixT (k := 0) rfl ?_
  refine ⟨rfl, ?_⟩
  walk_at "wp"
  refine o_ixT (k := 1) rfl ?_
  walk_at "wp"
  refine op_of e_whole ?_
  walk_at "wp"
  refine o_ixT (k := 1) rfl ?_
  walk_at "wp"
  rw [ge]
  walk_at "wp"
  refine o_ixT (k := 0) rfl ?_
  walk_at "wp"
  rcases h with rfl | rfl | rfl
  · refine op_of (d := .bl true) rfl ?_
    walk_at "wp"
    refine op_of (d := mO 0 top) rfl ?_
    walk_at "wp"; rfl
  · refine op_of (d := .bl false) rfl ?_
    walk_at "wp"
    refine o_ixT (k := 0) rfl ?_
    walk_at "wp"
    refine op_of (d := .bl true) rfl ?_
    walk_at "wp"
    refine op_of (d := mO 1 top) rfl ?_
    walk_at "wp"; rfl
  · refine op_of (d := .bl false) rfl ?_
    walk_at "wp"
    refine o_ixT (k := 0) rfl ?_
    walk_at "wp"
    refine op_of (d := .bl false) rfl ?_
    walk_at "wp"
    refine o_ixT (k := 0) rfl ?_
    walk_at "wp"
    refine op_of (d := .bl true) rfl ?_
    walk_at "wp"
    refine op_of (d := mO 2 top) rfl ?_
    walk_at "wp"; rfl
end
theorem e_cell (ns : List Int) (k : Nat) (hn : ns.length ≤ 63) (hk : k ≤ 63) : ∃ c : Int, M__law_cell_at [.lst (ns.map D.int), .int k] = some (.sh (.int c)) := by
  have key : Op (M__law_cell_at [.lst (ns.map D.int), .int k]) fun r => ∃ c : Int, r = .sh (.int c) := by
    unfold M__law_cell_at fb__law_cell_at
    walk_at "wrun"
    walk_at "wp"
    rw [List.length_map]
    refine op_of (d := .bl (decide ((k : Int) < (ns.length : Int)))) rfl ?_
    walk_at "wp"
    refine o_cond (fun h => ?_) fun h => ?_
    · have h := of_decide_eq_true h
      walk_at "wp"
      refine o_ixL (x := .int (ns[k]'(by omega))) (by rw [List.getElem?_map, List.getElem?_eq_getElem (by omega)]; rfl) ?_
      walk_at "wp"
      exact ⟨_, rfl⟩
    · walk_at "wp"
      exact ⟨_, rfl⟩
  obtain ⟨r, e, c, rfl⟩ := key
  exact ⟨c, e⟩
end K58
set_option Elab.async false
set_option linter.all false
set_option maxRecDepth 100000
set_option maxHeartbeats 4000000
set_option exponentiation.threshold 2000
namespace K58
open PySem PySem.Spec PyProof.Rows L2
section
variable {f : FE} {δ : En} {k top a b : Nat} {N : En → Prop} {T : Rs → En → Prop}
theorem so_unpL {i j l : Nat} (h : Op (f δ) fun d => ∃ a b c, d = .lst [a, b, c] ∧ N (((δ.set i (some (.sh a))).set j (some (.sh b))).set l (some (.sh c)))) : So (sUnpL i j l f δ) N T := by
  obtain ⟨_, e, a, b, c, rfl, h⟩ := h
  exact ⟨_, by unfold sUnpL; rw [e]; rfl, h⟩
theorem f_isM (hk : k < 3) (hf : f δ = some (mO k top)) : fIsC ic_Measure f δ = some (.bl true) := by
  have h : k = 0 ∨ k = 1 ∨ k = 2 := by omega
  unfold fIsC
  rw [hf]
  rcases h with rfl | rfl | rfl <;> rfl
theorem e_val {m v : Nat} (hk : k < 3) (hv : 0 < v ∧ v ∣ top) : ∃ u : Nat, ixA (.lst [.int (bo false m top), .int ((m : Int) % ((top : Int) + 1)), .int v]) (.int k) = some (.int u) ∧ vl k top u := by
  have h : k = 0 ∨ k = 1 ∨ k = 2 := by omega
  rcases h with rfl | rfl | rfl
  · exact ⟨m &&& top, rfl, by show (m &&& top) ||| top = top; rw [Nat.and_comm]; exact and_or_top (Nat.or_self _) _⟩
  · exact ⟨m % (top + 1), rfl, by show m % (top + 1) ≤ top; have := Nat.mod_lt m (show 0 < top + 1 by omega); omega⟩
  · exact ⟨v, rfl, hv⟩
theorem e_word (hk : k < 3) : ixA (.lst [.str "bits", .str "chain", .str "shares"]) (.int k) = some (.str (wd k)) := by
  have h : k = 0 ∨ k = 1 ∨ k = 2 := by omega
  rcases h with rfl | rfl | rfl <;> rfl
theorem e_named (hk : k < 3) : ixA (.lst [mO 0 top, mO 1 top, mO 2 top]) (.int k) = some (mO k top) := by
  have h : k = 0 ∨ k = 1 ∨ k = 2 := by omega
  rcases h with rfl | rfl | rfl <;> rfl
theorem e_nought (hk : k < 3) : (if decide ((k : Int) = 2) = true then 1 else 0 : Int) = (nt k : Int) := by
  have h : k = 0 ∨ k = 1 ∨ k = 2 := by omega
  rcases h with rfl | rfl | rfl <;> rfl
theorem o_eqBl {b : Bool} {R : D → Prop} (h : R (.bl true)) : Op (eqO false (.bl b) (.bl b)) R := ⟨.bl true, by cases b <;> rfl, h⟩
end
theorem law_true (ns : List Int) (h : ns.length ≤ 63) : M_law [.lst (ns.map D.int)] = some (.sh (.bl true)) := by
  obtain ⟨c0, e0⟩ := e_cell ns 0 h (by decide)
  obtain ⟨c1, e1⟩ := e_cell ns 1 h (by decide)
  obtain ⟨c2, e2⟩ := e_cell ns 2 h (by decide)
  obtain ⟨n0, n1, n2, n3, n4, eD, h0, h1, h2, h3, h4⟩ := e_draws (c := c1) (fr := decide (c0 % 2 = 0))
  obtain ⟨k, hk, ek⟩ : ∃ k : Nat, k < 3 ∧ c0 / 2 % 3 = k := ⟨(c0 / 2 % 3).toNat, by omega, by omega⟩
  refine Op.eq ?_
  unfold M_law fb_law
  walk_at "wrun"
  walk_at "wq"
  refine op_of e0 ?_
  walk_at "wq"
  refine op_of e0 ?_
  walk_at "wq"
  refine op_of e1 ?_
  walk_at "wq"
  refine op_of eD ?_
  rw [ek]
  walk_at "wq"
  refine o_ixL (k := 0) rfl ?_
  walk_at "wq"
  refine o_ixL (k := 0) rfl ?_
  walk_at "wq"
  refine o_ixL (k := 0) rfl ?_
  walk_at "wq"
  refine o_ixL (k := 0) rfl ?_
  walk_at "wq"
  refine ⟨(by show (4 : Nat) ≤ sizeLine; decide), ?_⟩
  walk_at "wq"
  refine op_of e0 ?_
  walk_at "wq"
  refine o_ixLm (by omega) (by show _ < (4 : Int); omega) fun x hx => ?_
  have htop : ∃ top : Nat, x = .int top ∧ 0 < top ∧ top < 2 ^ 100 := by
    rcases List.mem_cons.mp hx with e | hx
    · exact ⟨1 + n0, e, by omega, by omega⟩
    rcases List.mem_cons.mp hx with e | hx
    · exact ⟨1 + n0 % 60, e, by omega, by omega⟩
    rcases List.mem_cons.mp hx with e | hx
    · exact ⟨360360 * (1 + n0 % 97), e, by omega, by omega⟩
    rcases List.mem_cons.mp hx with e | hx
    · exact ⟨1 + n0 % 4095, e, by omega, by omega⟩
    cases hx
  obtain ⟨top, rfl, ht, hT⟩ := htop
  walk_at "wq"
  refine ⟨by decide, ?_⟩
  walk_at "wq"
  refine ⟨by decide, ?_⟩
  refine so_forL (fun j δ => ∃ (vs : List Nat) (x6 : Option Sl), δ = [some (.sh (.lst (ns.map D.int))), some (.sh (.bl (decide (c0 % 2 = 0)))), some (.sh (.int k)), some (.sh (.lst [.int n0, .int n1, .int n2, .int n3, .int n4])), some (.sh (.int top)), some (.pv (.lst (vs.map fun v : Nat => D.int v)) none), x6, none, none, none, none, none, none, none, none, none, none, none] ∧ vs.length = j ∧ ∀ v ∈ vs, vl k top v) ⟨[], none, rfl, rfl, fun _ h => nomatch h⟩ ?_ ?_
  · rintro j x hx δ ⟨vs, x6, rfl, hl, hv⟩
    have hm : ∃ (m : Nat) (p : Int), m < 10 ^ 29 ∧ x = .int p ∧ ixA (.lst [.int n0, .int n1, .int n2, .int n3, .int n4]) (.int (1 + p)) = some (.int m) := by
      rcases j with _ | _ | _ | j
      · cases hx; exact ⟨n1, _, h1, rfl, rfl⟩
      · cases hx; exact ⟨n2, _, h2, rfl, rfl⟩
      · cases hx; exact ⟨n3, _, h3, rfl, rfl⟩
      · simp [rngD] at hx
    have hj : j < 3 := by
      have := (List.getElem?_eq_some_iff.mp hx).1
      simpa [rngD] using this
    obtain ⟨m, p, m1, rfl, m2⟩ := hm
    obtain ⟨v, ev, hvv⟩ := e_share (top := top) (n := m) ht hT (by omega)
    obtain ⟨u, eu, hu⟩ := e_val (m := m) hk hvv
    walk_at "wp"
    refine op_of m2 ?_
    walk_at "wp"
    refine op_of (e_bits (by omega) (by omega)) ?_
    walk_at "wp"
    refine op_of m2 ?_
    walk_at "wp"
    refine op_of m2 ?_
    walk_at "wp"
    refine op_of ev ?_
    walk_at "wp"
    refine ⟨(by show (3 : Nat) ≤ sizeLine; decide), ?_⟩
    walk_at "wp"
    refine op_of eu ?_
    refine ⟨by rw [List.length_map, hl]; exact Nat.lt_of_lt_of_le hj (by decide), ?_⟩
    walk_at "wp"
    refine ⟨vs ++ [u], some (.sh (.int p)), by simp, by simp [hl], fun x hx => ?_⟩
    rcases List.mem_append.mp hx with hx | hx
    · exact hv x hx
    · rw [List.mem_singleton.mp hx]; exact hu
  · rintro δ ⟨vs, x6, rfl, hl, hv⟩
    obtain ⟨a, b, c, rfl⟩ : ∃ a b c, vs = [a, b, c] := by match vs, hl with | [a, b, c], _ => exact ⟨a, b, c, rfl⟩
    have va := hv a (by simp)
    have vb' := hv b (by simp)
    have vc := hv c (by simp)
    have pos : ∀ {x : Nat}, vl k top x → k = 2 → 0 < x := fun h e => by have := vl_nt hk h; subst e; exact this
    have lt : ∀ {x : Nat}, vl k top x → x < 2 ^ 200 := fun h => nat2 ht hT h
    have hT2 : top < 2 ^ 200 := by omega
    walk_at "wp"
    refine ⟨(by show (3 : Nat) ≤ sizeLine; decide), ?_⟩
    walk_at "wp"
    refine op_of (e_word hk) ?_
    walk_at "wp"
    refine ⟨(by show (2 : Nat) ≤ sizeLine; decide), ?_⟩
    walk_at "wp"
    refine op_of (e_measure_of hk ht) ?_
    walk_at "wp"
    refine op_of (d := mO 0 top) rfl ?_
    walk_at "wp"
    refine op_of (d := mO 1 top) rfl ?_
    walk_at "wp"
    refine op_of (d := mO 2 top) rfl ?_
    walk_at "wp"
    refine ⟨(by show (3 : Nat) ≤ sizeLine; decide), ?_⟩
    walk_at "wp"
    refine op_of (e_named hk) ?_
    walk_at "wp"
    rw [e_nought hk]
    refine op_of (f_isM hk rfl) ?_
    walk_at "wp"
    refine op_of (f_isM hk rfl) ?_
    walk_at "wp"
    refine ⟨(by show (2 : Nat) ≤ sizeLine; decide), ?_⟩
    walk_at "wp"
    refine so_forL (fun _ δ => ∃ x11 x12 : Option Sl, δ = [some (.sh (.lst (ns.map D.int))), some (.sh (.bl (decide (c0 % 2 = 0)))), some (.sh (.int k)), some (.sh (.lst [.int n0, .int n1, .int n2, .int n3, .int n4])), some (.sh (.int top)), some (.pv (.lst [.int a, .int b, .int c]) none), x6, some (.sh (.str (wd k))), some (.sh (mO k top)), some (.sh (mO k top)), some (.sh (.int (nt k))), x11, x12, none, none, none, none, none]) ⟨none, none, rfl⟩ ?_ ?_
    · rintro j x hx δ ⟨x11, x12, rfl⟩
      have hx : x = mO k top := by
        rcases j with _ | _ | j
        · cases hx; rfl
        · cases hx; rfl
        · simp at hx
      subst hx
      walk_at "wp"
      refine op_of (f_nought hk rfl rfl) ?_
      walk_at "wp"
      refine decN _ (decide_eq_true rfl) ?_
      walk_at "wp"
      refine op_of (f_top hk rfl rfl) ?_
      walk_at "wp"
      refine decN _ (decide_eq_true rfl) ?_
      walk_at "wp"
      refine op_of (f_nought hk rfl rfl) ?_
      refine ⟨rfl, ?_⟩
      walk_at "wp"
      refine ⟨(by show (2 : Nat) ≤ sizeLine; decide), ?_⟩
      walk_at "wp"
      refine op_of (d := .lst [.int a, .int b, .int c, .int (nt k), .int top]) rfl ?_
      walk_at "wp"
      refine so_forL (fun _ δ => ∃ x12 : Option Sl, δ = [some (.sh (.lst (ns.map D.int))), some (.sh (.bl (decide (c0 % 2 = 0)))), some (.sh (.int k)), some (.sh (.lst [.int n0, .int n1, .int n2, .int n3, .int n4])), some (.sh (.int top)), some (.pv (.lst [.int a, .int b, .int c]) none), x6, some (.sh (.str (wd k))), some (.sh (mO k top)), some (.sh (mO k top)), some (.sh (.int (nt k))), some (.sh (mO k top)), x12, none, none, none, none, none]) ⟨x12, rfl⟩ ?_ ?_
      · rintro j x hx δ ⟨x12, rfl⟩
        have hx : ∃ y : Nat, x = .int y ∧ vl k top y := by
          rcases j with _ | _ | _ | _ | _ | j
          · cases hx; exact ⟨a, rfl, va⟩
          · cases hx; exact ⟨b, rfl, vb'⟩
          · cases hx; exact ⟨c, rfl, vc⟩
          · cases hx; exact ⟨_, rfl, vl_nought hk⟩
          · cases hx; exact ⟨_, rfl, vl_top ht⟩
          · simp at hx
        obtain ⟨y, rfl, vy⟩ := hx
        walk_at "wp"
        refine op_of (f_hasV hk (lt vy) hT2 vy rfl rfl) ?_
        walk_at "wp"
        refine op_of (d := .bl false) rfl ?_
        walk_at "wp"
        refine o_ixL (k := 0) rfl ?_
        walk_at "wp"
        refine op_of (e_agrees hk ht hT vy va) ?_
        walk_at "wp"
        refine op_of (f_either hk (pos vy) (lt vy) (lt (vl_nought hk)) rfl rfl) ?_
        walk_at "wp"
        rw [jn_nought hk]
        refine decN _ (decide_eq_true rfl) ?_
        walk_at "wp"
        refine op_of (f_both hk (lt vy) hT2 rfl rfl) ?_
        walk_at "wp"
        rw [mt_top vy]
        refine decN _ (decide_eq_true rfl) ?_
        walk_at "wp"
        refine op_of (f_both hk (lt vy) (lt (vl_nought hk)) rfl rfl) ?_
        walk_at "wp"
        rw [mt_nought hk]
        refine decN _ (decide_eq_true rfl) ?_
        walk_at "wp"
        refine op_of (f_either hk (pos vy) (lt vy) hT2 rfl rfl) ?_
        walk_at "wp"
        rw [jn_top vy]
        refine decN _ (decide_eq_true rfl) ?_
        walk_at "wp"
        exact ⟨_, rfl⟩
      · rintro δ ⟨x12, rfl⟩
        walk_at "wp"
        exact ⟨_, _, rfl⟩
    · rintro δ ⟨x11, x12, rfl⟩
      walk_at "wp"
      refine so_pub (m := .lst [.int a, .int b, .int c]) (o := none) rfl ?_
      refine so_unpL ?_
      walk_at "wp"
      refine ⟨_, _, _, rfl, ?_⟩
      have j2 := vl_jn vb' vc
      have m1 := vl_mt va vb'
      have m2 := vl_mt va vc
      dsimp only [List.set]
      walk_at "wp"
      refine op_of (f_both hk (lt va) (lt j2) rfl (Op.eq (by walk_at "wp"; refine op_of (f_either hk (pos vb') (lt vb') (lt vc) rfl rfl) ?_; walk_at "wp"; rfl))) ?_
      walk_at "wp"
      refine op_of (f_either hk (pos m1) (lt m1) (lt m2) rfl (Op.eq (by walk_at "wp"; refine op_of (f_both hk (lt va) (lt vb') rfl rfl) ?_; walk_at "wp"; refine op_of (f_both hk (lt va) (lt vc) rfl rfl) ?_; walk_at "wp"; rfl))) ?_
      walk_at "wp"
      rw [spread va vb' vc]
      refine decN _ (decide_eq_true rfl) ?_
      walk_at "wp"
      refine o_ixL (k := 4) rfl ?_
      walk_at "wp"
      refine o_ixL (k := 4) rfl ?_
      walk_at "wp"
      refine ⟨(by show (1 : Nat) ≤ sizeLine; decide), ?_⟩
      walk_at "wp"
      refine ⟨(by show (1 : Nat) ≤ sizeLine; decide), ?_⟩
      walk_at "wp"
      refine ⟨(by show (8 : Nat) ≤ sizeLine; decide), ?_⟩
      walk_at "wp"
      refine op_of e2 ?_
      walk_at "wp"
      refine o_ixLm (by omega) (by show _ < (8 : Int); omega) fun x hx => ?_
      have hx : ∃ r : Bool, M_Measure_has [mO k top, x] = some (.sh (.bl r)) ∧ M__law_is_value [.int k, .int top, x] = some (.sh (.bl r)) := by
        have num : ∀ z : Int, z < 2 ^ 200 → ∃ r : Bool, M_Measure_has [mO k top, .int z] = some (.sh (.bl r)) ∧ M__law_is_value [.int k, .int top, .int z] = some (.sh (.bl r)) := fun z hz => ⟨_, e_has hk hz hT2, e_isval hk ht hz hT2⟩
        rcases List.mem_cons.mp hx with rfl | hx
        · exact num _ (by omega)
        rcases List.mem_cons.mp hx with rfl | hx
        · exact num _ (by omega)
        rcases List.mem_cons.mp hx with rfl | hx
        · exact ⟨false, e_has_not hk (by kernel_rfl), by kernel_rfl⟩
        rcases List.mem_cons.mp hx with rfl | hx
        · exact ⟨false, e_has_not hk (by kernel_rfl), by kernel_rfl⟩
        rcases List.mem_cons.mp hx with rfl | hx
        · exact ⟨false, e_has_not hk (by kernel_rfl), by kernel_rfl⟩
        rcases List.mem_cons.mp hx with rfl | hx
        · exact num _ (by omega)
        rcases List.mem_cons.mp hx with rfl | hx
        · exact ⟨false, e_has_not hk (by kernel_rfl), by kernel_rfl⟩
        rcases List.mem_cons.mp hx with rfl | hx
        · exact ⟨false, e_has_not hk (by kernel_rfl), by kernel_rfl⟩
        cases hx
      obtain ⟨r, r1, r2⟩ := hx
      walk_at "wp"
      refine op_of (f_has hk rfl rfl r1) ?_
      walk_at "wp"
      refine ⟨rfl, ?_⟩
      walk_at "wp"
      refine op_of r2 ?_
      walk_at "wp"
      refine o_eqBl ?_
      rfl
end K58
set_option Elab.async false
set_option linter.all false
set_option maxRecDepth 100000
set_option maxHeartbeats 4000000
namespace K58
open PySem PySem.Spec PyProof.Rows L2
theorem all_ok {P : Program} {w : World} {K : PySem.W.Frag} {mg : Str → Option Value} {base : Heap} (T : Txt K mg) {f : Addr} {fd : FuncData} (F : Fun K "law" "law" (top 21) f fd) : FnOk P w K mg base CX0 5 f fd ["_law_script"] (spD K M_law) := by
  have ok_is_whole := mk_is_whole (P := P) (w := w) (base := base) T 
  have oc_Bits := mkc_Bits (P := P) (w := w) (base := base) T
  have oc_Chain := mkc_Chain (P := P) (w := w) (base := base) T
  have oc_Shares := mkc_Shares (P := P) (w := w) (base := base) T
  have ok_measure_of := mk_measure_of (P := P) (w := w) (base := base) T oc_Bits oc_Chain oc_Shares ok_is_whole
  have ok__law_cell_at := mk__law_cell_at (P := P) (w := w) (base := base) T 
  have ok__law_draws := mk__law_draws (P := P) (w := w) (base := base) T 
  have ok__law_share := mk__law_share (P := P) (w := w) (base := base) T 
  have ok__law_bits := mk__law_bits (P := P) (w := w) (base := base) T 
  have ok__law_common := mk__law_common (P := P) (w := w) (base := base) T 
  have ok__law_due := mk__law_due (P := P) (w := w) (base := base) T ok__law_bits ok__law_common
  have ok__law_is_value := mk__law_is_value (P := P) (w := w) (base := base) T ok__law_bits
  have ot_both : ∀ c M, tb_both.lookup c = some M → MethOk P w K mg base 1 c "both" ["self", "one", "other"] M := (tab_cons ((mk_Bits_both (P := P) (w := w) (base := base) T T.mt_Bits_both ).mono (by decide)) (tab_cons ((mk_Measure_both (P := P) (w := w) (base := base) T T.mt_Chain_both ).mono (by decide)) (tab_cons ((mk_Shares_both (P := P) (w := w) (base := base) T T.mt_Shares_both ).mono (by decide)) tab_nil)))
  have ot_either : ∀ c M, tb_either.lookup c = some M → MethOk P w K mg base 2 c "either" ["self", "one", "other"] M := (tab_cons ((mk_Bits_either (P := P) (w := w) (base := base) T T.mt_Bits_either ).mono (by decide)) (tab_cons ((mk_Measure_either (P := P) (w := w) (base := base) T T.mt_Chain_either ).mono (by decide)) (tab_cons ((mk_Shares_either (P := P) (w := w) (base := base) T T.mt_Shares_either ot_both).mono (by decide)) tab_nil)))
  have ot_has : ∀ c M, tb_has.lookup c = some M → MethOk P w K mg base 3 c "has" ["self", "thing"] M := (tab_cons ((mk_Measure_has (P := P) (w := w) (base := base) T T.mt_Bits_has ok_is_whole ot_either).mono (by decide)) (tab_cons ((mk_Measure_has (P := P) (w := w) (base := base) T T.mt_Chain_has ok_is_whole ot_either).mono (by decide)) (tab_cons ((mk_Measure_has (P := P) (w := w) (base := base) T T.mt_Shares_has ok_is_whole ot_either).mono (by decide)) tab_nil)))
  have ok__law_agrees := mk__law_agrees (P := P) (w := w) (base := base) T ok__law_due ot_both ot_either ot_has
  exact mk_law T F ok__law_agrees ok__law_bits ok__law_cell_at ok__law_draws ok__law_is_value ok__law_share oc_Bits oc_Chain oc_Shares ok_measure_of ot_both ot_either ot_has
theorem walk {l : PySem.W.OpenLaw} {q : Program} {loose : List Str} {XP : (Str → Option Value) → Heap → Prop} {YP : World → Heap → Prop} {d : DefRec} {K : Params → PySem.W.Frag} (hn : l.most = some 63) (hdf : d.params.defaults = []) (hnm : d.name = "law")
    (hY : ∀ (w : World) (h : Heap), YP w h → (K w.params).In h)
    (F : ∀ (w : World) (mg : Str → Option Value) (h : Heap), (K w.params).In h → h.Ns mainGlobals mg → Txt (K w.params) mg) :
    PySem.W.WalkO q loose XP YP l.row.toRowW d [] (fun f vs => PySem.call f vs) :=
  L2.walk_ofK (n := 63) (k := 5) (x := "_law_script") (CX := CX0) (sp := fun K => spD K M_law) hn (by decide) hdf ⟨rfl, by decide, by decide⟩ hY
    (fun w mg fa h KX G hm => law_at (by rw [← hnm]; exact hm) (F w mg h KX G).d_law (fun _ _ _ _ _ _ _ => rfl) fun f fd base Fn => all_ok (F w mg h KX G) Fn)
    (fun K H a ns hl _ hS => law_sp hS (law_true ns hl)) fun _ _ _ _ z => z
end K58
open PySem PySem.W PyProof.Rows L2
set_option maxRecDepth 100000 in
set_option maxHeartbeats 0 in
theorem PySem.Challenge.cw_reason_k58_measures_holds : PySem.Challenge.rw_reason_k58_measures.Holds := by
  w_on; o_law; k_head; (case hw => w_witness2)
  k_fill
  refine K58.walk (l := PySem.Challenge.rw_reason_k58_measures) rfl rfl rfl (fun w h Y => PySem.W.kIn_of Y) ?F
  case F =>
    intro w mg h KX G
    refine' K58.Txt.mk (defAt_mk KX G ?y1 ?y2 ?y3 ?y4) (defAt_mk KX G ?y5 ?y6 ?y7 ?y8) (defAt_mk KX G ?y9 ?y10 ?y11 ?y12) (defAt_mk KX G ?y13 ?y14 ?y15 ?y16) (defAt_mk KX G ?y17 ?y18 ?y19 ?y20) (defAt_mk KX G ?y21 ?y22 ?y23 ?y24) (defAt_mk KX G ?y25 ?y26 ?y27 ?y28) (defAt_mk KX G ?y29 ?y30 ?y31 ?y32) (defAt_mk KX G ?y33 ?y34 ?y35 ?y36) (defAt_mk KX G ?y37 ?y38 ?y39 ?y40) (defAt_mk KX G ?y41 ?y42 ?y43 ?y44) (PySem.W.mg_none_of KX G ?y45) (PySem.W.mg_none_of KX G ?y46) (PySem.W.mg_none_of KX G ?y47) (PySem.W.mg_none_of KX G ?y48) (PySem.W.mg_none_of KX G ?y49) (PySem.W.mg_none_of KX G ?y50) (PySem.W.mg_none_of KX G ?y51) (PySem.W.mg_none_of KX G ?y52) (PySem.W.mg_none_of KX G ?y53) tyOk_bool tyOk_int tyOk_str tyOk_tuple (methAt_mk ?y54 (cls_mk ?y55 ?y56 ?y57 ?y58) ?y59 ?y60 ?y61 ?y62 ?y63) (methAt_mk ?y64 (cls_mk ?y65 ?y66 ?y67 ?y68) ?y69 ?y70 ?y71 ?y72 ?y73) (methAt_mk ?y74 (cls_mk ?y75 ?y76 ?y77 ?y78) ?y79 ?y80 ?y81 ?y82 ?y83) (methAt_mk ?y84 (cls_mk ?y85 ?y86 ?y87 ?y88) ?y89 ?y90 ?y91 ?y92 ?y93) (methAt_mk ?y94 (cls_mk ?y95 ?y96 ?y97 ?y98) ?y99 ?y100 ?y101 ?y102 ?y103) (methAt_mk ?y104 (cls_mk ?y105 ?y106 ?y107 ?y108) ?y109 ?y110 ?y111 ?y112 ?y113) (methAt_mk ?y114 (cls_mk ?y115 ?y116 ?y117 ?y118) ?y119 ?y120 ?y121 ?y122 ?y123) (methAt_mk ?y124 (cls_mk ?y125 ?y126 ?y127 ?y128) ?y129 ?y130 ?y131 ?y132 ?y133) (methAt_mk ?y134 (cls_mk ?y135 ?y136 ?y137 ?y138) ?y139 ?y140 ?y141 ?y142 ?y143) (mkAt_mk KX G ?y144 ?y145 ?y146 ?y147 ?y148 (cls_mk ?y149 ?y150 ?y151 ?y152) (na_cons ?y154 (na_cons ?y153 na_nil)) ?y155 ?y156 ?y157) (mkAt_mk KX G ?y158 ?y159 ?y160 ?y161 ?y162 (cls_mk ?y163 ?y164 ?y165 ?y166) (na_cons ?y168 (na_cons ?y167 na_nil)) ?y169 ?y170 ?y171) (mkAt_mk KX G ?y172 ?y173 ?y174 ?y175 ?y176 (cls_mk ?y177 ?y178 ?y179 ?y180) (na_cons ?y182 (na_cons ?y181 na_nil)) ?y183 ?y184 ?y185) (clsCall_mk ?y186 ?y187 ?y188 ?y189 ?y190 ?y191 ?y192 ?y193 ?y194) (fld_cons (fldAt_mk ?y207 (cls_mk ?y208 ?y209 ?y210 ?y211) ?y212) (fld_cons (fldAt_mk ?y201 (cls_mk ?y202 ?y203 ?y204 ?y205) ?y206) (fld_cons (fldAt_mk ?y195 (cls_mk ?y196 ?y197 ?y198 ?y199) ?y200) fld_nil))) (fld_cons (fldAt_mk ?y225 (cls_mk ?y226 ?y227 ?y228 ?y229) ?y230) (fld_cons (fldAt_mk ?y219 (cls_mk ?y220 ?y221 ?y222 ?y223) ?y224) (fld_cons (fldAt_mk ?y213 (cls_mk ?y214 ?y215 ?y216 ?y217) ?y218) fld_nil))) (isC1_mk ?y231 (isCs_cons ?y252 (insC_mk (cls_mk ?y253 ?y254 ?y255 ?y256) ?y257 ?y258 ?y259 ?y260) ?y261 (isCs_cons ?y242 (insC_mk (cls_mk ?y243 ?y244 ?y245 ?y246) ?y247 ?y248 ?y249 ?y250) ?y251 (isCs_cons ?y232 (insC_mk (cls_mk ?y233 ?y234 ?y235 ?y236) ?y237 ?y238 ?y239 ?y240) ?y241 isCs_nil))))
    (case y1 => k_is)
    (case y2 => k_is)
    (case y3 => k_is)
    (case y4 => k_is)
    (case y5 => k_is)
    (case y6 => k_is)
    (case y7 => k_is)
    (case y8 => k_is)
    (case y9 => k_is)
    (case y10 => k_is)
    (case y11 => k_is)
    (case y12 => k_is)
    (case y13 => k_is)
    (case y14 => k_is)
    (case y15 => k_is)
    (case y16 => k_is)
    (case y17 => k_is)
    (case y18 => k_is)
    (case y19 => k_is)
    (case y20 => k_is)
    (case y21 => k_is)
    (case y22 => k_is)
    (case y23 => k_is)
    (case y24 => k_is)
    (case y25 => k_is)
    (case y26 => k_is)
    (case y27 => k_is)
    (case y28 => k_is)
    (case y29 => k_is)
    (case y30 => k_is)
    (case y31 => k_is)
    (case y32 => k_is)
    (case y33 => k_is)
    (case y34 => k_is)
    (case y35 => k_is)
    (case y36 => k_is)
    (case y37 => k_is)
    (case y38 => k_is)
    (case y39 => k_is)
    (case y40 => k_is)
    (case y41 => k_is)
    (case y42 => k_is)
    (case y43 => k_is)
    (case y44 => k_is)
    (case y45 => k_is)
    (case y46 => k_is)
    (case y47 => k_is)
    (case y48 => k_is)
    (case y49 => k_is)
    (case y50 => k_is)
    (case y51 => k_is)
    (case y52 => k_is)
    (case y53 => k_is)
    (case y54 => k_is)
    (case y55 => first | k_is | with_unfolding_all rfl | decide +kernel)
    (case y56 => first | k_is | with_unfolding_all rfl | decide +kernel)
    (case y57 => first | k_is | with_unfolding_all rfl | decide +kernel)
    (case y58 => k_is)
    (case y59 => k_is)
    (case y60 => first | k_is | with_unfolding_all rfl | decide +kernel)
    (case y61 => k_is)
    (case y62 => k_is)
    (case y63 => k_is)
    (case y64 => k_is)
    (case y65 => first | k_is | with_unfolding_all rfl | decide +kernel)
    (case y66 => first | k_is | with_unfolding_all rfl | decide +kernel)
    (case y67 => first | k_is | with_unfolding_all rfl | decide +kernel)
    (case y68 => k_is)
    (case y69 => k_is)
    (case y70 => first | k_is | with_unfolding_all rfl | decide +kernel)
    (case y71 => k_is)
    (case y72 => k_is)
    (case y73 => k_is)
    (case y74 => k_is)
    (case y75 => first | k_is | with_unfolding_all rfl | decide +kernel)
    (case y76 => first | k_is | with_unfolding_all rfl | decide +kernel)
    (case y77 => first | k_is | with_unfolding_all rfl | decide +kernel)
    (case y78 => k_is)
    (case y79 => k_is)
    (case y80 => first | k_is | with_unfolding_all rfl | decide +kernel)
    (case y81 => k_is)
    (case y82 => k_is)
    (case y83 => k_is)
    (case y84 => k_is)
    (case y85 => first | k_is | with_unfolding_all rfl | decide +kernel)
    (case y86 => first | k_is | with_unfolding_all rfl | decide +kernel)
    (case y87 => first | k_is | with_unfolding_all rfl | decide +kernel)
    (case y88 => k_is)
    (case y89 => k_is)
    (case y90 => first | k_is | with_unfolding_all rfl | decide +kernel)
    (case y91 => k_is)
    (case y92 => k_is)
    (case y93 => k_is)
    (case y94 => k_is)
    (case y95 => first | k_is | with_unfolding_all rfl | decide +kernel)
    (case y96 => first | k_is | with_unfolding_all rfl | decide +kernel)
    (case y97 => first | k_is | with_unfolding_all rfl | decide +kernel)
    (case y98 => k_is)
    (case y99 => k_is)
    (case y100 => first | k_is | with_unfolding_all rfl | decide +kernel)
    (case y101 => k_is)
    (case y102 => k_is)
    (case y103 => k_is)
    (case y104 => k_is)
    (case y105 => first | k_is | with_unfolding_all rfl | decide +kernel)
    (case y106 => first | k_is | with_unfolding_all rfl | decide +kernel)
    (case y107 => first | k_is | with_unfolding_all rfl | decide +kernel)
    (case y108 => k_is)
    (case y109 => k_is)
    (case y110 => first | k_is | with_unfolding_all rfl | decide +kernel)
    (case y111 => k_is)
    (case y112 => k_is)
    (case y113 => k_is)
    (case y114 => k_is)
    (case y115 => first | k_is | with_unfolding_all rfl | decide +kernel)
    (case y116 => first | k_is | with_unfolding_all rfl | decide +kernel)
    (case y117 => first | k_is | with_unfolding_all rfl | decide +kernel)
    (case y118 => k_is)
    (case y119 => k_is)
    (case y120 => first | k_is | with_unfolding_all rfl | decide +kernel)
    (case y121 => k_is)
    (case y122 => k_is)
    (case y123 => k_is)
    (case y124 => k_is)
    (case y125 => first | k_is | with_unfolding_all rfl | decide +kernel)
    (case y126 => first | k_is | with_unfolding_all rfl | decide +kernel)
    (case y127 => first | k_is | with_unfolding_all rfl | decide +kernel)
    (case y128 => k_is)
    (case y129 => k_is)
    (case y130 => first | k_is | with_unfolding_all rfl | decide +kernel)
    (case y131 => k_is)
    (case y132 => k_is)
    (case y133 => k_is)
    (case y134 => k_is)
    (case y135 => first | k_is | with_unfolding_all rfl | decide +kernel)
    (case y136 => first | k_is | with_unfolding_all rfl | decide +kernel)
    (case y137 => first | k_is | with_unfolding_all rfl | decide +kernel)
    (case y138 => k_is)
    (case y139 => k_is)
    (case y140 => first | k_is | with_unfolding_all rfl | decide +kernel)
    (case y141 => k_is)
    (case y142 => k_is)
    (case y143 => k_is)
    (case y144 => k_is)
    (case y145 => first | k_is | with_unfolding_all rfl | decide +kernel)
    (case y146 => k_is)
    (case y147 => first | k_is | with_unfolding_all rfl | decide +kernel)
    (case y148 => k_is)
    (case y149 => first | k_is | with_unfolding_all rfl | decide +kernel)
    (case y150 => first | k_is | with_unfolding_all rfl | decide +kernel)
    (case y151 => first | k_is | with_unfolding_all rfl | decide +kernel)
    (case y152 => k_is)
    (case y153 => k_is)
    (case y154 => k_is)
    (case y155 => k_is)
    (case y156 => k_is)
    (case y157 => k_is)
    (case y158 => k_is)
    (case y159 => first | k_is | with_unfolding_all rfl | decide +kernel)
    (case y160 => k_is)
    (case y161 => first | k_is | with_unfolding_all rfl | decide +kernel)
    (case y162 => k_is)
    (case y163 => first | k_is | with_unfolding_all rfl | decide +kernel)
    (case y164 => first | k_is | with_unfolding_all rfl | decide +kernel)
    (case y165 => first | k_is | with_unfolding_all rfl | decide +kernel)
    (case y166 => k_is)
    (case y167 => k_is)
    (case y168 => k_is)
    (case y169 => k_is)
    (case y170 => k_is)
    (case y171 => k_is)
    (case y172 => k_is)
    (case y173 => first | k_is | with_unfolding_all rfl | decide +kernel)
    (case y174 => k_is)
    (case y175 => first | k_is | with_unfolding_all rfl | decide +kernel)
    (case y176 => k_is)
    (case y177 => first | k_is | with_unfolding_all rfl | decide +kernel)
    (case y178 => first | k_is | with_unfolding_all rfl | decide +kernel)
    (case y179 => first | k_is | with_unfolding_all rfl | decide +kernel)
    (case y180 => k_is)
    (case y181 => k_is)
    (case y182 => k_is)
    (case y183 => k_is)
    (case y184 => k_is)
    (case y185 => k_is)
    (case y186 => k_is)
    (case y187 => k_is)
    (case y188 => k_is)
    (case y189 => first | k_is | with_unfolding_all rfl | decide +kernel)
    (case y190 => first | k_is | with_unfolding_all rfl | decide +kernel)
    (case y191 => first | k_is | with_unfolding_all rfl | decide +kernel)
    (case y192 => k_is)
    (case y193 => k_is)
    (case y194 => k_is)
    (case y195 => k_is)
    (case y196 => first | k_is | with_unfolding_all rfl | decide +kernel)
    (case y197 => first | k_is | with_unfolding_all rfl | decide +kernel)
    (case y198 => first | k_is | with_unfolding_all rfl | decide +kernel)
    (case y199 => k_is)
    (case y200 => k_is)
    (case y201 => k_is)
    (case y202 => first | k_is | with_unfolding_all rfl | decide +kernel)
    (case y203 => first | k_is | with_unfolding_all rfl | decide +kernel)
    (case y204 => first | k_is | with_unfolding_all rfl | decide +kernel)
    (case y205 => k_is)
    (case y206 => k_is)
    (case y207 => k_is)
    (case y208 => first | k_is | with_unfolding_all rfl | decide +kernel)
    (case y209 => first | k_is | with_unfolding_all rfl | decide +kernel)
    (case y210 => first | k_is | with_unfolding_all rfl | decide +kernel)
    (case y211 => k_is)
    (case y212 => k_is)
    (case y213 => k_is)
    (case y214 => first | k_is | with_unfolding_all rfl | decide +kernel)
    (case y215 => first | k_is | with_unfolding_all rfl | decide +kernel)
    (case y216 => first | k_is | with_unfolding_all rfl | decide +kernel)
    (case y217 => k_is)
    (case y218 => k_is)
    (case y219 => k_is)
    (case y220 => first | k_is | with_unfolding_all rfl | decide +kernel)
    (case y221 => first | k_is | with_unfolding_all rfl | decide +kernel)
    (case y222 => first | k_is | with_unfolding_all rfl | decide +kernel)
    (case y223 => k_is)
    (case y224 => k_is)
    (case y225 => k_is)
    (case y226 => first | k_is | with_unfolding_all rfl | decide +kernel)
    (case y227 => first | k_is | with_unfolding_all rfl | decide +kernel)
    (case y228 => first | k_is | with_unfolding_all rfl | decide +kernel)
    (case y229 => k_is)
    (case y230 => k_is)
    (case y231 => k_is)
    (case y232 => k_is)
    (case y233 => first | k_is | with_unfolding_all rfl | decide +kernel)
    (case y234 => first | k_is | with_unfolding_all rfl | decide +kernel)
    (case y235 => first | k_is | with_unfolding_all rfl | decide +kernel)
    (case y236 => k_is)
    (case y237 => k_is)
    (case y238 => first | k_is | with_unfolding_all rfl | decide +kernel)
    (case y239 => first | k_is | with_unfolding_all rfl | decide +kernel)
    (case y240 => k_is)
    (case y241 => first | k_is | with_unfolding_all rfl | decide +kernel)
    (case y242 => k_is)
    (case y243 => first | k_is | with_unfolding_all rfl | decide +kernel)
    (case y244 => first | k_is | with_unfolding_all rfl | decide +kernel)
    (case y245 => first | k_is | with_unfolding_all rfl | decide +kernel)
    (case y246 => k_is)
    (case y247 => k_is)
    (case y248 => first | k_is | with_unfolding_all rfl | decide +kernel)
    (case y249 => first | k_is | with_unfolding_all rfl | decide +kernel)
    (case y250 => k_is)
    (case y251 => first | k_is | with_unfolding_all rfl | decide +kernel)
    (case y252 => k_is)
    (case y253 => first | k_is | with_unfolding_all rfl | decide +kernel)
    (case y254 => first | k_is | with_unfolding_all rfl | decide +kernel)
    (case y255 => first | k_is | with_unfolding_all rfl | decide +kernel)
    (case y256 => k_is)
    (case y257 => k_is)
    (case y258 => first | k_is | with_unfolding_all rfl | decide +kernel)
    (case y259 => first | k_is | with_unfolding_all rfl | decide +kernel)
    (case y260 => k_is)
    (case y261 => first | k_is | with_unfolding_all rfl | decide +kernel)
