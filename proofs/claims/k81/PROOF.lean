import PyProof.Rows.All
import Wide.All
import OpenK.AllK
import Wide.FinOn
import Lean
import PyProof.EqAt
import PyProof.EqKinds
import PyProof.TupleCall
import PySem.Challenge.RW_wallspace_k81_whole_hall

-- CHANGE: your row's module here, as the last of these rows
set_option Elab.async false
set_option linter.all false
set_option maxRecDepth 100000
/-! THE HAND LAYER, for ints, bools, texts, own classes, LISTS and tuples (index, slices, in, append, pop ..), calls, loops. Paste it whole ahead of your own text; what your proof does not reach may be deleted. -/
namespace L2
open PySem PySem.Spec PyProof.Rows

/-- a key: an int or a str -/
abbrev Key := Sum Int Str
def keyIs : Key → Value → Bool
  | .inl k, v => Value.isInt k v
  | .inr x, v => Value.isStrOf x v
def keyH (w : World) : Key → Int
  | .inl k => hashInt k
  | .inr x => hashStr w x
theorem keyIs_shape : ∀ {k : Key} {v : Value}, keyIs k v = true → (∃ i t, k = Sum.inl i ∧ v = Value.int i t) ∨ (∃ x t, k = Sum.inr x ∧ v = Value.str x t)
  | .inl i, v, h => by
    obtain ⟨t, e⟩ := Value.isInt_shape (k := i) (v := v) h
    exact .inl ⟨i, t, rfl, e⟩
  | .inr x, v, h => by
    obtain ⟨t, e⟩ := Value.isStrOf_shape (x := x) (v := v) h
    exact .inr ⟨x, t, rfl, e⟩
theorem key_ll (a b : Int) : decide ((Sum.inl a : Key) = Sum.inl b) = (a == b) := by
  by_cases e : a = b
  · subst e; simp
  · have h : ¬ (Sum.inl a : Key) = Sum.inl b := fun q => e (Sum.inl.inj q)
    rw [decide_eq_false h]
    exact (beq_eq_false_iff_ne.mpr e).symm
theorem key_rr (a b : Str) : decide ((Sum.inr a : Key) = Sum.inr b) = decide (a = b) := by
  by_cases e : a = b
  · subst e; simp
  · have h : ¬ (Sum.inr a : Key) = Sum.inr b := fun q => e (Sum.inr.inj q)
    rw [decide_eq_false h, decide_eq_false e]
theorem key_lr (a : Int) (b : Str) : decide ((Sum.inl a : Key) = Sum.inr b) = false := decide_eq_false (fun q => nomatch q)
theorem key_rl (a : Str) (b : Int) : decide ((Sum.inr a : Key) = Sum.inl b) = false := decide_eq_false (fun q => nomatch q)

def mixKind (prog : Program) (w : World) : PySem.KeyKind prog w Key where
  is := keyIs
  hash := keyH w
  inj := fun v a b ha hb => by
    rcases keyIs_shape ha with ⟨i, t, rfl, rfl⟩ | ⟨x, t, rfl, rfl⟩
    · rcases keyIs_shape hb with ⟨j, u, rfl, e⟩ | ⟨y, u, rfl, e⟩
      · injection e with e1 _; rw [e1]
      · exact nomatch e
    · rcases keyIs_shape hb with ⟨j, u, rfl, e⟩ | ⟨y, u, rfl, e⟩
      · exact nomatch e
      · injection e with e1 _; rw [e1]
  byValue := fun k v h => by
    rcases keyIs_shape h with ⟨i, t, rfl, rfl⟩ | ⟨x, t, rfl, rfl⟩ <;> rfl
  pyHash := fun hv h => by
    rcases keyIs_shape hv with ⟨i, t, rfl, rfl⟩ | ⟨x, t, rfl, rfl⟩
    · exact wpAny_pyHash_int h
    · exact wpAny_pyHash_str h
  eqBool := fun hu hv h => by
    rcases keyIs_shape hu with ⟨i, t, rfl, rfl⟩ | ⟨x, t, rfl, rfl⟩
    · rcases keyIs_shape hv with ⟨j, u, rfl, rfl⟩ | ⟨y, u, rfl, rfl⟩
      · rw [key_ll] at h; exact wpAny_eqBool_int h
      · rw [key_lr] at h; exact SeqAt.EqAt.int_str i t y u _ _ _ _ h
    · rcases keyIs_shape hv with ⟨j, u, rfl, rfl⟩ | ⟨y, u, rfl, rfl⟩
      · rw [key_rl] at h; exact SeqAt.EqAt.str_int x t j u _ _ _ _ h
      · rw [key_rr] at h; exact wpAny_eqBool_str h
  «strs» := fun k x t v h => by
    rcases keyIs_shape h with ⟨i, u, rfl, e⟩ | ⟨y, u, rfl, e⟩
    · exact nomatch e
    · injection e with e1 _
      subst e1
      cases v <;> rfl

end L2

namespace L2
open PySem PySem.Spec PyProof.Rows

/-- a value, without the heap -/
inductive V where
  | non | bl (b : Bool) | int (i : Int) | str (x : Str) | byt (b : Array UInt8) | flt (b : UInt64) | ref (a : Addr) | ty (n : String)
  deriving DecidableEq

def RelV : V → Value → Prop
  | .non, u => u = Value.none
  | .bl b, u => u = Value.bool b
  | .int i, u => ∃ t, u = Value.int i t
  | .str x, u => ∃ t, u = Value.str x t
  | .byt b, u => ∃ t, u = Value.bytes b t
  | .flt b, u => ∃ t, u = Value.float b t
  | .ref a, u => u = Value.ref a
  | .ty n, u => u = Value.type n

abbrev Vals : List V → List Value → Prop := Paired RelV
theorem Vals.length {xs : List V} {us : List Value} (r : Vals xs us) : xs.length = us.length := Paired.length r
theorem Vals.get : ∀ {xs : List V} {us : List Value} {i : Nat} {x : V}, Vals xs us → xs[i]? = some x → ∃ u, us[i]? = some u ∧ RelV x u
  | _, _, _, _, .nil, e => by simp at e
  | _, _, 0, _, .cons r _, e => by simp at e; subst e; exact ⟨_, rfl, r⟩
  | _, _, i + 1, x, .cons _ t, e => by
    obtain ⟨u, h1, h2⟩ := Vals.get (i := i) (x := x) t (by simpa using e)
    exact ⟨u, by simpa using h1, h2⟩
theorem Vals.append : ∀ {xs ys : List V} {us ws : List Value}, Vals xs us → Vals ys ws → Vals (xs ++ ys) (us ++ ws)
  | _, _, _, _, .nil, s => s
  | _, _, _, _, .cons r t, s => .cons r (Vals.append t s)
theorem Vals.take : ∀ {xs : List V} {us : List Value} (n : Nat), Vals xs us → Vals (xs.take n) (us.take n)
  | _, _, 0, _ => .nil
  | _, _, _ + 1, .nil => .nil
  | _, _, n + 1, .cons r t => .cons r (Vals.take n t)
theorem Vals.drop : ∀ {xs : List V} {us : List Value} (n : Nat), Vals xs us → Vals (xs.drop n) (us.drop n)
  | _, _, 0, r => r
  | _, _, _ + 1, .nil => .nil
  | _, _, n + 1, .cons _ t => Vals.drop n t
def RelO : Option V → Option Value → Prop
  | some v, some u => RelV v u
  | none, none => True
  | _, _ => False
def KV {κ : Type} : List (κ × V) → List (κ × Value) → Prop := Paired fun (p : κ × V) (q : κ × Value) => p.1 = q.1 ∧ RelV p.2 q.2

/-- a key of a dict (00_mix): an int or a text -/
def kV : Key → V
  | .inl i => .int i
  | .inr x => .str x

/-- what stands at a tracked address -/
inductive HO where
  /-- a list -/
  | lst (xs : List V)
  /-- a tuple (never changes) -/
  | tup (xs : List V)
  /-- a dict whose keys are ints and texts; one whose keys are tuples of ints and texts (the empty one is both) -/
  | dK (kvs : List (Key × V)) | dT (kvs : List (List Key × V))
  /-- a set of ints: its members, its size -/
  | set (S : Int → Bool) (n : Nat)
  /-- an instance of the class at C, its dict at dx, its attributes -/
  | ins (C dx : Addr) (fs : List (Str × V))
  /-- the dict of the instance at x -/
  | own (x : Addr)
  /-- the dict of an exception -/
  | xd (fs : List (Str × V))
  /-- a bound method, f of x -/
  | met (f x : Addr)
  /-- a range object lo, lo + 1, .. below hi -/
  | rng (lo hi : Int)
  /-- a thing that is known to the object (the script; a dict while a loop walks it): read, never written while it is so -/
  | frz (o : Obj) (u : HO)
  /-- a code object's table -/
  | tbl (ps : Array Value)
  /-- any other thing, by what is true of its one object (a def of one's own: SetO a S n := HO.ext fun h => ..) -/
  | ext (φ : Heap → Prop)

abbrev Hp := Addr → Option HO
def upd (H : Hp) (a : Addr) (o : HO) : Hp := fun b => if b = a then some o else H b
theorem upd_same {H : Hp} {a : Addr} {o : HO} : upd H a o a = some o := by unfold upd; rw [if_pos rfl]
theorem upd_ne {H : Hp} {a b : Addr} {o : HO} (h : b ≠ a) : upd H a o b = H b := by unfold upd; rw [if_neg h]
theorem upd_upd {H : Hp} {a : Addr} {o u : HO} : upd (upd H a o) a u = upd H a u := by
  funext b; unfold upd; split <;> rfl
theorem ne_of_none {H : Hp} {a b : Addr} {o : HO} (h : H a = some o) (h' : H b = none) : a ≠ b := by
  intro e; subst e; rw [h] at h'; cases h'

section
variable (P : Program) (w : World)
def ObjOk (H : Hp) (h : Heap) (a : Addr) : HO → Prop
  | .lst xs => xs.length ≤ sizeLine ∧ ∃ (its : List Value) (n : Nat), Vals xs its ∧ h.get? a = some { cls := .type "list", data := .seq its.toArray n }
  | .tup xs => xs.length ≤ sizeLine ∧ ∃ its : List Value, Vals xs its ∧ IsTup h a its.toArray
  | .dK kvs => kvs.length ≤ sizeLine ∧ (a == sysModules) = false ∧ ∃ vs, KV kvs vs ∧ h.DictOf (mixKind P w) a vs
  | .dT kvs => kvs.length ≤ sizeLine ∧ (a == sysModules) = false ∧ ∃ xs : List (List Key × Addr × Value),
      Paired (fun (p : List Key × V) (q : List Key × Addr × Value) => p.1 = q.1 ∧ H q.2.1 = some (.tup (p.1.map kV)) ∧ RelV p.2 q.2.2) kvs xs ∧
      ∃ o es ep, h.get? a = some o ∧ o.ExactDict ∧ o.data = .dict es ep ∧ es.toList = xs.map (entryOfKey (tupleKind (mixKind P w))) ∧ (xs.map (·.1)).Nodup
  | .set S n => h.SetOf (intKind P w) a S n
  | .ins C dx fs => H dx = some (.own a) ∧ fs.length ≤ 1000 ∧ dx ≠ a ∧ h.get? a = some (PySem.W.instObj C dx) ∧
      ∃ mA, h.Ns1 dx mA ∧ (∀ f, RelO (fs.lookup f) (mA f)) ∧ PySem.Within mA (fs.map (·.1))
  | .own _ => ∃ o, h.get? a = some o
  | .xd fs => ∃ mA, h.Ns1 a mA ∧ ∀ f, RelO (fs.lookup f) (mA f)
  | .rng lo hi => ∃ t u v, h.get? a = some { cls := .type "range", data := .fields #[.int lo t, .int hi u, .int 1 v] }
  | .frz o u => h.get? a = some o ∧ ObjOk H h a u
  | .tbl ps => h.get? a = some { cls := .none, data := .fields ps }
  | .met f x => h.get? a = some (PySem.W.methodObj (.ref f) (.ref x))
  | .ext φ => φ h ∧ (∃ o, h.get? a = some o) ∧ ∀ h1 h2 : Heap, φ h1 → (∀ o, h1.get? a = some o → h2.get? a = some o) → φ h2
/-- the abstract heap is held -/
def HOk (H : Hp) (h : Heap) : Prop := ∀ a o, H a = some o → ObjOk P w H h a o
end

section
variable {P : Program} {w : World} {H H' : Hp} {h h' : Heap} {a : Addr} {o : HO}
theorem ObjOk.lt (x : ObjOk P w H h a o) : a < h.objs.size := by
  cases o with
  | lst xs => obtain ⟨_, _, _, _, e⟩ := x; exact Heap.lt_size e
  | tup xs => obtain ⟨_, _, _, p⟩ := x; exact p.lt
  | dK kvs => obtain ⟨_, _, _, _, o, _, _, e, _⟩ := x; exact Heap.lt_size e
  | dT kvs => obtain ⟨_, _, _, _, o, _, _, e, _⟩ := x; exact Heap.lt_size e
  | set S n => obtain ⟨o, _, _, _, e, _⟩ := x; exact Heap.lt_size e
  | ins C dx fs => obtain ⟨_, _, _, e, _⟩ := x; exact Heap.lt_size e
  | own y => obtain ⟨_, e⟩ := x; exact Heap.lt_size e
  | xd fs => obtain ⟨_, ⟨_, _, _, e, _⟩, _⟩ := x; exact Heap.lt_size e
  | rng lo hi => obtain ⟨_, _, _, e⟩ := x; exact Heap.lt_size e
  | frz ob u => obtain ⟨e, _⟩ := x; exact Heap.lt_size e
  | tbl ps => exact Heap.lt_size (show h.get? a = some _ from x)
  | met f y => exact Heap.lt_size (show h.get? a = some _ from x)
  | ext φ => obtain ⟨_, ⟨_, e⟩, _⟩ := x; exact Heap.lt_size e
theorem Paired.mapP {α β : Type} {F G : α → β → Prop} : ∀ {l₁ : List α} {l₂ : List β}, Paired F l₁ l₂ → (∀ a b, F a b → G a b) → Paired G l₁ l₂
  | _, _, .nil, _ => .nil
  | _, _, .cons r t, f => .cons (f _ _ r) (Paired.mapP t f)
/-- what an object's description leans on: its own object, its own dict, the tuples -/
theorem ObjOk.stay (x : ObjOk P w H h a o) (k : ∀ b u, (b = a ∨ H b = some (.own a)) → h.get? b = some u → h'.get? b = some u)
    (ho : ∀ b, H b = some (.own a) → H' b = some (.own a)) (ht : ∀ b xs, H b = some (.tup xs) → H' b = some (.tup xs)) : ObjOk P w H' h' a o := by
  induction o with
  | lst xs => obtain ⟨z, its, n, r, e⟩ := x; exact ⟨z, its, n, r, k _ _ (.inl rfl) e⟩
  | tup xs => obtain ⟨z, its, r, ob, e, c⟩ := x; exact ⟨z, its, r, ob, k _ _ (.inl rfl) e, c⟩
  | dK kvs => obtain ⟨z, y, vs, r, ob, es, ep, e, c⟩ := x; exact ⟨z, y, vs, r, ob, es, ep, k _ _ (.inl rfl) e, c⟩
  | dT kvs =>
    obtain ⟨z, y, xs, r, ob, es, ep, e, c⟩ := x
    exact ⟨z, y, xs, Paired.mapP r fun p q z => ⟨z.1, ht _ _ z.2.1, z.2.2⟩, ob, es, ep, k _ _ (.inl rfl) e, c⟩
  | set S n => obtain ⟨ob, es, ep, t, e, c⟩ := x; exact ⟨ob, es, ep, t, k _ _ (.inl rfl) e, c⟩
  | ins C dx fs =>
    obtain ⟨d, z, ne, e, mA, ⟨od, es, ep, e2, c⟩, r⟩ := x
    exact ⟨ho _ d, z, ne, k _ _ (.inl rfl) e, mA, ⟨od, es, ep, k _ _ (.inr d) e2, c⟩, r⟩
  | own y => obtain ⟨ob, e⟩ := x; exact ⟨ob, k _ _ (.inl rfl) e⟩
  | xd fs => obtain ⟨mA, ⟨od, es, ep, e, c⟩, r⟩ := x; exact ⟨mA, ⟨od, es, ep, k _ _ (.inl rfl) e, c⟩, r⟩
  | rng lo hi => obtain ⟨t, u, v, e⟩ := x; exact ⟨t, u, v, k _ _ (.inl rfl) e⟩
  | frz ob u ih => obtain ⟨e, q⟩ := x; exact ⟨k _ _ (.inl rfl) e, ih q⟩
  | tbl ps =>
    have e : h.get? a = some { cls := .none, data := .fields ps } := x
    show h'.get? a = some { cls := .none, data := .fields ps }
    exact k a _ (.inl rfl) e
  | met f y =>
    have e : h.get? a = some (PySem.W.methodObj (.ref f) (.ref y)) := x
    show h'.get? a = some (PySem.W.methodObj (.ref f) (.ref y))
    exact k a _ (.inl rfl) e
  | ext φ => obtain ⟨p, ⟨o, e⟩, st⟩ := x; exact ⟨st _ _ p fun o q => k _ _ (.inl rfl) q, ⟨o, k _ _ (.inl rfl) e⟩, st⟩
theorem HOk.lt (x : HOk P w H h) (e : H a = some o) : a < h.objs.size := (x a o e).lt
theorem HOk.fresh (x : HOk P w H h) (e : h.objs.size ≤ a) : H a = none := by
  cases q : H a with
  | none => rfl
  | some u => exact absurd (Nat.lt_of_lt_of_le (x.lt q) e) (Nat.lt_irrefl _)
/-- every object of the heap is kept -/
theorem HOk.kept (x : HOk P w H h) (k : ∀ b u, h.get? b = some u → h'.get? b = some u) : HOk P w H h' := fun a o e =>
  (x a o e).stay (fun b u _ q => k b u q) (fun _ q => q) fun _ _ q => q
/-- a new object is laid and tracked -/
theorem HOk.laid (x : HOk P w H h) (k : ∀ b u, h.get? b = some u → h'.get? b = some u) (hp : h.objs.size ≤ a) (new : ObjOk P w (upd H a o) h' a o) : HOk P w (upd H a o) h' := fun b u e => by
  have hn := x.fresh hp
  by_cases hb : b = a
  · subst hb; rw [upd_same] at e; cases e; exact new
  · rw [upd_ne hb] at e
    exact (x b u e).stay (fun c v _ q => k c v q) (fun c q => by rw [upd_ne (ne_of_none q hn)]; exact q) fun c xs q => by rw [upd_ne (ne_of_none q hn)]; exact q
end

/-- what may be read as u: it is u, or a known u -/
def Rd (H : Hp) (a : Addr) (u : HO) : Prop := H a = some u ∨ ∃ o, H a = some (.frz o u)
theorem Rd.ok {P : Program} {w : World} {H : Hp} {h : Heap} {a : Addr} {u : HO} (r : Rd H a u) (x : HOk P w H h) : ObjOk P w H h a u := by
  rcases r with r | ⟨o, r⟩
  · exact x a u r
  · obtain ⟨_, q⟩ := x a _ r
    exact q
/-- what may be written -/
def Mut : Option HO → Prop
  | some (.lst _) => True
  | some (.dK _) => True
  | some (.dT _) => True
  | some (.set _ _) => True
  | some (.ins _ _ _) => True
  | some (.ext _) => True
  | _ => False
section
variable {P : Program} {w : World} {H : Hp} {h h' : Heap} {x e : Addr} {o' : HO}
/-- the object at e is changed: x itself, or the dict of the instance x -/
theorem HOk.write (ok : HOk P w H h) (mu : Mut (H x)) (he : e = x ∨ H e = some (.own x)) (k : ∀ b u, b ≠ e → h.get? b = some u → h'.get? b = some u) (heo : ∃ u, h'.get? e = some u)
    (new : ObjOk P w (upd H x o') h' x o') : HOk P w (upd H x o') h' := fun b u q => by
  have nown : ∀ c y, H c = some (.own y) → c ≠ x := fun c y r z => by subst z; rw [r] at mu; exact mu
  have ntup : ∀ c xs, H c = some (.tup xs) → c ≠ x := fun c xs r z => by subst z; rw [r] at mu; exact mu
  by_cases hb : b = x
  · subst hb; rw [upd_same] at q; cases q; exact new
  · rw [upd_ne hb] at q
    by_cases hbe : b = e
    · have q' : H b = some (.own x) := by
        rcases he with z | z
        · exact absurd (hbe.trans z) hb
        · rw [hbe]; exact z
      rw [q] at q'; cases q'
      obtain ⟨v, hv⟩ := heo
      exact ⟨v, by rw [hbe]; exact hv⟩
    · refine (ok b u q).stay (fun c v hc r => k c v ?_ r) (fun c r => by rw [upd_ne (nown c b r)]; exact r) fun c xs r => by rw [upd_ne (ntup c xs r)]; exact r
      rcases hc with rfl | hc
      · exact hbe
      · rintro rfl
        rcases he with z | z
        · exact nown c b hc z
        · rw [hc] at z; cases z; exact hb rfl
end

/-! ### kept unless tracked; of the frames at fs (the callers') the slots may change (an exception that passes writes there); of the records at ex (iterators) nothing is said -/
structure Un (fs ex : List Addr) (H H' : Hp) (h h' : Heap) : Prop where
  keep : ∀ b o, h.get? b = some o → H b = none → b ∉ fs → b ∉ ex → h'.get? b = some o
  slot : ∀ b o, h.get? b = some o → H b = none → b ∈ fs → b ∉ ex → ∃ sl, h'.get? b = some { o with slots := sl }
  free : ∀ b o, h.get? b = some o → H b = none → b ∉ ex → H' b = none
  there : ∀ b o, h.get? b = some o → b ∉ ex → ∃ o', h'.get? b = some o'
  tups : ∀ b xs, H b = some (.tup xs) → H' b = some (.tup xs)
  frzs : ∀ b o u, H b = some (.frz o u) → H' b = some (.frz o u)
  tbls : ∀ b ps, H b = some (.tbl ps) → ∃ more, H' b = some (.tbl (ps ++ more))
section
variable {fs fs' ex ex' : List Addr} {H H1 H2 : Hp} {h h1 h2 h' : Heap} {a x e : Addr} {o : HO}
theorem Un.any (u : Un fs ex H H1 h h1) {b : Addr} {ob : Obj} (q : h.get? b = some ob) (n : H b = none) (hx : b ∉ ex) : ∃ sl, h1.get? b = some { ob with slots := sl } := by
  by_cases hb : b ∈ fs
  · exact u.slot b ob q n hb hx
  · exact ⟨ob.slots, u.keep b ob q n hb hx⟩
theorem Un.kept (k : ∀ b u, h.get? b = some u → h'.get? b = some u) : Un fs ex H H h h' :=
  ⟨fun b ob q _ _ _ => k b ob q, fun b ob q _ _ _ => ⟨ob.slots, k b ob q⟩, fun _ _ _ n _ => n, fun b ob q _ => ⟨ob, k b ob q⟩, fun _ _ q => q, fun _ _ _ q => q, fun _ ps q => ⟨#[], by rw [q]; simp⟩⟩
theorem Un.refl : Un fs ex H H h h := Un.kept fun _ _ q => q
theorem Un.laid (k : ∀ b u, h.get? b = some u → h'.get? b = some u) (hp : h.objs.size ≤ a) (hn : H a = none) : Un fs ex H (upd H a o) h h' where
  keep := fun b u q _ _ _ => k b u q
  slot := fun b u q _ _ _ => ⟨u.slots, k b u q⟩
  free := fun b u q n _ => by rw [upd_ne (Nat.ne_of_lt (Nat.lt_of_lt_of_le (Heap.lt_size q) hp))]; exact n
  there := fun b u q _ => ⟨u, k b u q⟩
  tups := fun b xs q => by rw [upd_ne (ne_of_none q hn)]; exact q
  frzs := fun b u xs q => by rw [upd_ne (ne_of_none q hn)]; exact q
  tbls := fun b ps q => ⟨#[], by rw [upd_ne (ne_of_none q hn), q]; simp⟩
theorem Un.write (mu : Mut (H x)) (he : e = x ∨ H e = some (.own x)) (k : ∀ b u, b ≠ e → h.get? b = some u → h'.get? b = some u) (heo : ∃ u, h'.get? e = some u) : Un fs ex H (upd H x o) h h' := by
  have hx : ∀ b, H b = none → b ≠ x := fun b n z => by subst z; rw [n] at mu; exact mu
  have hb : ∀ b, H b = none → b ≠ e := fun b n z => by
    subst z
    rcases he with r | r
    · exact hx b n r
    · rw [n] at r; cases r
  have hm : ∀ b u, H b = some u → ¬ Mut (some u) → b ≠ x := fun b u q nm z => by subst z; rw [q] at mu; exact nm mu
  refine ⟨fun b u q n _ _ => k b u (hb b n) q, fun b u q n _ _ => ⟨u.slots, k b u (hb b n) q⟩, fun b u q n _ => by rw [upd_ne (hx b n)]; exact n, fun b u q _ => ?_,
    fun b xs q => by rw [upd_ne (hm b _ q fun z => z)]; exact q, fun b u xs q => by rw [upd_ne (hm b _ q fun z => z)]; exact q, fun b ps q => ⟨#[], by rw [upd_ne (hm b _ q fun z => z), q]; simp⟩⟩
  by_cases hbe : b = e
  · subst hbe; exact heo
  · exact ⟨u, k b u hbe q⟩
end

/-! ### the heap without what is tracked -/
def trk (h : Heap) (H : Hp) : List Addr := (List.range h.objs.size).filter fun a => (H a).isSome
def hidT (h : Heap) (H : Hp) : Heap := PySem.W.hideAll h (trk h H)
theorem hidT_size (h : Heap) (H : Hp) : (hidT h H).objs.size = h.objs.size := PySem.W.hideAll_size _ _
theorem hidT_get {h : Heap} {H : Hp} {b : Addr} {o : Obj} (e : h.get? b = some o) (n : H b = none) : (hidT h H).get? b = some o :=
  PySem.W.hideAll_get _ e fun hm => by
    have q : (H b).isSome = true := (List.mem_filter.mp hm).2
    rw [n] at q; simp at q
theorem of_hidT {h : Heap} {H : Hp} {b : Addr} {o : Obj} (e : (hidT h H).get? b = some o) : h.get? b = some o ∧ H b = none := by
  have e' : h.get? b = some o := PySem.W.of_hideAll (trk h H) e
  refine ⟨e', ?_⟩
  cases q : H b with
  | none => rfl
  | some x =>
    have hm : b ∈ trk h H := List.mem_filter.mpr ⟨List.mem_range.mpr (Heap.lt_size e'), by simp [q]⟩
    have z : (hidT h H).get? b = none := PySem.W.hideAll_none (trk h H) hm
    rw [z] at e; cases e

/-! ### OpenK's ledger, filled with every new object but one -/
end L2

namespace L2
open PySem PySem.Spec PyProof.Rows

/-- the module's facts, over the base: the heap at the law's entry without what is tracked there -/
structure Mod (K : PySem.W.Frag) (mg : Str → Option Value) (base : Heap) : Prop where
  kin : K.In base
  glob : base.Ns mainGlobals mg
  blt : ∃ mb, base.Ns builtinsNs mb ∧ ∀ x : Str, x ≠ "__name__" → mb x = bootBuiltins x
  nolimit : base.NoLimit

/-- the context: a def's body (or a comprehension's block) running. base: fixed through the whole law; s₀, H₀: the entry; outer: the frames whose slots others may change (a def's callers); stack: all frames that run;
   ex: iterators that were made ahead of the entry and are walked here (a comprehension's); fn: the names whose cells were made at the entry (a def: all; a comprehension's block: its own); calm: not within an except suite; pn: pins that every state bears; xe: what is wanted of an exception that leaves the code -/
structure Cx where
  prog : Program
  w : World
  K : PySem.W.Frag
  mg : Str → Option Value
  base : Heap
  A : Around
  N : List Str
  s₀ : Shared
  H₀ : Hp
  env : Env
  outer : List Env
  stack : List Env
  ex : List Addr
  fn : Str → Bool
  calm : Bool
  pn : List (Addr × Obj)
  xe : Value → Shared → Prop
/-- the callers' frames -/
def frs (l : List Env) : List Addr := l.filterMap (·.frame)
abbrev Cx.fs (X : Cx) : List Addr := frs X.outer

def Vis (sc : Scope) (x : Str) : Prop := sc.names.lookup x = some .local ∨ sc.names.lookup x = some .cell ∨ sc.names.lookup x = some .free
def Loc (sc : Scope) (x : Str) : Prop := sc.names.lookup x = some .local ∨ sc.names.lookup x = some .cell
def Look (env : Env) (h : Heap) (m : Str → Option Value) (x : Str) (u : Value) : Prop :=
  (env.kindOf x = some .local ∧ m x = some u) ∨ ((env.kindOf x = some .cell ∨ env.kindOf x = some .free) ∧ ∃ c, env.cells.lookup x = some c ∧ h.IsCell c (some u))

structure Cx.Ok (X : Cx) : Prop where
  mod : Mod X.K X.mg X.base
  kind : X.env.scope.kind = .function
  glob : X.env.globals = mainGlobals
  blt : X.env.builtins = builtinsNs
  above : X.s₀.heap.objs.size ≤ X.env.locals
  inj : ∀ x y c, X.env.cells.lookup x = some c → X.env.cells.lookup y = some c → x = y
  has : ∀ x, (X.env.kindOf x = some .cell ∨ X.env.kindOf x = some .free) → ∃ c, X.env.cells.lookup x = some c
  cab : ∀ x c, X.fn x = true → X.env.cells.lookup x = some c → X.s₀.heap.objs.size ≤ c
  hd : X.calm = true → X.A.handled = none
  frames : X.A.frames = some X.stack
  stk : X.stack = X.outer ∨ (X.stack = X.env :: X.outer ∧ X.env.frame = some X.env.locals)
  exf : ∀ b ∈ X.ex, b ≠ X.env.locals ∧ ∀ x c, X.env.cells.lookup x = some c → c ≠ b
  bs : ∀ b o, X.base.get? b = some o → X.s₀.heap.get? b = some o ∧ X.H₀ b = none
  bsz : X.base.objs.size ≤ X.s₀.heap.objs.size
  noex : ∀ b o, X.base.get? b = some o → b ∉ X.ex
  exfs : ∀ b ∈ X.ex, b ∉ X.fs
  funs : X.s₀.heap.FunFrames X.base X.outer
  frf : ∀ b ∈ X.fs, X.H₀ b = none

structure Inv (X : Cx) (pins : List (Addr × Obj)) (σ : List (Option V)) (H : Hp) (s : Shared) : Prop where
  ok : X.Ok
  os : s.os = X.s₀.os
  bare : AllBare s.gens
  base : Un X.fs X.ex X.H₀ H X.s₀.heap s.heap
  loc : ∃ m, s.heap.Ns X.env.locals m ∧ ∀ (i : Nat) (x : Str) (v : V), X.N[i]? = some x → σ[i]? = some (some v) → Vis X.env.scope x → ∃ u, RelV v u ∧ Look X.env s.heap m x u
  cell : ∀ x c, X.env.cells.lookup x = some c → ∃ v, s.heap.IsCell c v
  free : H X.env.locals = none
  freeC : ∀ x c, X.env.cells.lookup x = some c → H c = none
  pin : ∀ p ∈ X.pn ++ pins, s.heap.get? p.1 = some p.2 ∧ H p.1 = none ∧ p.1 ≠ X.env.locals ∧ p.1 ∉ X.fs ∧ ∀ v, p.2.data ≠ .cell v
  hok : HOk X.prog X.w H s.heap
  len : σ.length = X.N.length

section
variable {X : Cx} {pins : List (Addr × Obj)} {σ : List (Option V)} {H H' : Hp} {s : Shared} {h' : Heap}

theorem Cx.Ok.nofr (ok : X.Ok) {b : Addr} {o : Obj} (e : X.base.get? b = some o) : b ∉ X.fs := fun hb => by
  have := (ok.funs.mem hb).1
  rw [e] at this; cases this
theorem Inv.bs (I : Inv X pins σ H s) : ∀ b o, X.base.get? b = some o → s.heap.get? b = some o ∧ H b = none := fun b o e =>
  ⟨I.base.keep b o (I.ok.bs b o e).1 (I.ok.bs b o e).2 (I.ok.nofr e) (I.ok.noex b o e), I.base.free b o (I.ok.bs b o e).1 (I.ok.bs b o e).2 (I.ok.noex b o e)⟩
theorem Inv.bk (I : Inv X pins σ H s) : ∀ b o, X.base.get? b = some o → s.heap.get? b = some o := fun b o e => (I.bs b o e).1
theorem Inv.mod (I : Inv X pins σ H s) : Mod X.K X.mg X.base := I.ok.mod
theorem Inv.kIn (I : Inv X pins σ H s) : X.K.In s.heap := I.ok.mod.kin.keeps I.bk
theorem Inv.lt (I : Inv X pins σ H s) : X.env.locals < s.heap.objs.size := let ⟨_, hn, _⟩ := I.loc; hn.lt
theorem Inv.sz (I : Inv X pins σ H s) : X.s₀.heap.objs.size ≤ s.heap.objs.size := Nat.le_trans I.ok.above (Nat.le_of_lt I.lt)
theorem Inv.nofs (I : Inv X pins σ H s) {a : Addr} (h : s.heap.objs.size ≤ a) : a ∉ X.fs := fun hb => by
  obtain ⟨_, o, ho, _⟩ := I.ok.funs.mem hb
  exact absurd (Nat.lt_of_lt_of_le (Heap.lt_size ho) (Nat.le_trans I.sz h)) (Nat.lt_irrefl _)
theorem Inv.cne (I : Inv X pins σ H s) : ∀ x c, X.env.cells.lookup x = some c → c ≠ X.env.locals := fun x c e z => by
  obtain ⟨v, o, ho, hd⟩ := I.cell x c e
  obtain ⟨m, ⟨o', es, ep, ho', hd', _⟩, _⟩ := I.loc
  rw [z, ho'] at ho; cases ho; rw [hd'] at hd; cases hd
theorem Inv.funs (I : Inv X pins σ H s) : s.heap.FunFrames X.base X.outer := by
  have all : ∀ (l : List Env), (∀ b ∈ frs l, b ∈ X.fs) → X.s₀.heap.FunFrames X.base l → s.heap.FunFrames X.base l := by
    intro l
    induction l with
    | nil => intro _ _; trivial
    | cons env r ih =>
      intro hs hl
      obtain ⟨hk, ⟨L, o, hf, hn, ho, hd⟩, hr⟩ := hl
      have hL : L ∈ X.fs := hs L (by unfold frs; rw [List.filterMap_cons, hf]; exact List.mem_cons_self)
      obtain ⟨sl, e⟩ := I.base.slot L o ho (I.ok.frf L hL) hL fun z => I.ok.exfs L z hL
      exact ⟨hk, ⟨L, _, hf, hn, e, hd⟩, ih (fun b hb => hs b (by unfold frs; rw [List.filterMap_cons, hf]; exact List.mem_cons_of_mem _ hb)) hr⟩
  exact all X.outer (fun _ hb => hb) I.ok.funs

/-- the frames that run, for a call -/
theorem Inv.stack (I : Inv X pins σ H s) : s.heap.FunFrames X.base X.stack := by
  rcases I.ok.stk with e | ⟨e, hf⟩
  · rw [e]; exact I.funs
  · rw [e]
    obtain ⟨m, hn, _⟩ := I.loc
    refine .cons (by rw [I.ok.kind]; decide) hf hn ?_ I.funs
    exact Heap.get?_none_of_le (Nat.le_trans I.ok.bsz I.ok.above)
theorem Inv.stkSub (I : Inv X pins σ H s) : ∀ b ∈ frs X.stack, b ∈ X.env.locals :: X.fs := fun b hb => by
  rcases I.ok.stk with e | ⟨e, hf⟩
  · rw [e] at hb; exact List.mem_cons_of_mem _ hb
  · rw [e] at hb
    unfold frs at hb
    rw [List.filterMap_cons, hf] at hb
    exact hb
theorem Inv.stkFree (I : Inv X pins σ H s) : ∀ b ∈ frs X.stack, H b = none := fun b hb => by
  rcases List.mem_cons.mp (I.stkSub b hb) with e | hb
  · rw [e]; exact I.free
  · obtain ⟨_, o, ho, _⟩ := I.ok.funs.mem hb
    exact I.base.free b o ho (I.ok.frf b hb) fun z => I.ok.exfs b z hb

/-- THE STEP: the untracked objects but the frame and the records at ch are kept (the callers' frames up to slots), the frame's map is kept, the new abstract heap is held -/
theorem Inv.step {g' : Array GenState} {t' : Nat} {d' : Drawn} {ch : List Addr} (I : Inv X pins σ H s)
    (hch : ∀ b ∈ ch, (b ∈ X.ex ∨ X.s₀.heap.objs.size ≤ b) ∧ b ≠ X.env.locals ∧ (∀ x c, X.env.cells.lookup x = some c → c ≠ b) ∧ ∀ p ∈ X.pn ++ pins, p.1 ≠ b)
    (keep : ∀ b o, b ≠ X.env.locals → b ∉ X.fs → b ∉ ch → s.heap.get? b = some o → H b = none → h'.get? b = some o)
    (slot : ∀ b o, b ≠ X.env.locals → b ∈ X.fs → b ∉ ch → s.heap.get? b = some o → H b = none → ∃ sl, h'.get? b = some { o with slots := sl }) (free : ∀ b o, b ∉ ch → s.heap.get? b = some o → H b = none → H' b = none)
    (there : ∀ b o, b ∉ ch → s.heap.get? b = some o → ∃ o', h'.get? b = some o')
    (tups : ∀ b xs, H b = some (.tup xs) → H' b = some (.tup xs)) (frzs : ∀ b o u, H b = some (.frz o u) → H' b = some (.frz o u)) (tbls : ∀ b ps, H b = some (.tbl ps) → ∃ more, H' b = some (.tbl (ps ++ more)))
    (ns : ∀ m, s.heap.Ns X.env.locals m → h'.Ns X.env.locals m) (hok : HOk X.prog X.w H' h') (hg : AllBare g') :
    Inv X pins σ H' { s with heap := h', gens := g', drawn := d', toks := t' } := by
  have neL : ∀ b o, X.s₀.heap.get? b = some o → b ≠ X.env.locals := fun b o e => Nat.ne_of_lt (Nat.lt_of_lt_of_le (Heap.lt_size e) I.ok.above)
  have neC : ∀ b o, X.s₀.heap.get? b = some o → b ∉ X.ex → b ∉ ch := fun b o e hx hb => by
    rcases (hch b hb).1 with z | z
    · exact hx z
    · exact absurd (Nat.lt_of_lt_of_le (Heap.lt_size e) z) (Nat.lt_irrefl _)
  have cellK : ∀ x c, X.env.cells.lookup x = some c → ∀ v, s.heap.IsCell c v → h'.IsCell c v := fun x c e v ⟨o, ho, hd⟩ => by
    have nch : c ∉ ch := fun z => (hch c z).2.2.1 x c e rfl
    by_cases hc : c ∈ X.fs
    · obtain ⟨sl, q⟩ := slot c o (I.cne x c e) hc nch ho (I.freeC x c e)
      exact ⟨_, q, hd⟩
    · exact ⟨o, keep c o (I.cne x c e) hc nch ho (I.freeC x c e), hd⟩
  refine ⟨I.ok, I.os, hg, ⟨fun b o e n hb hx => ?_, fun b o e n hb hx => ?_, fun b o e n hx => ?_, fun b o e hx => ?_, fun b xs e => tups b xs (I.base.tups b xs e), fun b o xs e => frzs b o xs (I.base.frzs b o xs e), fun b ps e => ?_⟩, ?_, fun x c e => ?_, ?_, fun x c e => ?_, fun p hp => ?_, hok, I.len⟩
  · exact keep b o (neL b o e) hb (neC b o e hx) (I.base.keep b o e n hb hx) (I.base.free b o e n hx)
  · obtain ⟨sl, e1⟩ := I.base.slot b o e n hb hx
    obtain ⟨sl', e2⟩ := slot b _ (neL b o e) hb (neC b o e hx) e1 (I.base.free b o e n hx)
    exact ⟨sl', e2⟩
  · obtain ⟨o', e1⟩ := I.base.there b o e hx
    exact free b o' (neC b o e hx) e1 (I.base.free b o e n hx)
  · obtain ⟨o', e1⟩ := I.base.there b o e hx
    exact there b o' (neC b o e hx) e1
  · obtain ⟨m1, e1⟩ := I.base.tbls b ps e
    obtain ⟨m2, e2⟩ := tbls b _ e1
    exact ⟨m1 ++ m2, by rw [e2, Array.append_assoc]⟩
  · obtain ⟨m, hn, hl⟩ := I.loc
    refine ⟨m, ns m hn, fun i x v e1 e2 e3 => ?_⟩
    obtain ⟨u, r, l⟩ := hl i x v e1 e2 e3
    refine ⟨u, r, ?_⟩
    rcases l with l | ⟨k, c, e, z⟩
    · exact .inl l
    · exact .inr ⟨k, c, e, cellK x c e _ z⟩
  · obtain ⟨v, z⟩ := I.cell x c e
    exact ⟨v, cellK x c e v z⟩
  · obtain ⟨m, ⟨o, _, _, ho, _⟩, _⟩ := I.loc
    exact free _ o (fun z => (hch _ z).2.1 rfl) ho I.free
  · obtain ⟨v, o, ho, hd⟩ := I.cell x c e
    exact free c o (fun z => (hch c z).2.2.1 x c e rfl) ho (I.freeC x c e)
  · obtain ⟨e, n, ne, nf, d⟩ := I.pin p hp
    have nch : p.1 ∉ ch := fun z => (hch p.1 z).2.2.2 p hp rfl
    exact ⟨keep p.1 p.2 ne nf nch e n, free p.1 p.2 nch e n, ne, nf, d⟩
/-- .. where the frame's own object is kept too -/
theorem Inv.un {t' : Nat} (I : Inv X pins σ H s) (u : Un X.fs [] H H' s.heap h') (hok : HOk X.prog X.w H' h') : Inv X pins σ H' { s with heap := h', toks := t' } := by
  obtain ⟨m, ⟨o, es, ep, ho, r⟩, _⟩ := id I.loc
  obtain ⟨sl, hL⟩ := u.any ho I.free (by simp)
  exact I.step (g' := s.gens) (d' := s.drawn) (ch := []) (fun _ z => nomatch z) (fun b o _ hb _ e n => u.keep b o e n hb (by simp)) (fun b o _ hb _ e n => u.slot b o e n hb (by simp)) (fun b o _ e n => u.free b o e n (by simp)) (fun b o _ e => u.there b o e (by simp)) u.tups u.frzs u.tbls (fun m' hm => by
    obtain ⟨o', es', ep', ho', r'⟩ := hm
    rw [ho] at ho'; cases ho'
    exact ⟨_, es', ep', hL, r'⟩) hok I.bare
/-- behind a call (or a comprehension's block): the slots of this frame may have changed too, the records at ch may have turned -/
theorem Inv.call {g' : Array GenState} {t' : Nat} {d' : Drawn} {ch : List Addr} (I : Inv X pins σ H s) (u : Un (frs X.stack) ch H H' s.heap h') (hok : HOk X.prog X.w H' h') (hg : AllBare g')
    (hch : ∀ b ∈ ch, (b ∈ X.ex ∨ X.s₀.heap.objs.size ≤ b) ∧ b ≠ X.env.locals ∧ (∀ x c, X.env.cells.lookup x = some c → c ≠ b) ∧ ∀ p ∈ X.pn ++ pins, p.1 ≠ b) :
    Inv X pins σ H' { s with heap := h', gens := g', drawn := d', toks := t' } := by
  obtain ⟨m, ⟨o, es, ep, ho, r⟩, _⟩ := id I.loc
  obtain ⟨sl, hL⟩ := u.any ho I.free fun z => (hch _ z).2.1 rfl
  exact I.step (ch := ch) hch (fun b o hL hb hc e n => u.keep b o e n (fun z => (List.mem_cons.mp (I.stkSub b z)).elim hL hb) hc) (fun b o _ _ hc e n => u.any e n hc) (fun b o hc e n => u.free b o e n hc) (fun b o hc e => u.there b o e hc) u.tups u.frzs u.tbls (fun m' hm => by
    obtain ⟨o', es', ep', ho', r'⟩ := hm
    rw [ho] at ho'; cases ho'
    exact ⟨_, es', ep', hL, r'⟩) hok hg
/-- an untracked record of ours (an iterator) has turned -/
theorem Inv.turned {t' : Nat} {it : Addr} (I : Inv X pins σ H s) (k : ∀ b o, b ≠ it → s.heap.get? b = some o → h'.get? b = some o) (hn : H it = none) (hL : it ≠ X.env.locals)
    (h1 : it ∈ X.ex ∨ X.s₀.heap.objs.size ≤ it) (h2 : ∀ x c, X.env.cells.lookup x = some c → c ≠ it) (h3 : ∀ p ∈ X.pn ++ pins, p.1 ≠ it) : Inv X pins σ H { s with heap := h', toks := t' } := by
  have nit : ∀ b u, H b = some u → b ≠ it := fun b u e z => by rw [z, hn] at e; cases e
  refine I.step (g' := s.gens) (d' := s.drawn) (ch := [it]) (fun b hb => ?_) (fun b o _ _ hc e _ => k b o (fun z => hc (by simp [z])) e) (fun b o _ _ hc e _ => ⟨o.slots, k b o (fun z => hc (by simp [z])) e⟩) (fun _ _ _ _ n => n)
    (fun b o hc e => ⟨o, k b o (fun z => hc (by simp [z])) e⟩) (fun _ _ e => e) (fun _ _ _ e => e) (fun b ps e => ⟨#[], by rw [e]; simp⟩) (fun m hm => ?_) (fun b u e => ?_) I.bare
  · have e : b = it := by simpa using hb
    subst e
    exact ⟨h1, hL, h2, h3⟩
  · obtain ⟨o, es, ep, ho, r⟩ := hm
    exact ⟨o, es, ep, k _ o (Ne.symm hL) ho, r⟩
  · refine (I.hok b u e).stay (fun c v hc q => k c v ?_ q) (fun _ q => q) fun _ _ q => q
    rcases hc with z | z
    · rw [z]; exact nit b u e
    · exact nit c _ z
theorem Inv.tok (I : Inv X pins σ H s) (t : Nat) : Inv X pins σ H { s with toks := t } := I.un (h' := s.heap) (t' := t) Un.refl I.hok
/-- all objects kept -/
theorem Inv.kept {t' : Nat} (I : Inv X pins σ H s) (k : ∀ b u, s.heap.get? b = some u → h'.get? b = some u) : Inv X pins σ H { s with heap := h', toks := t' } := I.un (Un.kept k) (I.hok.kept k)
/-- a new object laid and tracked -/
theorem Inv.laid {a : Addr} {o : HO} {t' : Nat} (I : Inv X pins σ H s) (k : ∀ b u, s.heap.get? b = some u → h'.get? b = some u) (hp : s.heap.objs.size ≤ a) (new : ObjOk X.prog X.w (upd H a o) h' a o) :
    Inv X pins σ (upd H a o) { s with heap := h', toks := t' } := I.un (Un.laid k hp (I.hok.fresh hp)) (I.hok.laid k hp new)
/-- an object written -/
theorem Inv.write {x e : Addr} {o : HO} {t' : Nat} (I : Inv X pins σ H s) (mu : Mut (H x)) (he : e = x ∨ H e = some (.own x)) (k : ∀ b u, b ≠ e → s.heap.get? b = some u → h'.get? b = some u) (heo : ∃ u, h'.get? e = some u)
    (new : ObjOk X.prog X.w (upd H x o) h' x o) : Inv X pins σ (upd H x o) { s with heap := h', toks := t' } := I.un (Un.write mu he k heo) (I.hok.write mu he k heo new)
theorem Inv.pins_of {pins' : List (Addr × Obj)} (I : Inv X pins σ H s) (h : ∀ p ∈ pins', s.heap.get? p.1 = some p.2 ∧ H p.1 = none ∧ p.1 ≠ X.env.locals ∧ p.1 ∉ X.fs ∧ ∀ v, p.2.data ≠ .cell v) : Inv X pins' σ H s :=
  ⟨I.ok, I.os, I.bare, I.base, I.loc, I.cell, I.free, I.freeC, fun p hp => (List.mem_append.mp hp).elim (fun z => I.pin p (List.mem_append_left _ z)) (h p), I.hok, I.len⟩

theorem nodup_ix {N : List Str} (hN : N.Nodup) {i j : Nat} {x : Str} (a : N[i]? = some x) (b : N[j]? = some x) : i = j := by
  obtain ⟨h1, e1⟩ := List.getElem?_eq_some_iff.mp a
  obtain ⟨h2, e2⟩ := List.getElem?_eq_some_iff.mp b
  exact (List.getElem_inj hN).mp (e1.trans e2.symm)

/-- a name is stored; what changed -/
theorem store_ok2 {M : Model} {A : Around} {E : Value → Shared → Prop} {i : Nat} {x : Str} {v : V} {u : Value} {Q : Unit → Shared → Prop} (I : Inv X pins σ H s) (hN : X.N.Nodup) (hi : X.N[i]? = some x) (hx : Loc X.env.scope x) (r : RelV v u)
    (h : ∀ s', Inv X pins (σ.set i (some v)) H s' → (∃ a, Heap.SameBut a s.heap s'.heap ∧ (a = X.env.locals ∨ X.env.cells.lookup x = some a)) → Q () s') (hf : X.fn x = true ∨ X.env.scope.names.lookup x = some .local := by first | exact .inl rfl | exact .inr rfl | assumption) : wpAny M A (storeName X.env x u) Q E s := by
  obtain ⟨m, hn, hl⟩ := id I.loc
  have hcls : (X.env.scope.kind == .class || (X.env.scope.kind == .module && X.env.locals != X.env.globals)) = false := by rw [I.ok.kind]; rfl
  have hiσ : i < σ.length := by rw [I.len]; exact (List.getElem?_eq_some_iff.mp hi).1
  have cne := I.cne
  have tracked : ∀ {a : Addr} {h' : Heap}, (∃ o, s.heap.get? a = some o ∧ H a = none) → Heap.SameBut a s.heap h' → HOk X.prog X.w H h' := fun {a h'} ha hs b ob e => by
    obtain ⟨_, _, hfree⟩ := ha
    refine (I.hok b ob e).stay (fun c w' hc q => (hs.2 c ?_).trans q) (fun _ q => q) fun _ _ q => q
    rintro rfl
    rcases hc with rfl | hc
    · rw [hfree] at e; cases e
    · rw [hfree] at hc; cases hc
  rcases hx with hk | hk
  · refine wpAny_storeName_local hk hn (fun h' hn' hs => ?_) hcls
    obtain ⟨oL, _, _, hoL, _⟩ := id hn
    refine h _ ⟨I.ok, I.os, I.bare, ⟨fun b o e n hb hx => ?_, fun b o e n hb hx => ?_, I.base.free, fun b o e hx => ?_, I.base.tups, I.base.frzs, I.base.tbls⟩, ⟨_, hn', fun j y v' e1 e2 e3 => ?_⟩, fun y c e => ?_, I.free, I.freeC, fun p hp => ?_, tracked ⟨oL, hoL, I.free⟩ hs, by simpa using I.len⟩ ⟨_, hs, .inl rfl⟩
    · exact (hs.2 b (Nat.ne_of_lt (Nat.lt_of_lt_of_le (Heap.lt_size e) I.ok.above))).trans (I.base.keep b o e n hb hx)
    · obtain ⟨sl, e1⟩ := I.base.slot b o e n hb hx
      exact ⟨sl, (hs.2 b (Nat.ne_of_lt (Nat.lt_of_lt_of_le (Heap.lt_size e) I.ok.above))).trans e1⟩
    · obtain ⟨o', e1⟩ := I.base.there b o e hx
      exact ⟨o', (hs.2 b (Nat.ne_of_lt (Nat.lt_of_lt_of_le (Heap.lt_size e) I.ok.above))).trans e1⟩
    · by_cases hj : j = i
      · subst hj
        rw [hi] at e1; cases e1
        rw [List.getElem?_set_self hiσ] at e2
        cases e2
        exact ⟨u, r, .inl ⟨hk, by simp⟩⟩
      · rw [List.getElem?_set_ne (Ne.symm hj)] at e2
        obtain ⟨u', r', q⟩ := hl j y v' e1 e2 e3
        refine ⟨u', r', ?_⟩
        rcases q with ⟨k, e⟩ | ⟨k, c, e, z⟩
        · refine .inl ⟨k, ?_⟩
          have : y ≠ x := fun e => hj (nodup_ix hN e1 (e ▸ hi))
          simp [this, e]
        · exact .inr ⟨k, c, e, z.sameBut hs (cne y c e)⟩
    · obtain ⟨w', z⟩ := I.cell y c e
      exact ⟨w', z.sameBut hs (cne y c e)⟩
    · obtain ⟨e, n, ne, nf, d⟩ := I.pin p hp
      exact ⟨(hs.2 p.1 ne).trans e, n, ne, nf, d⟩
  · have hfn : X.fn x = true := by
      rcases hf with z | z
      · exact z
      · rw [z] at hk; cases hk
    obtain ⟨c, hc⟩ := I.ok.has x (.inl hk)
    obtain ⟨w', z⟩ := I.cell x c hc
    refine wpAny_storeName_cell I.ok.kind hk hc z (fun h' hc' hs => ?_)
    obtain ⟨oc, hoc, hocd⟩ := id z
    refine h { s with heap := h' } ⟨I.ok, I.os, I.bare, ⟨fun b o e n hb hx => ?_, fun b o e n hb hx => ?_, I.base.free, fun b o e hx => ?_, I.base.tups, I.base.frzs, I.base.tbls⟩, ⟨m, hn.sameBut hs (Ne.symm (cne x c hc)), fun j y v' e1 e2 e3 => ?_⟩, fun y c' e => ?_, I.free, I.freeC, fun p hp => ?_, tracked ⟨oc, hoc, I.freeC x c hc⟩ hs, by simpa using I.len⟩ ⟨c, hs, .inr hc⟩
    · exact (hs.2 b (Nat.ne_of_lt (Nat.lt_of_lt_of_le (Heap.lt_size e) (I.ok.cab x c hfn hc)))).trans (I.base.keep b o e n hb hx)
    · obtain ⟨sl, e1⟩ := I.base.slot b o e n hb hx
      exact ⟨sl, (hs.2 b (Nat.ne_of_lt (Nat.lt_of_lt_of_le (Heap.lt_size e) (I.ok.cab x c hfn hc)))).trans e1⟩
    · obtain ⟨o', e1⟩ := I.base.there b o e hx
      exact ⟨o', (hs.2 b (Nat.ne_of_lt (Nat.lt_of_lt_of_le (Heap.lt_size e) (I.ok.cab x c hfn hc)))).trans e1⟩
    · by_cases hj : j = i
      · subst hj
        rw [hi] at e1; cases e1
        rw [List.getElem?_set_self hiσ] at e2
        cases e2
        exact ⟨u, r, .inr ⟨.inl hk, c, hc, hc'⟩⟩
      · rw [List.getElem?_set_ne (Ne.symm hj)] at e2
        obtain ⟨u', r', q⟩ := hl j y v' e1 e2 e3
        refine ⟨u', r', ?_⟩
        rcases q with q | ⟨k, c', e, z'⟩
        · exact .inl q
        · refine .inr ⟨k, c', e, z'.sameBut hs ?_⟩
          rintro rfl
          exact hj (nodup_ix hN e1 (I.ok.inj _ _ _ e hc ▸ hi))
    · by_cases hcc : c' = c
      · subst hcc; exact ⟨_, hc'⟩
      · obtain ⟨w2, z2⟩ := I.cell y c' e
        exact ⟨w2, z2.sameBut hs hcc⟩
    · obtain ⟨e, n, ne, nf, d⟩ := I.pin p hp
      refine ⟨(hs.2 p.1 ?_).trans e, n, ne, nf, d⟩
      intro q
      rw [q, hoc] at e
      have q' : oc = p.2 := Option.some.inj e
      exact d w' (by rw [← q']; exact hocd)
theorem store_ok {M : Model} {A : Around} {E : Value → Shared → Prop} {i : Nat} {x : Str} {v : V} {u : Value} {Q : Unit → Shared → Prop} (I : Inv X pins σ H s) (hN : X.N.Nodup) (hi : X.N[i]? = some x) (hx : Loc X.env.scope x) (r : RelV v u)
    (h : ∀ s', Inv X pins (σ.set i (some v)) H s' → Q () s') (hf : X.fn x = true ∨ X.env.scope.names.lookup x = some .local := by first | exact .inl rfl | exact .inr rfl | assumption) : wpAny M A (storeName X.env x u) Q E s :=
  store_ok2 I hN hi hx r (fun s' I' _ => h s' I') hf
/-- behind a call or a block, the state as it is -/
theorem Inv.call' {s' : Shared} {ch : List Addr} (I : Inv X pins σ H s) (ho : s'.os = s.os) (u : Un (frs X.stack) ch H H' s.heap s'.heap) (hok : HOk X.prog X.w H' s'.heap) (hg : AllBare s'.gens)
    (hch : ∀ b ∈ ch, (b ∈ X.ex ∨ X.s₀.heap.objs.size ≤ b) ∧ b ≠ X.env.locals ∧ (∀ x c, X.env.cells.lookup x = some c → c ≠ b) ∧ ∀ p ∈ X.pn ++ pins, p.1 ≠ b) : Inv X pins σ H' s' := by
  obtain ⟨h', g', d', t', o'⟩ := s'
  have e : o' = s.os := ho
  subst e
  exact I.call (g' := g') (t' := t') (d' := d') u hok hg hch
end

/-! ### the judgements -/
/-- an exception: its class, its own dict's address (where it has one), the abstract heap behind it -/
abbrev XK := Value → Option Addr → Hp → Prop
abbrev St := List (Option V)
abbrev VK := V → Hp → Prop
/-- an expression's reading; a test's; an argument list's -/
abbrev TE := St → Hp → VK → Prop
abbrev TT := St → Hp → (Bool → Hp → Prop) → Prop
abbrev TA := St → Hp → (List V → Hp → Prop) → Prop
/-- what is wanted behind a statement -/
structure Ends where
  nx : St → Hp → Prop
  rt : VK
  bk : St → Hp → Prop := fun _ _ => False
  ct : St → Hp → Prop := fun _ _ => False
abbrev TS := Ends → St → Hp → Prop

def EP (X : Cx) (pins : List (Addr × Obj)) (σ : St) (Q : VK) (u : Value) (s' : Shared) : Prop := ∃ v H', Inv X pins σ H' s' ∧ RelV v u ∧ Q v H'
def TP (X : Cx) (pins : List (Addr × Obj)) (σ : St) (Q : Bool → Hp → Prop) (b : Bool) (s' : Shared) : Prop := ∃ H', Inv X pins σ H' s' ∧ Q b H'
def AP (X : Cx) (pins : List (Addr × Obj)) (σ : St) (Q : List V → Hp → Prop) (us : List Value) (s' : Shared) : Prop := ∃ vs H', Inv X pins σ H' s' ∧ Vals vs us ∧ Q vs H'
def SP (X : Cx) (pins : List (Addr × Obj)) (D : Ends) (f : Flow) (s' : Shared) : Prop :=
  match f with
  | .next => ∃ σ' H', Inv X pins σ' H' s' ∧ D.nx σ' H'
  | .brk => ∃ σ' H', Inv X pins σ' H' s' ∧ D.bk σ' H'
  | .cont => ∃ σ' H', Inv X pins σ' H' s' ∧ D.ct σ' H'
  | .ret u => ∃ v σ' H', Inv X pins σ' H' s' ∧ RelV v u ∧ D.rt v H'

def PE (X : Cx) (e : Expr) (t : TE) : Prop :=
  ∀ (pins : List (Addr × Obj)) (s : Shared) (σ : St) (H : Hp) (Q : VK), Inv X pins σ H s → t σ H Q → wpAny (model X.prog X.w) X.A (eval e X.env) (EP X pins σ Q) X.xe s
def PT (X : Cx) (e : Expr) (t : TT) : Prop :=
  ∀ (pins : List (Addr × Obj)) (s : Shared) (σ : St) (H : Hp) (Q : Bool → Hp → Prop), Inv X pins σ H s → t σ H Q → wpAny (model X.prog X.w) X.A (isTrue e X.env (eval e X.env)) (TP X pins σ Q) X.xe s
/-- a test whatever its 'whole' is (and, or) -/
def PW (X : Cx) (e : Expr) (t : TT) : Prop :=
  ∀ (whole : Sem Value) (pins : List (Addr × Obj)) (s : Shared) (σ : St) (H : Hp) (Q : Bool → Hp → Prop), Inv X pins σ H s → t σ H Q → wpAny (model X.prog X.w) X.A (isTrue e X.env whole) (TP X pins σ Q) X.xe s
theorem PW.pt {X : Cx} {e : Expr} {t : TT} (h : PW X e t) : PT X e t := h _
/-- an argument list (no star), from the left -/
def PA (X : Cx) (es : List Expr) (t : TA) : Prop :=
  ∀ (pos : Pos) (pins : List (Addr × Obj)) (s : Shared) (σ : St) (H : Hp) (Q : List V → Hp → Prop), Inv X pins σ H s → t σ H Q → wpAny (model X.prog X.w) X.A (spliced (backTo pos (starEach es X.env))) (AP X pins σ Q) X.xe s
def PS (X : Cx) (st : Stmt) (t : TS) : Prop :=
  ∀ (pins : List (Addr × Obj)) (s : Shared) (σ : St) (H : Hp) (D : Ends), Inv X pins σ H s → t D σ H → wpAny (model X.prog X.w) X.A (exec st X.env) (SP X pins D) X.xe s
def PSs (X : Cx) (st : List Stmt) (t : TS) : Prop :=
  ∀ (pins : List (Addr × Obj)) (s : Shared) (σ : St) (H : Hp) (D : Ends), Inv X pins σ H s → t D σ H → wpAny (model X.prog X.w) X.A (execs st X.env) (SP X pins D) X.xe s
/-- weaken the end -/
theorem thn {α : Type} {t : Sem α} {Q Q' : α → Shared → Prop} {M : Model} {A : Around} {E : Value → Shared → Prop} {s : Shared} (h : wpAny M A t Q E s) (hQ : ∀ a s, Q a s → Q' a s) : wpAny M A t Q' E s := wpAny_mono h hQ fun _ _ x => x
end L2

namespace L2
open PySem PySem.Spec PyProof.Rows
section
variable {X : Cx}

/-! ### names and constants -/
def tVar (i : Nat) : TE := fun σ H Q => ∃ v, σ[i]? = some (some v) ∧ Q v H
def tC (v : V) : TE := fun _ H Q => Q v H
theorem pe_var {i : Nat} {x : Str} {pos : Pos} (hN : X.N[i]? = some x) (hv : Vis X.env.scope x) (hd : (x == ("__debug__" : Str)) = false := by decide) (hcd : (x == ("__classdict__" : Str)) = false := by decide) : PE X (.Name x pos) (tVar i) := by
  intro pins s σ H Q I h
  obtain ⟨v, e, h⟩ := h
  obtain ⟨m, hn, hl⟩ := I.loc
  obtain ⟨u, r, l⟩ := hl i x v hN e hv
  have fin : EP X pins σ Q u s := ⟨v, H, I, r, h⟩
  rcases l with ⟨hk, hm⟩ | ⟨hk, c, hc, hcell⟩
  · exact wpAny_Name (wpAny_loadName_local I.ok.kind hk hn hm fin) hd
  · rcases hk with hk | hk
    · exact wpAny_Name (wpAny_loadName_cell I.ok.kind hk hc hcell fin) hd
    · exact wpAny_Name (wpAny_loadName_free I.ok.kind hk hc hcell fin hcd) hd
theorem pe_int {i j pos} : PE X (.Constant (.int i) j pos) (tC (.int i)) := fun _ _ _ H _ I h => wpAny_Constant_int ⟨.int i, H, I.tok _, ⟨_, rfl⟩, h⟩
theorem pe_bl {b j pos} : PE X (.Constant (.bool b) j pos) (tC (.bl b)) := fun _ _ _ H _ I h => Constant_bool ⟨.bl b, H, I, rfl, h⟩
theorem pe_non {j pos} : PE X (.Constant .none j pos) (tC .non) := fun _ _ _ H _ I h => Constant_none ⟨.non, H, I, rfl, h⟩
theorem pe_str {x j pos} : PE X (.Constant (.str x) j pos) (tC (.str x)) := fun _ _ _ H _ I h => Calls.Constant_str ⟨.str x, H, I.tok _, ⟨_, rfl⟩, h⟩

/-- a global name of the def -/
def Gl (X : Cx) (x : Str) : Prop := X.env.kindOf x = some .globalImplicit
theorem ld_glob {E : Value → Shared → Prop} {pins : List (Addr × Obj)} {s : Shared} {σ : St} {H : Hp} {x : Str} {u : Value} {pos : Pos} {Q : Value → Shared → Prop} (I : Inv X pins σ H s) (hg : Gl X x) (hm : X.mg x = some u) (h : Q u s)
    (hd : (x == ("__debug__" : Str)) = false := by decide) : wpAny (model X.prog X.w) X.A (eval (.Name x pos) X.env) Q E s :=
  Calls.Name_function_global I.ok.kind hg (Calls.loadGlobal_global (by rw [I.ok.glob]; exact I.mod.glob.keeps I.bk) hm h) hd
theorem ld_blt {E : Value → Shared → Prop} {pins : List (Addr × Obj)} {s : Shared} {σ : St} {H : Hp} {x : Str} {u : Value} {pos : Pos} {Q : Value → Shared → Prop} (I : Inv X pins σ H s) (hg : Gl X x) (hm : X.mg x = none) (hv : bootBuiltins x = some u) (h : Q u s)
    (hn : x ≠ "__name__" := by decide) (hd : (x == ("__debug__" : Str)) = false := by decide) : wpAny (model X.prog X.w) X.A (eval (.Name x pos) X.env) Q E s := by
  obtain ⟨mb, h1, h2⟩ := I.mod.blt
  exact Calls.Name_function_global I.ok.kind hg (Calls.loadGlobal_builtin (by rw [I.ok.glob]; exact I.mod.glob.keeps I.bk) hm (by rw [I.ok.blt]; exact h1.keeps I.bk) ((h2 x hn).trans hv) h) hd
/-- a module's constant, a class, a function, as a value -/
theorem pe_glob {x : Str} {v : V} {u : Value} {pos : Pos} (hg : Gl X x) (hm : X.mg x = some u) (r : RelV v u) (hd : (x == ("__debug__" : Str)) = false := by decide) : PE X (.Name x pos) (tC v) :=
  fun _ _ _ H _ I h => ld_glob I hg hm ⟨v, H, I, r, h⟩ hd
theorem pe_bltn {x : Str} {v : V} {u : Value} {pos : Pos} (hg : Gl X x) (hm : X.mg x = none) (hv : bootBuiltins x = some u) (r : RelV v u) (hn : x ≠ "__name__" := by decide) (hd : (x == ("__debug__" : Str)) = false := by decide) : PE X (.Name x pos) (tC v) :=
  fun _ _ _ H _ I h => ld_blt I hg hm hv ⟨v, H, I, r, h⟩ hn hd

/-! ### arithmetic -/
variable {a b : Expr} {ta tb : TE} {pos : Pos}
/-! ### comparisons -/
def PC (X : Cx) (op : CmpOp) (a b : Expr) (t : TE) : Prop :=
  ∀ (pins : List (Addr × Obj)) (s : Shared) (σ : St) (H : Hp) (Q : VK), Inv X pins σ H s → t σ H Q →
    wpAny (model X.prog X.w) X.A (eval a X.env) (fun v s₁ => wpAny (model X.prog X.w) X.A (eval b X.env) (fun u s₂ => wpAny (model X.prog X.w) X.A (compareOp op v u) (EP X pins σ Q) X.xe s₂) X.xe s₁) X.xe s
theorem nobehind (b : Expr) {op : CmpOp} (h : op ≠ .In) (h2 : op ≠ .NotIn) : behindInMarks op b = false := by
  have e1 : (op == CmpOp.In) = false := by cases op <;> first | rfl | exact absurd rfl h
  have e2 : (op == CmpOp.NotIn) = false := by cases op <;> first | rfl | exact absurd rfl h2
  cases b <;> simp [behindInMarks, e1, e2]
/-- is None -/
def tIsN (ta : TE) : TE := fun σ H Q => ta σ H fun x H1 => Q (.bl (decide (x = .non))) H1
theorem RelV.none_iff {x : V} {v : Value} (r : RelV x v) : (v == Value.none) = decide (x = .non) := by
  cases x with
  | non => cases r; rfl
  | bl _ => cases r; rfl
  | int _ => obtain ⟨t, rfl⟩ := r; rfl
  | str _ => obtain ⟨t, rfl⟩ := r; rfl
  | byt _ => obtain ⟨t, rfl⟩ := r; rfl
  | flt _ => obtain ⟨t, rfl⟩ := r; rfl
  | ref _ => cases r; rfl
  | ty _ => cases r; rfl
theorem pc_isN {j pos'} (ha : PE X a ta) : PC X .Is a (.Constant .none j pos') (tIsN ta) := by
  intro pins s σ H Q I h
  refine thn (ha pins s σ H _ I h) fun v s1 ⟨x, H1, I1, r1, q1⟩ => ?_
  exact Constant_none (is_none_gen ⟨.bl _, H1, I1, by rw [r1.none_iff]; rfl, q1⟩)
/-- a comparison as a value, as a test -/
def tB (t : TE) : TT := fun σ H Q => t σ H fun x H1 => ∃ c, x = .bl c ∧ Q c H1
theorem pt_cmp {op : CmpOp} {t : TE} (h : PC X op a b t) (h1 : behindInMarks op b = false := by first | exact nobehind _ (by decide) (by decide) | rfl) : PT X (.Compare a [op] [b] pos) (tB t) := by
  intro pins s σ H Q I hw
  refine wpAny_isTrue_Compare1 (thn (h pins s σ H _ I hw) fun v s1 h1 => thn h1 fun u s2 h2 => thn h2 fun c s3 ⟨x, H1, I1, r1, q1⟩ => ?_) h1
  obtain ⟨d, rfl, q⟩ := q1
  cases r1
  exact wpAny_truthy_bool ⟨H1, I1, q⟩
/-- an expression whose value is a bool, as a test -/
theorem pt_val {e : Expr} {t : TE} (h : PE X e t) (he : ∀ whole, isTrue e X.env whole = (do let v ← whole; standAt e.pos; holding [v] (truthy v)) := by intro _; rfl) : PT X e (tB t) := by
  intro pins s σ H Q I hw
  refine isTrue_plain (thn (h pins s σ H _ I hw) fun v s1 ⟨x, H1, I1, r1, q1⟩ => ?_) (he _)
  obtain ⟨d, rfl, q⟩ := q1
  cases r1
  exact wpAny_truthy_bool ⟨H1, I1, q⟩

/-! ### and, or, not -/
variable {tA tB' : TT} {rest : List Expr}
def tAnd (t u : TT) : TT := fun σ H Q => t σ H fun c H1 => if c = true then u σ H1 Q else Q false H1
def tOr (t u : TT) : TT := fun σ H Q => t σ H fun c H1 => if c = true then Q true H1 else u σ H1 Q
def tNot (t : TT) : TT := fun σ H Q => t σ H fun c H1 => Q (!c) H1
theorem pw_and1 (ha : PT X a tA) : PW X (.BoolOp .And [a] pos) tA := by
  intro wh pins s σ H Q I h
  refine isTrue_and (thn (ha pins s σ H Q I h) fun c s1 e => ?_)
  cases c with
  | true => exact isTrue_and_nil e
  | false => exact e
theorem pw_or1 (ha : PT X a tA) : PW X (.BoolOp .Or [a] pos) tA := by
  intro wh pins s σ H Q I h
  refine isTrue_or (thn (ha pins s σ H Q I h) fun c s1 e => ?_)
  cases c with
  | false => exact isTrue_or_nil e
  | true => exact e
theorem pw_and (ha : PT X a tA) (hb : PW X (.BoolOp .And (b :: rest) pos) tB') : PW X (.BoolOp .And (a :: b :: rest) pos) (tAnd tA tB') := by
  intro wh pins s σ H Q I h
  refine isTrue_and (thn (ha pins s σ H _ I h) fun c s1 ⟨H1, I1, q1⟩ => ?_)
  cases c with
  | true => exact hb wh pins s1 σ H1 Q I1 q1
  | false => exact ⟨H1, I1, q1⟩
theorem pw_or (ha : PT X a tA) (hb : PW X (.BoolOp .Or (b :: rest) pos) tB') : PW X (.BoolOp .Or (a :: b :: rest) pos) (tOr tA tB') := by
  intro wh pins s σ H Q I h
  refine isTrue_or (thn (ha pins s σ H _ I h) fun c s1 ⟨H1, I1, q1⟩ => ?_)
  cases c with
  | true => exact ⟨H1, I1, q1⟩
  | false => exact hb wh pins s1 σ H1 Q I1 q1
theorem pt_not (ha : PT X a tA) : PT X (.UnaryOp .Not a pos) (tNot tA) := by
  intro pins s σ H Q I h
  exact isTrue_not (ha pins s σ H (fun c H1 => Q (!c) H1) I h)
/-- .. as values (bools) -/
def tAndV (ta tb : TE) : TE := fun σ H Q => ta σ H fun x H1 => ∃ c, x = .bl c ∧ if c = true then tb σ H1 Q else Q (.bl false) H1
def tNotV (ta : TE) : TE := fun σ H Q => ta σ H fun x H1 => ∃ c, x = .bl c ∧ Q (.bl (!c)) H1
theorem pe_one {op} {t : TE} (h : PE X a t) : PE X (.BoolOp op [a] pos) t := fun pins s σ H Q I hw => BoolOp_one (h pins s σ H Q I hw)
theorem pe_and (ha : PE X a ta) (hb : PE X (.BoolOp .And (b :: rest) pos) tb) : PE X (.BoolOp .And (a :: b :: rest) pos) (tAndV ta tb) := by
  intro pins s σ H Q I h
  refine BoolOp_and (thn (ha pins s σ H _ I h) fun v s1 ⟨x, H1, I1, r1, q1⟩ => ?_)
  obtain ⟨c, rfl, q1⟩ := q1
  cases r1
  refine wpAny_truthy_bool ?_
  cases c with
  | true => exact hb pins s1 σ H1 Q I1 q1
  | false => exact ⟨.bl false, H1, I1, rfl, q1⟩
theorem pe_not (ha : PE X a ta) : PE X (.UnaryOp .Not a pos) (tNotV ta) := by
  intro pins s σ H Q I h
  refine UnaryOp_ (thn (ha pins s σ H _ I h) fun v s1 ⟨x, H1, I1, r1, q1⟩ => ?_)
  obtain ⟨c, rfl, q1⟩ := q1
  cases r1
  exact not_of (wpAny_truthy_bool ⟨.bl (!c), H1, I1, rfl, q1⟩)
end
end L2

namespace L2
open PySem PySem.Spec PyProof.Rows

/-! ### a list, a tuple that is read: tracked, frozen, or an object of the module -/
def SqL (K : PySem.W.Frag) (H : Hp) (a : Addr) (xs : List V) : Prop :=
  Rd H a (.lst xs) ∨
    ∃ (o : Obj) (its : Array Value) (n : Nat), K.lookup a = some o ∧ o.cls = .type "list" ∧ o.dict = none ∧ o.data = .seq its n ∧ its.size ≤ sizeLine ∧ Vals xs its.toList
def SqT (K : PySem.W.Frag) (H : Hp) (a : Addr) (xs : List V) : Prop :=
  Rd H a (.tup xs) ∨
    ∃ (o : Obj) (its : Array Value) (n : Nat), K.lookup a = some o ∧ o.cls = .type "tuple" ∧ o.data = .seq its n ∧ its.size ≤ sizeLine ∧ Vals xs its.toList
def absV : Value → Option V
  | .none => some .non
  | .bool b => some (.bl b)
  | .int i _ => some (.int i)
  | .str x _ => some (.str x)
  | .bytes b _ => some (.byt b)
  | .float b _ => some (.flt b)
  | .ref a => some (.ref a)
  | .type n => some (.ty n)
  | _ => none
theorem RelV.abs {x : V} {u : Value} (r : RelV x u) : absV u = some x := by
  cases x with
  | non => cases r; rfl
  | bl _ => cases r; rfl
  | int _ => obtain ⟨t, rfl⟩ := r; rfl
  | str _ => obtain ⟨t, rfl⟩ := r; rfl
  | byt _ => obtain ⟨t, rfl⟩ := r; rfl
  | flt _ => obtain ⟨t, rfl⟩ := r; rfl
  | ref _ => cases r; rfl
  | ty _ => cases r; rfl
theorem RelV.inj {x y : V} {u : Value} (r : RelV x u) (q : RelV y u) : x = y := Option.some.inj (r.abs.symm.trans q.abs)
theorem Vals.inj : ∀ {xs ys : List V} {us : List Value}, Vals xs us → Vals ys us → xs = ys
  | _, _, _, .nil, .nil => rfl
  | _, _, _, .cons r t, .cons r' t' => by rw [r.inj r', Vals.inj t t']
section
variable {X : Cx} {pins : List (Addr × Obj)} {σ : St} {H : Hp} {s : Shared} {a : Addr} {xs ys : List V}
theorem SqL.of {K : PySem.W.Frag} (h : H a = some (.lst xs)) : SqL K H a xs := .inl (.inl h)
theorem SqT.of {K : PySem.W.Frag} (h : H a = some (.tup xs)) : SqT K H a xs := .inl (.inl h)
theorem Inv.list (I : Inv X pins σ H s) (h : SqL X.K H a xs) : ∃ its : List Value, Vals xs its ∧ PlainL s.heap a its.toArray ∧ xs.length ≤ sizeLine := by
  rcases h with h | ⟨o, its, n, hk, hc, hd, hs, hz, r⟩
  · obtain ⟨z, its, n, r, e⟩ := h.ok I.hok
    exact ⟨its, r, ⟨_, n, e, rfl, rfl, rfl⟩, z⟩
  · refine ⟨its.toList, r, ⟨o, n, I.kIn a o hk, hc, hd, by simpa using hs⟩, ?_⟩
    have e := r.length
    simp only [Array.length_toList] at e
    omega
theorem Inv.tuple (I : Inv X pins σ H s) (h : SqT X.K H a xs) : ∃ its : List Value, Vals xs its ∧ IsTup s.heap a its.toArray ∧ xs.length ≤ sizeLine := by
  rcases h with h | ⟨o, its, n, hk, hc, hs, hz, r⟩
  · obtain ⟨z, its, r, p⟩ := h.ok I.hok
    exact ⟨its, r, p, z⟩
  · refine ⟨its.toList, r, ⟨o, I.kIn a o hk, hc, n, by simpa using hs⟩, ?_⟩
    have e := r.length
    simp only [Array.length_toList] at e
    omega
theorem Inv.list_inj (I : Inv X pins σ H s) (h : SqL X.K H a xs) (h' : SqL X.K H a ys) : xs = ys := by
  obtain ⟨its, r, ⟨o, n, e, _, _, d⟩, _⟩ := I.list h
  obtain ⟨its', r', ⟨o', n', e', _, _, d'⟩, _⟩ := I.list h'
  rw [e] at e'; cases e'
  rw [d] at d'
  injection d' with d1 _
  have : its = its' := by simpa using congrArg Array.toList d1
  subst this
  exact r.inj r'
theorem Inv.tuple_inj (I : Inv X pins σ H s) (h : SqT X.K H a xs) (h' : SqT X.K H a ys) : xs = ys := by
  obtain ⟨its, r, ⟨o, e, _, n, d⟩, _⟩ := I.tuple h
  obtain ⟨its', r', ⟨o', e', _, n', d'⟩, _⟩ := I.tuple h'
  rw [e] at e'; cases e'
  rw [d] at d'
  injection d' with d1 _
  have : its = its' := by simpa using congrArg Array.toList d1
  subst this
  exact r.inj r'
end

/-! ### another wish about exceptions -/
abbrev Cx.wish (X : Cx) (E : Value → Shared → Prop) : Cx := { X with xe := E }
/-- no exception leaves -/
abbrev Cx.nox (X : Cx) : Cx := X.wish fun _ _ => False
theorem Cx.Ok.wish {X : Cx} (ok : X.Ok) (E : Value → Shared → Prop) : (X.wish E).Ok :=
  ⟨ok.mod, ok.kind, ok.glob, ok.blt, ok.above, ok.inj, ok.has, ok.cab, ok.hd, ok.frames, ok.stk, ok.exf, ok.bs, ok.bsz, ok.noex, ok.exfs, ok.funs, ok.frf⟩
theorem Cx.Ok.unwish {X : Cx} {E : Value → Shared → Prop} (ok : (X.wish E).Ok) : X.Ok :=
  ⟨ok.mod, ok.kind, ok.glob, ok.blt, ok.above, ok.inj, ok.has, ok.cab, ok.hd, ok.frames, ok.stk, ok.exf, ok.bs, ok.bsz, ok.noex, ok.exfs, ok.funs, ok.frf⟩
section
variable {X : Cx} {pins : List (Addr × Obj)} {σ : St} {H : Hp} {s : Shared} {E : Value → Shared → Prop}
theorem Inv.wish (I : Inv X pins σ H s) (E : Value → Shared → Prop) : Inv (X.wish E) pins σ H s := ⟨I.ok.wish E, I.os, I.bare, I.base, I.loc, I.cell, I.free, I.freeC, I.pin, I.hok, I.len⟩
theorem Inv.unwish (I : Inv (X.wish E) pins σ H s) : Inv X pins σ H s := ⟨I.ok.unwish, I.os, I.bare, I.base, I.loc, I.cell, I.free, I.freeC, I.pin, I.hok, I.len⟩
theorem SP.unwish {D : Ends} {f : Flow} {s' : Shared} (h : SP (X.wish E) pins D f s') : SP X pins D f s' := by
  cases f with
  | next => obtain ⟨σ', H', I, q⟩ := h; exact ⟨σ', H', I.unwish, q⟩
  | brk => obtain ⟨σ', H', I, q⟩ := h; exact ⟨σ', H', I.unwish, q⟩
  | cont => obtain ⟨σ', H', I, q⟩ := h; exact ⟨σ', H', I.unwish, q⟩
  | ret u => obtain ⟨v, σ', H', I, r, q⟩ := h; exact ⟨v, σ', H', I.unwish, r, q⟩
theorem PSs.nox {st : List Stmt} {t : TS} (h : PSs X.nox st t) : PSs X st t := fun pins s σ H D I hw =>
  wpAny_mono (h pins s σ H D (I.wish _) hw) (fun _ _ q => q.unwish) fun _ _ z => False.elim z
end

/-! ### blocks and small statements -/
section
variable {X : Cx} {st : Stmt} {rest : List Stmt} {t u : TS} {e : Expr} {te : TE} {pos : Pos}
def tNext : TS := fun D σ H => D.nx σ H
def tSeq (t u : TS) : TS := fun D σ H => t { D with nx := u D } σ H
theorem pss_nil : PSs X [] tNext := fun _ _ σ H _ I h => wpAny_execs_nil ⟨σ, H, I, h⟩
theorem pss_cons (h1 : PS X st t) (h2 : PSs X rest u) : PSs X (st :: rest) (tSeq t u) := by
  intro pins s σ H D I h
  refine wpAny_execs_cons (thn (h1 pins s σ H { D with nx := u D } I h) fun f s1 q => ?_)
  cases f with
  | next =>
    obtain ⟨σ', H', I', q⟩ := q
    exact h2 pins s1 σ' H' D I' q
  | ret v => exact q
  | brk => exact q
  | cont => exact q
theorem pss_one (h1 : PS X st t) : PSs X [st] t := by
  intro pins s σ H D I h
  refine wpAny_execs_cons (thn (h1 pins s σ H D I h) fun f s1 q => ?_)
  cases f with
  | next => exact wpAny_execs_nil q
  | ret v => exact q
  | brk => exact q
  | cont => exact q
/-- in a def's body nothing is shown -/
theorem Inv.quiet {pins : List (Addr × Obj)} {σ : St} {H : Hp} {s : Shared} (I : Inv X pins σ H s) : interactive X.env = false := by simp [interactive, I.ok.kind]
/-- an expression whose value is dropped -/
def tDrop (te : TE) : TS := fun D σ H => te σ H fun _ H1 => D.nx σ H1
theorem ps_expr (he : PE X e te) (hs : swapsWith e none pos.line X.env = pure false := by rfl) : PS X (.Expr e pos) (tDrop te) := by
  intro pins s σ H D I h
  exact wpAny_Expr_any (thn (he pins s σ H _ I h) fun v s1 ⟨x, H1, I1, r1, q1⟩ => ⟨σ, H1, I1, q1⟩) I.quiet hs
def tRet (te : TE) : TS := fun D σ H => te σ H D.rt
theorem ps_ret (he : PE X e te) : PS X (.Return (some e) pos) (tRet te) := by
  intro pins s σ H D I h
  exact wpAny_Return_some (thn (he pins s σ H _ I h) fun v s1 ⟨x, H1, I1, r1, q1⟩ => ⟨x, σ, H1, I1, r1, q1⟩)
def tIfS (c : TT) (t u : TS) : TS := fun D σ H => c σ H fun b H1 => if b = true then t D σ H1 else u D σ H1
theorem ps_if {c : Expr} {a b : List Stmt} {tc : TT} (hc : PT X c tc) (ha : PSs X a t) (hb : PSs X b u) : PS X (.If c a b pos) (tIfS tc t u) := by
  intro pins s σ H D I h
  refine wpAny_If (thn (hc pins s σ H _ I h) fun d s1 ⟨H1, I1, q1⟩ => ?_)
  cases d with
  | true => exact ha pins s1 σ H1 D I1 q1
  | false => exact hb pins s1 σ H1 D I1 q1
end

/-! ### targets -/
abbrev TG := V → St → Hp → (St → Hp → Prop) → Prop
abbrev TGs := List V → St → Hp → (St → Hp → Prop) → Prop
def PG (X : Cx) (target : Expr) (t : TG) : Prop :=
  ∀ (pins : List (Addr × Obj)) (s : Shared) (σ : St) (H : Hp) (v : V) (u : Value) (Q : St → Hp → Prop), Inv X pins σ H s → RelV v u → t v σ H Q →
    wpAny (model X.prog X.w) X.A (assign target X.env u) (fun _ s' => ∃ σ' H', Inv X pins σ' H' s' ∧ Q σ' H') X.xe s
/-- several targets, one after another -/
def PGs (X : Cx) (ts : List Expr) (t : TGs) : Prop :=
  ∀ (pins : List (Addr × Obj)) (s : Shared) (σ : St) (H : Hp) (vs : List V) (us : List Value) (Q : St → Hp → Prop), Inv X pins σ H s → Vals vs us → t vs σ H Q →
    wpAny (model X.prog X.w) X.A (assignInOrder ((assignEach ts X.env).map (·.2)) us) (fun _ s' => ∃ σ' H', Inv X pins σ' H' s' ∧ Q σ' H') X.xe s
section
variable {X : Cx} {pos : Pos}
def gName (i : Nat) : TG := fun v σ H Q => Q (σ.set i (some v)) H
theorem pg_name {i : Nat} {x : Str} (hN : X.N.Nodup) (hi : X.N[i]? = some x) (hx : Loc X.env.scope x) (hf : X.fn x = true ∨ X.env.scope.names.lookup x = some .local := by first | exact .inl rfl | exact .inr rfl | assumption) : PG X (.Name x pos) (gName i) := by
  intro pins s σ H v u Q I r h
  exact wpAny_assign_Name (store_ok I hN hi hx r (fun s' I' => ⟨_, H, I', h⟩) hf)
def gNil : TGs := fun vs σ H Q => vs = [] ∧ Q σ H
def gCons (t : TG) (u : TGs) : TGs := fun vs σ H Q => ∃ v r, vs = v :: r ∧ t v σ H fun σ' H' => u r σ' H' Q
theorem pgs_nil : PGs X [] gNil := by
  intro pins s σ H vs us Q I r h
  obtain ⟨e, h⟩ := h
  subst e
  cases r
  exact assignInOrder_nil ⟨σ, H, I, h⟩
theorem pgs_cons {e : Expr} {es : List Expr} {t : TG} {u : TGs} (h1 : PG X e t) (h2 : PGs X es u)
    (hs : (assignEach (e :: es) X.env).map (·.2) = assign e X.env :: (assignEach es X.env).map (·.2) := by rfl) : PGs X (e :: es) (gCons t u) := by
  intro pins s σ H vs us Q I r h
  obtain ⟨v, vr, e1, h⟩ := h
  subst e1
  cases r with
  | cons r rr =>
    rw [hs]
    refine assignInOrder_cons (thn (h1 pins s σ H _ _ _ I r h) fun _ s1 ⟨σ1, H1, I1, q1⟩ => ?_)
    exact h2 pins s1 σ1 H1 _ _ Q I1 rr q1
/-- (a, b, ..) = a tuple of that length -/
def gTup (K : PySem.W.Frag) (n : Nat) (t : TGs) : TG := fun v σ H Q => ∃ a xs, v = .ref a ∧ SqT K H a xs ∧ xs.length = n ∧ t xs σ H Q
theorem pg_tup {es : List Expr} {k : Nat} {t : TGs} {n : Nat} (hc : X.calm = true) (h : PGs X es t)
    (hn : (assignEach es X.env).length = n := by rfl) (hst : (assignEach es X.env).findIdx? (·.1) = none := by rfl) : PG X (.Tuple es k pos) (gTup X.K n t) := by
  intro pins s σ H v u Q I r hw
  obtain ⟨a, xs, e1, hq, hl, hw⟩ := hw
  subst e1
  cases r
  obtain ⟨its, rv, ht, hz⟩ := I.tuple hq
  refine assign_Tuple_tuple (I.ok.hd hc) ht (by simp [hn, ← hl, rv.length]) hst fun h' hx => ?_
  have I1 : Inv X pins σ H { s with heap := h' } := I.kept (t' := s.toks) fun b o e => hx b o (Nat.ne_of_lt (Heap.lt_size e)) e
  exact h pins _ σ H xs _ Q I1 (by simpa using rv) hw
/-- target = value -/
def tAsg (te : TE) (g : TG) : TS := fun D σ H => te σ H fun x H1 => g x σ H1 D.nx
/-- name = value -/
theorem ps_set {i : Nat} {x : Str} {e : Expr} {te : TE} {pos' : Pos} (hN : X.N.Nodup) (hi : X.N[i]? = some x) (hx : Loc X.env.scope x) (he : PE X e te) (hs : swapsWith e (some (.Name x pos')) pos.line X.env = pure false := by rfl) (hf : X.fn x = true ∨ X.env.scope.names.lookup x = some .local := by first | exact .inl rfl | exact .inr rfl | assumption) :
    PS X (.Assign [.Name x pos'] e pos) (tAsg te (gName i)) := by
  intro pins s σ H D I h
  refine wpAny_Assign_Name (thn (he pins s σ H _ I h) fun v s1 ⟨y, H1, I1, r1, q1⟩ => ?_) hs
  exact store_ok I1 hN hi hx r1 (fun s2 I2 => ⟨_, H1, I2, q1⟩) hf
/-- a, b = x, y with plain local names: stored from the right; the pair itself is not tracked (the opening rows as in PyProof/Rows/TupAssign.lean:23) -/
def tPar (i j : Nat) (ta : TA) : TS := fun D σ H => ta σ H fun vs H1 => ∃ v w, vs = [v, w] ∧ D.nx ((σ.set i (some v)).set j (some w)) H1
theorem ps_par {i j : Nat} {x y : Str} {a b : Expr} {ta : TA} {px py pt : Pos} {kt k2 pt2} (hc : X.calm = true) (hN : X.N.Nodup) (hi : X.N[i]? = some x) (hj : X.N[j]? = some y) (hij : i ≠ j)
    (hx : X.env.scope.names.lookup x = some .local) (hy : X.env.scope.names.lookup y = some .local) (ha : PA X [a, b] ta)
    (hw : swappedStores [.Tuple [.Name x px, .Name y py] kt pt] (.Tuple [a, b] k2 pt2) X.env = pure (some [x, y]))
    (hs : swapsWithSole [.Tuple [.Name x px, .Name y py] kt pt] (.Tuple [a, b] k2 pt2) pos.line X.env = pure false := by rfl) :
    PS X (.Assign [.Tuple [.Name x px, .Name y py] kt pt] (.Tuple [a, b] k2 pt2) pos) (tPar i j ta) := by
  intro pins s σ H D I h
  rw [exec_Assign_arm]
  refine wpAny_bind (wpAny_standAt ?_)
  rw [hs]
  refine wpAny_bind (wpAny_pure ?_)
  rw [if_neg (by decide)]
  refine wpAny_bind (Tuple_ (thn (ha _ pins s σ H _ I h) fun us s1 ⟨vs, H1, I1, r1, q1⟩ => ?_))
  obtain ⟨v, w, e1, q1⟩ := q1
  subst e1
  obtain ⟨u1, u2, rfl, rv, rw'⟩ : ∃ u1 u2, us = [u1, u2] ∧ RelV v u1 ∧ RelV w u2 := by
    cases r1 with
    | cons p q =>
      cases q with
      | cons p' q' =>
        cases q'
        exact ⟨_, _, rfl, p, p'⟩
  refine wpAny_newObj_type ?_ (by show 2 ≤ sizeLine; decide)
  have I2 : Inv X pins σ H1 { s1 with heap := s1.heap.push { cls := .type "tuple", data := .seq [u1, u2].toArray } } := I1.kept (t' := s1.toks) fun b o e => Heap.get?_push_of_some _ e
  rw [hw]
  refine wpAny_bind (wpAny_pure ?_)
  show wpAny (model X.prog X.w) X.A (do rule "assign.swapped-stores"; let items ← unpackItems (.ref s1.heap.objs.size) 2 none; assignInOrder [fun v => bindName X.env y v, fun v => bindName X.env x v] items.reverse; pure Flow.next) _ _ _
  refine wpAny_bind (wpAny_rule (wpAny_bind (unpackItems_tuple (items := #[u1, u2]) (I.ok.hd hc) (IsTup.new s1.heap _) fun h' hx' => ?_)))
  have I3 := I2.kept (h' := h') (t' := s1.toks) fun b o e => hx' b o (Nat.ne_of_lt (Heap.lt_size e)) e
  show wpAny _ _ (assignInOrder [fun v => bindName X.env y v, fun v => bindName X.env x v] [u2, u1] >>= fun _ => pure Flow.next) _ _ _
  refine wpAny_bind (assignInOrder_cons (wpAny_bindName (store_ok I3 hN hj (.inl hy) rw' (fun s2 I4 => ?_) (.inr hy))))
  refine assignInOrder_cons (wpAny_bindName (store_ok I4 hN hi (.inl hx) rv (fun s3 I5 => assignInOrder_nil (wpAny_pure ?_)) (.inr hx)))
  rw [List.set_comm _ _ (Ne.symm hij)] at I5
  exact ⟨_, H1, I5, q1⟩
end

/-! ### while -/
section
variable {X : Cx} {pos : Pos}
/-- the invariant W with its measure -/
def tWhile (c : TT) (tb : TS) : TS := fun D σ H => ∃ W : Nat → St → Hp → Prop, (∃ m, W m σ H) ∧ ∀ m σ H, W m σ H →
  c σ H fun b H1 => if b = true then ∃ N : St → Hp → Prop, (∀ σ' H', N σ' H' → ∃ m', m' < m ∧ W m' σ' H') ∧ tb { D with nx := N, ct := N, bk := D.nx } σ H1 else D.nx σ H1
theorem ps_while {c : Expr} {body : List Stmt} {tc : TT} {tb : TS} (hp : PassesOwn (model X.prog X.w) X.A X.env X.xe) (hc : PT X c tc) (hb : PSs X body tb) : PS X (.While c body [] pos) (tWhile tc tb) := by
  intro pins s σ H D I h
  obtain ⟨W, ⟨m0, w0⟩, turn⟩ := h
  refine wpAny_While (codeAny_whileLoop (fun n s' => ∃ σ' H', Inv X pins σ' H' s' ∧ W n σ' H') ?_ m0 ⟨σ, H, I, w0⟩)
  rintro n s1 ⟨σ1, H1, I1, w1⟩
  refine wpAny_passesOwn hp (thn (hc pins s1 σ1 H1 _ I1 (turn n σ1 H1 w1)) fun b s2 ⟨H2, I2, q2⟩ => ?_)
  cases b with
  | true =>
    obtain ⟨N, hN, q2⟩ := q2
    rw [if_pos rfl]
    refine wpAny_passesOwn hp (thn (hb pins s2 σ1 H2 _ I2 q2) fun f s3 q3 => ?_)
    cases f with
    | next =>
      obtain ⟨σ3, H3, I3, n3⟩ := q3
      obtain ⟨m', hm, w3⟩ := hN σ3 H3 n3
      exact ⟨m', hm, σ3, H3, I3, w3⟩
    | cont =>
      obtain ⟨σ3, H3, I3, n3⟩ := q3
      obtain ⟨m', hm, w3⟩ := hN σ3 H3 n3
      exact ⟨m', hm, σ3, H3, I3, w3⟩
    | brk => exact q3
    | ret v => exact q3
  | false =>
    rw [if_neg Bool.false_ne_true]
    exact wpAny_execs_nil ⟨σ1, H2, I2, q2⟩
end

/-! ### what a loop or a comprehension walks -/
/-- at turn i: it yields x (the heap may grow), or it stops -/
structure It where
  go : Nat → Hp → Prop
  yld : Nat → Hp → V → Hp → Prop
  stop : Nat → Hp → Prop
/-- the iterator's own objects may turn: they are not the frame's, not pinned, younger than the entry (or a comprehension's own) -/
def FpOk (X : Cx) (pins : List (Addr × Obj)) (H : Hp) (b : Addr) : Prop :=
  H b = none ∧ b ≠ X.env.locals ∧ b ∉ X.fs ∧ (b ∈ X.ex ∨ X.s₀.heap.objs.size ≤ b) ∧ (∀ x c, X.env.cells.lookup x = some c → c ≠ b) ∧ ∀ p ∈ X.pn ++ pins, p.1 ≠ b
theorem Inv.fpOk {X : Cx} {pins : List (Addr × Obj)} {σ : St} {H H' : Hp} {s : Shared} {b : Addr} (I : Inv X pins σ H s) (hb : s.heap.objs.size ≤ b) (hn : H' b = none) : FpOk X pins H' b := by
  refine ⟨hn, Nat.ne_of_gt (Nat.lt_of_lt_of_le I.lt hb), I.nofs hb, .inr (Nat.le_trans I.sz hb), fun x c e z => ?_, fun p hp z => ?_⟩
  · obtain ⟨v, q⟩ := I.cell x c e
    exact absurd (Nat.lt_of_lt_of_le q.lt (by rw [z]; exact hb)) (Nat.lt_irrefl _)
  · exact absurd (Nat.lt_of_lt_of_le (Heap.lt_size (I.pin p hp).1) (by rw [z]; exact hb)) (Nat.lt_irrefl _)
structure Turn (P : Program) (w : World) (K : PySem.W.Frag) (tg : Expr) (J : It) (fp : List Addr) (it : Addr) (tn : Nat → Heap → Prop) : Prop where
  mem : it ∈ fp
  obj : ∀ i h, tn i h → ∀ b ∈ fp, ∃ o, h.get? b = some o ∧ ∀ v, o.data ≠ .cell v
  keep : ∀ i h h', tn i h → (∀ b ∈ fp, ∀ o, h.get? b = some o → h'.get? b = some o) → tn i h'
  item : ∀ (X : Cx), X.prog = P → X.w = w → X.K = K → X.calm = true → ∀ (i : Nat) (pins : List (Addr × Obj)) (s : Shared) (σ : St) (H : Hp) (E : Value → Shared → Prop), Inv X pins σ H s → (∀ b ∈ fp, FpOk X pins H b) → tn i s.heap → J.go i H →
    wpAny (model P w) X.A (pyNext (.ref it)) (fun r s1 => ∃ u, r = some u ∧
      wpAny (model P w) X.A (letOwnedTupleGo tg (.ref it) u) (fun _ s2 => ∃ x H', Inv X pins σ H' s2 ∧ RelV x u ∧ J.yld i H x H' ∧ tn (i + 1) s2.heap ∧ ∀ b ∈ fp, H' b = none) E s1) E s
  done : ∀ (X : Cx), X.prog = P → X.w = w → X.K = K → X.calm = true → ∀ (i : Nat) (pins : List (Addr × Obj)) (s : Shared) (σ : St) (H : Hp) (E : Value → Shared → Prop), Inv X pins σ H s → (∀ b ∈ fp, FpOk X pins H b) → tn i s.heap → J.stop i H →
    wpAny (model P w) X.A (pyNext (.ref it)) (fun r s1 => r = none ∧ Inv X pins σ H s1) E s
  self : ∀ (A : Around) (i : Nat) (s : Shared) (Q : Value → Shared → Prop) (E : Value → Shared → Prop), tn i s.heap → Q (.ref it) s → wpAny (model P w) A (pyIter (.ref it)) Q E s
abbrev TI := St → Hp → (It → Hp → Prop) → Prop
/-- an iterator has come -/
def PIE (X : Cx) (pins : List (Addr × Obj)) (σ : St) (tg : Expr) (R : It → Hp → Prop) (itv : Value) (s2 : Shared) : Prop :=
  ∃ (it : Addr) (fp : List Addr) (tn : Nat → Heap → Prop) (J : It) (H' : Hp), itv = .ref it ∧ Inv X pins σ H' s2 ∧ Turn X.prog X.w X.K tg J fp it tn ∧ tn 0 s2.heap ∧ (∀ b ∈ fp, FpOk X pins H' b) ∧ R J H'
def PI (X : Cx) (tg iter : Expr) (wi : TI) : Prop :=
  ∀ (pins : List (Addr × Obj)) (s : Shared) (σ : St) (H : Hp) (R : It → Hp → Prop), Inv X pins σ H s → wi σ H R →
    wpAny (model X.prog X.w) X.A (eval iter X.env) (fun v s1 => wpAny (model X.prog X.w) X.A (pyIter v) (PIE X pins σ tg R) X.xe s1) X.xe s

/-- the step ahead of the store is nothing for an iterator that keeps no tuple -/
theorem go_of {M : Model} {A : Around} {E : Value → Shared → Prop} {s : Shared} {tg : Expr} {it : Addr} {u : Value} {o : Obj} {n : String} {vs : Array Value} {Q : Unit → Shared → Prop} (ho : s.heap.get? it = some o) (hc : o.cls = .type n) (hd : o.data = .fields vs)
    (hn : ["enumerate", "zip", "dict_itemiterator", "dict_reverseitemiterator", "odict_iterator", "itertools.zip_longest", "itertools.pairwise"].contains n = false) (hQ : Q () s) : wpAny M A (letOwnedTupleGo tg (.ref it) u) Q E s := by
  unfold letOwnedTupleGo
  cases tg <;> first
    | exact wpAny_pure hQ
    | (cases u <;> first
        | exact wpAny_pure hQ
        | (refine wpAny_bind (wpAny_load ho ?_)
           rw [hc, hd]
           show wpAny M A (if (["enumerate", "zip", "dict_itemiterator", "dict_reverseitemiterator", "odict_iterator", "itertools.zip_longest", "itertools.pairwise"].contains n && vs[0]? == some (rawInt _)) = true then _ else _) Q E s
           rw [if_neg (by intro h; rw [hn, Bool.false_and] at h; cases h)]
           exact wpAny_pure hQ))

/-- the list at a, as it stands at each turn (a loop may append to it) -/
def Itl (K : PySem.W.Frag) (a : Addr) : It :=
  ⟨fun i H => ∃ xs x, SqL K H a xs ∧ xs[i]? = some x, fun i H x H' => H' = H ∧ ∀ xs, SqL K H a xs → xs[i]? = some x, fun i H => ∃ xs, SqL K H a xs ∧ xs.length ≤ i⟩
def Itt (K : PySem.W.Frag) (a : Addr) : It :=
  ⟨fun i H => ∃ xs x, SqT K H a xs ∧ xs[i]? = some x, fun i H x H' => H' = H ∧ ∀ xs, SqT K H a xs → xs[i]? = some x, fun i H => ∃ xs, SqT K H a xs ∧ xs.length ≤ i⟩
/-- lo, lo + 1, .. (n of them) -/
def Itr (lo : Int) (n : Nat) : It := ⟨fun i _ => i < n, fun i H x H' => H' = H ∧ x = .int (lo + i), fun i _ => n ≤ i⟩
theorem turn_list {P : Program} {w : World} {K : PySem.W.Frag} {tg : Expr} (a it : Addr) : Turn P w K tg (Itl K a) [it] it (fun i h => h.IsListIter it a i) where
  mem := by simp
  obj := fun i h st b hb => by
    have e : b = it := by simpa using hb
    subst e
    obtain ⟨o, e, c, d⟩ := st
    exact ⟨o, e, fun v z => by rw [d] at z; cases z⟩
  keep := fun i h h' st k => st.at fun o e => k it (by simp) o e
  item := by
    intro X hP hw hK hc i pins s σ H E I hf st hg
    subst hP hw hK
    obtain ⟨xs, x, hq, hx⟩ := hg
    obtain ⟨its, rv, p, hz⟩ := I.list hq
    obtain ⟨u, hu, ru⟩ := rv.get hx
    obtain ⟨f0, f1, f2, f3, f4, f5⟩ := hf it (by simp)
    refine wpAny_pyNext_list_item st p.isList (x := u) (by simpa using hu) fun h' st' sb => ?_
    have I1 : Inv X pins σ H { s with heap := h' } := I.turned (t' := s.toks) (fun b o hb e => (sb.2 b hb).trans e) f0 f1 f3 f4 f5
    obtain ⟨o, e, c, d⟩ := id st'
    exact ⟨u, rfl, go_of (s := { s with heap := h' }) e c d (by decide) ⟨x, H, I1, ru, ⟨rfl, fun ys hy => by rw [I.list_inj hy hq]; exact hx⟩, st', fun b hb => (hf b hb).1⟩⟩
  done := by
    intro X hP hw hK hc i pins s σ H E I hf st hg
    subst hP hw hK
    obtain ⟨xs, hq, hx⟩ := hg
    obtain ⟨its, rv, p, hz⟩ := I.list hq
    obtain ⟨f0, f1, f2, f3, f4, f5⟩ := hf it (by simp)
    have hl := rv.length
    exact wpAny_pyNext_list_end (I.ok.hd hc) st p.isList (by simp; omega) fun h' eb => ⟨rfl, I.turned (t' := s.toks) (fun b o hb e => eb b o hb e) f0 f1 f3 f4 f5⟩
  self := fun _ _ _ _ _ st h => wpAny_pyIter_listiter st h
theorem turn_tuple {P : Program} {w : World} {K : PySem.W.Frag} {tg : Expr} (a it : Addr) : Turn P w K tg (Itt K a) [it] it (fun i h => h.IsTupleIter it a i) where
  mem := by simp
  obj := fun i h st b hb => by
    have e : b = it := by simpa using hb
    subst e
    obtain ⟨o, e, c, d⟩ := st
    exact ⟨o, e, fun v z => by rw [d] at z; cases z⟩
  keep := fun i h h' st k => st.at fun o e => k it (by simp) o e
  item := by
    intro X hP hw hK hc i pins s σ H E I hf st hg
    subst hP hw hK
    obtain ⟨xs, x, hq, hx⟩ := hg
    obtain ⟨its, rv, p, hz⟩ := I.tuple hq
    obtain ⟨u, hu, ru⟩ := rv.get hx
    obtain ⟨f0, f1, f2, f3, f4, f5⟩ := hf it (by simp)
    refine wpAny_pyNext_tuple_item st (show s.heap.IsTuple a its.toArray from p) (x := u) (by simpa using hu) fun h' st' sb => ?_
    have I1 : Inv X pins σ H { s with heap := h' } := I.turned (t' := s.toks) (fun b o hb e => (sb.2 b hb).trans e) f0 f1 f3 f4 f5
    obtain ⟨o, e, c, d⟩ := id st'
    exact ⟨u, rfl, go_of (s := { s with heap := h' }) e c d (by decide) ⟨x, H, I1, ru, ⟨rfl, fun ys hy => by rw [I.tuple_inj hy hq]; exact hx⟩, st', fun b hb => (hf b hb).1⟩⟩
  done := by
    intro X hP hw hK hc i pins s σ H E I hf st hg
    subst hP hw hK
    obtain ⟨xs, hq, hx⟩ := hg
    obtain ⟨its, rv, p, hz⟩ := I.tuple hq
    obtain ⟨f0, f1, f2, f3, f4, f5⟩ := hf it (by simp)
    have hl := rv.length
    exact wpAny_pyNext_tuple_end (I.ok.hd hc) st (show s.heap.IsTuple a its.toArray from p) (by simp; omega) fun h' eb => ⟨rfl, I.turned (t' := s.toks) (fun b o hb e => eb b o hb e) f0 f1 f3 f4 f5⟩
  self := fun _ _ _ _ _ st h => wpAny_pyIter_tupleiter st h
theorem turn_range {P : Program} {w : World} {K : PySem.W.Frag} {tg : Expr} (it : Addr) (lo : Int) (n : Nat) : Turn P w K tg (Itr lo n) [it] it (fun i h => IsRangeIter h it (lo + (i : Nat) * 1) ((n : Int) - (i : Nat)) 1) where
  mem := by simp
  obj := fun i h st b hb => by
    have e : b = it := by simpa using hb
    subst e
    exact ⟨_, st, fun v z => by
      have z' : Data.fields _ = Data.cell v := z
      cases z'⟩
  keep := fun i h h' st k => k it (by simp) _ st
  item := by
    intro X hP hw hK hc i pins s σ H E I hf st hg
    subst hP hw hK
    obtain ⟨f0, f1, f2, f3, f4, f5⟩ := hf it (by simp)
    have W := Walks.range (prog := X.prog) (w := X.w) (I.ok.hd hc) it lo 1 n
    refine W.item i s _ _ hg st fun v h' tk hv st' kk => ?_
    obtain ⟨t, rfl⟩ := hv
    have I1 : Inv X pins σ H { s with heap := h', toks := tk } := I.turned (fun b o hb e => kk b o (by simpa using hb) e) f0 f1 f3 f4 f5
    refine ⟨_, rfl, go_of (s := { s with heap := h', toks := tk }) (n := "range_iterator") st' rfl rfl (by decide) ⟨.int (lo + i), H, I1, ⟨t, ?_⟩, ⟨rfl, rfl⟩, st', fun b hb => (hf b hb).1⟩⟩
    rw [Int.mul_one]
  done := by
    intro X hP hw hK hc i pins s σ H E I hf st hg
    subst hP hw hK
    obtain ⟨f0, f1, f2, f3, f4, f5⟩ := hf it (by simp)
    exact wpAny_pyNext_range_end (I.ok.hd hc) st (by have : n ≤ i := hg; omega) fun h' eb => ⟨rfl, I.turned (t' := s.toks) (fun b o hb e => eb b o hb e) f0 f1 f3 f4 f5⟩
  self := fun _ _ _ _ _ st h => wpAny_pyIter_rangeiter st h
end L2

namespace L2
open PySem PySem.Spec PyProof.Rows
section
variable {X : Cx} {tg : Expr}
def iList (K : PySem.W.Frag) (tl : TE) : TI := fun σ H R => tl σ H fun x H1 => ∃ a, x = .ref a ∧ (∃ xs, SqL K H1 a xs) ∧ R (Itl K a) H1
def iTup (K : PySem.W.Frag) (tl : TE) : TI := fun σ H R => tl σ H fun x H1 => ∃ a, x = .ref a ∧ (∃ xs, SqT K H1 a xs) ∧ R (Itt K a) H1
theorem pi_list {l : Expr} {tl : TE} (hl : PE X l tl) : PI X tg l (iList X.K tl) := by
  intro pins s σ H R I h
  refine thn (hl pins s σ H _ I h) fun v s1 ⟨x, H1, I1, r1, q1⟩ => ?_
  obtain ⟨a, e, ⟨xs, hq⟩, q⟩ := q1
  subst e
  cases r1
  obtain ⟨its, rv, p, hz⟩ := I1.list hq
  refine wpAny_pyIter_list p.isList ?_
  refine ⟨s1.heap.objs.size, [s1.heap.objs.size], _, _, H1, rfl, I1.kept (t' := s1.toks) fun b o e => Heap.get?_push_of_some _ e, turn_list a _, ⟨_, Heap.get?_push_size _ rfl, rfl, rfl⟩, fun b hb => ?_, q⟩
  have e : b = s1.heap.objs.size := by simpa using hb
  subst e
  exact I1.fpOk (Nat.le_refl _) (I1.hok.fresh (Nat.le_refl _))
theorem pi_tup {l : Expr} {tl : TE} (hl : PE X l tl) : PI X tg l (iTup X.K tl) := by
  intro pins s σ H R I h
  refine thn (hl pins s σ H _ I h) fun v s1 ⟨x, H1, I1, r1, q1⟩ => ?_
  obtain ⟨a, e, ⟨xs, hq⟩, q⟩ := q1
  subst e
  cases r1
  obtain ⟨its, rv, p, hz⟩ := I1.tuple hq
  refine wpAny_pyIter_tuple (show s1.heap.IsTuple a its.toArray from p) ?_
  refine ⟨s1.heap.objs.size, [s1.heap.objs.size], _, _, H1, rfl, I1.kept (t' := s1.toks) fun b o e => Heap.get?_push_of_some _ e, turn_tuple a _, ⟨_, Heap.get?_push_size _ rfl, rfl, rfl⟩, fun b hb => ?_, q⟩
  have e : b = s1.heap.objs.size := by simpa using hb
  subst e
  exact I1.fpOk (Nat.le_refl _) (I1.hok.fresh (Nat.le_refl _))
/-- a range object just made, walked -/
theorem range_it {pins : List (Addr × Obj)} {σ : St} {H : Hp} {s : Shared} {R : It → Hp → Prop} {E : Value → Shared → Prop} {lo hi : Int} {t u v : Tok} {tk : Nat} (I : Inv X pins σ H s) (h1 : -(2 ^ 62) ≤ lo) (h2 : lo < 2 ^ 62) (h3 : -(2 ^ 62) ≤ hi) (h4 : hi < 2 ^ 62)
    (q : R (Itr lo (hi - lo).toNat) H) : wpAny (model X.prog X.w) X.A (pyIter (.ref s.heap.objs.size)) (PIE X pins σ tg R) E { s with heap := s.heap.push { cls := .type "range", data := .fields #[.int lo t, .int hi u, .int 1 v] }, toks := tk } := by
  refine wpAny_pyIter_range (IsRange.new ..) (small_one h1 h2 h3 h4) ?_
  have I1 : Inv X pins σ H { s with heap := s.heap.push { cls := .type "range", data := .fields #[.int lo t, .int hi u, .int 1 v] }, toks := tk } := I.kept fun b o e => Heap.get?_push_of_some _ e
  refine ⟨(s.heap.push { cls := .type "range", data := .fields #[.int lo t, .int hi u, .int 1 v] }).objs.size, [(s.heap.push { cls := .type "range", data := .fields #[.int lo t, .int hi u, .int 1 v] }).objs.size], _, _, H, rfl,
    I1.kept (t' := tk) fun b o e => Heap.get?_push_of_some _ e, turn_range _ lo (hi - lo).toNat, ?_, fun b hb => ?_, q⟩
  · have e1 : lo + ((0 : Nat) : Int) * 1 = lo := by simp
    have e2 : (((hi - lo).toNat : Nat) : Int) - ((0 : Nat) : Int) = Builtin.Range.rangeSize lo hi 1 := by rw [rangeSize_one]; split <;> omega
    show IsRangeIter _ _ (lo + ((0 : Nat) : Int) * 1) ((((hi - lo).toNat : Nat) : Int) - ((0 : Nat) : Int)) 1
    rw [e1, e2]
    exact Heap.get?_push_size _ rfl
  · have e : b = (s.heap.push { cls := .type "range", data := .fields #[.int lo t, .int hi u, .int 1 v] }).objs.size := by simpa using hb
    subst e
    exact I1.fpOk (Nat.le_refl _) (I1.hok.fresh (Nat.le_refl _))
def iRng1 (ta : TA) : TI := fun σ H R => ta σ H fun vs H1 => ∃ j : Int, vs = [.int j] ∧ -(2 ^ 62) ≤ j ∧ j < 2 ^ 62 ∧ R (Itr 0 j.toNat) H1
theorem pi_range1 {a : Expr} {ta : TA} {p pos : Pos} (hg : Gl X "range") (hm : X.mg "range" = none) (ha : PA X [a] ta) (hs : starEach [a] X.env = [(false, eval a X.env)] := by rfl) : PI X tg (.Call (.Name "range" p) [a] [] pos) (iRng1 ta) := by
  intro pins s σ H R I h
  refine Call_ (ld_blt I hg hm boot_range (PyProof.Rows.callWith_type1 (thn (ha pos pins s σ H _ I h) fun us s1 ⟨vs, H1, I1, r1, q1⟩ => ?_) hs rfl))
  obtain ⟨j, e, q1, q2, q⟩ := q1
  subst e
  cases r1 with
  | cons r rr =>
    cases rr
    obtain ⟨t, rfl⟩ := r
    exact call_range_1 (range_it I1 (by omega) (by omega) q1 q2 (by simpa using q))
/-! ### for -/
/-- W: the invariant by the turn and a measure; N: what the body is to reach -/
def tFor (wi : TI) (g : TG) (tb : TS) : TS := fun D σ H => wi σ H fun J H1 => ∃ W : Nat → Nat → St → Hp → Prop, (∃ m, W 0 m σ H1) ∧ ∀ i m σ H, W i m σ H →
  (J.stop i H ∧ D.nx σ H) ∨ (J.go i H ∧ ∃ N : St → Hp → Prop, (∀ σ' H', N σ' H' → ∃ m', m' < m ∧ W (i + 1) m' σ' H') ∧ ∀ x H', J.yld i H x H' → g x σ H' fun σ2 H2 => tb { D with nx := N, ct := N, bk := D.nx } σ2 H2)
/-- the records at fp as they stand -/
def pinsAt (fp : List Addr) (h : Heap) : List (Addr × Obj) := fp.filterMap fun b => (h.get? b).map fun o => (b, o)
theorem mem_pinsAt {fp : List Addr} {h : Heap} {b : Addr} {o : Obj} (hb : b ∈ fp) (e : h.get? b = some o) : (b, o) ∈ pinsAt fp h := List.mem_filterMap.mpr ⟨b, hb, by rw [e]; rfl⟩
theorem of_pinsAt {fp : List Addr} {h : Heap} {p : Addr × Obj} (hp : p ∈ pinsAt fp h) : p.1 ∈ fp ∧ h.get? p.1 = some p.2 := by
  obtain ⟨b, hb, e⟩ := List.mem_filterMap.mp hp
  cases q : h.get? b with
  | none => rw [q] at e; cases e
  | some o =>
    rw [q] at e
    have e' : (b, o) = p := Option.some.inj e
    subst e'
    exact ⟨hb, q⟩
theorem Inv.pinned {pins : List (Addr × Obj)} {σ : St} {H : Hp} {s : Shared} {fp : List Addr} (I : Inv X pins σ H s) (hf : ∀ b ∈ fp, FpOk X pins H b) (ho : ∀ b ∈ fp, ∃ o, s.heap.get? b = some o ∧ ∀ v, o.data ≠ .cell v) : Inv X (pins ++ pinsAt fp s.heap) σ H s :=
  I.pins_of fun p hp => (List.mem_append.mp hp).elim (fun z => I.pin p (List.mem_append_right _ z)) fun z => by
    obtain ⟨hb, e⟩ := of_pinsAt z
    obtain ⟨f0, f1, f2, _⟩ := hf p.1 hb
    obtain ⟨o, e', d⟩ := ho p.1 hb
    rw [e] at e'; cases e'
    exact ⟨e, f0, f1, f2, d⟩
theorem Inv.unpinned {pins pl : List (Addr × Obj)} {σ : St} {H : Hp} {s : Shared} (I : Inv X (pins ++ pl) σ H s) : Inv X pins σ H s := I.pins_of fun p hp => I.pin p (List.mem_append_right _ (List.mem_append_left _ hp))
theorem ps_for {iter : Expr} {body : List Stmt} {wi : TI} {g : TG} {tb : TS} {pos : Pos} (hp : PassesOwn (model X.prog X.w) X.A X.env X.xe) (hc : X.calm = true) (hi : PI X tg iter wi) (hg : PG X tg g) (hb : PSs X body tb)
    (hs : ∀ x, foldedSetIterable iter X.env x = pure x := by intro _; rfl) : PS X (.For tg iter body [] pos) (tFor wi g tb) := by
  intro pins s σ H D I h
  refine wpAny_For (thn (hi pins s σ H _ I h) fun v s1 h1 => thn h1 fun itv s2 h2 => ?_) hs
  obtain ⟨it, fp, tn, J, H2, e, I2, T, st2, f2, W, ⟨m0, w0⟩, turn⟩ := h2
  subst e
  -- what stays true of the iterator's objects through the loop
  have stat : ∀ {H' : Hp}, (∀ b ∈ fp, H' b = none) → ∀ b ∈ fp, FpOk X pins H' b := fun hn b hb => ⟨hn b hb, (f2 b hb).2⟩
  refine codeAny_forLoop_any (fun n s' => ∃ i σ' H', Inv X pins σ' H' s' ∧ tn i s'.heap ∧ (∀ b ∈ fp, H' b = none) ∧ W i n σ' H') ?_ m0 ⟨0, σ, H2, I2, st2, fun b hb => (f2 b hb).1, w0⟩
  rintro n s3 ⟨i, σ3, H3, I3, st3, fr3, w3⟩
  rcases turn i n σ3 H3 w3 with ⟨stop, qn⟩ | ⟨go, N, hN, step⟩
  · refine wpAny_passesOwn hp (thn (T.done X rfl rfl rfl hc i pins s3 σ3 H3 X.xe I3 (stat fr3) st3 stop) fun r s4 ⟨hr, I4⟩ => ?_)
    subst hr
    exact wpAny_execs_nil ⟨σ3, H3, I4, qn⟩
  · refine wpAny_passesOwn hp (thn (T.item X rfl rfl rfl hc i pins s3 σ3 H3 X.xe I3 (stat fr3) st3 go) fun r s4 ⟨u, hr, h4⟩ => ?_)
    subst hr
    refine wpAny_passesOwn hp (thn h4 fun _ s5 ⟨x, H5, I5, r5, y5, st5, fr5⟩ => ?_)
    have I5' := I5.pinned (stat fr5) (T.obj _ _ st5)
    refine wpAny_passesOwn hp (thn (hg _ s5 σ3 H5 x u _ I5' r5 (step x H5 y5)) fun _ s6 ⟨σ6, H6, I6, q6⟩ => ?_)
    refine wpAny_passesOwn hp (thn (hb _ s6 σ6 H6 _ I6 q6) fun f s7 q7 => ?_)
    have again : ∀ {σ7 : St} {H7 : Hp}, Inv X (pins ++ pinsAt fp s5.heap) σ7 H7 s7 → N σ7 H7 → ∃ m, m < n ∧ ∃ i σ' H', Inv X pins σ' H' s7 ∧ tn i s7.heap ∧ (∀ b ∈ fp, H' b = none) ∧ W i m σ' H' := fun {σ7 H7} I7 n7 => by
      obtain ⟨m', hm, w7⟩ := hN σ7 H7 n7
      refine ⟨m', hm, i + 1, σ7, H7, I7.unpinned, T.keep _ _ _ st5 fun b hb o e => (I7.pin (b, o) (List.mem_append_right _ (List.mem_append_right _ (mem_pinsAt hb e)))).1, fun b hb => ?_, w7⟩
      obtain ⟨o, e, d⟩ := T.obj _ _ st5 b hb
      exact (I7.pin (b, o) (List.mem_append_right _ (List.mem_append_right _ (mem_pinsAt hb e)))).2.1
    cases f with
    | next => obtain ⟨σ7, H7, I7, n7⟩ := q7; exact again I7 n7
    | cont => obtain ⟨σ7, H7, I7, n7⟩ := q7; exact again I7 n7
    | brk => obtain ⟨σ7, H7, I7, q7⟩ := q7; exact ⟨σ7, H7, I7.unpinned, q7⟩
    | ret v => obtain ⟨x7, σ7, H7, I7, r7, q7⟩ := q7; exact ⟨x7, σ7, H7, I7.unpinned, r7, q7⟩
end

/-! ### the forms one uses -/
/-- while, by a word and a measure of the state -/
theorem while_by {c : TT} {tb : TS} {D : Ends} {σ : St} {H : Hp} (Pv : St → Hp → Prop) (μ : St → Hp → Nat) (h0 : Pv σ H)
    (hs : ∀ σ H, Pv σ H → c σ H fun b H1 => if b = true then tb { D with nx := fun σ' H' => Pv σ' H' ∧ μ σ' H' < μ σ H, ct := fun σ' H' => Pv σ' H' ∧ μ σ' H' < μ σ H, bk := D.nx } σ H1 else D.nx σ H1)
    (mono : ∀ σ H Q Q', (∀ b H1, Q b H1 → Q' b H1) → c σ H Q → c σ H Q') : tWhile c tb D σ H := by
  refine ⟨fun m σ H => m = μ σ H ∧ Pv σ H, ⟨_, rfl, h0⟩, ?_⟩
  rintro m σ H ⟨rfl, p⟩
  refine mono σ H _ _ (fun b H1 q => ?_) (hs σ H p)
  cases b with
  | true => exact ⟨_, fun σ' H' ⟨p', l⟩ => ⟨_, l, rfl, p'⟩, q⟩
  | false => exact q
end L2

namespace L2
open PySem PySem.Spec PyProof.Rows

abbrev R2 := V → V → Hp → VK → Prop
/-- a two-place operation on values: f is binaryOp op, inplaceOp op or compareOp op -/
def OpR (X : Cx) (f : Value → Value → Sem Value) (r : R2) : Prop :=
  ∀ (pins : List (Addr × Obj)) (s : Shared) (σ : St) (H : Hp) (x y : V) (v u : Value) (Q : VK), Inv X pins σ H s → RelV x v → RelV y u → r x y H Q →
    wpAny (model X.prog X.w) X.A (f v u) (EP X pins σ Q) X.xe s
/-- a one-place operation -/
def UnR (X : Cx) (f : Value → Sem Value) (r : V → Hp → VK → Prop) : Prop :=
  ∀ (pins : List (Addr × Obj)) (s : Shared) (σ : St) (H : Hp) (x : V) (v : Value) (Q : VK), Inv X pins σ H s → RelV x v → r x H Q →
    wpAny (model X.prog X.w) X.A (f v) (EP X pins σ Q) X.xe s
/-- a call of a value that is known (a builtin, a type) with values -/
def CallR (X : Cx) (f : Value) (r : List V → Hp → VK → Prop) : Prop :=
  ∀ (pins : List (Addr × Obj)) (s : Shared) (σ : St) (H : Hp) (xs : List V) (us : List Value) (Q : VK), Inv X pins σ H s → Vals xs us → r xs H Q →
    wpAny (model X.prog X.w) X.A (call f us) (EP X pins σ Q) X.xe s
def tOp (r : R2) (ta tb : TE) : TE := fun σ H Q => ta σ H fun x H1 => tb σ H1 fun y H2 => r x y H2 Q
def tUn (r : V → Hp → VK → Prop) (ta : TE) : TE := fun σ H Q => ta σ H fun x H1 => r x H1 Q
/-- ints in, under C, and a value out -/
def rI (C : Int → Int → Prop) (g : Int → Int → V) : R2 := fun x y H Q => ∃ i j, x = .int i ∧ y = .int j ∧ C i j ∧ Q (g i j) H
def rI0 (g : Int → Int → V) : R2 := fun x y H Q => ∃ i j, x = .int i ∧ y = .int j ∧ Q (g i j) H
def rU (g : Int → V) : V → Hp → VK → Prop := fun x H Q => ∃ i, x = .int i ∧ Q (g i) H

section
variable {X : Cx} {a b c : Expr} {ta tb tc : TE} {pos : Pos}

theorem binT (ha : PE X a ta) (hb : PE X b tb) {pins : List (Addr × Obj)} {s : Shared} {σ : St} {H : Hp} {R : V → V → Hp → Prop} (I : Inv X pins σ H s)
    (h : ta σ H fun x H1 => tb σ H1 fun y H2 => R x y H2) {Q : Value → Shared → Prop} {f : Value → Value → Sem Value}
    (hf : ∀ v u s2 x y H2, Inv X pins σ H2 s2 → RelV x v → RelV y u → R x y H2 → wpAny (model X.prog X.w) X.A (f v u) Q X.xe s2) :
    wpAny (model X.prog X.w) X.A (eval a X.env) (fun v s₁ => wpAny (model X.prog X.w) X.A (eval b X.env) (fun u s₂ => wpAny (model X.prog X.w) X.A (f v u) Q X.xe s₂) X.xe s₁) X.xe s := by
  refine thn (ha pins s σ H _ I h) fun v s1 ⟨x, H1, I1, r1, q1⟩ => ?_
  refine thn (hb pins s1 σ H1 _ I1 q1) fun u s2 ⟨y, H2, I2, r2, q2⟩ => ?_
  exact hf v u s2 x y H2 I2 r1 r2 q2

theorem pe_op {op : Operator} {r : R2} (ho : OpR X (binaryOp op) r) (ha : PE X a ta) (hb : PE X b tb) : PE X (.BinOp a op b pos) (tOp r ta tb) := by
  intro pins s σ H Q I h
  exact wpAny_BinOp (binT ha hb I h fun v u s2 x y H2 I2 rx ry q => ho pins s2 σ H2 x y v u Q I2 rx ry q)
theorem pe_un {op : UnaryOp} {r : V → Hp → VK → Prop} (ho : UnR X (unaryOp op) r) (ha : PE X a ta) : PE X (.UnaryOp op a pos) (tUn r ta) := by
  intro pins s σ H Q I h
  exact UnaryOp_ (thn (ha pins s σ H _ I h) fun v s1 ⟨x, H1, I1, r1, q1⟩ => ho pins s1 σ H1 x v Q I1 r1 q1)
/-! ### ints -/
theorem opI {f : Value → Value → Sem Value} {C : Int → Int → Prop} {g : Int → Int → Int}
    (rule : ∀ (i j : Int) (t u : Tok) (s : Shared) (Q : Value → Shared → Prop) (E : Value → Shared → Prop), C i j → Q (.int (g i j) s.toks) { s with toks := s.toks + 1 } → wpAny (model X.prog X.w) X.A (f (.int i t) (.int j u)) Q E s) :
    OpR X f (rI C fun i j => .int (g i j)) := by
  intro pins s σ H x y v u Q I rx ry h
  obtain ⟨i, j, rfl, rfl, hc, q⟩ := h
  obtain ⟨t, rfl⟩ := rx
  obtain ⟨t', rfl⟩ := ry
  exact rule i j t t' s _ _ hc ⟨.int (g i j), H, I.tok _, ⟨_, rfl⟩, q⟩
theorem opI0 {f : Value → Value → Sem Value} {g : Int → Int → Int}
    (rule : ∀ (i j : Int) (t u : Tok) (s : Shared) (Q : Value → Shared → Prop) (E : Value → Shared → Prop), Q (.int (g i j) s.toks) { s with toks := s.toks + 1 } → wpAny (model X.prog X.w) X.A (f (.int i t) (.int j u)) Q E s) :
    OpR X f (rI0 fun i j => .int (g i j)) := by
  intro pins s σ H x y v u Q I rx ry h
  obtain ⟨i, j, rfl, rfl, q⟩ := h
  obtain ⟨t, rfl⟩ := rx
  obtain ⟨t', rfl⟩ := ry
  exact rule i j t t' s _ _ ⟨.int (g i j), H, I.tok _, ⟨_, rfl⟩, q⟩
theorem opB0 {f : Value → Value → Sem Value} {g : Int → Int → Bool}
    (rule : ∀ (i j : Int) (t u : Tok) (s : Shared) (Q : Value → Shared → Prop) (E : Value → Shared → Prop), Q (.bool (g i j)) s → wpAny (model X.prog X.w) X.A (f (.int i t) (.int j u)) Q E s) :
    OpR X f (rI0 fun i j => .bl (g i j)) := by
  intro pins s σ H x y v u Q I rx ry h
  obtain ⟨i, j, rfl, rfl, q⟩ := h
  obtain ⟨t, rfl⟩ := rx
  obtain ⟨t', rfl⟩ := ry
  exact rule i j t t' s _ _ ⟨.bl (g i j), H, I, rfl, q⟩

def CPow (i j : Int) : Prop := 0 ≤ j ∧ j ≤ 1000000 ∧ i.natAbs < 2 ^ 64
theorem op_add : OpR X (binaryOp .Add) (rI0 fun i j => .int (i + j)) := opI0 fun _ _ _ _ _ _ _ q => add_int q
theorem op_sub : OpR X (binaryOp .Sub) (rI0 fun i j => .int (i - j)) := opI0 fun _ _ _ _ _ _ _ q => sub_int q
/-- % by a positive divisor of any size -/
theorem op_mod : OpR X (binaryOp .Mod) (rI (fun _ j => 0 < j) fun i j => .int (i % j)) := opI fun i j _ _ _ _ _ hc q => by
  have h1 : (0 : Int) < j := hc
  exact mod_int' (by omega) (by rw [Int.fmod_eq_emod_of_nonneg i (by omega)]; exact q)
theorem op_modN : OpR X (binaryOp .Mod) (rI (fun _ j => j ≠ 0) fun i j => .int (i.fmod j)) := opI fun _ _ _ _ _ _ _ hc q => mod_int' hc q
theorem op_pow : OpR X (binaryOp .Pow) (rI CPow fun i j => .int (i ^ j.toNat)) := opI fun _ _ _ _ _ _ _ hc q => pow_int_small hc.1 hc.2.1 hc.2.2 q
theorem unI {f : Value → Sem Value} {g : Int → Int}
    (rule : ∀ (i : Int) (t : Tok) (s : Shared) (Q : Value → Shared → Prop) (E : Value → Shared → Prop), Q (.int (g i) s.toks) { s with toks := s.toks + 1 } → wpAny (model X.prog X.w) X.A (f (.int i t)) Q E s) :
    UnR X f (rU fun i => .int (g i)) := by
  intro pins s σ H x v Q I rx h
  obtain ⟨i, rfl, q⟩ := h
  obtain ⟨t, rfl⟩ := rx
  exact rule i t s _ _ ⟨.int (g i), H, I.tok _, ⟨_, rfl⟩, q⟩
theorem un_neg : UnR X (unaryOp .USub) (rU fun i => .int (-i)) := unI fun _ _ _ _ _ q => neg_int q
/-! ### bools among ints: n += (a < b) -/
end

/-! ### comparisons -/
/-- the scalars that == tells apart as data does -/
def scal : V → V → Bool
  | .non, .non => true | .non, .int _ => true | .int _, .non => true | .non, .bl _ => true | .bl _, .non => true | .non, .str _ => true | .str _, .non => true
  | .int _, .int _ => true | .bl _, .bl _ => true | .str _, .str _ => true | .byt _, .byt _ => true
  | .int _, .str _ => true | .str _, .int _ => true | .bl _, .str _ => true | .str _, .bl _ => true
  | _, _ => false
def rEq : R2 := fun x y H Q => scal x y = true ∧ Q (.bl (decide (x = y))) H
def rNe : R2 := fun x y H Q => scal x y = true ∧ Q (.bl (!decide (x = y))) H

theorem dec_int {i j : Int} : decide (V.int i = V.int j) = (i == j) := by
  rw [Bool.eq_iff_iff]
  simp
theorem dec_bl {i j : Bool} : decide (V.bl i = V.bl j) = (i == j) := by
  rw [Bool.eq_iff_iff]
  simp
theorem dec_str {i j : Str} : decide (V.str i = V.str j) = (i == j) := by
  rw [Bool.eq_iff_iff]
  simp
theorem dec_byt {i j : Array UInt8} : decide (V.byt i = V.byt j) = (i.toList == j.toList) := by
  rw [Bool.eq_iff_iff]
  cases i
  cases j
  simp

section
variable {X : Cx} {a b c : Expr} {ta tb tc : TE} {pos : Pos}
theorem fin_bl {pins : List (Addr × Obj)} {σ : St} {H : Hp} {s : Shared} {Q : VK} {k k' : Bool} (I : Inv X pins σ H s) (q : Q (.bl k) H) (e : k = k') : EP X pins σ Q (.bool k') s := by
  subst e
  exact ⟨.bl k, H, I, rfl, q⟩
theorem op_eq : OpR X (compareOp .Eq) rEq := by
  intro pins s σ H x y v u Q I rx ry h
  obtain ⟨hs, q⟩ := h
  cases x with
  | non =>
    cases rx
    cases y with
    | non => cases ry; exact PySem.EqNone.eq_none_none (fin_bl I q (by simp))
    | bl j => cases ry; exact PySem.EqNone.eq_none_bool (fin_bl I q (by simp))
    | int j => obtain ⟨t', rfl⟩ := ry; exact PySem.EqNone.eq_none_int (fin_bl I q (by simp))
    | str j => obtain ⟨t', rfl⟩ := ry; exact PySem.EqNone.eq_none_str (fin_bl I q (by simp))
    | _ => exact absurd (show false = true from hs) Bool.false_ne_true
  | bl i =>
    cases rx
    cases y with
    | non => cases ry; exact PySem.EqNone.eq_bool_none (fin_bl I q (by simp))
    | bl j => cases ry; exact eq_bool (fin_bl I q dec_bl)
    | str j => obtain ⟨t', rfl⟩ := ry; exact PySem.EqMixed.eq_bool_str (fin_bl I q (by simp))
    | _ => exact absurd (show false = true from hs) Bool.false_ne_true
  | int i =>
    obtain ⟨t, rfl⟩ := rx
    cases y with
    | non => cases ry; exact PySem.EqNone.eq_int_none (fin_bl I q (by simp))
    | int j => obtain ⟨t', rfl⟩ := ry; exact eq_int (fin_bl I q dec_int)
    | str j => obtain ⟨t', rfl⟩ := ry; exact PySem.EqMixed.eq_int_str (fin_bl I q (by simp))
    | _ => exact absurd (show false = true from hs) Bool.false_ne_true
  | str i =>
    obtain ⟨t, rfl⟩ := rx
    cases y with
    | non => cases ry; exact PySem.EqNone.eq_str_none (fin_bl I q (by simp))
    | bl j => cases ry; exact PySem.EqMixed.eq_str_bool (fin_bl I q (by simp))
    | int j => obtain ⟨t', rfl⟩ := ry; exact PySem.EqMixed.eq_str_int (fin_bl I q (by simp))
    | str j => obtain ⟨t', rfl⟩ := ry; exact eq_str (fin_bl I q dec_str)
    | _ => exact absurd (show false = true from hs) Bool.false_ne_true
  | byt i =>
    obtain ⟨t, rfl⟩ := rx
    cases y with
    | byt j => obtain ⟨t', rfl⟩ := ry; exact PySem.W.eq_bytes (fin_bl I q dec_byt)
    | _ => exact absurd (show false = true from hs) Bool.false_ne_true
  | _ => cases y <;> exact absurd (show false = true from hs) Bool.false_ne_true
theorem op_ne : OpR X (compareOp .NotEq) rNe := by
  intro pins s σ H x y v u Q I rx ry h
  obtain ⟨hs, q⟩ := h
  cases x with
  | non =>
    cases rx
    cases y with
    | non => cases ry; exact PySem.EqNone.ne_none_none (fin_bl I q (by simp))
    | bl j => cases ry; exact PySem.EqNone.ne_none_bool (fin_bl I q (by simp))
    | int j => obtain ⟨t', rfl⟩ := ry; exact PySem.EqNone.ne_none_int (fin_bl I q (by simp))
    | str j => obtain ⟨t', rfl⟩ := ry; exact PySem.EqNone.ne_none_str (fin_bl I q (by simp))
    | _ => exact absurd (show false = true from hs) Bool.false_ne_true
  | bl i =>
    cases rx
    cases y with
    | non => cases ry; exact PySem.EqNone.ne_bool_none (fin_bl I q (by simp))
    | bl j => cases ry; exact ne_bool (fin_bl I q (congrArg not dec_bl))
    | str j => obtain ⟨t', rfl⟩ := ry; exact PySem.EqMixed.ne_bool_str (fin_bl I q (by simp))
    | _ => exact absurd (show false = true from hs) Bool.false_ne_true
  | int i =>
    obtain ⟨t, rfl⟩ := rx
    cases y with
    | non => cases ry; exact PySem.EqNone.ne_int_none (fin_bl I q (by simp))
    | int j => obtain ⟨t', rfl⟩ := ry; exact ne_int (fin_bl I q (congrArg not dec_int))
    | str j => obtain ⟨t', rfl⟩ := ry; exact PySem.EqMixed.ne_int_str (fin_bl I q (by simp))
    | _ => exact absurd (show false = true from hs) Bool.false_ne_true
  | str i =>
    obtain ⟨t, rfl⟩ := rx
    cases y with
    | non => cases ry; exact PySem.EqNone.ne_str_none (fin_bl I q (by simp))
    | bl j => cases ry; exact PySem.EqMixed.ne_str_bool (fin_bl I q (by simp))
    | int j => obtain ⟨t', rfl⟩ := ry; exact PySem.EqMixed.ne_str_int (fin_bl I q (by simp))
    | str j => obtain ⟨t', rfl⟩ := ry; exact ne_str (fin_bl I q (congrArg not dec_str))
    | _ => exact absurd (show false = true from hs) Bool.false_ne_true
  | byt i =>
    obtain ⟨t, rfl⟩ := rx
    cases y with
    | byt j => obtain ⟨t', rfl⟩ := ry; exact PySem.W.ne_bytes (fin_bl I q (congrArg not dec_byt))
    | _ => exact absurd (show false = true from hs) Bool.false_ne_true
  | _ => cases y <;> exact absurd (show false = true from hs) Bool.false_ne_true

theorem op_lt : OpR X (compareOp .Lt) (rI0 fun i j => .bl (decide (i < j))) := opB0 fun _ _ _ _ _ _ _ q => lt_int q
theorem op_le : OpR X (compareOp .LtE) (rI0 fun i j => .bl (decide (i ≤ j))) := opB0 fun _ _ _ _ _ _ _ q => le_int q
theorem op_gt : OpR X (compareOp .Gt) (rI0 fun i j => .bl (decide (j < i))) := opB0 fun _ _ _ _ _ _ _ q => gt_int q
theorem op_ge : OpR X (compareOp .GtE) (rI0 fun i j => .bl (decide (j ≤ i))) := opB0 fun _ _ _ _ _ _ _ q => ge_int q
theorem nomark (b : Expr) {op : CmpOp} (h : op ≠ .In := by decide) (h2 : op ≠ .NotIn := by decide) : behindInMarks op b = false := by
  have e1 : (op == CmpOp.In) = false := by cases op <;> first | rfl | exact absurd rfl h
  have e2 : (op == CmpOp.NotIn) = false := by cases op <;> first | rfl | exact absurd rfl h2
  cases b <;> simp [behindInMarks, e1, e2]
/-- a comparison as a value; hm: nomark b, or (for in, not in) by with_unfolding_all rfl -/
theorem pe_cmpR {op : CmpOp} {r : R2} (ho : OpR X (compareOp op) r) (ha : PE X a ta) (hb : PE X b tb) (hm : behindInMarks op b = false) : PE X (.Compare a [op] [b] pos) (tOp r ta tb) := by
  intro pins s σ H Q I h
  exact wpAny_Compare1 (binT ha hb I h fun v u s2 x y H2 I2 rx ry q => ho pins s2 σ H2 x y v u Q I2 rx ry q) hm
/-- a reading of a value as a test -/
def tTest (t : TE) : TT := fun σ H Q => t σ H fun x H' => ∃ k, x = .bl k ∧ Q k H'
theorem pt_cmpR {op : CmpOp} {r : R2} (ho : OpR X (compareOp op) r) (ha : PE X a ta) (hb : PE X b tb) (hm : behindInMarks op b = false) : PT X (.Compare a [op] [b] pos) (tTest (tOp r ta tb)) := by
  intro pins s σ H Q I h
  refine wpAny_isTrue_Compare1 (thn (ha pins s σ H _ I h) fun v s1 ⟨x, H1, I1, r1, q1⟩ => thn (hb pins s1 σ H1 _ I1 q1) fun u s2 ⟨y, H2, I2, r2, q2⟩ =>
    thn (ho pins s2 σ H2 x y v u _ I2 r1 r2 q2) fun c s3 ⟨z, H3, I3, r3, k, e, q3⟩ => ?_) hm
  subst e
  cases r3
  exact wpAny_truthy_bool ⟨H3, I3, q3⟩
/-! ### truth -/
theorem line63 : (sizeLine : Nat) < 2 ^ 63 := by rw [sizeLine_eq]; decide
/-! ### strs and bytes -/
/-! ### scalar builtins, by CallR -/
theorem vals1 {x : V} {us : List Value} (r : Vals [x] us) : ∃ u, us = [u] ∧ RelV x u := by
  cases r with
  | cons r1 r2 => cases r2; exact ⟨_, rfl, r1⟩
theorem vals2 {x y : V} {us : List Value} (r : Vals [x, y] us) : ∃ u w', us = [u, w'] ∧ RelV x u ∧ RelV y w' := by
  cases r with
  | cons r1 r2 =>
    cases r2 with
    | cons r3 r4 => cases r4; exact ⟨_, _, rfl, r1, r3⟩
theorem call_abs : CallR X (.builtin "abs") (fun xs H Q => ∃ i, xs = [.int i] ∧ Q (.int (if i < 0 then -i else i)) H) := by
  intro pins s σ H xs us Q I r h
  obtain ⟨i, rfl, q⟩ := h
  obtain ⟨u, rfl, t, rfl⟩ := vals1 r
  exact call_abs_int fun u tk => ⟨.int (if i < 0 then -i else i), H, I.tok _, ⟨_, rfl⟩, q⟩
theorem call_max2 (hc : X.calm = true) : CallR X (.builtin "max") (fun xs H Q => ∃ i j, xs = [.int i, .int j] ∧ Q (.int (if j > i then j else i)) H) := by
  intro pins s σ H xs us Q I r h
  obtain ⟨i, j, rfl, q⟩ := h
  obtain ⟨u, w', rfl, ⟨t, rfl⟩, ⟨t', rfl⟩⟩ := vals2 r
  refine max_two_ints (I.ok.hd hc) fun h' tk k => ⟨_, H, I.kept k, ?_, q⟩
  by_cases hj : j > i
  · rw [if_pos hj, if_pos hj]; exact ⟨_, rfl⟩
  · rw [if_neg hj, if_neg hj]; exact ⟨_, rfl⟩
theorem call_int1 : CallR X (.type "int") (fun xs H Q => (∃ i, xs = [.int i] ∧ Q (.int i) H) ∨ ∃ k, xs = [.bl k] ∧ Q (.int (if k then 1 else 0)) H) := by
  intro pins s σ H xs us Q I r h
  rcases h with ⟨i, rfl, q⟩ | ⟨k, rfl, q⟩
  · obtain ⟨u, rfl, t, rfl⟩ := vals1 r
    exact call_int_int ⟨.int i, H, I, ⟨_, rfl⟩, q⟩
  · obtain ⟨u, rfl, r1⟩ := vals1 r
    cases r1
    exact call_int_bool ⟨.int (if k then 1 else 0), H, I.tok _, ⟨_, rfl⟩, q⟩
end
end L2

namespace L2
open PySem PySem.Spec PyProof.Rows

/-! ### an instance, its attributes a map -/
structure ObjM (h : Heap) (x dx C : Addr) (mA : Str → Option Value) : Prop where
  obj : h.get? x = some (PySem.W.instObj C dx)
  ns : h.Ns1 dx mA
  ne : dx ≠ x

theorem lookIn_ns {h : Heap} {dx : Addr} {mA : Str → Option Value} (n : h.Ns1 dx mA) : ∃ od, h.get? dx = some od ∧ ∀ name, PySem.W.lookIn name od = some (mA name) := by
  obtain ⟨o, es, ep, ho, hd, hk, _, hm⟩ := n
  refine ⟨o, ho, fun name => ?_⟩
  have e := hm name
  unfold nsFind findBy at e
  rw [← Array.find?_toList] at e
  unfold PySem.W.lookIn
  rw [hd]
  dsimp only
  split
  · rename_i y q
    rw [q] at e
    exact congrArg some e
  · rename_i q
    rw [q] at e
    have a : es.toList.any (·.refKey) = false := by
      rw [List.any_eq_false]
      intro y hy
      obtain ⟨z, t, hkey⟩ := hk y (Array.mem_toList_iff.mp hy)
      simp [DictEntry.refKey, hkey]
    have a' : ¬ es.toList.any (·.refKey) = true := by rw [a]; exact Bool.false_ne_true
    rw [if_neg a']
    exact congrArg some e

theorem ObjM.look {h : Heap} {x dx C : Addr} {mA : Str → Option Value} (I : ObjM h x dx C mA) : ∃ od, PySem.W.InstAt h x (PySem.W.instObj C dx) C (some od) ∧ ∀ name, PySem.W.lookIn name od = some (mA name) :=
  let ⟨od, ho, hl⟩ := lookIn_ns I.ns
  ⟨od, ⟨I.obj, rfl, rfl, ho⟩, hl⟩

section
variable {prog : Program} {w : World} {A : Around} {E : Value → Shared → Prop} {s : Shared} {K : PySem.W.Frag} {x dx C f : Addr} {mA : Str → Option Value} {name : Str} {v : Value}

theorem get_map {expr : Bool} {Q : Value → Shared → Prop} (X : K.In s.heap) (I : ObjM s.heap x dx C mA) (hg : PySem.W.plainGet K C name = true) (hh : PySem.W.hasDictIn K C = true)
    (ha : PySem.W.findIn K (.ref C) name = some none) (hv : mA name = some v) (hv' : PySem.W.handedIn v = true) (h : Q v { s with toks := s.toks + 1 }) :
    wpAny (model prog w) A (getAttr (.ref x) name expr) Q E s := by
  obtain ⟨od, J, hl⟩ := I.look
  exact PySem.W.get_value X J (PySem.W.plainGet_of hg).1 (PySem.W.findObj_own hh ha rfl (by rw [hl, hv])) hv' h

theorem get_meth {pl : Sem Bool} {Q : Value × List Value → Shared → Prop} (X : K.In s.heap) (I : ObjM s.heap x dx C mA) (hg : PySem.W.plainGet K C name = true)
    (hf : PySem.W.findIn K (.ref C) name = some (some (.ref f))) (ht : PySem.W.isFn K (.ref f) = true) (hv : mA name = none) (h : Q (.ref f, [.ref x]) s) :
    wpAny (model prog w) A (getMethod (.ref x) name pl) Q E s := by
  obtain ⟨od, J, hl⟩ := I.look
  exact PySem.W.method_fn X J (PySem.W.plainGet_of hg).1 (PySem.W.plainGet_of hg).2 hf (beq_iff_eq.mp ht) (by show (PySem.W.lookIn name od).map (·.isSome) = some false; rw [hl, hv]; rfl) h

theorem set_map {ns : List Str} {Q : Unit → Shared → Prop} (X : K.In s.heap) (I : ObjM s.heap x dx C mA)
    (hs : PySem.W.findIn K (.ref C) "__setattr__" = some (some (.builtin "object.__setattr__"))) (hp : PySem.W.plainOver K C = true) (ht : PySem.W.takerIn K C name = some none) (hh : PySem.W.hasDictIn K C = true)
    (hw : PySem.Within mA ns) (hsz : ns.length ≤ sizeLine)
    (h : ∀ h', ObjM h' x dx C (fun y => if y = name then some v else mA y) → Heap.SameBut dx s.heap h' → Q () { s with heap := h', toks := s.toks + 2 }) :
    wpAny (model prog w) A (setAttr (.ref x) name v) Q E s := by
  obtain ⟨od, J, hl⟩ := I.look
  refine PySem.W.set_plain X J hs (PySem.W.osa_open (s := { s with toks := s.toks + 1 }) (r := none) X J hp ht fun b => ?_)
  obtain ⟨cd, hc, hd'⟩ := PySem.W.any_some hh
  have hx : s.heap.get? x = some ⟨.ref C, some dx, .plain, #[]⟩ := I.obj
  refine wpAny_bind (wpAny_pure (wpAny_bind (wpAny_bind (wpAny_loadPart hx (wpAny_bind (PySem.W.Looks.here (s := { s with toks := s.toks + 1 }) (PySem.W.looks_clsIn X hc) ?_))))))
  rw [hd']
  refine wpAny_pure (a := some dx) (wpAny_bind (wpAny_pure (wpAny_bind ?_)))
  refine wpAny_nsSet1 (s := { s with toks := s.toks + 1 }) I.ns fun h' hn2 hs2 => ?_
  obtain ⟨oD, esD, epD, hoD, hdD, hcD⟩ := hn2.count (PySem.Within.cons name v hw)
  refine wpAny_bind (wpAny_lookBehind hoD (by rw [hdD]; exact pastItsLine_dict (Nat.le_trans hcD (by rw [List.length_cons]; omega))) ?_)
  exact wpAny_pure (h _ ⟨(hs2.2 _ (Ne.symm I.ne)).trans I.obj, hn2, I.ne⟩ hs2)

/-- C(..): the dict at the heap's end, the instance behind it; then its __init__ -/
theorem make_map {R : Result → Shared → Prop} {vs : List Value} {kw : List (Str × Value)} (X : K.In s.heap) (hm : PySem.W.makesIn K C = true)
    (hi : PySem.W.findIn K (.ref C) "__init__" = some (some (.ref f))) (hf : PySem.W.typeIn K (.ref f) = some (.type "function"))
    (h : codeAny (model prog w) (A.under (.builtin "type.__call__" ⟨.ref C :: vs, kw⟩)) (.call (.ref f) ⟨.ref (s.heap.objs.size + 1) :: vs, kw⟩) (PySem.W.InitBack (s.heap.objs.size + 1) R)
      { s with heap := (s.heap.push PySem.W.emptyDict).push (PySem.W.instObj C s.heap.objs.size) }) :
    codeAny (model prog w) A (.call (.ref C) ⟨vs, kw⟩) R s := by
  obtain ⟨hh, g, d, t, os⟩ := s
  exact PySem.W.make_core (PySem.W.makes_of X hm) (PySem.W.looks_findIn X hi) (fun self => PySem.W.bind_fn X self hf) (.inl rfl) h
end

/-! ### the attributes as a list of pairs -/
def putF (f : Str) (v : V) : List (Str × V) → List (Str × V)
  | [] => [(f, v)]
  | (g, x) :: r => if g = f then (g, v) :: r else (g, x) :: putF f v r
theorem lookup_putF (f g : Str) (v : V) : ∀ fs : List (Str × V), (putF f v fs).lookup g = if g = f then some v else fs.lookup g
  | [] => by
    show List.lookup g [(f, v)] = _
    by_cases h : g = f
    · have hb : (g == f) = true := beq_iff_eq.mpr h
      simp only [List.lookup, hb, if_pos h]
    · have hb : (g == f) = false := beq_eq_false_iff_ne.mpr h
      simp only [List.lookup, hb, if_neg h]
  | (k, x) :: r => by
    have ih := lookup_putF f g v r
    rw [show putF f v ((k, x) :: r) = (if k = f then (k, v) :: r else (k, x) :: putF f v r) from rfl]
    by_cases hk : k = f
    · rw [if_pos hk]
      by_cases h : g = k
      · have hb : (g == k) = true := beq_iff_eq.mpr h
        simp only [List.lookup, hb, if_pos (h.trans hk)]
      · have hb : (g == k) = false := beq_eq_false_iff_ne.mpr h
        simp only [List.lookup, hb, if_neg (fun e : g = f => h (e.trans hk.symm))]
    · rw [if_neg hk]
      by_cases h : g = k
      · have hb : (g == k) = true := beq_iff_eq.mpr h
        simp only [List.lookup, hb, if_neg (fun e : g = f => hk (h.symm.trans e))]
      · have hb : (g == k) = false := beq_eq_false_iff_ne.mpr h
        simp only [List.lookup, hb]
        exact ih
theorem keys_putF (f : Str) (v : V) : ∀ fs : List (Str × V), f ∈ (putF f v fs).map (·.1) ∧ ∀ g, g ∈ fs.map (·.1) → g ∈ (putF f v fs).map (·.1)
  | [] => ⟨by simp [putF], fun g h => by simp at h⟩
  | (k, x) :: r => by
    obtain ⟨i1, i2⟩ := keys_putF f v r
    rw [show putF f v ((k, x) :: r) = (if k = f then (k, v) :: r else (k, x) :: putF f v r) from rfl]
    by_cases hk : k = f
    · rw [if_pos hk]
      subst hk
      exact ⟨by simp, fun g h => by simpa using h⟩
    · rw [if_neg hk]
      refine ⟨?_, fun g h => ?_⟩
      · rw [List.map_cons]
        exact List.mem_cons_of_mem _ i1
      · rw [List.map_cons] at h ⊢
        rcases List.mem_cons.mp h with e | e
        · exact List.mem_cons.mpr (.inl e)
        · exact List.mem_cons_of_mem _ (i2 g e)
theorem length_putF (f : Str) (v : V) : ∀ fs : List (Str × V), (putF f v fs).length ≤ fs.length + 1
  | [] => by simp [putF]
  | (k, x) :: r => by
    have ih := length_putF f v r
    rw [show putF f v ((k, x) :: r) = (if k = f then (k, v) :: r else (k, x) :: putF f v r) from rfl]
    by_cases hk : k = f
    · rw [if_pos hk, List.length_cons, List.length_cons]; omega
    · rw [if_neg hk, List.length_cons, List.length_cons]; omega

theorem RelO.some_of {v : V} {o : Option Value} (r : RelO (some v) o) : ∃ u, o = some u ∧ RelV v u := by
  cases o with
  | none => exact (show False from r).elim
  | some u => exact ⟨u, rfl, r⟩
theorem RelO.none_of {o : Option Value} (r : RelO none o) : o = none := by
  cases o with
  | none => rfl
  | some u => exact (show False from r).elim
theorem handed_of {v : V} {u : Value} (r : RelV v u) : PySem.W.handedIn u = true := by
  cases v with
  | non => cases (show u = Value.none from r); rfl
  | bl b => cases (show u = Value.bool b from r); rfl
  | int i => obtain ⟨t, e⟩ := (show ∃ t, u = Value.int i t from r); cases e; rfl
  | str x => obtain ⟨t, e⟩ := (show ∃ t, u = Value.str x t from r); cases e; rfl
  | byt b => obtain ⟨t, e⟩ := (show ∃ t, u = Value.bytes b t from r); cases e; rfl
  | flt b => obtain ⟨t, e⟩ := (show ∃ t, u = Value.float b t from r); cases e; rfl
  | ref a => cases (show u = Value.ref a from r); rfl
  | ty n => cases (show u = Value.type n from r); rfl

section
variable {P : Program} {w : World} {H H' : Hp} {h h' : Heap} {a C dx : Addr} {fs fs' : List (Str × V)}
theorem ins_get (hok : HOk P w H h) (e : H a = some (.ins C dx fs)) : ∃ mA, ObjM h a dx C mA ∧ (∀ f, RelO (fs.lookup f) (mA f)) ∧ PySem.Within mA (fs.map (·.1)) ∧ fs.length ≤ 1000 ∧ H dx = some (.own a) := by
  obtain ⟨d, z, ne, ob, mA, n, r, q⟩ := (show ObjOk P w H h a (.ins C dx fs) from hok a _ e)
  exact ⟨mA, ⟨ob, n, ne⟩, r, q, z, d⟩
end

/-! ### what of the text a class must have -/
structure Cls (K : PySem.W.Frag) (C : Addr) : Prop where
  pg : PySem.W.plainGet K C Str.empty = true
  hd : PySem.W.hasDictIn K C = true
  po : PySem.W.plainOver K C = true
  sa : PySem.W.findIn K (.ref C) "__setattr__" = some (some (.builtin "object.__setattr__"))
theorem Cls.get {K : PySem.W.Frag} {C : Addr} (c : Cls K C) (f : Str) : PySem.W.plainGet K C f = true := c.pg
/-- no class of it has the name -/
def NoAttr (K : PySem.W.Frag) (C : Addr) (f : Str) : Prop := PySem.W.findIn K (.ref C) f = some none
theorem NoAttr.taker {K : PySem.W.Frag} {C : Addr} {f : Str} (n : NoAttr K C f) : PySem.W.takerIn K C f = some none := by
  unfold PySem.W.takerIn
  rw [show PySem.W.findIn K (.ref C) f = some none from n]
  rfl
/-- a method: a plain def of the class or of one above it -/
structure Meth (K : PySem.W.Frag) (C : Addr) (m : Str) (f : Addr) : Prop where
  at_ : PySem.W.findIn K (.ref C) m = some (some (.ref f))
  fn : PySem.W.isFn K (.ref f) = true
  kp : PySem.W.keepIn K (.ref f) = true

section
variable {X : Cx} {pins : List (Addr × Obj)} {σ : St} {H : Hp} {s : Shared} {a C dx : Addr} {fs : List (Str × V)} {f : Str} {v : V} {A : Around} {E : Value → Shared → Prop}

theorem getattr_ok {b : Bool} {Q : Value → Shared → Prop} (I : Inv X pins σ H s) (e : H a = some (.ins C dx fs)) (c : Cls X.K C) (n : NoAttr X.K C f) (l : fs.lookup f = some v)
    (h : ∀ u s', Inv X pins σ H s' → RelV v u → Q u s') : wpAny (model X.prog X.w) A (getAttr (.ref a) f b) Q E s := by
  obtain ⟨mA, O, r, _, _, _⟩ := ins_get I.hok e
  obtain ⟨u, hu, ru⟩ := RelO.some_of (v := v) (o := mA f) (by rw [← l]; exact r f)
  exact get_map I.kIn O (c.get f) c.hd n hu (handed_of ru) (h u _ (I.tok _) ru)

theorem getmeth_ok {m : Str} {g : Addr} {pl : Sem Bool} {Q : Value × List Value → Shared → Prop} (I : Inv X pins σ H s) (e : H a = some (.ins C dx fs)) (c : Cls X.K C) (k : Meth X.K C m g) (l : fs.lookup m = none)
    (h : Q (.ref g, [.ref a]) s) : wpAny (model X.prog X.w) A (getMethod (.ref a) m pl) Q E s := by
  obtain ⟨mA, O, r, _, _, _⟩ := ins_get I.hok e
  have hn : mA m = none := RelO.none_of (by rw [← l]; exact r m)
  exact get_meth I.kIn O (c.get m) k.at_ k.fn hn h

theorem setattr_ok {y : V} {u : Value} {Q : Unit → Shared → Prop} (I : Inv X pins σ H s) (e : H a = some (.ins C dx fs)) (c : Cls X.K C) (n : NoAttr X.K C f) (hl : fs.length < 1000) (ry : RelV y u)
    (h : ∀ s', Inv X pins σ (upd H a (.ins C dx (putF f y fs))) s' → Q () s') : wpAny (model X.prog X.w) A (setAttr (.ref a) f u) Q E s := by
  obtain ⟨mA, O, r, wi, _, ho⟩ := ins_get I.hok e
  have hz : (fs.map (·.1)).length ≤ sizeLine := by rw [List.length_map, sizeLine_eq]; omega
  refine set_map I.kIn O c.sa c.po n.taker c.hd wi hz fun h' O' sb => h _ ?_
  have hd : ∃ o, h'.get? dx = some o := let ⟨o, _, _, e', _⟩ := O'.ns; ⟨o, e'⟩
  refine I.write (x := a) (e := dx) (by rw [e]; exact True.intro) (.inr ho) (fun b q hb z => (sb.2 b hb).trans z) hd ?_
  refine ⟨by rw [upd_ne O.ne]; exact ho, ?_, O.ne, O'.obj, _, O'.ns, fun g => ?_, fun g hg => ?_⟩
  · have := length_putF f y fs; omega
  · show RelO ((putF f y fs).lookup g) (if g = f then some u else mA g)
    rw [lookup_putF]
    by_cases q : g = f
    · rw [if_pos q, if_pos q]; exact ry
    · rw [if_neg q, if_neg q]; exact r g
  · by_cases q : g = f
    · rw [q]; exact (keys_putF f y fs).1
    · refine (keys_putF f y fs).2 g (wi g fun z => hg ?_)
      show (if g = f then some u else mA g) = none
      rw [if_neg q]; exact z

/-- a new instance, tracked, without attributes -/
theorem Inv.made (I : Inv X pins σ H s) : Inv X pins σ (upd (upd H s.heap.objs.size (.own (s.heap.objs.size + 1))) (s.heap.objs.size + 1) (.ins C s.heap.objs.size []))
    { s with heap := (s.heap.push PySem.W.emptyDict).push (PySem.W.instObj C s.heap.objs.size) } := by
  have e1 : (s.heap.push PySem.W.emptyDict).get? s.heap.objs.size = some PySem.W.emptyDict := Heap.get?_push_size s.heap rfl
  have e2 : ((s.heap.push PySem.W.emptyDict).push (PySem.W.instObj C s.heap.objs.size)).get? (s.heap.objs.size + 1) = some (PySem.W.instObj C s.heap.objs.size) := by
    have := Heap.get?_push_size (s.heap.push PySem.W.emptyDict) (o := PySem.W.instObj C s.heap.objs.size) rfl
    rwa [Heap.size_push] at this
  have e3 : (s.heap.push PySem.W.emptyDict).Ns s.heap.objs.size (fun _ => none) := ⟨PySem.W.emptyDict, #[], _, e1, rfl, (fun e he => absurd he (by simp)), fun _ => rfl⟩
  have I1 := I.laid (a := s.heap.objs.size) (o := .own (s.heap.objs.size + 1)) (h' := s.heap.push PySem.W.emptyDict) (t' := s.toks) (fun b u q => Heap.get?_push_of_some _ q) (Nat.le_refl _) ⟨_, e1⟩
  refine I1.laid (a := s.heap.objs.size + 1) (o := .ins C s.heap.objs.size []) (t' := s.toks) (fun b u q => Heap.get?_push_of_some _ q) (Nat.le_of_eq (Heap.size_push _ _)) ?_
  have ne : s.heap.objs.size ≠ s.heap.objs.size + 1 := Nat.ne_of_lt (Nat.lt_succ_self _)
  refine ⟨by rw [upd_ne ne, upd_same], Nat.zero_le _, ne, e2, fun _ => none, (Heap.Ns1.of_empty e3).at fun o q => Heap.get?_push_of_some _ q, fun _ => True.intro, fun y hy => absurd rfl hy⟩

/-- e.f where nothing but the object is asked: through attributeBase (super) and the last hold -/
theorem attr_of {prog : Program} {w : World} {env : Env} {e : Expr} {f : Str} {pos : Pos} {s : Shared} {Q : Value → Shared → Prop} (hb : attributeBase e f env (eval e env) = eval e env)
    (h : wpAny (model prog w) A (eval e env) (fun o s₁ => wpAny (model prog w) A (getAttr o f true) Q E s₁) E s) : wpAny (model prog w) A (eval (.Attribute e f pos) env) Q E s :=
  Attribute_any_ h (by rw [arm_eval_Attribute, hb])
end

/-! ### readings and rules -/
/-- e.f, an attribute of the instance -/
def tFld (K : PySem.W.Frag) (ta : TE) (f : Str) : TE := fun σ H Q => ta σ H fun x H1 => ∃ a C dx fs v, x = .ref a ∧ H1 a = some (.ins C dx fs) ∧ Cls K C ∧ NoAttr K C f ∧ fs.lookup f = some v ∧ Q v H1
/-- e.f = value -/
def sFld (K : PySem.W.Frag) (ta tv : TE) (f : Str) : TS := fun D σ H => tv σ H fun y H1 => ta σ H1 fun x H2 => ∃ a C dx fs, x = .ref a ∧ H2 a = some (.ins C dx fs) ∧ Cls K C ∧ NoAttr K C f ∧ fs.length < 1000 ∧
  D.nx σ (upd H2 a (.ins C dx (putF f y fs)))
section
variable {X : Cx} {o e value : Expr} {f : Str} {pos pos' tpos : Pos} {ta tv : TE}
theorem pe_fld (he : PE X e ta) (hb : attributeBase e f X.env (eval e X.env) = eval e X.env) : PE X (.Attribute e f pos) (tFld X.K ta f) := by
  intro pins s σ H Q I h
  refine attr_of hb (thn (he pins s σ H _ I h) fun u s1 ⟨x, H1, I1, rx, a, C, dx, fs, v, ex, ea, c, n, l, q⟩ => ?_)
  subst ex
  obtain rfl : u = Value.ref a := rx
  exact getattr_ok I1 ea c n l fun u' s2 I2 ru => ⟨v, H1, I2, ru, q⟩
theorem ps_fld (ha : PE X o ta) (hv : PE X value tv) (hs : swapsWith value (some (.Attribute o f pos')) pos.line X.env = pure false) : PS X (.Assign [.Attribute o f pos'] value pos) (sFld X.K ta tv f) := by
  intro pins s σ H D I h
  refine plainObj_wpAny_Assign_Attribute (thn (hv pins s σ H _ I h) fun u s1 ⟨y, H1, I1, ry, q⟩ => thn (ha pins s1 σ H1 _ I1 q) fun ov s2 ⟨x, H2, I2, rx, a, C, dx, fs, ex, ea, c, n, l, q2⟩ => ?_) hs
  subst ex
  obtain rfl : ov = Value.ref a := rx
  exact setattr_ok I2 ea c n l ry fun s3 I3 => ⟨σ, _, I3, q2⟩
end

/-! ### isinstance -/
section
variable {X : Cx} {pins : List (Addr × Obj)} {σ : St} {H : Hp} {s : Shared} {A : Around} {E : Value → Shared → Prop} {Q : Value → Shared → Prop} {c : Value} {b : Bool}
/-- the type of a value, as the fragment's deciders take it; for an instance its class -/
inductive TyOf (K : PySem.W.Frag) (H : Hp) : V → Value → Prop where
  | non : TyOf K H .non (.type "NoneType")
  | bl (x : Bool) : TyOf K H (.bl x) (.type "bool")
  | int (i : Int) : TyOf K H (.int i) (.type "int")
  | str (x : Str) : TyOf K H (.str x) (.type "str")
  | flt (x : UInt64) : TyOf K H (.flt x) (.type "float")
  | lst {a : Addr} {xs : List V} (e : H a = some (.lst xs)) : TyOf K H (.ref a) (.type "list")
  | frz {a : Addr} {o : Obj} {xs : List V} (e : H a = some (.frz o (.lst xs))) : TyOf K H (.ref a) (.type "list")
  | tup {a : Addr} {xs : List V} (e : H a = some (.tup xs)) : TyOf K H (.ref a) (.type "tuple")
  | dK {a : Addr} {kvs : List (Key × V)} (e : H a = some (.dK kvs)) : TyOf K H (.ref a) (.type "dict")
  | dT {a : Addr} {kvs : List (List Key × V)} (e : H a = some (.dT kvs)) : TyOf K H (.ref a) (.type "dict")
  | ins {a C dx : Addr} {fs : List (Str × V)} (e : H a = some (.ins C dx fs)) (cl : Cls K C) (ha : PySem.W.findIn K (.ref C) "__class__" = some (some (.builtin "object.__class__")))
      (hn : PySem.W.specialIn K (.builtin "object.__class__") "__get__" = some (some (.builtin "getset_descriptor.__get__"))) (htk : PySem.W.takesIn K (.builtin "object.__class__") = some true)
      (hm : PySem.W.mroIn K C (.type "object") = some true) : TyOf K H (.ref a) (.ref C)
/-- isinstance(x, c) for one class c, a built-in or an own one: kitOne's answer -/
theorem isinst_ok {x : V} {u t : Value} (I : Inv X pins σ H s) (rx : RelV x u) (ty : TyOf X.K H x t) (e : PySem.W.kitOne X.K t c = some b) (h : ∀ tk, Q (.bool b) { s with toks := tk }) :
    wpAny (model X.prog X.w) A (call (.builtin "isinstance") [u, c]) Q E s := by
  cases ty with
  | non => cases (show u = Value.none from rx); exact PySem.W.kia_one PySem.W.kitx_none I.kIn True.intro e (fun z => nomatch z) h
  | bl y => cases (show u = Value.bool y from rx); exact PySem.W.kia_one PySem.W.kitx_bool I.kIn True.intro e (fun z => nomatch z) h
  | int i => obtain ⟨t, q⟩ := (show ∃ t, u = Value.int i t from rx); cases q; exact PySem.W.kia_one PySem.W.kitx_int I.kIn True.intro e (fun z => nomatch z) h
  | str y => obtain ⟨t, q⟩ := (show ∃ t, u = Value.str y t from rx); cases q; exact PySem.W.kia_one PySem.W.kitx_str I.kIn True.intro e (fun z => nomatch z) h
  | flt y => obtain ⟨t, q⟩ := (show ∃ t, u = Value.float y t from rx); cases q; exact PySem.W.kia_one PySem.W.kitx_float I.kIn True.intro e (fun z => nomatch z) h
  | @lst a xs ea =>
    cases (show u = Value.ref a from rx)
    obtain ⟨_, _, n, _, h1⟩ := (show ObjOk X.prog X.w H s.heap a (.lst xs) from I.hok a _ ea)
    exact PySem.W.kia_one PySem.W.kitx_list I.kIn ⟨_, h1, rfl⟩ e (fun z => nomatch z) h
  | @frz a ob xs ea =>
    cases (show u = Value.ref a from rx)
    obtain ⟨_, _, _, n, _, h1⟩ := (show ObjOk X.prog X.w H s.heap a (.frz ob (.lst xs)) from I.hok a _ ea)
    exact PySem.W.kia_one PySem.W.kitx_list I.kIn ⟨_, h1, rfl⟩ e (fun z => nomatch z) h
  | @tup a xs ea =>
    cases (show u = Value.ref a from rx)
    obtain ⟨_, _, _, p⟩ := (show ObjOk X.prog X.w H s.heap a (.tup xs) from I.hok a _ ea)
    obtain ⟨o, h1, h2, _⟩ := p
    exact PySem.W.kia_one PySem.W.kitx_tuple I.kIn ⟨o, h1, h2⟩ e (fun z => nomatch z) h
  | @dK a kvs ea =>
    cases (show u = Value.ref a from rx)
    obtain ⟨_, _, vs, _, p⟩ := (show ObjOk X.prog X.w H s.heap a (.dK kvs) from I.hok a _ ea)
    obtain ⟨o, es, ep, h1, h2, _⟩ := p
    exact PySem.W.kia_one PySem.W.kitx_dict I.kIn ⟨o, h1, h2.1⟩ e (fun z => nomatch z) h
  | @dT a kvs ea =>
    cases (show u = Value.ref a from rx)
    obtain ⟨_, _, xs, _, o, es, ep, h1, h2, _⟩ := (show ObjOk X.prog X.w H s.heap a (.dT kvs) from I.hok a _ ea)
    exact PySem.W.kia_one PySem.W.kitx_dict I.kIn ⟨o, h1, h2.1⟩ e (fun z => nomatch z) h
  | @ins a C dx fs ea cl ha hn htk hm =>
    cases (show u = Value.ref a from rx)
    obtain ⟨mA, O, _⟩ := ins_get I.hok ea
    obtain ⟨od, J, _⟩ := O.look
    exact PySem.W.kia_one (PySem.W.kitx_own (cl.get _) cl.hd ha hn htk hm) I.kIn J e (fun z => nomatch z) h
end
end L2

namespace L2
open PySem PySem.Spec PyProof.Rows

/-! ### room -/
structure Room (k : Nat) (A : Around) : Prop where
  hd : A.handled = none
  dp : A.depth + 3 * k + 5 < recursionLimit
  un : A.units + 16 * k + 200 < cLine
theorem Room.mono {j k : Nat} {A : Around} (r : Room k A) (h : j ≤ k) : Room j A := ⟨r.hd, by have := r.dp; omega, by have := r.un; omega⟩
theorem Room.deeper {k : Nat} {A : Around} (r : Room (k + 1) A) (env : Env) : Room k (A.deeper env) :=
  ⟨r.hd, by have := r.dp; show A.depth + 1 + 3 * k + 5 < _; omega, by have := r.un; show A.units + 3 + 16 * k + 200 < _; omega⟩
theorem make_depth {A : Around} {C : Addr} {us : List Value} {kw : List (Str × Value)} : (A.under (.builtin "type.__call__" ⟨.ref C :: us, kw⟩)).depth = A.depth + 1 := by
  first | rfl | simp [Around.under, Code.weight, Code.isCreation, Code.isGuard, Code.isCaller, Code.frames, Code.isFrame, guardIds]
theorem make_units {A : Around} {C : Addr} {us : List Value} {kw : List (Str × Value)} : (A.under (.builtin "type.__call__" ⟨.ref C :: us, kw⟩)).units = A.units + 1 := by
  first | rfl | simp [Around.under, Code.cUnits, Code.frames, Code.isFrame]
theorem Room.make {k : Nat} {A : Around} (r : Room (k + 1) A) (C : Addr) (us : List Value) (kw : List (Str × Value)) : Room k (A.under (.builtin "type.__call__" ⟨.ref C :: us, kw⟩)) :=
  ⟨r.hd, by have := r.dp; rw [make_depth]; omega, by have := r.un; rw [make_units]; omega⟩
theorem Room.depth {k : Nat} {A : Around} (r : Room k A) : A.depth < recursionLimit := by have := r.dp; omega
theorem Room.units {k : Nat} {A : Around} (r : Room k A) : A.units + 64 < cLine := by have := r.un; omega
/-! ### argument lists and displays -/
def tNil : TA := fun _ H Q => Q [] H
def tCons (ta : TE) (tr : TA) : TA := fun σ H Q => ta σ H fun x H1 => tr σ H1 fun xs H2 => Q (x :: xs) H2
section
variable {X : Cx} {e : Expr} {es : List Expr} {te : TE} {t : TA} {pos : Pos}
theorem pa_nil : PA X [] tNil := fun _ _ _ _ H Q I h => Calls.spliced_nil ⟨[], H, I, .nil, h⟩
theorem pa_cons (ha : PE X e te) (hr : PA X es t) (hs : starEach (e :: es) X.env = (false, eval e X.env) :: starEach es X.env := by rfl) : PA X (e :: es) (tCons te t) := by
  intro pos pins s σ H Q I h
  rw [hs]
  show wpAny _ _ (spliced ((false, eval e X.env) :: backTo pos (starEach es X.env))) _ _ s
  refine Calls.spliced_cons (thn (ha pins s σ H _ I h) fun u s1 ⟨x, H1, I1, r1, q1⟩ => ?_)
  exact thn (hr pos pins s1 σ H1 _ I1 q1) fun us s2 ⟨xs, H2, I2, r2, q2⟩ => ⟨x :: xs, H2, I2, .cons r1 r2, q2⟩

/-- a tuple, a list of written items -/
def tTup (t : TA) : TE := fun σ H Q => t σ H fun xs H1 => xs.length ≤ sizeLine ∧ ∀ p, H1 p = none → Q (.ref p) (upd H1 p (.tup xs))
def tLst (t : TA) : TE := fun σ H Q => t σ H fun xs H1 => xs.length ≤ sizeLine ∧ ∀ p, H1 p = none → Q (.ref p) (upd H1 p (.lst xs))
theorem pe_tup {x1} (h : PA X es t) : PE X (.Tuple es x1 pos) (tTup t) := by
  intro pins s σ H Q I hq
  refine wpAny_Tuple_spliced (thn (h pos pins s σ H _ I hq) fun us s1 ⟨xs, H1, I1, r, z, q⟩ => ⟨by rw [← r.length]; exact z, ?_⟩)
  have hf : H1 s1.heap.objs.size = none := I1.hok.fresh (Nat.le_refl _)
  refine ⟨.ref s1.heap.objs.size, upd H1 s1.heap.objs.size (.tup xs), I1.laid (t' := s1.toks) (fun b u e => Heap.get?_push_of_some _ e) (Nat.le_refl _) ?_, rfl, q _ hf⟩
  exact ⟨z, us, r, ⟨_, Heap.get?_push_size _ rfl, rfl, _, rfl⟩⟩
theorem pe_lst (h : PA X es t) : PE X (.List es pos) (tLst t) := by
  intro pins s σ H Q I hq
  refine wpAny_List_spliced (thn (h pos pins s σ H _ I hq) fun us s1 ⟨xs, H1, I1, r, z, q⟩ => ⟨by rw [← r.length]; exact z, ?_⟩)
  have hf : H1 s1.heap.objs.size = none := I1.hok.fresh (Nat.le_refl _)
  refine ⟨.ref s1.heap.objs.size, upd H1 s1.heap.objs.size (.lst xs), I1.laid (t' := s1.toks) (fun b u e => Heap.get?_push_of_some _ e) (Nat.le_refl _) ?_, rfl, q _ hf⟩
  exact ⟨z, us, 0, r, Heap.get?_push_size _ rfl⟩
end

/-! ### what a def promises -/
/-- a def's promise: the bound arguments in the parameters' order, the heap, the wanted end, the wanted exception -/
abbrev Sp := List V → Hp → VK → XK → Prop
/-- how an exception lies behind a call (file 08 gives it): the callers' frames, abstract heap and state ahead of the call, the wish, the exception, the state -/
abbrev CXT := List Env → Hp → Shared → XK → Value → Shared → Prop

/-- the state at a call -/
structure Env0 (P : Program) (w : World) (K : PySem.W.Frag) (mg : Str → Option Value) (base : Heap) (A : Around) (outer : List Env) (s : Shared) (H : Hp) : Prop where
  frames : A.frames = some outer
  mod : Mod K mg base
  bs : ∀ b o, base.get? b = some o → s.heap.get? b = some o ∧ H b = none
  bsz : base.objs.size ≤ s.heap.objs.size
  funs : s.heap.FunFrames base outer
  frf : ∀ b ∈ frs outer, H b = none
  hok : HOk P w H s.heap
  bare : AllBare s.gens
/-- a call's end -/
def CE (outer : List Env) (P : Program) (w : World) (H : Hp) (s : Shared) (Q : VK) (u : Value) (s' : Shared) : Prop :=
  ∃ v H', s'.os = s.os ∧ AllBare s'.gens ∧ Un (frs outer) [] H H' s.heap s'.heap ∧ HOk P w H' s'.heap ∧ RelV v u ∧ Q v H'
def CR (CX : CXT) (outer : List Env) (P : Program) (w : World) (H : Hp) (s : Shared) (Q : VK) (E : XK) (r : Result) (s' : Shared) : Prop :=
  match r with
  | .ok (.ret u) => CE outer P w H s Q u s'
  | .ok _ => False
  | .error e => CX outer H s E e s'
structure FnOk (P : Program) (w : World) (K : PySem.W.Frag) (mg : Str → Option Value) (base : Heap) (CX : CXT) (k : Nat) (f : Addr) (fd : FuncData) (ps : List Str) (sp : Sp) : Prop where
  len : ∀ vs H Q E, sp vs H Q E → vs.length = ps.length
  run : ∀ (A : Around) (outer : List Env) (s : Shared) (H : Hp) (args : Args) (us : List Value) (vs : List V) (Q : VK) (E : XK), Room k A → Env0 P w K mg base A outer s H → BindsTo s fd args (ps.zip us) → Vals vs us → sp vs H Q E →
    codeAny (model P w) A (.call (.ref f) args) (CR CX outer P w H s Q E) s
theorem FnOk.mono {P : Program} {w : World} {K : PySem.W.Frag} {mg : Str → Option Value} {base : Heap} {CX : CXT} {j k : Nat} {f : Addr} {fd : FuncData} {ps : List Str} {sp : Sp} (F : FnOk P w K mg base CX j f fd ps sp) (h : j ≤ k) :
    FnOk P w K mg base CX k f fd ps sp := ⟨F.len, fun A outer s H args us vs Q E hr => F.run A outer s H args us vs Q E (hr.mono h)⟩
theorem Env0.make {P : Program} {w : World} {K : PySem.W.Frag} {mg : Str → Option Value} {base : Heap} {A : Around} {outer : List Env} {s : Shared} {H : Hp} (e : Env0 P w K mg base A outer s H) (C : Addr) (us : List Value) (kw : List (Str × Value)) :
    Env0 P w K mg base (A.under (.builtin "type.__call__" ⟨.ref C :: us, kw⟩)) outer s H := ⟨by first | exact e.frames | (simpa [Around.under, Code.envs, Code.isFrame, pushEnvs] using e.frames), e.mod, e.bs, e.bsz, e.funs, e.frf, e.hok, e.bare⟩
section
variable {X : Cx} {pins : List (Addr × Obj)} {σ : St} {H : Hp} {s s' : Shared}
/-- from a body: what a callee wants -/
theorem Inv.env0 (I : Inv X pins σ H s) : Env0 X.prog X.w X.K X.mg X.base X.A X.stack s H :=
  ⟨I.ok.frames, I.ok.mod, I.bs, Nat.le_trans I.ok.bsz I.sz, I.stack, I.stkFree, I.hok, I.bare⟩
/-- behind a call -/
theorem Inv.after {Q : VK} {u : Value} (I : Inv X pins σ H s) (h : CE X.stack X.prog X.w H s Q u s') : EP X pins σ Q u s' := by
  obtain ⟨v, H', os, bare, un, hok, r, q⟩ := h
  obtain ⟨hh, g, d, t, os'⟩ := s'
  obtain rfl : os' = s.os := os
  exact ⟨v, H', I.call (h' := hh) (g' := g) (d' := d) (t' := t) (ch := []) un hok bare (fun b z => absurd z (by simp)), r, q⟩
end

/-! ### calls -/
/-- f(..): the written arguments, then the defaults dvs; E: what is wanted of an exception -/
def tCall (sp : Sp) (dvs : List V) (E : XK) (t : TA) : TE := fun σ H Q => t σ H fun vs H1 => sp (vs ++ dvs) H1 Q E
/-- o.m(..) of an instance of the class at C -/
def tMeth (C : Addr) (m : Str) (sp : Sp) (dvs : List V) (E : XK) (ta : TE) (t : TA) : TE := fun σ H Q => ta σ H fun x H1 => ∃ a dx fs, x = .ref a ∧ H1 a = some (.ins C dx fs) ∧ fs.lookup m = none ∧
  t σ H1 fun vs H2 => sp (x :: (vs ++ dvs)) H2 Q E
/-- C(..): a new instance and its dict, then __init__ -/
def tMake (C : Addr) (sp : Sp) (dvs : List V) (E : XK) (t : TA) : TE := fun σ H Q => t σ H fun vs H1 => ∀ x dx, H1 x = none → H1 dx = none → dx ≠ x →
  sp (.ref x :: (vs ++ dvs)) (upd (upd H1 dx (.own x)) x (.ins C dx [])) (fun v H2 => v = .non ∧ Q (.ref x) H2) E

/-- how the parameters are bound: us the positional arguments, kw the keywords' values by name, ds the defaults that fill up -/
def Binds (K : PySem.W.Frag) (fd : FuncData) (ps : List Str) (ds : List Value) : Prop :=
  ∀ (s : Shared) (us : List Value), K.In s.heap → (us ++ ds).length = ps.length → BindsTo s fd ⟨us, []⟩ (ps.zip (us ++ ds))
/-- every parameter is given -/
theorem Binds.all {K : PySem.W.Frag} {fd : FuncData} {ps : List Str} (h : ∀ us : List Value, us.length = ps.length → bindArgs fd ⟨us, []⟩ = pure (ps.zip us)) : Binds K fd ps [] := fun s us _ hl => by
  rw [List.append_nil] at hl ⊢
  exact .of_eq (h us hl)

/-- an exception of a callee reaches what this body wants of exceptions -/
def Passes (CX : CXT) (X : Cx) (E : XK) : Prop := ∀ (pins : List (Addr × Obj)) (σ : St) (H : Hp) (s : Shared) (e : Value) (s' : Shared), Inv X pins σ H s → CX X.stack H s E e s' → X.xe e s'

section
variable {X : Cx} {CX : CXT} {k : Nat} {f C : Addr} {fd : FuncData} {ps : List Str} {sp : Sp} {dvs : List V} {ds : List Value} {E : XK} {x m : Str} {p pos apos : Pos} {e o : Expr} {es : List Expr} {ta : TE} {t : TA}

/-- the callee runs -/
theorem run_fn {pins : List (Addr × Obj)} {σ : St} {H : Hp} {s : Shared} {Q : VK} {us : List Value} {vs : List V} (F : FnOk X.prog X.w X.K X.mg X.base CX k f fd ps sp) (hr : Room k X.A) (hb : Binds X.K fd ps ds) (hd : Vals dvs ds) (hx : Passes CX X E)
    (I : Inv X pins σ H s) (r : Vals vs us) (h : sp (vs ++ dvs) H Q E) : wpAny (model X.prog X.w) X.A (call (.ref f) us) (EP X pins σ Q) X.xe s := by
  have r2 : Vals (vs ++ dvs) (us ++ ds) := r.append hd
  have hl : (us ++ ds).length = ps.length := by rw [← r2.length]; exact F.len _ _ _ _ h
  refine wpAny_call (codeAny_mono (F.run X.A X.stack s H ⟨us, []⟩ (us ++ ds) (vs ++ dvs) Q E hr I.env0 (hb s us I.kIn hl) r2 h) fun r s' hq => ?_)
  cases r with
  | error e => exact hx pins σ H s e s' I hq
  | ok fl =>
    cases fl with
    | ret u => exact I.after hq
    | next => exact False.elim hq
    | brk => exact False.elim hq
    | cont => exact False.elim hq

theorem pe_call (F : FnOk X.prog X.w X.K X.mg X.base CX k f fd ps sp) (hr : Room k X.A) (hg : Gl X x) (hm : X.mg x = some (.ref f)) (hk : PySem.W.keepIn X.K (.ref f) = true) (hb : Binds X.K fd ps ds) (hd : Vals dvs ds) (hx : Passes CX X E)
    (ha : PA X (e :: es) t) (hdb : (x == ("__debug__" : Str)) = false := by decide) (he : starEach (e :: es) X.env = (false, eval e X.env) :: starEach es X.env := by rfl) (hpl : (backTo pos (starEach es X.env)).any (·.1) = false := by rfl) :
    PE X (.Call (.Name x p) (e :: es) [] pos) (tCall sp dvs E t) := by
  intro pins s σ H Q I h
  refine wpAny_Call_Name_kw (ld_glob I hg hm ?_ hdb)
  refine PySem.W.callWith_K (h₀ := X.base) I.ok.mod.kin hk (thn (ha pos pins s σ H _ I h) fun us s1 ⟨vs, H1, I1, r, q⟩ => ⟨I1.kIn, ?_⟩) he hpl
  exact run_fn F hr hb hd hx I1 r q
/-- o.m() -/
theorem pe_meth0 {pl : Sem Bool} (he : PE X o ta) (c : Cls X.K C) (hm : Meth X.K C m f) (F : FnOk X.prog X.w X.K X.mg X.base CX k f fd ps sp) (hr : Room k X.A) (hb : Binds X.K fd ps ds) (hd : Vals dvs ds) (hx : Passes CX X E)
    (ht : eval (.Call (.Attribute o m apos) [] [] pos) X.env = (do
      let ov ← eval o X.env
      standAt apos.atName
      let (f, first) ← holding [ov] (getMethod ov m pl)
      callWith pos f first (backTo pos (starEach [] X.env)) (backToKw pos (keywordEach [] X.env))) := by rfl) :
    PE X (.Call (.Attribute o m apos) [] [] pos) (tMeth C m sp dvs E ta tNil) := by
  intro pins s σ H Q I h
  refine PySem.W.methodCall_KW (pl := pl) (thn (he pins s σ H _ I h) fun u s1 ⟨x, H1, I1, rx, a, dx, fs, ex, ea, l, q⟩ => ?_) ht
  subst ex
  obtain rfl : u = Value.ref a := rx
  refine getmeth_ok I1 ea c hm l ?_
  exact PySem.W.callWith_K0 (first := [.ref a]) I1.kIn hm.kp (run_fn (us := [.ref a]) (vs := [.ref a]) F hr hb hd hx I1 (.cons rfl .nil) q)

/-- what a class must have to be made -/
structure Mk (K : PySem.W.Frag) (C f : Addr) : Prop where
  makes : PySem.W.makesIn K C = true
  init : PySem.W.findIn K (.ref C) "__init__" = some (some (.ref f))
  fn : PySem.W.isFn K (.ref f) = true
  kp : PySem.W.keepIn K (.ref C) = true

theorem run_make {pins : List (Addr × Obj)} {σ : St} {H : Hp} {s : Shared} {Q : VK} {us : List Value} {vs : List V} (M : Mk X.K C f) (F : FnOk X.prog X.w X.K X.mg X.base CX k f fd ps sp) (hr : Room (k + 1) X.A) (hb : Binds X.K fd ps ds) (hd : Vals dvs ds)
    (hx : Passes CX X E) (I : Inv X pins σ H s) (r : Vals vs us)
    (h : ∀ x dx, H x = none → H dx = none → dx ≠ x → sp (.ref x :: (vs ++ dvs)) (upd (upd H dx (.own x)) x (.ins C dx [])) (fun v H2 => v = .non ∧ Q (.ref x) H2) E) :
    wpAny (model X.prog X.w) X.A (call (.ref C) us) (EP X pins σ Q) X.xe s := by
  have hq := h (s.heap.objs.size + 1) s.heap.objs.size (I.hok.fresh (Nat.le_succ _)) (I.hok.fresh (Nat.le_refl _)) (Nat.ne_of_lt (Nat.lt_succ_self _))
  have I2 := Inv.made (C := C) I
  have r2 : Vals (V.ref (s.heap.objs.size + 1) :: (vs ++ dvs)) (Value.ref (s.heap.objs.size + 1) :: (us ++ ds)) := .cons rfl (r.append hd)
  have hl : (Value.ref (s.heap.objs.size + 1) :: us ++ ds).length = ps.length := by
    have e := r2.length
    rw [F.len _ _ _ _ hq] at e
    exact e.symm
  refine wpAny_call (make_map (f := f) I.kIn M.makes M.init (beq_iff_eq.mp M.fn) (codeAny_mono (F.run _ X.stack _ _ ⟨Value.ref (s.heap.objs.size + 1) :: us, []⟩ (Value.ref (s.heap.objs.size + 1) :: (us ++ ds)) _ _ E (hr.make C us [])
    (I2.env0.make C us []) (hb _ (Value.ref (s.heap.objs.size + 1) :: us) I2.kIn hl) r2 hq) fun r s' hq' => ?_))
  cases r with
  | error e => exact hx pins σ _ _ e s' I2 hq'
  | ok fl =>
    cases fl with
    | ret u =>
      obtain ⟨v, H', I3, rv, ev, q3⟩ := I2.after hq'
      subst ev
      exact ⟨rv, ⟨V.ref (s.heap.objs.size + 1), H', I3, rfl, q3⟩⟩
    | next => exact False.elim hq'
    | brk => exact False.elim hq'
    | cont => exact False.elim hq'
theorem pe_make (M : Mk X.K C f) (F : FnOk X.prog X.w X.K X.mg X.base CX k f fd ps sp) (hr : Room (k + 1) X.A) (hg : Gl X x) (hm : X.mg x = some (.ref C)) (hb : Binds X.K fd ps ds) (hd : Vals dvs ds) (hx : Passes CX X E)
    (ha : PA X (e :: es) t) (hdb : (x == ("__debug__" : Str)) = false := by decide) (he : starEach (e :: es) X.env = (false, eval e X.env) :: starEach es X.env := by rfl) (hpl : (backTo pos (starEach es X.env)).any (·.1) = false := by rfl) :
    PE X (.Call (.Name x p) (e :: es) [] pos) (tMake C sp dvs E t) := by
  intro pins s σ H Q I h
  refine wpAny_Call_Name_kw (ld_glob I hg hm ?_ hdb)
  refine PySem.W.callWith_K (h₀ := X.base) I.ok.mod.kin M.kp (thn (ha pos pins s σ H _ I h) fun us s1 ⟨vs, H1, I1, r, q⟩ => ⟨I1.kIn, ?_⟩) he hpl
  exact run_make M F hr hb hd hx I1 r q
end

/-! ### keywords -/
section
variable {X : Cx} {CX : CXT} {k : Nat} {f C : Addr} {fd : FuncData} {ps ks : List Str} {sp : Sp} {E : XK} {x m : Str} {p pos apos kpos : Pos} {e o : Expr} {es : List Expr} {kws : List Keyword} {te ta : TE} {t tk : TA} {nm : Option Str}
variable {g : List Value → List Value → List Value} {gV : List V → List V → List V}
end

/-! ### a def's body keeps its promise -/
/-- names: the parameters first -/
structure FnScope (N P : List Str) (sc : Scope) : Prop where
  kind : sc.kind = .function
  co : sc.isCoroutine = false
  gen : sc.isGenerator = false
  nd : N.Nodup
  pre : N.take P.length = P
  par : ∀ x ∈ P, sc.names.lookup x = some .local ∨ sc.names.lookup x = some .cell
  nofree : ∀ y ∈ sc.names, y.2 ≠ .free

theorem bindL_out {kindOf : Str → Option NameKind} {x : Str} : ∀ {binds : List (Str × Value)} {m : Str → Option Value}, (∀ v, (x, v) ∉ binds) → bindL kindOf binds m x = m x
  | [], _, _ => rfl
  | (n, v) :: r, m, h => by
    unfold bindL
    rw [bindL_out fun w hw => h w (List.mem_cons_of_mem _ hw)]
    split
    · have : x ≠ n := by rintro rfl; exact h v List.mem_cons_self
      simp [this]
    · rfl
theorem bindC_out {kindOf : Str → Option NameKind} {x : Str} : ∀ {binds : List (Str × Value)} {m : Str → Option Value}, (∀ v, (x, v) ∉ binds) → bindC kindOf binds m x = m x
  | [], _, _ => rfl
  | (n, v) :: r, m, h => by
    unfold bindC
    rw [bindC_out fun w hw => h w (List.mem_cons_of_mem _ hw)]
    split
    · rfl
    · have : x ≠ n := by rintro rfl; exact h v List.mem_cons_self
      simp [this]
theorem bindL_get {kindOf : Str → Option NameKind} {x : Str} {v : Value} : ∀ {P : List Str} {vs : List Value} {i : Nat} {m : Str → Option Value}, P.Nodup → P[i]? = some x → vs[i]? = some v → kindOf x = some .local →
    bindL kindOf (P.zip vs) m x = some v
  | [], _, _, _, _, h, _, _ => by simp at h
  | _ :: _, [], _, _, _, _, h, _ => by simp at h
  | p :: P, w :: vs, 0, m, nd, h1, h2, hk => by
    simp at h1 h2; subst h1; subst h2
    show bindL kindOf ((p, w) :: P.zip vs) m p = _
    unfold bindL
    rw [bindL_out fun v hv => (List.nodup_cons.mp nd).1 (List.of_mem_zip hv).1, if_pos hk]
    simp
  | p :: P, w :: vs, i + 1, m, nd, h1, h2, hk => by
    show bindL kindOf ((p, w) :: P.zip vs) m x = _
    unfold bindL
    exact bindL_get (i := i) (List.nodup_cons.mp nd).2 (by simpa using h1) (by simpa using h2) hk
theorem bindC_get {kindOf : Str → Option NameKind} {x : Str} {v : Value} : ∀ {P : List Str} {vs : List Value} {i : Nat} {m : Str → Option Value}, P.Nodup → P[i]? = some x → vs[i]? = some v → kindOf x ≠ some .local →
    bindC kindOf (P.zip vs) m x = some v
  | [], _, _, _, _, h, _, _ => by simp at h
  | _ :: _, [], _, _, _, _, h, _ => by simp at h
  | p :: P, w :: vs, 0, m, nd, h1, h2, hk => by
    simp at h1 h2; subst h1; subst h2
    show bindC kindOf ((p, w) :: P.zip vs) m p = _
    unfold bindC
    rw [bindC_out fun v hv => (List.nodup_cons.mp nd).1 (List.of_mem_zip hv).1, if_neg hk]
    simp
  | p :: P, w :: vs, i + 1, m, nd, h1, h2, hk => by
    show bindC kindOf ((p, w) :: P.zip vs) m x = _
    unfold bindC
    exact bindC_get (i := i) (List.nodup_cons.mp nd).2 (by simpa using h1) (by simpa using h2) hk

/-- the names' values at the entry -/
def start (N : List Str) (vs : List V) : St := vs.map some ++ List.replicate (N.length - vs.length) none

/-- the context of a def's body, at its entry; an exception leaves the frame, then lies as CX says -/
def cxOf (CX : CXT) (P : Program) (w : World) (K : PySem.W.Frag) (mg : Str → Option Value) (base : Heap) (N : List Str) (qual : Str) (scope : Scope) (f : Addr) (cd : Value) (A : Around) (outer : List Env) (s : Shared) (H : Hp) (E : XK) : Cx where
  prog := P
  w := w
  K := K
  mg := mg
  base := base
  A := A.deeper (envOfC qual scope s.heap.objs.size f cd)
  N := N
  s₀ := s
  H₀ := H
  env := envOfC qual scope s.heap.objs.size f cd
  outer := outer
  stack := envOfC qual scope s.heap.objs.size f cd :: outer
  ex := []
  calm := true
  fn := fun _ => true
  pn := []
  xe := fun e s' => wpAny (model P w) (A.deeper (envOfC qual scope s.heap.objs.size f cd)) (leaving (envOfC qual scope s.heap.objs.size f cd) e) (fun _ s'' => CX outer H s E e s'') (fun e' s'' => CX outer H s E e' s'') s'

theorem cell_has {sc : Scope} {n : Nat} {x : Str} (h : sc.names.lookup x = some .cell) : ∃ c, (cellsFrom n sc.names []).lookup x = some c := by
  have q := PySem.W.cellsFrom_some sc.names n [] (.inl h)
  exact Option.isSome_iff_exists.mp q

theorem inv_start {CX : CXT} {P : Program} {w : World} {K : PySem.W.Frag} {mg : Str → Option Value} {base : Heap} {N ps : List Str} {qual : Str} {scope : Scope} {f : Addr} {cd : Value} {A : Around} {outer : List Env} {s s1 : Shared} {H : Hp} {E : XK} {us : List Value} {vs : List V}
    (S : FnScope N ps scope) (hd : A.handled = none) (e0 : Env0 P w K mg base A outer s H) (hl : vs.length = ps.length) (r : Vals vs us)
    (x : InCallC s s.heap.objs.size (bindL (envOfC qual scope s.heap.objs.size f cd).kindOf (ps.zip us) fun _ => none) (cellsFrom (s.heap.objs.size + 1) scope.names []) (bindC (envOfC qual scope s.heap.objs.size f cd).kindOf (ps.zip us) fun _ => none) s1) :
    Inv (cxOf CX P w K mg base N qual scope f cd A outer s H E) [] (start N vs) H s1 := by
  have hpl : ps.length ≤ N.length := by have := congrArg List.length S.pre; rw [List.length_take] at this; omega
  obtain ⟨h1, tk, rfl, hk⟩ := x.done
  have noA : ∀ b : Addr, b ∉ (cxOf CX P w K mg base N qual scope f cd A outer s H E).ex := fun b z => absurd (show b ∈ ([] : List Addr) from z) (by simp)
  refine ⟨⟨e0.mod, S.kind, rfl, rfl, Nat.le_refl _, fun y z c h1 h2 => ?_, fun y hy => ?_, fun y c _ h => ?_, fun _ => hd, Around.frames_deeper e0.frames, .inr ⟨rfl, rfl⟩, fun b z => absurd z (noA b), e0.bs, e0.bsz, fun b _ _ => noA b, fun b z => absurd z (noA b), e0.funs, e0.frf⟩,
    rfl, e0.bare, Un.kept hk, ⟨_, x.toInCall.ns, fun i y v h1 h2 h3 => ?_⟩, fun y c h => ⟨_, x.cell y c h⟩, e0.hok.fresh (Nat.le_refl _), fun y c h => ?_, fun p hp => absurd (show p ∈ ([] : List (Addr × Obj)) from hp) (by simp), e0.hok.kept hk, ?_⟩
  · exact name_of_addr x.apart (PySem.mem_of_lookup h1) (PySem.mem_of_lookup h2)
  · have hy : scope.names.lookup y = some .cell ∨ scope.names.lookup y = some .free := hy
    rcases hy with hy | hy
    · exact cell_has hy
    · exact absurd rfl (S.nofree _ (PySem.mem_of_lookup hy))
  · exact Nat.le_of_lt (x.above y c (PySem.mem_of_lookup h))
  · have hi : i < vs.length := by
      unfold start at h2
      by_cases hi : i < vs.length
      · exact hi
      · rw [List.getElem?_append_right (by simpa using hi)] at h2
        rw [List.getElem?_replicate] at h2
        split at h2 <;> cases h2
    have ha : vs[i]? = some v := by
      unfold start at h2
      rw [List.getElem?_append_left (by simpa using hi), List.getElem?_map] at h2
      cases e : vs[i]? with
      | none => rw [e] at h2; cases h2
      | some a => rw [e] at h2; cases h2; rfl
    obtain ⟨u, hu, rv⟩ := r.get ha
    have hp : ps[i]? = some y := by
      rw [← S.pre, List.getElem?_take_of_lt (by omega)]; exact h1
    have ndP : ps.Nodup := by rw [← S.pre]; exact S.nd.sublist (List.take_sublist _ _)
    refine ⟨u, rv, ?_⟩
    rcases S.par y (List.mem_of_getElem? hp) with k | k
    · exact .inl ⟨k, bindL_get ndP hp hu k⟩
    · obtain ⟨c, e⟩ := cell_has (n := s.heap.objs.size + 1) k
      refine .inr ⟨.inl k, c, e, ?_⟩
      have q := x.cell y c e
      rw [bindC_get ndP hp hu (by show scope.names.lookup y ≠ _; rw [k]; decide)] at q
      exact q
  · exact e0.hok.fresh (Nat.le_of_lt (x.above y c (PySem.mem_of_lookup h)))
  · unfold start
    show _ = N.length
    rw [List.length_append, List.length_map, List.length_replicate]
    omega

/-- THE RULE: a def (or a method) of the text, by its body. The body's reading t is chosen for each entry; it is run at the parameters' values -/
theorem fn_of {CX : CXT} {P : Program} {w : World} {K : PySem.W.Frag} {mg : Str → Option Value} {base : Heap} {k : Nat} {f : Addr} {name qual : Str} {params : Arguments} {body : List Stmt} {scope : Scope} {dV kV doc pm cdv ct oc : Value} {an od : Option Addr}
    {osl : Array (Option Value)} {N ps : List Str} {sp : Sp} (lk : K.lookup f = some ⟨oc, od, .func (PySem.W.fnOf name qual params body scope dV kV doc pm an cdv ct), osl⟩) (hcd : PySem.W.codeIn K cdv qual = true) (S : FnScope N ps scope)
    (len : ∀ vs H Q E, sp vs H Q E → vs.length = ps.length)
    (hbody : ∀ (A : Around) (outer : List Env) (s : Shared) (H : Hp) (vs : List V) (Q : VK) (E : XK), Room k (A.deeper (envOfC qual scope s.heap.objs.size f cdv)) → sp vs H Q E →
      ∃ t, PSs (cxOf CX P w K mg base N qual scope f cdv A outer s H E) body t ∧ t { nx := fun _ H' => Q .non H', rt := Q } (start N vs) H) :
    FnOk P w K mg base CX (k + 1) f (PySem.W.fnOf name qual params body scope dV kV doc pm an cdv ct) ps sp := by
  refine ⟨len, fun A outer s H args us vs Q E hr e0 hb r hsp => ?_⟩
  have hl := len _ _ _ _ hsp
  have KX : K.In s.heap := e0.mod.kin.keeps fun b o e => (e0.bs b o e).1
  have lim : s.heap.NoLimit := e0.mod.nolimit.keeps fun b o e => (e0.bs b o e).1
  have hkind : ∀ y ∈ ps.zip us, scope.names.lookup y.1 = some .local ∨ (scope.names.lookup y.1 = some .cell ∧ ((cellsFrom (s.heap.objs.size + 1) scope.names []).lookup y.1).isSome = true) := fun ⟨n, v⟩ hy => by
    rcases S.par n (List.of_mem_zip hy).1 with q | q
    · exact .inl q
    · exact .inr ⟨q, PySem.W.cellsFrom_some _ _ _ (.inl q)⟩
  refine codeAny_call_function hr.depth (KX _ _ lk) rfl S.co S.gen rfl (PySem.W.codeRec_of KX hcd) (hb _ _ _ _ ?_)
  refine wpAny_newFunctionEnv_cells S.kind hkind fun env he s1 x => ?_
  subst he
  refine ⟨lim.keeps x.toInCall.keep, codeAny_func ?_⟩
  obtain ⟨t, ht, hq⟩ := hbody A outer s H vs Q E (hr.deeper _) hsp
  have I : Inv (cxOf CX P w K mg base N qual scope f cdv A outer s H E) [] (start N vs) H s1 := inv_start S hr.hd e0 hl r x
  refine wpAny_mono (ht [] s1 (start N vs) H _ I hq) (fun fl s' hs => ?_) fun e s' hs => hs
  have fin : ∀ {σ' : St} {H' : Hp} {v : V} {u : Value}, Inv (cxOf CX P w K mg base N qual scope f cdv A outer s H E) [] σ' H' s' → RelV v u → Q v H' → CE outer P w H s Q u s' :=
    fun {σ' H' v u} J rv q => ⟨v, H', J.os, J.bare, J.base, J.hok, rv, q⟩
  cases fl with
  | ret u =>
    obtain ⟨v, σ', H', J, rv, q⟩ := hs
    exact fin J rv q
  | next =>
    obtain ⟨σ', H', J, q⟩ := hs
    exact fin (v := V.non) (u := Value.none) J rfl q
  | brk =>
    obtain ⟨_, _, _, q⟩ := hs
    exact False.elim q
  | cont =>
    obtain ⟨_, _, _, q⟩ := hs
    exact False.elim q
end L2

namespace L2
open PySem PySem.Spec PyProof.Rows
section
variable {X : Cx} {x : Str} {p pos : Pos} {e : Expr} {es : List Expr} {t : TA} {id T : String} {r : List V → Hp → VK → Prop}

def tCB (r : List V → Hp → VK → Prop) (t : TA) : TE := fun σ H Q => t σ H fun vs H1 => r vs H1 Q
/-- f(e, ..), f a built-in function -/
theorem pe_callB (hc : CallR X (.builtin id) r) (hg : Gl X x) (hm : X.mg x = none) (hv : bootBuiltins x = some (.builtin id)) (ha : PA X (e :: es) t) (hn : x ≠ "__name__" := by decide) (hdb : (x == ("__debug__" : Str)) = false := by decide)
    (he : starEach (e :: es) X.env = (false, eval e X.env) :: starEach es X.env := by rfl) (hpl : (backTo pos (starEach es X.env)).any (·.1) = false := by rfl) : PE X (.Call (.Name x p) (e :: es) [] pos) (tCB r t) := by
  intro pins s σ H Q I h
  refine wpAny_Call_Name_kw (ld_blt I hg hm hv ?_ hn hdb)
  exact PyProof.Rows.callWith_builtin1 (thn (ha pos pins s σ H _ I h) fun us s1 ⟨vs, H1, I1, r1, q1⟩ => hc pins s1 σ H1 vs us Q I1 r1 q1) he hpl
/-- T(e, ..), T a built-in type -/
theorem pe_callTy (hc : CallR X (.type T) r) (hg : Gl X x) (hm : X.mg x = none) (hv : bootBuiltins x = some (.type T)) (ha : PA X (e :: es) t) (hn : x ≠ "__name__" := by decide) (hdb : (x == ("__debug__" : Str)) = false := by decide)
    (he : starEach (e :: es) X.env = (false, eval e X.env) :: starEach es X.env := by rfl) (hpl : (backTo pos (starEach es X.env)).any (·.1) = false := by rfl) : PE X (.Call (.Name x p) (e :: es) [] pos) (tCB r t) := by
  intro pins s σ H Q I h
  refine wpAny_Call_Name_kw (ld_blt I hg hm hv ?_ hn hdb)
  exact PyProof.Rows.callWith_type1 (thn (ha pos pins s σ H _ I h) fun us s1 ⟨vs, H1, I1, r1, q1⟩ => hc pins s1 σ H1 vs us Q I1 r1 q1) he hpl
end
end L2

namespace HT
open PySem PyProof.Rows

section
open PySem.SeqAt
open PySem.AutoSeq1 (wpAny_loadPart')
open PySem.MeetsSeq PySem.MeetsSeq2 PySem.MeetsSeq3

end

section
variable {prog : Program} {w : World} {A : Around} {E : Value → Shared → Prop} {s : Shared}

/-! ### t[a:b], not the whole -/
/-- a slice's bound as a place among n (d where it is left out) -/
def sIx (n d : Nat) : Option Int → Nat
  | none => d
  | some v => if v < 0 then (v + (n : Int)).toNat else min v.toNat n
theorem sIx_none (n d : Nat) : sIx n d none = d := rfl
theorem sIx_le (n d : Nat) (hd : d ≤ n) (o : Option Int) : sIx n d o ≤ n := by
  cases o with
  | none => exact hd
  | some v =>
    show (if v < 0 then (v + (n : Int)).toNat else min v.toNat n) ≤ n
    by_cases hv : v < 0
    · rw [if_pos hv]; omega
    · rw [if_neg hv]; exact Nat.min_le_right _ _
theorem clip_eq (v : Int) (n d : Nat) : (if v < 0 then max (v + (n : Int)) 0 else min v (n : Int)) = ((sIx n d (some v) : Nat) : Int) := by
  show (if v < 0 then max (v + (n : Int)) 0 else min v (n : Int)) = (((if v < 0 then (v + (n : Int)).toNat else min v.toNat n) : Nat) : Int)
  by_cases hv : v < 0
  · simp only [if_pos hv]; omega
  · simp only [if_neg hv]; omega
theorem adjust_gen (lo hi : Option Int) (n : Nat) : Builtin.Slice.sliceAdjust lo hi 1 (n : Int) = (((sIx n 0 lo : Nat) : Int), ((sIx n n hi : Nat) : Int)) := by
  have h1 : ¬ ((1 : Int) < 0) := by omega
  unfold Builtin.Slice.sliceAdjust
  simp only [h1, if_false]
  refine Prod.ext ?_ ?_
  · cases lo with
    | none => rfl
    | some v => exact clip_eq v n 0
  · cases hi with
    | none => rfl
    | some v => exact clip_eq v n n
theorem places_gen (i j : Nat) : Builtin.Slice.slicePlaces (i : Int) (j : Int) 1 = j - i := by
  unfold Builtin.Slice.slicePlaces
  have h1 : (1 : Int) > 0 := by omega
  simp only [h1, if_true, Int.ediv_one]
  split <;> omega
theorem slicePart_ {v : Value} {o : Option Int} {Q : Option Int → Shared → Prop} (p : IsPart v o) (h : Q o s) : wpAny (model prog w) A (Builtin.Slice.slicePartIndex v) Q E s := by
  cases p with
  | none => exact slicePart_none h
  | int i t => exact slicePart_int h
theorem sliceApplied_gen {sl : Addr} {vl vu : Value} {lo hi : Option Int} {n : Nat} {Q : Int × Int × Nat → Shared → Prop} (hs : s.heap.IsSliceOf sl vl vu .none) (pl : IsPart vl lo) (pu : IsPart vu hi)
    (h : Q (((sIx n 0 lo : Nat) : Int), 1, sIx n n hi - sIx n 0 lo) s) : wpAny (model prog w) A (Builtin.Slice.sliceApplied (.ref sl) (pure (n : Int))) Q E s := by
  obtain ⟨os, hos, hcs, hds⟩ := id hs
  unfold Builtin.Slice.sliceApplied Builtin.Slice.sliceFields
  refine wpAny_bind (wpAny_bind (wpAny_field hos hds (x := vl) rfl (wpAny_bind (wpAny_field hos hds (x := vu) rfl (wpAny_bind (wpAny_field hos hds (x := .none) rfl (wpAny_pure ?_)))))))
  refine wpAny_bind (slicePart_none ?_)
  show wpAny _ _ (if ((1 : Int) == 0) = true then _ else _) _ _ s
  rw [if_neg (by decide)]
  refine wpAny_bind (slicePart_ pl (wpAny_bind (slicePart_ pu (wpAny_bind (wpAny_pure ?_)))))
  show wpAny _ _ (match Builtin.Slice.sliceAdjust lo hi 1 (n : Int) with | (lo, hi) => pure (lo, (1 : Int), Builtin.Slice.slicePlaces lo hi 1)) _ _ s
  rw [adjust_gen lo hi n]
  show wpAny _ _ (pure (((sIx n 0 lo : Nat) : Int), (1 : Int), Builtin.Slice.slicePlaces ((sIx n 0 lo : Nat) : Int) ((sIx n n hi : Nat) : Int) 1)) _ _ s
  rw [places_gen]
  exact wpAny_pure h
theorem pick_gen (xs : Array Value) (i k : Nat) : ((List.range k).filterMap fun (m : Nat) => xs[((i : Int) + (m : Int) * 1).toNat]?).toArray = ((xs.toList.drop i).take k).toArray := by
  have e : (fun (m : Nat) => xs[((i : Int) + (m : Int) * 1).toNat]?) = fun m => xs[i + m]? := by
    funext m
    have : ((i : Int) + (m : Int) * 1).toNat = i + m := by omega
    rw [this]
  rw [e]
  have := pick_run xs i k
  rw [List.filterMap_map] at this
  have e2 : ((fun x => xs[x]?) ∘ fun x => i + x) = fun m => xs[i + m]? := rfl
  rw [e2] at this
  rw [this]

theorem getItem_tuple_cut {t sl : Addr} {items : Array Value} {vl vu : Value} {lo hi : Option Int} {Q : Value → Shared → Prop} (ht : IsTup s.heap t items) (hs : s.heap.IsSliceOf sl vl vu .none) (pl : IsPart vl lo) (pu : IsPart vu hi)
    (hw : ¬ (sIx items.size 0 lo = 0 ∧ sIx items.size items.size hi = items.size))
    (h : Q (.ref s.heap.objs.size) { s with heap := s.heap.push { cls := .type "tuple", data := .seq ((items.toList.drop (sIx items.size 0 lo)).take (sIx items.size items.size hi - sIx items.size 0 lo)).toArray } })
    (hsz : items.size ≤ sizeLine) : wpAny (model prog w) A (getItem (.ref t) (.ref sl)) Q E s := by
  have htake : sizeOk (.seq ((items.toList.drop (sIx items.size 0 lo)).take (sIx items.size items.size hi - sIx items.size 0 lo)).toArray) := by
    show ((items.toList.drop (sIx items.size 0 lo)).take (sIx items.size items.size hi - sIx items.size 0 lo)).toArray.size ≤ sizeLine
    rw [List.size_toArray, List.length_take, List.length_drop, Array.length_toList]
    omega
  have hj : sIx items.size items.size hi ≤ items.size := sIx_le _ _ (Nat.le_refl _) hi
  obtain ⟨os, hos, hcs, hds⟩ := id hs
  have hTs : s.TypeIs (.ref sl) "slice" := ⟨os, hos, hcs⟩
  unfold getItem
  try with_reducible refine wpAny_holding ?_
  first | refine wpAny_bind (wpAny_pure ?_) | skip
  refine wpAny_bind (wpAny_sequenceKey ht.typeIs (by decide) ?_)
  refine wpAny_bind (wpAny_callSpecial?_slot (name := Str.ofString "__getitem__") ht.typeIs PyProof.Rows.slot_tuple_getitem
    (wpAny_call_entry PyProof.Rows.slot_tuple_getitem ht.typeIs entry_tuple_getitem ?_ (args_tuple_getitem _ _)))
  show wpAny _ _ (Builtin.Tuple.tupleItemsOf (.ref t) >>= _) _ _ s
  refine wpAny_bind (tupleItemsOf_ ht ?_)
  refine wpAny_bind (wpAny_typeOf hTs ?_)
  rw [if_pos (by decide)]
  refine wpAny_bind (sliceApplied_gen hs pl pu ?_)
  have hno : ¬ ((((sIx items.size 0 lo : Nat) : Int) == 0 && (1 : Int) == 1 && (sIx items.size items.size hi - sIx items.size 0 lo) == items.size) = true) := by
    intro q
    rw [Bool.and_eq_true, Bool.and_eq_true] at q
    have q1 : ((sIx items.size 0 lo : Nat) : Int) = 0 := eq_of_beq q.1.1
    have q2 : sIx items.size items.size hi - sIx items.size 0 lo = items.size := eq_of_beq q.2
    exact hw ⟨by omega, by omega⟩
  show wpAny _ _ (if (((sIx items.size 0 lo : Nat) : Int) == 0 && (1 : Int) == 1 && (sIx items.size items.size hi - sIx items.size 0 lo) == items.size) = true then _ else _) _ _ s
  rw [if_neg hno, pick_gen]
  first
    | exact wpAny_bind (m := Builtin.Tuple.tupleExact _) (wpAny_newObj_type (wpAny_pure ⟨_, rfl, wpAny_pure h⟩) htake)
    | exact wpAny_bind (m := Builtin.Tuple.tupleExact _) (wpAny_newObj_type (wpAny_bind (wpAny_pure (wpAny_pure ⟨_, rfl, wpAny_pure h⟩))) htake)
    | exact wpAny_bind (wpAny_bind (m := Builtin.Tuple.tupleExact _) (wpAny_newObj_type (wpAny_pure (wpAny_pure ⟨_, rfl, wpAny_pure h⟩)) htake))
    | exact wpAny_bind (wpAny_bind (m := Builtin.Tuple.tupleExact _) (wpAny_newObj_type (wpAny_pure ⟨_, rfl, wpAny_pure h⟩) htake))
end
end HT

namespace L2
open PySem PySem.Spec PyProof.Rows

/-! ### the parts of a slice -/
abbrev TO := St → Hp → (Option Int → Hp → Prop) → Prop
/-- a slice's part (left out, or an int) -/
def PO (X : Cx) (e : Option Expr) (t : TO) : Prop :=
  ∀ (pins : List (Addr × Obj)) (s : Shared) (σ : St) (H : Hp) (Q : Option Int → Hp → Prop), Inv X pins σ H s → t σ H Q →
    wpAny (model X.prog X.w) X.A (evalPart e X.env) (fun u s' => ∃ o H', Inv X pins σ H' s' ∧ IsPart u o ∧ Q o H') X.xe s
def tNoPart : TO := fun _ H Q => Q none H
def tPart (t : TE) : TO := fun σ H Q => t σ H fun x H1 => ∃ i, x = .int i ∧ Q (some i) H1

section
variable {X : Cx} {e : Expr} {te : TE} {lo hi : Option Expr} {tl th : TO} {pos p2 : Pos}

theorem po_none : PO X none tNoPart := by
  intro pins s σ H Q I h
  rw [evalPart_none]
  exact wpAny_pure ⟨none, H, I, .none, h⟩
theorem po_some (h : PE X e te) : PO X (some e) (tPart te) := by
  intro pins s σ H Q I hw
  rw [evalPart_some]
  refine thn (h pins s σ H _ I hw) fun u s1 ⟨x, H1, I1, r1, q1⟩ => ?_
  obtain ⟨i, rfl, q⟩ := q1
  obtain ⟨t, rfl⟩ := r1
  exact ⟨some i, H1, I1, .int i t, q⟩

/-- what a slice of a value is, by values: the slice object stands at sl -/
def SlR (X : Cx) (r : V → Option Int → Option Int → Hp → VK → Prop) : Prop :=
  ∀ (pins : List (Addr × Obj)) (s : Shared) (σ : St) (H : Hp) (x : V) (v vl vu : Value) (lo hi : Option Int) (sl : Addr) (Q : VK), Inv X pins σ H s → RelV x v → s.heap.IsSliceOf sl vl vu .none → IsPart vl lo → IsPart vu hi → r x lo hi H Q →
    ∃ T id, typeLookup (.type T) "__getitem__" = pure (some (.builtin id)) ∧ s.TypeIs v T ∧ wpAny (model X.prog X.w) X.A (getItem v (.ref sl)) (EP X pins σ Q) X.xe s
theorem SlR.or {r r' : V → Option Int → Option Int → Hp → VK → Prop} (h : SlR X r) (h' : SlR X r') : SlR X (fun x lo hi H Q => r x lo hi H Q ∨ r' x lo hi H Q) := by
  intro pins s σ H x v vl vu lo hi sl Q I rx hs pl pu q
  rcases q with q | q
  · exact h pins s σ H x v vl vu lo hi sl Q I rx hs pl pu q
  · exact h' pins s σ H x v vl vu lo hi sl Q I rx hs pl pu q
def tSl (r : V → Option Int → Option Int → Hp → VK → Prop) (te : TE) (tl th : TO) : TE := fun σ H Q => te σ H fun x H1 => tl σ H1 fun l H2 => th σ H2 fun u H3 => r x l u H3 Q
/-- a[lo:hi], any a -/
theorem pe_slice {r : V → Option Int → Option Int → Hp → VK → Prop} (hr : SlR X r) (he : PE X e te) (hl : PO X lo tl) (hu : PO X hi th) : PE X (.Subscript e (.Slice lo hi none p2) pos) (tSl r te tl th) := by
  intro pins s σ H Q I h
  refine Subscript_ (thn (he pins s σ H _ I h) fun v s1 ⟨x, H1, I1, r1, q1⟩ => ?_)
  refine wpAny_Slice (thn (hl pins s1 σ H1 _ I1 q1) fun vl s2 ⟨l, H2, I2, pl, q2⟩ => thn (hu pins s2 σ H2 _ I2 q2) fun vu s3 ⟨u, H3, I3, pu, q3⟩ => ?_)
  rw [evalPart_none]
  refine wpAny_pure ?_
  have I4 : Inv X pins σ H3 { s3 with heap := s3.heap.push { cls := .type "slice", data := .fields #[vl, vu, .none] } } := I3.kept (t' := s3.toks) fun b ob q => Heap.get?_push_of_some _ q
  obtain ⟨T, id, hT, ht, hg⟩ := hr pins { s3 with heap := s3.heap.push { cls := .type "slice", data := .fields #[vl, vu, .none] } } σ H3 x v vl vu l u s3.heap.objs.size Q I4 r1 (Heap.IsSliceOf.new ..) pl pu q3
  show wpAny (model X.prog X.w) X.A (subscriptTail e (.Slice lo hi none p2) v (.ref s3.heap.objs.size)) (EP X pins σ Q) X.xe { s3 with heap := s3.heap.push { cls := .type "slice", data := .fields #[vl, vu, .none] } }
  exact tail_any (ops := [.ref s3.heap.objs.size, v]) ht hT hg (by with_unfolding_all rfl)

/-- the items of xs[lo:hi] -/
def cutV (xs : List V) (lo hi : Option Int) : List V := (xs.drop (HT.sIx xs.length 0 lo)).take (HT.sIx xs.length xs.length hi - HT.sIx xs.length 0 lo)
theorem cutV_length (xs : List V) (lo hi : Option Int) : (cutV xs lo hi).length ≤ xs.length := by
  unfold cutV
  rw [List.length_take, List.length_drop]
  omega
/-- t[lo:hi], not the whole of it (the whole would be t itself) -/
def rSlT (K : PySem.W.Frag) : V → Option Int → Option Int → Hp → VK → Prop := fun x lo hi H Q => ∃ a xs, x = .ref a ∧ SqT K H a xs ∧
  ¬ (HT.sIx xs.length 0 lo = 0 ∧ HT.sIx xs.length xs.length hi = xs.length) ∧ ∀ p, H p = none → Q (.ref p) (upd H p (.tup (cutV xs lo hi)))
theorem sl_tup : SlR X (rSlT X.K) := by
  intro pins s σ H x v vl vu lo hi sl Q I rx hs pl pu h
  obtain ⟨a, xs, rfl, hx, hw, q⟩ := h
  cases rx
  obtain ⟨its, r, ht, hz⟩ := I.tuple hx
  have hlen : its.toArray.size = xs.length := by rw [List.size_toArray]; exact r.length.symm
  refine ⟨"tuple", _, PyProof.Rows.slot_tuple_getitem.lookup, ht.typeIs, ?_⟩
  refine HT.getItem_tuple_cut ht hs pl pu (by rw [hlen]; exact hw) ?_ (by rw [hlen]; exact hz)
  rw [hlen]
  refine ⟨.ref s.heap.objs.size, _, I.laid (t' := s.toks) (o := .tup (cutV xs lo hi)) (fun b ob q => Heap.get?_push_of_some _ q) (Nat.le_refl _) ?_, rfl, q _ (I.hok.fresh (Nat.le_refl _))⟩
  exact ⟨Nat.le_trans (cutV_length xs lo hi) hz, _, (r.drop (HT.sIx xs.length 0 lo)).take (HT.sIx xs.length xs.length hi - HT.sIx xs.length 0 lo), IsTup.new _ _⟩

/-! ### t < u, t + u -/
end
end L2

namespace L2
open PySem PySem.Spec PyProof.Rows

/-! ### places -/
/-- the place that an index of any sign means -/
def ixN (n : Nat) (i : Int) : Option Nat := if 0 ≤ i then (if i < n then some i.toNat else none) else if -(n : Int) ≤ i then some (i + n).toNat else none
def atI {α : Type} (xs : List α) (i : Int) : Option α := (ixN xs.length i).bind fun j => xs[j]?
theorem ixN_seq {n : Nat} {i : Int} {j : Nat} (h : ixN n i = some j) : seqIndex? i n = some j ∧ j < n ∧ -(n : Int) ≤ i ∧ i < n := by
  unfold ixN at h
  by_cases h0 : 0 ≤ i
  · rw [if_pos h0] at h
    by_cases h1 : i < n
    · rw [if_pos h1] at h
      have e : i.toNat = j := Option.some.inj h
      exact ⟨by rw [seqIndex_of h0 h1, e], by omega, by omega, h1⟩
    · rw [if_neg h1] at h; cases h
  · rw [if_neg h0] at h
    by_cases h1 : -(n : Int) ≤ i
    · rw [if_pos h1] at h
      have e : (i + n).toNat = j := Option.some.inj h
      exact ⟨by rw [seqIndex_neg (by omega) h1, e], by omega, h1, by omega⟩
    · rw [if_neg h1] at h; cases h
theorem atI_get {α : Type} {xs : List α} {i : Int} {v : α} (h : atI xs i = some v) : ∃ j, seqIndex? i xs.length = some j ∧ xs[j]? = some v ∧ j < xs.length ∧ -(xs.length : Int) ≤ i ∧ i < xs.length := by
  unfold atI at h
  cases e : ixN xs.length i with
  | none => rw [e] at h; cases h
  | some j =>
    rw [e] at h
    obtain ⟨h1, h2, h3, h4⟩ := ixN_seq e
    exact ⟨j, h1, h, h2, h3, h4⟩
theorem atI_nat {α : Type} {xs : List α} {j : Nat} {v : α} (h : xs[j]? = some v) : atI xs (j : Int) = some v := by
  have hj : j < xs.length := (List.getElem?_eq_some_iff.mp h).1
  have e : ixN xs.length (j : Int) = some j := by
    unfold ixN
    rw [if_pos (by omega), if_pos (by omega)]; simp
  unfold atI; rw [e]; exact h
/-! ### what may be subscripted -/
/-- what stands as an index of a plain subscript -/
def PlainIx (b : Expr) : Prop := ∀ o i, subscripted b false o i = operate [o, i] (getItem o i)
/-- a subscript by values -/
def IxR (X : Cx) (r : R2) : Prop :=
  ∀ (value slice : Expr) (pins : List (Addr × Obj)) (s : Shared) (σ : St) (H : Hp) (x y : V) (v u : Value) (Q : VK), Inv X pins σ H s → RelV x v → RelV y u → r x y H Q →
    subscripted slice false v u = operate [v, u] (getItem v u) → wpAny (model X.prog X.w) X.A (subscriptTail value slice v u) (EP X pins σ Q) X.xe s
/-- a call of a builtin's method by values: the receiver, the arguments -/
def MtR (X : Cx) (id : String) (r : V → List V → Hp → VK → Prop) : Prop :=
  ∀ (pins : List (Addr × Obj)) (s : Shared) (σ : St) (H : Hp) (x : V) (xs : List V) (v : Value) (us : List Value) (Q : VK), Inv X pins σ H s → RelV x v → Vals xs us → r x xs H Q →
    wpAny (model X.prog X.w) X.A (call (.builtin id) (v :: us)) (EP X pins σ Q) X.xe s
section
variable {X : Cx} {a b : Expr} {ta tb : TE} {pos : Pos}
/-- a[b] -/
theorem pe_ix {r : R2} (hr : IxR X r) (ha : PE X a ta) (hb : PE X b tb) (hs : PlainIx b) : PE X (.Subscript a b pos) (tOp r ta tb) := by
  intro pins s σ H Q I h
  exact Subscript_ (binT ha hb I h fun v u s2 x y H2 I2 rx ry q => hr a b pins s2 σ H2 x y v u Q I2 rx ry q (hs _ _))

def rIxL (K : PySem.W.Frag) : R2 := fun x y H Q => ∃ p xs i v, x = .ref p ∧ y = .int i ∧ SqL K H p xs ∧ atI xs i = some v ∧ Q v H
def rIxT (K : PySem.W.Frag) : R2 := fun x y H Q => ∃ p xs i v, x = .ref p ∧ y = .int i ∧ SqT K H p xs ∧ atI xs i = some v ∧ Q v H
theorem ix_list : IxR X (rIxL X.K) := by
  intro value slice pins s σ H x y v u Q I rx ry h hs
  obtain ⟨p, xs, i, z, rfl, rfl, hq, he, q⟩ := h
  cases rx
  obtain ⟨t, rfl⟩ := ry
  obtain ⟨its, r, pl, hz⟩ := I.list hq
  obtain ⟨j, h1, h2, h3, h4, h5⟩ := atI_get he
  obtain ⟨w, ew, rw'⟩ := r.get h2
  have hl := r.length
  have hn := line63
  have fin : EP X pins σ Q w s := ⟨z, H, I, rw', q⟩
  by_cases h0 : 0 ≤ i
  · have hj : i.toNat = j := by
      rw [seqIndex_of h0 h5] at h1
      exact Option.some.inj h1
    exact item_listR pl.isList h0 (by omega) (by rw [hj]; simpa using ew) fin hs
  · have hj : (i + (its.toArray.size : Int)).toNat = j := by
      rw [seqIndex_neg (by omega) h4] at h1
      rw [List.size_toArray, ← hl]
      exact Option.some.inj h1
    exact subscriptTail_builtinR (x := w) pl.isList.typeIs slot_list_getitem.lookup
      (wpAny_getItem_list_neg (Q := fun r s' => r = w ∧ EP X pins σ Q r s') pl.isList (by omega) (by rw [List.size_toArray] <;> omega) (by omega) (by rw [hj]; simpa using ew) ⟨rfl, fin⟩) hs
theorem ix_tup : IxR X (rIxT X.K) := by
  intro value slice pins s σ H x y v u Q I rx ry h hs
  obtain ⟨p, xs, i, z, rfl, rfl, hq, he, q⟩ := h
  cases rx
  obtain ⟨t, rfl⟩ := ry
  obtain ⟨its, r, pl, hz⟩ := I.tuple hq
  obtain ⟨j, h1, h2, h3, h4, h5⟩ := atI_get he
  obtain ⟨w, ew, rw'⟩ := r.get h2
  have hl := r.length
  have hn := line63
  have fin : EP X pins σ Q w s := ⟨z, H, I, rw', q⟩
  exact subscriptTail_builtinR (x := w) pl.typeIs slot_tuple_getitem.lookup
    (getItem_tuple (j := j) (Q := fun r s' => r = w ∧ EP X pins σ Q r s') pl (by omega) (by omega) (by rw [List.size_toArray, ← hl]; exact h1) (by simpa using ew) ⟨rfl, fin⟩) hs
/-! ### xs[i] = v, any sign -/
/-! ### slices -/
theorem slice_bounds (lo hi : Option Int) (n : Nat) : (sliceBounds lo hi none n).1 = ((HT.sIx n 0 lo : Nat) : Int) ∧ (sliceBounds lo hi none n).2.1 = ((HT.sIx n n hi : Nat) : Int) ∧ (sliceBounds lo hi none n).2.2 = 1 := by
  refine ⟨?_, ?_, rfl⟩
  · cases lo with
    | none => simp [sliceBounds, HT.sIx]
    | some i =>
      simp only [sliceBounds, HT.sIx, Option.getD_none, show (1 : Int) > 0 by decide, if_true]
      by_cases h : i < 0
      · simp only [h, if_true] <;> omega
      · simp only [h, if_false] <;> omega
  · cases hi with
    | none => simp [sliceBounds, HT.sIx]
    | some i =>
      simp only [sliceBounds, HT.sIx, Option.getD_none, show (1 : Int) > 0 by decide, if_true]
      by_cases h : i < 0
      · simp only [h, if_true] <;> omega
      · simp only [h, if_false] <;> omega
theorem slicePick_cut (its : List Value) (lo hi : Option Int) : slicePick its.toArray lo hi none = ((its.drop (HT.sIx its.length 0 lo)).take (HT.sIx its.length its.length hi - HT.sIx its.length 0 lo)).toArray := by
  obtain ⟨h1, h2, h3⟩ := slice_bounds lo hi its.toArray.size
  unfold slicePick
  rw [h1, h2, h3]
  simp only [sliceRange_one, pick_run, List.size_toArray] <;> rfl
/-- xs[lo:hi] of a list: a new list -/
def rSlL (K : PySem.W.Frag) : V → Option Int → Option Int → Hp → VK → Prop := fun x lo hi H Q => ∃ a xs, x = .ref a ∧ SqL K H a xs ∧ ∀ p, H p = none → Q (.ref p) (upd H p (.lst (cutV xs lo hi)))
theorem sl_list : SlR X (rSlL X.K) := by
  intro pins s σ H x v vl vu lo hi sl Q I rx hs pl pu h
  obtain ⟨a, xs, rfl, hx, q⟩ := h
  cases rx
  obtain ⟨its, r, ht, hz⟩ := I.list hx
  have hlen := r.length
  refine ⟨"list", _, slot_list_getitem.lookup, ht.isList.typeIs, ?_⟩
  refine wpAny_getItem_list_slice ht.isList hs pl pu .none (by simp) ?_ (by rw [List.size_toArray] <;> omega)
  rw [slicePick_cut, ← hlen]
  refine ⟨.ref s.heap.objs.size, _, I.laid (t' := s.toks) (o := .lst (cutV xs lo hi)) (fun b ob q => Heap.get?_push_of_some _ q) (Nat.le_refl _) ?_, rfl, q _ (I.hok.fresh (Nat.le_refl _))⟩
  exact ⟨Nat.le_trans (cutV_length xs lo hi) hz, _, 0, (r.drop (HT.sIx xs.length 0 lo)).take (HT.sIx xs.length xs.length hi - HT.sIx xs.length 0 lo), Heap.get?_push_size _ rfl⟩

/-! ### in, not in: flat items -/
/-! ### len, list(x), tuple(x) of any list or tuple that is read -/
theorem call_len_seq : CallR X (.builtin "len") (fun xs H Q => ∃ p ys, xs = [.ref p] ∧ (SqL X.K H p ys ∨ SqT X.K H p ys) ∧ Q (.int ys.length) H) := by
  intro pins s σ H xs us Q I r h
  obtain ⟨p, ys, rfl, hq, q⟩ := h
  obtain ⟨u, rfl, rx⟩ := vals1 r
  cases rx
  have hn := line63
  rcases hq with hq | hq
  · obtain ⟨its, r', pl, hz⟩ := I.list hq
    have hlen := r'.length
    exact Calls.call_len_list pl.isList (by simp only [List.size_toArray] <;> omega) ⟨.int ys.length, H, I.tok _, ⟨s.toks + 1, by rw [List.size_toArray, hlen]⟩, q⟩
  · obtain ⟨its, r', pl, hz⟩ := I.tuple hq
    have hlen := r'.length
    exact len_tuple pl (by simp only [List.size_toArray] <;> omega) ⟨.int ys.length, H, I.tok _, ⟨s.toks + 1, by rw [List.size_toArray, hlen]⟩, q⟩
theorem call_list_of : CallR X (.type "list") (fun xs H Q => ∃ p ys, xs = [.ref p] ∧ (SqL X.K H p ys ∨ SqT X.K H p ys) ∧ ∀ l, H l = none → Q (.ref l) (upd H l (.lst ys))) := by
  intro pins s σ H xs us Q I r h
  obtain ⟨p, ys, rfl, hq, q⟩ := h
  obtain ⟨u, rfl, rx⟩ := vals1 r
  cases rx
  have fin : ∀ (its : List Value), Vals ys its → ys.length ≤ sizeLine → ∀ (h' : Heap) (c' : Nat), (∀ b o', s.heap.get? b = some o' → h'.get? b = some o') →
      h'.get? s.heap.objs.size = some { cls := .type "list", dict := none, data := .seq its.toArray c', slots := #[] } → EP X pins σ Q (.ref s.heap.objs.size) { s with heap := h' } := fun its r' hz h' c' kp e =>
    ⟨.ref s.heap.objs.size, _, I.laid (t' := s.toks) kp (Nat.le_refl _) (show ObjOk X.prog X.w _ h' _ (.lst ys) from ⟨hz, its, c', r', e⟩), rfl, q _ (I.hok.fresh (Nat.le_refl _))⟩
  rcases hq with hq | hq
  · obtain ⟨its, r', pl, hz⟩ := I.list hq
    have hlen := r'.length
    obtain ⟨o, ho, hc, n, hd⟩ := pl.isList
    exact call_list_seq p (.inl rfl) ho hc hd (fun h' c' kp e => fin its r' hz h' c' kp e) (by simp only [List.size_toArray] <;> omega)
  · obtain ⟨its, r', pl, hz⟩ := I.tuple hq
    have hlen := r'.length
    obtain ⟨o, ho, hc, n, hd⟩ := pl
    exact call_list_seq p (.inr rfl) ho hc hd (fun h' c' kp e => fin its r' hz h' c' kp e) (by simp only [List.size_toArray] <;> omega)
theorem call_tuple_of : CallR X (.type "tuple") (fun xs H Q => ∃ p ys, xs = [.ref p] ∧ ((SqL X.K H p ys ∧ ∀ l, H l = none → Q (.ref l) (upd H l (.tup ys))) ∨ (SqT X.K H p ys ∧ Q (.ref p) H))) := by
  intro pins s σ H xs us Q I r h
  obtain ⟨p, ys, rfl, h⟩ := h
  obtain ⟨u, rfl, rx⟩ := vals1 r
  cases rx
  rcases h with ⟨hq, q⟩ | ⟨hq, q⟩
  · obtain ⟨its, r', pl, hz⟩ := I.list hq
    have hlen := r'.length
    refine call_tuple_list pl.isList (fun h' kp => ?_) (by simp only [List.size_toArray] <;> omega)
    have I1 : Inv X pins σ H { s with heap := h' } := I.kept (t' := s.toks) kp
    have I2 : Inv X pins σ (upd H h'.objs.size (.tup ys)) { s with heap := h'.push { cls := .type "tuple", data := .seq its.toArray } } :=
      I1.laid (t' := s.toks) (fun b o e => Heap.get?_push_of_some _ e) (Nat.le_refl _) (show ObjOk X.prog X.w _ _ _ (.tup ys) from ⟨hz, its, r', IsTup.new _ _⟩)
    exact ⟨.ref h'.objs.size, _, I2, rfl, q _ (I1.hok.fresh (Nat.le_refl _))⟩
  · obtain ⟨its, r', pl, hz⟩ := I.tuple hq
    exact call_tuple_same pl ⟨.ref p, H, I, rfl, q⟩

/-! ### the call of a builtin's method: o.m(..) -/
/-- the value is of that builtin type -/
def tyV (K : PySem.W.Frag) (T : String) (x : V) (H : Hp) : Prop := match x with
  | .str _ => T = "str"
  | .int _ => T = "int"
  | .ref p => (T = "list" ∧ ∃ xs, SqL K H p xs) ∨ (T = "tuple" ∧ ∃ o, K.lookup p = some o ∧ o.cls = .type "tuple" ∧ o.dict = none) ∨
      (T = "dict" ∧ ((∃ kvs, H p = some (.dK kvs)) ∨ ∃ kvs, H p = some (.dT kvs))) ∨ (T = "set" ∧ ∃ S n, H p = some (.set S n))
  | _ => False
theorem tyV_is {pins : List (Addr × Obj)} {σ : St} {H : Hp} {s : Shared} {T : String} {x : V} {v : Value} (I : Inv X pins σ H s) (r : RelV x v) (ty : tyV X.K T x H) :
    s.TypeIs v T ∧ ∀ a, v = .ref a → ∃ ob, s.heap.get? a = some ob ∧ ob.dict = none := by
  cases x with
  | str z =>
    obtain ⟨t, rfl⟩ := r
    cases (show T = "str" from ty)
    exact ⟨typeIs_str s z t, fun _ e => nomatch e⟩
  | int i =>
    obtain ⟨t, rfl⟩ := r
    cases (show T = "int" from ty)
    exact ⟨typeIs_int s i t, fun _ e => nomatch e⟩
  | ref p =>
    cases r
    rcases ty with ⟨rfl, xs, hq⟩ | ⟨rfl, o, hk, hc, hd⟩ | ⟨rfl, hk⟩ | ⟨rfl, S, n, hk⟩
    · obtain ⟨its, _, pl, _⟩ := I.list hq
      refine ⟨pl.isList.typeIs, fun a e => ?_⟩
      cases e
      obtain ⟨o, n, e, c, hd, _⟩ := pl
      exact ⟨o, e, hd⟩
    · refine ⟨⟨o, I.kIn p o hk, hc⟩, fun a e => ?_⟩
      cases e
      exact ⟨o, I.kIn _ o hk, hd⟩
    · have z : ∃ o, s.heap.get? p = some o ∧ o.ExactDict := by
        rcases hk with ⟨kvs, hk⟩ | ⟨kvs, hk⟩
        · obtain ⟨_, _, _, _, o, _, _, e, ex, _⟩ := I.hok p _ hk
          exact ⟨o, e, ex⟩
        · obtain ⟨_, _, _, _, o, _, _, e, ex, _⟩ := I.hok p _ hk
          exact ⟨o, e, ex⟩
      obtain ⟨o, e, ex⟩ := z
      refine ⟨⟨o, e, ex.1⟩, fun a e2 => ?_⟩
      cases e2
      exact ⟨o, e, ex.2.1⟩
    · obtain ⟨o, _, _, _, e, ex, _⟩ := I.hok p _ hk
      refine ⟨⟨o, e, ex.1⟩, fun a e2 => ?_⟩
      cases e2
      exact ⟨o, e, ex.2.1⟩
  | _ => exact False.elim ty
def tBM0 (K : PySem.W.Frag) (T : String) (r : V → List V → Hp → VK → Prop) (to : TE) : TE := fun σ H Q => to σ H fun x H1 => tyV K T x H1 ∧ r x [] H1 Q
def tBM (K : PySem.W.Frag) (T : String) (r : V → List V → Hp → VK → Prop) (to : TE) (t : TA) : TE := fun σ H Q => to σ H fun x H1 => tyV K T x H1 ∧ t σ H1 fun xs H2 => r x xs H2 Q
variable {o e : Expr} {es : List Expr} {to : TE} {t : TA} {name : Str} {apos cpos : Pos} {T id : String} {r : V → List V → Hp → VK → Prop}
theorem pe_bm0 (pa : PlainAttrs T) (slot : Slot T name id) (hty : typeOf (.builtin id) = pure (.type "method_descriptor")) (hm : MtR X id r) (ho : PE X o to)
    (hbase : attributeBase o name X.env (eval o X.env) = eval o X.env := by rfl) (hline : (apos.endLine == cpos.line) = true := by rfl) : PE X (.Call (.Attribute o name apos) [] [] cpos) (tBM0 X.K T r to) := by
  intro pins s σ H Q I h
  refine wpAny_Call_method0_late hbase hline (thn (ho pins s σ H _ I h) fun v s1 ⟨x, H1, I1, r1, ty, q1⟩ => ?_)
  obtain ⟨h1, h2⟩ := tyV_is I1 r1 ty
  exact ⟨T, id, pa, slot, hty, h1, h2, Calls.callWith_builtin rfl (PySem.evalArgs_none (hm pins s1 σ H1 x [] v [] Q I1 r1 .nil q1))⟩
theorem pe_bm (pa : PlainAttrs T) (slot : Slot T name id) (hty : typeOf (.builtin id) = pure (.type "method_descriptor")) (hm : MtR X id r) (ho : PE X o to) (ha : PA X (e :: es) t)
    (hbase : attributeBase o name X.env (eval o X.env) = eval o X.env := by rfl)
    (hfew : ((backTo cpos (starEach (e :: es) X.env)).all (fun x => !x.1) && (backToKw cpos (keywordEach [] X.env)).all (fun x => x.1.isSome)
      && decide ((e :: es).length + ([] : List Keyword).length + (if ([] : List Keyword).isEmpty then 0 else 1) < 30)) = true := by rfl)
    (hline : (apos.endLine == cpos.line) = true := by rfl) (hs : starEach (e :: es) X.env = (false, eval e X.env) :: starEach es X.env := by rfl) (hplain : (backTo cpos (starEach es X.env)).any (·.1) = false := by rfl) :
    PE X (.Call (.Attribute o name apos) (e :: es) [] cpos) (tBM X.K T r to t) := by
  intro pins s σ H Q I h
  refine wpAny_Call_method_late hbase hfew hline rfl (thn (ho pins s σ H _ I h) fun v s1 ⟨x, H1, I1, r1, ty, q1⟩ => ?_)
  obtain ⟨h1, h2⟩ := tyV_is I1 r1 ty
  refine ⟨T, id, pa, slot, hty, h1, h2, ?_⟩
  have hA := ha cpos pins s1 σ H1 _ I1 q1
  rw [hs] at hA ⊢
  refine Calls.callWith_builtin (by show (false || (backTo cpos (starEach es X.env)).any (·.1)) = false; rw [hplain] <;> rfl) (Calls.evalArgs_plain ?_)
  exact thn hA fun us s2 ⟨vs, H2, I2, r2, q2⟩ => hm pins s2 σ H2 x vs v us Q I2 r1 r2 q2
/- xs.append(e), list.index on a module's tuple .. are MtR facts of 06m -/
end
end L2

namespace L2
open PySem PySem.Spec PyProof.Rows

def MtM (X : Cx) (id : String) (r : V → List V → Hp → VK → Prop) : Prop :=
  ∀ (pins : List (Addr × Obj)) (s : Shared) (σ : St) (H : Hp) (x : V) (xs : List V) (v : Value) (us : List Value) (Q : VK), Inv X pins σ H s → RelV x v → Vals xs us → r x xs H Q →
    wpAny (model X.prog X.w) X.A (call (.builtin id) (v :: us)) (EP X pins σ Q) X.xe s

/-! ### lists of values -/
theorem Vals.one : ∀ {x : V} {us : List Value}, Vals [x] us → ∃ u, us = [u] ∧ RelV x u
  | _, _, .cons r .nil => ⟨_, rfl, r⟩
theorem Vals.zero : ∀ {us : List Value}, Vals [] us → us = []
  | _, .nil => rfl
theorem Vals.eraseIdx : ∀ {xs : List V} {us : List Value} (i : Nat), Vals xs us → Vals (xs.eraseIdx i) (us.eraseIdx i)
  | _, _, _, .nil => .nil
  | _, _, 0, .cons _ t => t
  | _, _, i + 1, .cons r t => .cons r (Vals.eraseIdx i t)
theorem len_erase {α : Type} : ∀ (l : List α) (i : Nat), (l.eraseIdx i).length ≤ l.length
  | [], _ => Nat.le_refl _
  | _ :: _, 0 => Nat.le_succ _
  | _ :: r, i + 1 => Nat.succ_le_succ (len_erase r i)
section
variable {X : Cx} {pins : List (Addr × Obj)} {σ : St} {H : Hp} {s : Shared} {l b : Addr} {xs ys zs : List V}

/-! ### the two steps: a tracked list is rewritten, a new list is laid -/
theorem Inv.lset {its its' : List Value} {n : Nat} {f : Array Value → Array Value} {t' : Nat} (I : Inv X pins σ H s) (hH : H l = some (.lst xs))
    (e : s.heap.get? l = some { cls := .type "list", data := .seq its.toArray n }) (hf : f its.toArray = its'.toArray) (hv : Vals ys its') (hz : ys.length ≤ sizeLine) :
    Inv X pins σ (upd H l (.lst ys)) { s with heap := s.heap.update l (Obj.mapSeq f), toks := t' } := by
  have q := PySem.IsL.update e f
  rw [hf] at q
  refine I.write (x := l) (e := l) (by rw [hH]; exact trivial) (.inl rfl) (fun b' u hb hu => (Heap.get?_update_other s.heap (Obj.mapSeq f) (Ne.symm hb)).trans hu) ⟨_, q⟩ ?_
  exact ⟨hz, its', _, hv, q⟩
theorem Inv.lnew {its : List Value} {t' : Nat} (I : Inv X pins σ H s) (hv : Vals ys its) (hz : ys.length ≤ sizeLine) :
    Inv X pins σ (upd H s.heap.objs.size (.lst ys)) { s with heap := s.heap.push { cls := .type "list", data := .seq its.toArray }, toks := t' } :=
  I.laid (fun _ _ q => Heap.get?_push_of_some _ q) (Nat.le_refl _) ⟨hz, its, 0, hv, Heap.get?_push_size _ rfl⟩
theorem Inv.fresh (I : Inv X pins σ H s) : H s.heap.objs.size = none := I.hok.fresh (Nat.le_refl _)
theorem Inv.lstM (I : Inv X pins σ H s) (hH : H l = some (.lst xs)) : xs.length ≤ sizeLine ∧ ∃ (its : List Value) (n : Nat), Vals xs its ∧ xs.length = its.length ∧ s.heap.get? l = some { cls := .type "list", data := .seq its.toArray n } := by
  obtain ⟨z, its, n, r, e⟩ := I.hok l _ hH
  exact ⟨z, its, n, r, r.length, e⟩

end

section
variable {X : Cx}

/-! ### methods -/
def rAppend : V → List V → Hp → VK → Prop := fun x vs H Q => ∃ l xs y, x = .ref l ∧ vs = [y] ∧ H l = some (.lst xs) ∧ xs.length < sizeLine ∧ Q .non (upd H l (.lst (xs ++ [y])))
theorem mt_append : MtM X "list.append" rAppend := by
  intro pins s σ H x vs v us Q I rx rv h
  obtain ⟨l, xs, y, rfl, rfl, hH, hz, q⟩ := h
  cases rx
  obtain ⟨u, rfl, ru⟩ := rv.one
  obtain ⟨z, its, n, r, hl, e⟩ := I.lstM hH
  refine call_meets F.slot_list_append ⟨_, e, rfl⟩ F.entry_list_append (F.args_list_append_2 _ _) (PySem.list_append l its.toArray n u (by rw [List.size_toArray]; omega)) ⟨e, ?_⟩
  refine ⟨.non, _, I.lset (its' := its ++ [u]) hH e (by simp) (r.append (.cons ru .nil)) ?_, rfl, q⟩
  rw [List.length_append, List.length_singleton]
  omega

def rPopAt : V → List V → Hp → VK → Prop := fun x vs H Q => ∃ l xs i k y, x = .ref l ∧ vs = [.int i] ∧ H l = some (.lst xs) ∧ -(2 ^ 63) ≤ i ∧ i < 2 ^ 63 ∧ seqIndex? i xs.length = some k ∧ xs[k]? = some y ∧ Q y (upd H l (.lst (xs.eraseIdx k)))
theorem mt_popAt : MtM X "list.pop" rPopAt := by
  intro pins s σ H x vs v us Q I rx rv h
  obtain ⟨l, xs, i, k, y, rfl, rfl, hH, h1, h2, hk, hy, q⟩ := h
  cases rx
  obtain ⟨u, rfl, ru⟩ := rv.one
  obtain ⟨t, rfl⟩ := ru
  obtain ⟨z, its, n, r, hl, e⟩ := I.lstM hH
  obtain ⟨w, hw, rw'⟩ := r.get hy
  refine call_meets F.slot_list_pop ⟨_, e, rfl⟩ F.entry_list_pop (F.args_list_pop_2 _ _)
    (MeetsSeq.list_pop_at l its.toArray n i t k w (fitsIndex_both h1 h2) (by rw [List.size_toArray, ← hl]; exact hk) (by rw [← Array.getElem?_toList]; exact hw) (by rw [List.size_toArray]; omega)) ⟨e, ?_⟩
  refine ⟨y, _, I.lset (its' := its.eraseIdx k) hH e ?_ (r.eraseIdx k) ?_, rw', q⟩
  · show its.toArray.eraseIdxIfInBounds k = (its.eraseIdx k).toArray
    rw [List.eraseIdxIfInBounds_toArray]
  · have := len_erase xs k
    omega

def rClear : V → List V → Hp → VK → Prop := fun x vs H Q => ∃ l xs, x = .ref l ∧ vs = [] ∧ H l = some (.lst xs) ∧ Q .non (upd H l (.lst []))
theorem mt_clear : MtM X "list.clear" rClear := by
  intro pins s σ H x vs v us Q I rx rv h
  obtain ⟨l, xs, rfl, rfl, hH, q⟩ := h
  cases rx
  have hus := rv.zero
  subst hus
  obtain ⟨z, its, n, r, hl, e⟩ := I.lstM hH
  refine call_meets F.slot_list_clear ⟨_, e, rfl⟩ F.entry_list_clear (F.args_list_clear_1 _) (AutoSeq1.list_clear_list_0 l its.toArray n (by rw [List.size_toArray]; omega)) ⟨e, ?_⟩
  exact ⟨.non, _, I.lset (its' := []) (ys := []) hH e rfl .nil (Nat.zero_le _), rfl, q⟩

/-! ### list + list, list += list, list * int -/
def rCat : R2 := fun x y H Q => ∃ l b xs zs, x = .ref l ∧ y = .ref b ∧ H l = some (.lst xs) ∧ H b = some (.lst zs) ∧ xs.length + zs.length ≤ sizeLine ∧ ∀ p, H p = none → Q (.ref p) (upd H p (.lst (xs ++ zs)))
theorem op_cat : OpR X (binaryOp .Add) rCat := by
  intro pins s σ H x y v u Q I rx ry h
  obtain ⟨l, b, xs, zs, rfl, rfl, hH, hB, hz, q⟩ := h
  cases rx
  cases ry
  obtain ⟨z, its, n, r, hl, e⟩ := I.lstM hH
  obtain ⟨z2, its2, n2, r2, hl2, e2⟩ := I.lstM hB
  refine PySem.P.add_list e e2 ?_ (by rw [List.size_toArray, List.size_toArray]; omega)
  have ea : its.toArray ++ its2.toArray = (its ++ its2).toArray := by simp
  rw [ea]
  exact ⟨.ref _, _, I.lnew (t' := s.toks) (r.append r2) (by rw [List.length_append]; omega), rfl, q _ I.fresh⟩
/-! ### del xs[i] -/
end

/-! ### xs[a:b] = ys -/
section
variable {prog : Program} {w : World} {A : Around} {E : Value → Shared → Prop} {s : Shared}
end

section
variable {X : Cx}
end
end L2

namespace Att
open PySem PySem.W PySem.Calls PyProof.Rows

/-! ### the script -/
theorem ints_of_wellAll {P : Params} {h : Heap} : ∀ (ns : List Int) (vs : List Value), WellAll P h vs (ns.map WData.int) → IntsAre vs ns := by
  intro ns
  induction ns with
  | nil =>
    intro vs w
    rw [List.map_nil] at w
    cases w
    exact .nil
  | cons n ns ih =>
    intro vs w
    rw [List.map_cons] at w
    cases w with
    | cons a b =>
      cases a
      exact .cons _ _ (ih _ b)

theorem script_of {l : OpenLaw} {n : Nat} (hn : l.most = some n) {P : Params} {h : Heap} {args : List WData} {vals : List Value}
    (hpre : l.row.toRowW.claim.pre args = true) (hwl : WellAll P h vals args) :
    ∃ a vs ns, vals = [Value.ref a] ∧ args = [WData.list (ns.map WData.int)] ∧ h.get? a = some { cls := .type "list", data := .seq vs.toArray } ∧ IntsAre vs ns ∧ ns.length ≤ n := by
  have hsh : WShape.hasAll [] args [.list .int] = true := (pre_splitW hpre).1
  have hc : l.pre.holds [] { args := args } = true := (pre_splitW hpre).2
  obtain ⟨d, r, rfl, h1, h2⟩ := hasAllW_cons hsh
  obtain rfl := hasAllW_nil h2
  obtain ⟨xs, rfl, h3⟩ := hasW_list h1
  obtain ⟨ns, rfl⟩ := items_int h3
  have hlen : ns.length ≤ n := by
    unfold OpenLaw.pre at hc
    have h4 : (WTm.not (.lt (.lit (.int (n : Int))) (.len (.arg 0)))).holds [] { args := [.list (ns.map .int)] } = true := by
      have h4 := (holds_andW hc).1
      rw [hn] at h4
      exact h4
    have h5 := condW_of h4 (w_not (w_lt w_lit (w_len_list (w_arg rfl))))
    rw [List.length_map] at h5
    refine Nat.le_of_not_lt fun q => ?_
    have q' : (n : Int) < ((ns.length : Nat) : Int) := by omega
    first
      | (rw [decide_eq_true q'] at h5; exact absurd h5 (by decide))
      | (simp at h5; omega)
  cases hwl with
  | cons w1 w2 =>
    cases w2
    cases w1 with
    | list ho hall => exact ⟨_, _, ns, rfl, rfl, ho, ints_of_wellAll ns _ hall, hlen⟩

theorem post_true (l : OpenLaw) (args : List WData) : l.row.toRowW.claim.post args (.bool true) args = true :=
  postW_of (r := l.row.toRowW) (X := (true == true))
    (show WShape.has [] (.bool true) .bool = true by first | rfl | decide | simp [WShape.has, WShape.arms, WShape.armsAll])
    (show (WTm.eq .res (.lit (.bool true))).value [] { args := args, res := some (.bool true), after := args } = some (.bool (true == true)) from w_eq_bool (w_res rfl) w_lit) rfl

/-! ### the attachment: holds_open's last premise (the goal 'hc' behind k_head) from a wpAny of the law's body -/
/-- the same from a codeAny of the CALL (for a layer whose function contracts speak of calls) -/
theorem attach_call {l : OpenLaw} {n : Nat} {q : Program} {loose : List Str} {XP : (Str → Option Value) → Heap → Prop} {YP : World → Heap → Prop} {d : DefRec}
    (hn : l.most = some n) (hdf : d.params.defaults = [])
    (call : ∀ (w : World) (s₀ s₁ : Shared) (mg mb : Str → Option Value) (fa : Addr) (o : Obj) (pm cd doc : Value) (a : Addr) (vs : List Value) (ns : List Int),
      Ground q loose [] XP w s₀ mg mb s₁.heap → YP w s₁.heap →
      s₁.heap.get? fa = some o → o.data = .func (docDef d.name d.params d.body d.scope pm cd doc) → s₁.heap.CodeRec cd d.name → mg d.name = some (.ref fa) →
      s₁.heap.get? a = some { cls := .type "list", data := .seq vs.toArray } → IntsAre vs ns → ns.length ≤ n → s₁.gens = #[] →
      codeAny (model l.prog w) callerA (.call (.ref fa) ⟨[.ref a], []⟩) (fun r s' => r = .ok (.ret (.bool true)) ∧ OldK s₁.heap s'.heap ∧ s'.os = s₁.os ∧ AllBare s'.gens) s₁) :
    WalkO q loose XP YP l.row.toRowW d [] (fun f vs => PySem.call f vs) := by
  intro w s₀ s₁ mg mb G Y fa o pm cd doc dV kV ho hd hcd hD hmg hg args vals as hpre hlay hrd hwl hlo
  obtain rfl : dV = .none := Dflts.none hD hdf
  obtain rfl : kV = .none := Dflts.noKw hD
  obtain ⟨a, vs, ns, rfl, rfl, hobj, hints, hlen⟩ := script_of hn hpre hwl
  refine enter_call (codeAny_mono (call w s₀ s₁ mg mb fa o pm cd doc a vs ns G Y ho (fd_plain hd) hcd hmg hobj hints hlen hg) fun r s' hq => ?_)
  obtain ⟨rfl, h2, h3, h4⟩ := hq
  exact ⟨.inl ⟨.bool true, .bool true, [], rfl, fun _ => rfl, .bool true, post_true l _, fun _ => ⟨List.Pairwise.nil, fun _ hm => (nomatch hm)⟩⟩, h2, h3, h4⟩

/-! ### rules over ANY heap (no ledger) from facts about the written part K: the library's own take a ledger (News) for what they write -/
section
variable {prog : Program} {w : World} {A : Around} {E : Value → Shared → Prop} {s : Shared} {K : Frag}

/-! the whole heap as the ledger: makes every rule that writes through a ledger a rule over any heap -/
end
end Att

namespace L2
open PySem PySem.Spec PyProof.Rows

theorem vals_ints : ∀ {vs : List Value} {ns : List Int}, IntsAre vs ns → Vals (ns.map V.int) vs
  | _, _, .nil => .nil
  | _, _, .cons n t h => .cons ⟨t, rfl⟩ (vals_ints h)

/-- nothing is tracked but the script, known to the object (or it is an object of the module) -/
def Only (H : Hp) : Prop := ∀ b, H b = none ∨ ∃ o xs, H b = some (.frz o (.lst xs))

/-- THE HEAD: the law's promise, at the heap behind the top. F, the promise of the law's def, may use that base is part of the heap (so K.In base, base.Ns mainGlobals mg stand in Mod) -/
theorem law_call {P : Program} {w : World} {K : PySem.W.Frag} {mg mb : Str → Option Value} {CX : CXT} {k : Nat} {fa a : Addr} {fd : FuncData} {x : Str} {sp : Sp} {s₁ : Shared} {vs : List Value} {ns : List Int}
    (KX : K.In s₁.heap) (hns : s₁.heap.Ns mainGlobals mg) (hb : s₁.heap.Ns builtinsNs mb) (hbb : ∀ x : Str, x ≠ "__name__" → mb x = bootBuiltins x) (hlim : s₁.heap.NoLimit) (hg : s₁.gens = #[])
    (ha : s₁.heap.get? a = some { cls := .type "list", data := .seq vs.toArray }) (hi : IntsAre vs ns) (hl : ns.length ≤ sizeLine) (hr : Room k callerA)
    (F : ∀ base : Heap, K.In base → base.Ns mainGlobals mg → FnOk P w K mg base CX k fa fd [x] sp) (hbind : ∀ (s : Shared) (u : Value), BindsTo s fd ⟨[u], []⟩ [(x, u)])
    (hsp : ∀ H : Hp, Only H → SqL K H a (ns.map V.int) → sp [.ref a] H (fun v _ => v = .bl true) fun _ _ _ => False)
    (hCX : ∀ H e s', CX [] H s₁ (fun _ _ _ => False) e s' → False) :
    codeAny (model P w) callerA (.call (.ref fa) ⟨[.ref a], []⟩) (fun r s' => r = .ok (.ret (.bool true)) ∧ OldK s₁.heap s'.heap ∧ s'.os = s₁.os ∧ AllBare s'.gens) s₁ := by
  have rv := vals_ints hi
  have lenV := hi.length
  -- from an abstract heap in which nothing but the script may be tracked
  have core : ∀ H : Hp, Only H → SqL K H a (ns.map V.int) → HOk P w H s₁.heap → (∀ b, H b ≠ none → b = a) → (H a ≠ none → K.lookup a = none) →
      codeAny (model P w) callerA (.call (.ref fa) ⟨[.ref a], []⟩) (fun r s' => r = .ok (.ret (.bool true)) ∧ OldK s₁.heap s'.heap ∧ s'.os = s₁.os ∧ AllBare s'.gens) s₁ := by
    intro H hO hS hok hA hK
    have base_of : ∀ {b : Addr} {o : Obj}, s₁.heap.get? b = some o → H b = none → (hidT s₁.heap H).get? b = some o := fun e n => hidT_get e n
    have noA : ∀ {b : Addr} {o : Obj} {es : Array DictEntry} {ep : Nat}, s₁.heap.get? b = some o → o.data = .dict es ep → H b = none := fun {b o es ep} e d => by
      cases q : H b with
      | none => rfl
      | some u =>
        have e' : b = a := hA b (by rw [q]; simp)
        subst e'
        rw [ha] at e; cases e
        have d' : Data.seq vs.toArray _ = Data.dict es ep := d
        cases d'
    have nsK : ∀ {b : Addr} {m : Str → Option Value}, s₁.heap.Ns b m → (hidT s₁.heap H).Ns b m := fun {b m} ⟨o, es, ep, e, d, r⟩ => ⟨o, es, ep, base_of e (noA e d), d, r⟩
    have hKb : K.In (hidT s₁.heap H) := fun b o e => base_of (KX b o e) (by
      cases q : H b with
      | none => rfl
      | some u =>
        have e' : b = a := hA b (by rw [q]; simp)
        subst e'
        rw [hK (by rw [q]; simp)] at e; cases e)
    have hM : Mod K mg (hidT s₁.heap H) := ⟨hKb, nsK hns, ⟨mb, nsK hb, hbb⟩, let ⟨mc, h1, h2⟩ := hlim; ⟨mc, nsK h1, h2⟩⟩
    have e0 : Env0 P w K mg (hidT s₁.heap H) callerA [] s₁ H := ⟨rfl, hM, fun b o e => of_hidT e, Nat.le_of_eq (hidT_size _ _), trivial, fun b hb => absurd (show b ∈ ([] : List Addr) from hb) (by simp), hok, .of_eq hg⟩
    refine codeAny_mono ((F _ hKb (nsK hns)).run callerA [] s₁ H ⟨[.ref a], []⟩ [.ref a] [.ref a] _ _ hr e0 (hbind s₁ (.ref a)) (.cons rfl .nil) (hsp H hO hS)) fun r s' h => ?_
    cases r with
    | error e => exact (hCX H e s' h).elim
    | ok fl =>
      cases fl with
      | next => exact False.elim h
      | brk => exact False.elim h
      | cont => exact False.elim h
      | ret u =>
        obtain ⟨v, H', os, bare, un, hok', r', q⟩ := h
        have q' : v = .bl true := q
        subst q'
        obtain rfl : u = Value.bool true := r'
        refine ⟨rfl, OldK.of_keep fun b o e => ?_, os, bare⟩
        cases q : H b with
        | none => exact un.keep b o e q (by intro z; exact absurd (show b ∈ ([] : List Addr) from z) (by simp)) (by simp)
        | some u =>
          rcases hO b with z | ⟨ob, xs, z⟩
          · rw [q] at z; cases z
          · have z2 := un.frzs b ob _ z
            obtain ⟨e1, _⟩ := hok b _ z
            obtain ⟨e2, _⟩ := hok' b _ z2
            rw [e] at e1; cases e1
            exact e2
  cases hk : K.lookup a with
  | some o =>
    -- the script is one of the module's own objects
    have e := KX a o hk
    rw [ha] at e
    cases e
    refine core (fun _ => none) (fun _ => .inl rfl) (.inr ⟨_, vs.toArray, _, hk, rfl, rfl, rfl, by rw [List.size_toArray, lenV]; exact hl, by simpa using rv⟩) (fun b u z => by have z' : (none : Option HO) = some u := z; cases z') (fun b z => absurd rfl z) fun z => absurd rfl z
  | none =>
    refine core (fun b => if b = a then some (.frz { cls := .type "list", data := .seq vs.toArray } (.lst (ns.map V.int))) else none) (fun b => ?_) (.inl (.inr ⟨{ cls := .type "list", data := .seq vs.toArray }, if_pos rfl⟩)) (fun b u z => ?_) (fun b z => ?_) fun _ => hk
    · by_cases hb : b = a
      · exact .inr ⟨_, _, if_pos hb⟩
      · exact .inl (if_neg hb)
    · by_cases hb : b = a
      · have z' := (if_pos hb).symm.trans z
        cases z'
        subst hb
        exact ⟨ha, by rw [List.length_map]; exact hl, vs, _, rv, ha⟩
      · have z' := (if_neg hb).symm.trans z
        cases z'
    · by_cases hb : b = a
      · exact hb
      · exact absurd (if_neg hb) z
end L2

namespace L2
open PySem PySem.Spec PyProof.Rows

/-- the goal that k_head leaves (case hc), from the law's promise. F gives the function object fd (K's own) once, then the promise over every base -/
theorem walk_of {l : PySem.W.OpenLaw} {n k : Nat} {q : Program} {loose : List Str} {XP : (Str → Option Value) → Heap → Prop} {YP : World → Heap → Prop} {d : DefRec} {K : Params → PySem.W.Frag} {CX : World → CXT} {sp : World → Sp} {x : Str}
    (hn : l.most = some n) (hn2 : n ≤ sizeLine) (hdf : d.params.defaults = []) (hr : Room k callerA)
    (hY : ∀ (w : World) (h : Heap), YP w h → (K w.params).In h)
    (F : ∀ (w : World) (mg : Str → Option Value) (fa : Addr) (h : Heap), (K w.params).In h → h.Ns mainGlobals mg → mg d.name = some (.ref fa) →
      ∃ fd : FuncData, (∀ (s : Shared) (u : Value), BindsTo s fd ⟨[u], []⟩ [(x, u)]) ∧
        ∀ base : Heap, (K w.params).In base → base.Ns mainGlobals mg → FnOk l.prog w (K w.params) mg base (CX w) k fa fd [x] (sp w))
    (hsp : ∀ (w : World) (H : Hp) (a : Addr) (ns : List Int), ns.length ≤ n → Only H → SqL (K w.params) H a (ns.map V.int) → sp w [.ref a] H (fun v _ => v = .bl true) fun _ _ _ => False)
    (hCX : ∀ (w : World) (H : Hp) (s : Shared) (e : Value) (s' : Shared), CX w [] H s (fun _ _ _ => False) e s' → False) :
    PySem.W.WalkO q loose XP YP l.row.toRowW d [] (fun f vs => PySem.call f vs) := by
  refine Att.attach_call hn hdf fun w s₀ s₁ mg mb fa o pm cd doc a vs ns G Y ho hd hcd hmg hobj hints hlen hg => ?_
  have KX := hY w _ Y
  obtain ⟨fd, hb, hF⟩ := F w mg fa _ KX G.T.g hmg
  exact law_call KX G.T.g G.T.b G.T.builtins G.T.nolimit hg hobj hints (Nat.le_trans hlen hn2) hr hF hb (fun H hO hS => hsp w H a ns hlen hO hS) fun H e s' => hCX w H s₁ e s'
end L2

/- THE LAST THEOREM (shape; LID, My.* are yours):
   My.Adr: a structure of the addresses that your layer names (classes, functions); My.Txt K t: a structure (Prop) of the equations over K;
   My.txt_mk : {K} {implicit addresses ..} (e1 : nsIn K mainGlobals "law" = some (some (.ref f))) (e2 : K.lookup f = some ⟨oc, od, .func (fnOf "law" "law" params body scope dV kV doc pm an cdv ct), sl⟩) (e3 : codeIn K cdv "law" = true) .. : ∃ t, My.Txt K t

set_option maxRecDepth 100000 in
set_option maxHeartbeats 0 in
theorem PySem.Challenge.cw_LID_holds : PySem.Challenge.rw_LID.Holds := by
  w_on; o_law; k_head; (case hw => w_witness2)
  k_fill
  refine L2.walk_of (l := PySem.Challenge.rw_LID) (n := 63) (k := 40) (x := "script") (CX := fun w => ..) (sp := fun _ => My.sp_law) rfl (by decide) rfl ⟨rfl, by decide, by decide⟩ (fun w h Y => PySem.W.kIn_of Y) ?F ?S ?C
  case F =>
    intro w mg fa h KX G hmg
    have T : ∃ t, My.Txt (L2.KOf KX) t := by
      dsimp only [L2.KOf]                          -- K must stand as «<heap const> w.params» for k_is
      refine' My.txt_mk ?e1 ?e2 ?e3 ..
      (case e1 => PySem.W.k_is)                    -- in the order: a name -> its address -> its object -> its parts
      (case e2 => PySem.W.k_is)
      ..
    obtain ⟨t, T⟩ := T
    have e0 := hmg.symm.trans (PySem.W.mg_of KX G T.law)
    cases e0                                       -- fa is the law's own address
    exact ⟨_, fun s u => .of_eq rfl, fun base kb nb => My.law_fn T kb nb⟩     -- if «.of_eq rfl» comes too early: refine' ⟨_, ?b, fun base kb nb => My.law_fn T kb nb⟩; exact fun s u => .of_eq rfl
  case S => exact fun w H a ns hl hO hS => ..
  case C => exact ..
(the tactic k_is has no namespace: write k_is) -/

/-! SHORT WORDS over the layer: a def of the text, its body, what a loop and a test want. -/
namespace L2
open PySem PySem.Spec PyProof.Rows

/-! ### the text by places -/
/-- the j-th statement of a class's body -/
def inClass (s : Stmt) (j : Nat) : Stmt := match s with
  | .ClassDef _ _ _ body _ _ _ _ _ _ _ => body.getD j (.Pass ⟨0, 0, 0, 0⟩)
  | _ => .Pass ⟨0, 0, 0, 0⟩
def defArgs (s : Stmt) : Arguments := match s with
  | .FunctionDef _ a _ _ _ _ _ _ _ _ => a
  | _ => { posonlyargs := [], args := [], vararg := none, kwonlyargs := [], kw_defaults := [], kwarg := none, defaults := [] }
def defBody (s : Stmt) : List Stmt := match s with
  | .FunctionDef _ _ b _ _ _ _ _ _ _ => b
  | _ => []
def defScope (s : Stmt) : Scope := match s with
  | .FunctionDef _ _ _ _ _ _ sc _ _ _ => sc
  | _ => { kind := .function, names := [], isGenerator := false, isCoroutine := false }

/-! ### no exception leaves a def -/
abbrev CX0 : CXT := fun _ _ _ _ _ _ => False
abbrev E0 : XK := fun _ _ _ => False
theorem pass0 {X : Cx} : Passes CX0 X E0 := fun _ _ _ _ _ _ _ h => h.elim

/-! ### a def (or method) of the text as it stands behind the top -/
structure Fun (K : PySem.W.Frag) (x qual : Str) (st : Stmt) (f : Addr) (fd : FuncData) : Prop where
  ex : ∃ (oc : Value) (od : Option Addr) (kV doc pm : Value) (an : Option Addr) (cdv ct : Value) (osl : Array (Option Value)),
    fd = PySem.W.fnOf x qual (defArgs st) (defBody st) (defScope st) .none kV doc pm an cdv ct ∧ K.lookup f = some ⟨oc, od, .func fd, osl⟩ ∧ PySem.W.codeIn K cdv qual = true
  kp : PySem.W.keepIn K (.ref f) = true
section
variable {P : Program} {w : World} {K : PySem.W.Frag} {mg : Str → Option Value} {base : Heap}
/-- THE RULE for a def: its body as a term of rules, and the reading of that term -/
theorem Fun.ok {x qual : Str} {st : Stmt} {f : Addr} {fd : FuncData} {N ps : List Str} {k : Nat} {sp : Sp} (F : Fun K x qual st f fd) (S : FnScope N ps (defScope st)) (len : ∀ vs H Q E, sp vs H Q E → vs.length = ps.length)
    (hbody : ∀ (cdv : Value) (A : Around) (outer : List Env) (s : Shared) (H : Hp) (vs : List V) (Q : VK) (E : XK), Room k (A.deeper (envOfC qual (defScope st) s.heap.objs.size f cdv)) → sp vs H Q E →
      ∃ t, PSs (cxOf CX0 P w K mg base N qual (defScope st) f cdv A outer s H E).nox (defBody st) t ∧ t { nx := fun _ H' => Q .non H', rt := Q } (start N vs) H) : FnOk P w K mg base CX0 (k + 1) f fd ps sp := by
  obtain ⟨oc, od, kV, doc, pm, an, cdv, ct, osl, rfl, lk, hcd⟩ := F.ex
  refine fn_of lk hcd S len fun A outer s H vs Q E hr hsp => ?_
  obtain ⟨t, h, q⟩ := hbody cdv A outer s H vs Q E hr hsp
  exact ⟨t, h.nox, q⟩
/-- how its arguments bind (no defaults): h is «fun _ _ _ _ _ _ us hl => match us, hl with | [_, _], _ => rfl», one _ a parameter -/
theorem Fun.binds {x qual : Str} {st : Stmt} {f : Addr} {fd : FuncData} {ps : List Str} (F : Fun K x qual st f fd)
    (h : ∀ (kV doc pm : Value) (an : Option Addr) (cdv ct : Value) (us : List Value), us.length = ps.length → bindArgs (PySem.W.fnOf x qual (defArgs st) (defBody st) (defScope st) .none kV doc pm an cdv ct) ⟨us, []⟩ = pure (ps.zip us)) : Binds K fd ps [] := by
  obtain ⟨oc, od, kV, doc, pm, an, cdv, ct, osl, rfl, lk, hcd⟩ := F.ex
  exact .all (h kV doc pm an cdv ct)
theorem fun_mk {x qual : Str} {st : Stmt} {f : Addr} {oc : Value} {od an : Option Addr} {osl : Array (Option Value)} {kV doc pm cdv ct : Value} (l : K.lookup f = some ⟨oc, od, .func (PySem.W.fnOf x qual (defArgs st) (defBody st) (defScope st) .none kV doc pm an cdv ct), osl⟩)
    (c : PySem.W.codeIn K cdv qual = true) (k : PySem.W.keepIn K (.ref f) = true) : Fun K x qual st f (PySem.W.fnOf x qual (defArgs st) (defBody st) (defScope st) .none kV doc pm an cdv ct) := ⟨⟨oc, od, kV, doc, pm, an, cdv, ct, osl, rfl, l, c⟩, k⟩
end
/-! ### expressions in short: the name that stands in the i-th slot -/
section
variable {X : Cx}
theorem pv (i : Nat) {x : Str} {pos : Pos} (hN : X.N[i]? = some x := by rfl) (hv : Vis X.env.scope x := by first | exact Or.inl rfl | exact Or.inr (Or.inl rfl) | exact Or.inr (Or.inr rfl)) (hd : (x == ("__debug__" : Str)) = false := by decide)
    (hcd : (x == ("__classdict__" : Str)) = false := by decide) : PE X (.Name x pos) (tVar i) := pe_var hN hv hd hcd
end

/-! ### tests -/
theorem iteF {A B : Prop} (h : B) : if false = true then A else B := by
  rw [if_neg Bool.false_ne_true]
  exact h
theorem iteT {A B : Prop} (h : A) : if true = true then A else B := by
  rw [if_pos rfl]
  exact h
theorem ite2 {c A B : Prop} [Decidable c] (h1 : c → A) (h2 : ¬ c → B) : if c then A else B := by
  by_cases h : c
  · rw [if_pos h]
    exact h1 h
  · rw [if_neg h]
    exact h2 h
/-! ### heaps -/
/-- all that was tracked is as it was -/
def Same (H H' : Hp) : Prop := ∀ b o, H b = some o → H' b = some o
theorem Same.refl (H : Hp) : Same H H := fun _ _ h => h
theorem Same.trans {H H1 H2 : Hp} (a : Same H H1) (b : Same H1 H2) : Same H H2 := fun c o h => b c o (a c o h)
theorem Same.free {H H' : Hp} (e : Same H H') {l : Addr} (h : H' l = Option.none) : H l = Option.none := by
  cases q : H l with
  | none => rfl
  | some o =>
    rw [e l o q] at h
    cases h
end L2

set_option Elab.async false
set_option linter.all false
set_option maxRecDepth 100000
namespace L2
open PySem PySem.Spec PyProof.Rows
section
variable {X : Cx} {pins : List (Addr × Obj)} {σ : St} {H : Hp} {s : Shared} {h' : Heap}
/-- several untracked records turned, one object laid -/
theorem Inv.turnedLaid {fp : List Addr} {a : Addr} {o : HO} {t' : Nat} (I : Inv X pins σ H s) (hf : ∀ b ∈ fp, FpOk X pins H b) (k : ∀ b ob, b ∉ fp → s.heap.get? b = some ob → h'.get? b = some ob)
    (hp : s.heap.objs.size ≤ a) (new : ObjOk X.prog X.w (upd H a o) h' a o) : Inv X pins σ (upd H a o) { s with heap := h', toks := t' } := by
  have hn : H a = none := I.hok.fresh hp
  have nit : ∀ b u, H b = some u → b ∉ fp := fun b u e z => by rw [(hf b z).1] at e; cases e
  refine I.step (g' := s.gens) (d' := s.drawn) (ch := fp) (fun b hb => ?_) (fun b ob _ _ hc e _ => k b ob hc e) (fun b ob _ _ hc e _ => ⟨ob.slots, k b ob hc e⟩) (fun b ob hc e n => ?_)
    (fun b ob hc e => ⟨ob, k b ob hc e⟩) (fun b xs q => by rw [upd_ne (ne_of_none q hn)]; exact q) (fun b u xs q => by rw [upd_ne (ne_of_none q hn)]; exact q)
    (fun b ps q => ⟨#[], by rw [upd_ne (ne_of_none q hn), q]; simp⟩) (fun m hm => ?_) (fun b u e => ?_) I.bare
  · obtain ⟨f0, f1, f2, f3, f4, f5⟩ := hf b hb
    exact ⟨f3, f1, f4, f5⟩
  · rw [upd_ne (Nat.ne_of_lt (Nat.lt_of_lt_of_le (Heap.lt_size e) hp))]; exact n
  · obtain ⟨ob, es, ep, ho, r⟩ := hm
    exact ⟨ob, es, ep, k _ ob (fun z => (hf _ z).2.1 rfl) ho, r⟩
  · by_cases hb : b = a
    · subst hb; rw [upd_same] at e; cases e; exact new
    · rw [upd_ne hb] at e
      refine (I.hok b u e).stay (fun c v hc q => k c v ?_ q) (fun c q => by rw [upd_ne (ne_of_none q hn)]; exact q) fun c xs q => by rw [upd_ne (ne_of_none q hn)]; exact q
      rcases hc with z | z
      · rw [z]; exact nit b u e
      · exact nit c _ z
theorem Inv.turnedAll {fp : List Addr} {t' : Nat} (I : Inv X pins σ H s) (hf : ∀ b ∈ fp, FpOk X pins H b) (k : ∀ b ob, b ∉ fp → s.heap.get? b = some ob → h'.get? b = some ob) : Inv X pins σ H { s with heap := h', toks := t' } := by
  have nit : ∀ b u, H b = some u → b ∉ fp := fun b u e z => by rw [(hf b z).1] at e; cases e
  refine I.step (g' := s.gens) (d' := s.drawn) (ch := fp) (fun b hb => ?_) (fun b ob _ _ hc e _ => k b ob hc e) (fun b ob _ _ hc e _ => ⟨ob.slots, k b ob hc e⟩) (fun b ob hc e n => n)
    (fun b ob hc e => ⟨ob, k b ob hc e⟩) (fun b xs q => q) (fun b u xs q => q) (fun b ps q => ⟨#[], by rw [q]; simp⟩) (fun m hm => ?_) (fun b u e => ?_) I.bare
  · obtain ⟨f0, f1, f2, f3, f4, f5⟩ := hf b hb
    exact ⟨f3, f1, f4, f5⟩
  · obtain ⟨ob, es, ep, ho, r⟩ := hm
    exact ⟨ob, es, ep, k _ ob (fun z => (hf _ z).2.1 rfl) ho, r⟩
  · refine (I.hok b u e).stay (fun c v hc q => k c v ?_ q) (fun c q => q) fun c xs q => q
    rcases hc with z | z
    · rw [z]; exact nit b u e
    · exact nit c _ z
end
/-- enumerate over the list at a -/
def Ite (K : PySem.W.Frag) (a : Addr) : It :=
  ⟨fun i H => ∃ xs x, SqL K H a xs ∧ xs[i]? = some x,
   fun i H x H' => ∃ p v, x = .ref p ∧ H p = none ∧ (∀ xs, SqL K H a xs → xs[i]? = some v) ∧ H' = upd H p (.tup [.int i, v]),
   fun i H => ∃ xs, SqL K H a xs ∧ xs.length ≤ i⟩
theorem turn_enum {P : Program} {w : World} {K : PySem.W.Frag} {elts : List Expr} {k : Nat} {pos : Pos} (a e it : Addr) (hne : e ≠ it) :
    Turn P w K (.Tuple elts k pos) (Ite K a) [e, it] e (fun i h => (∃ old, IsEnum h e it ((i : Nat) : Int) old) ∧ h.IsListIter it a i) where
  mem := by simp
  obj := fun i h st b hb => by
    obtain ⟨⟨old, st1⟩, st2⟩ := st
    rcases List.mem_cons.mp hb with rfl | hb
    · exact ⟨_, st1, fun v z => by
        have z' : Data.fields _ = Data.cell v := z
        cases z'⟩
    · have e' := List.mem_singleton.mp hb
      subst e'
      obtain ⟨o, q, c, d⟩ := st2
      exact ⟨o, q, fun v z => by rw [d] at z; cases z⟩
  keep := fun i h h' st k => ⟨let ⟨old, q⟩ := st.1; ⟨old, k e (by simp) _ q⟩, st.2.at fun o q => k it (by simp) o q⟩
  item := by
    intro X hP hw hK hc i pins s σ H E I hf st hg
    subst hP hw hK
    obtain ⟨xs, x, hq, hx⟩ := hg
    obtain ⟨its, rv, p, hz⟩ := I.list hq
    obtain ⟨u, hu, ru⟩ := rv.get hx
    obtain ⟨⟨old, st1⟩, st2⟩ := st
    have he := hf e (by simp)
    have hi := hf it (by simp)
    have hlt : e < s.heap.objs.size := Heap.lt_size st1
    have hlt2 : it < s.heap.objs.size := by obtain ⟨o, q, _⟩ := st2; exact Heap.lt_size q
    refine wpAny_pyNext_enum_item st1 st2 p.isList (x := u) (by simpa using hu) hne fun h' ho' st' hT hsz kk => ?_
    refine ⟨_, rfl, wpAny_letOwnedTupleGo_enum ho' fun h2 he2 hs2 => ?_⟩
    have hT2 : h2.get? s.heap.objs.size = some { cls := .type "tuple", data := .seq #[.int i s.toks, u] } := hs2.extBut _ _ (Nat.ne_of_gt hlt) hT
    have I1 : Inv X pins σ (upd H s.heap.objs.size (.tup [.int i, x])) { s with heap := h2, toks := s.toks + 1 } := by
      refine I.turnedLaid (fp := [e, it]) hf (fun b ob hb q => ?_) (Nat.le_refl _) ?_
      · have hb1 : b ≠ e := fun z => hb (by simp [z])
        have hb2 : b ≠ it := fun z => hb (by simp [z])
        exact hs2.extBut b ob hb1 (kk b ob hb1 hb2 q)
      · exact ⟨by show 2 ≤ sizeLine; decide, [.int i s.toks, u], .cons ⟨_, rfl⟩ (.cons ru .nil), _, hT2, rfl, _, rfl⟩
    refine ⟨.ref s.heap.objs.size, _, I1, rfl, ⟨_, x, rfl, I.hok.fresh (Nat.le_refl _), fun ys hy => by rw [I.list_inj hy hq]; exact hx, rfl⟩, ⟨⟨_, by simpa using he2⟩, ?_⟩, fun b hb => ?_⟩
    · exact st'.at fun o q => hs2.extBut it o (Ne.symm hne) q
    · rcases List.mem_cons.mp hb with rfl | hb
      · rw [upd_ne (Nat.ne_of_lt hlt)]; exact he.1
      · have e' := List.mem_singleton.mp hb
        subst e'
        rw [upd_ne (Nat.ne_of_lt hlt2)]; exact hi.1
  done := by
    intro X hP hw hK hc i pins s σ H E I hf st hg
    subst hP hw hK
    obtain ⟨xs, hq, hx⟩ := hg
    obtain ⟨its, rv, p, hz⟩ := I.list hq
    obtain ⟨⟨old, st1⟩, st2⟩ := st
    have hl := rv.length
    refine wpAny_pyNext_enum_end (I.ok.hd hc) st1 st2 p.isList (by simp; omega) fun h' eb => ⟨rfl, ?_⟩
    exact I.turnedAll (t' := s.toks) (fp := [e, it]) hf fun b ob hb q => eb b ob (fun z => hb (by simp [z])) q
  self := fun _ _ _ _ _ st h => let ⟨_, q⟩ := st.1; wpAny_pyIter_enum q h
section
variable {X : Cx}
def iEnum (tl : TA) : TI := fun σ H R => tl σ H fun vs H1 => ∃ a xs, vs = [.ref a] ∧ H1 a = some (.lst xs) ∧ R (Ite X.K a) H1
theorem pi_enum {elts : List Expr} {k : Nat} {tpos : Pos} {l : Expr} {tl : TA} {p pos : Pos} (hg : Gl X "enumerate") (hm : X.mg "enumerate" = none) (ha : PA X [l] tl) (hs : starEach [l] X.env = [(false, eval l X.env)] := by rfl) :
    PI X (.Tuple elts k tpos) (.Call (.Name "enumerate" p) [l] [] pos) (iEnum (X := X) tl) := by
  intro pins s σ H R I h
  refine Call_ (ld_blt I hg hm boot_enumerate (PyProof.Rows.callWith_type1 (thn (ha pos pins s σ H _ I h) fun us s1 ⟨vs, H1, I1, r1, q1⟩ => ?_) hs rfl))
  obtain ⟨a, xs, e, hq, q⟩ := q1
  subst e
  cases r1 with
  | cons r rr =>
    cases rr
    cases r
    obtain ⟨hz, its, n, rv, hlen, ho⟩ := I1.lstM hq
    refine call_enumerate_1 ho fun h' he hit hsz kk => wpAny_pyIter_enum he ?_
    have I2 : Inv X pins σ H1 { s1 with heap := h' } := I1.kept (t' := s1.toks) kk
    refine ⟨_, [s1.heap.objs.size + 1, s1.heap.objs.size], _, _, H1, rfl, I2, turn_enum a _ _ (Nat.succ_ne_self _), ⟨⟨_, he⟩, hit⟩, fun b hb => ?_, q⟩
    have fr : ∀ c, s1.heap.objs.size ≤ c → H1 c = none := fun c hc => I1.hok.fresh hc
    rcases List.mem_cons.mp hb with rfl | hb
    · exact I1.fpOk (Nat.le_succ _) (fr _ (Nat.le_succ _))
    · have e' := List.mem_singleton.mp hb
      subst e'
      exact I1.fpOk (Nat.le_refl _) (fr _ (Nat.le_refl _))
end
end L2

set_option Elab.async false
set_option linter.all false
set_option maxRecDepth 100000
namespace L2
open PySem PySem.Spec PyProof.Rows
open Builtin.Int (intBits)
section
variable {X : Cx} {a b c : Expr} {ta tb tc : TE} {pos : Pos}
/-! ### ints of any size -/
theorem op_mulB : OpR X (binaryOp .Mult) (rI IntMulOk fun i j => .int (i * j)) := opI fun _ _ _ _ _ _ _ hc q => mul_int q hc
def CFd (_ j : Int) : Prop := j ≠ 0 ∧ intBits j ≤ 9000
theorem noPy {i j : Int} (h : CFd i j) : Builtin.divisionGoesByPylong i j = false := by
  refine PyProof.noPylong_of_log2 ?_
  have h1 := intBits_le_iff.mp h.2
  have h0 : j.natAbs ≠ 0 := by have := h.1; omega
  exact (Nat.log2_lt h0).mpr h1
theorem op_fdivN' : OpR X (binaryOp .FloorDiv) (rI CFd fun i j => .int (i.fdiv j)) := opI fun _ _ _ _ _ _ _ hc q => floordiv_int hc.1 q (.inl (noPy hc))
def CFp (_ j : Int) : Prop := 0 < j ∧ intBits j ≤ 9000
theorem op_fdivB : OpR X (binaryOp .FloorDiv) (rI CFp fun i j => .int (i / j)) := opI fun i j _ _ _ _ _ hc q => by
  have h0 : j ≠ 0 := by have := hc.1; omega
  refine floordiv_int h0 ?_ (.inl (noPy ⟨h0, hc.2⟩))
  rw [Int.fdiv_eq_ediv_of_nonneg i (Int.le_of_lt hc.1)]
  exact q
def CMod (_ j : Int) : Prop := 0 < j
theorem op_modP : OpR X (binaryOp .Mod) (rI CMod fun i j => .int (i % j)) := op_mod
theorem cm {i j : Int} (h : decide (0 < j) = true := by rfl) : CMod i j := (show 0 < j from of_decide_eq_true h)
theorem cf {i j : Int} (h : decide (0 < j) = true := by rfl) (h2 : decide (intBits j ≤ 9000) = true := by rfl) : CFp i j := ⟨(show 0 < j from of_decide_eq_true h), (show intBits j ≤ 9000 from of_decide_eq_true h2)⟩
/-! ### written numbers -/
theorem pe_powC {i j v : Int} (h : i ^ j.toNat = v) (ha : PE X a (tC (.int i))) (hb : PE X b (tC (.int j))) (hm : 0 ≤ j ∧ j ≤ 1000000 ∧ i.natAbs < 2 ^ 64 := by decide) : PE X (.BinOp a .Pow b pos) (tC (.int v)) := by
  subst h
  exact fun pins s σ H Q I q => pe_op op_pow ha hb pins s σ H Q I ⟨i, j, rfl, rfl, hm, q⟩
/-! ### isinstance -/
theorem call_isinst : CallR X (.builtin "isinstance") (fun xs H Q => ∃ x n t k, xs = [x, .ty n] ∧ TyOf X.K H x t ∧ PySem.W.kitOne X.K t (.type n) = some k ∧ Q (.bl k) H) := by
  intro pins s σ H xs us Q I r h
  obtain ⟨x, n, t, k, rfl, ty, e, q⟩ := h
  obtain ⟨u, w', rfl, r1, r2⟩ := vals2 r
  cases (show w' = Value.type n from r2)
  exact isinst_ok I r1 ty e fun tk => ⟨.bl k, H, I.tok tk, rfl, q⟩
end
/-! ### a def that is called -/
structure Cal (P : Program) (w : World) (K : PySem.W.Frag) (mg : Str → Option Value) (base : Heap) (n : Nat) (x : Str) (ps : List Str) (sp : Sp) : Prop where
  ex : ∃ g gd, FnOk P w K mg base CX0 n g gd ps sp ∧ Binds K gd ps [] ∧ PySem.W.keepIn K (.ref g) = true ∧ mg x = some (.ref g)
theorem Cal.mono {P : Program} {w : World} {K : PySem.W.Frag} {mg : Str → Option Value} {base : Heap} {n m : Nat} {x : Str} {ps : List Str} {sp : Sp} (c : Cal P w K mg base n x ps sp) (h : n ≤ m) : Cal P w K mg base m x ps sp :=
  let ⟨g, gd, F, b, k, m⟩ := c.ex
  ⟨g, gd, F.mono h, b, k, m⟩
section
variable {X : Cx} {e : Expr} {es : List Expr} {t : TA} {p pos : Pos}
theorem pe_cal {n : Nat} {x : Str} {ps : List Str} {sp : Sp} (c : Cal X.prog X.w X.K X.mg X.base n x ps sp) (hr : Room n X.A) (hg : Gl X x) (ha : PA X (e :: es) t) (hdb : (x == ("__debug__" : Str)) = false := by decide)
    (he : starEach (e :: es) X.env = (false, eval e X.env) :: starEach es X.env := by rfl) (hpl : (backTo pos (starEach es X.env)).any (·.1) = false := by rfl) : PE X (.Call (.Name x p) (e :: es) [] pos) (tCall sp [] E0 t) := by
  obtain ⟨g, gd, F, b, k, m⟩ := c.ex
  exact pe_call F hr hg m k b .nil pass0 ha hdb he hpl
end
/-! ### facts in short -/
theorem same_new {H : Hp} {p : Addr} (h : H p = none) (o : HO) : Same H (upd H p o) := fun b u q => by rw [upd_ne (ne_of_none q h)]; exact q
theorem Rd.same {H H' : Hp} {a : Addr} {u : HO} (g : Same H H') (r : Rd H a u) : Rd H' a u := by
  rcases r with r | ⟨o, r⟩
  · exact .inl (g _ _ r)
  · exact .inr ⟨o, g _ _ r⟩
theorem SqT.same {K : PySem.W.Frag} {H H' : Hp} {a : Addr} {xs : List V} (g : Same H H') (h : SqT K H a xs) : SqT K H' a xs := by
  rcases h with h | h
  · exact .inl (h.same g)
  · exact .inr h
theorem SqL.same {K : PySem.W.Frag} {H H' : Hp} {a : Addr} {xs : List V} (g : Same H H') (h : SqL K H a xs) : SqL K H' a xs := by
  rcases h with h | h
  · exact .inl (h.same g)
  · exact .inr h
theorem mulOk {i j : Int} {m n : Nat} (hi : intBits i ≤ m) (hj : intBits j ≤ n) (h : m + n ≤ 134217728 := by omega) : IntMulOk i j := IntMulOk.of_le hi hj h
end L2

set_option Elab.async false
set_option linter.all false
set_option maxRecDepth 100000
namespace L2
open PySem PySem.Spec PySem.W PyProof.Rows
/-! ### attributes of an exception of one's own class -/
structure ExcK (K : Frag) (D : Addr) : Prop where
  cls : (clsIn K D).isSome = true
  ga : findIn K (.ref D) "__getattribute__" = some (some (.builtin "BaseException.__getattribute__"))
  gx : findIn K (.ref D) "__getattr__" = some none
  ca : findIn K (.ref D) "__class__" = some (some (.builtin "object.__class__"))
  sp : specialIn K (.builtin "object.__class__") "__get__" = some (some (.builtin "getset_descriptor.__get__"))
  tk : takesIn K (.builtin "object.__class__") = some true
  mo : mroIn K D (.type "object") = some true
  sb : subIn K (.ref D) (.type "BaseException") = some true
section
variable {prog : Program} {w : World} {A : Around} {E : Value → Shared → Prop} {h : Heap} {gn : Array GenState} {dr : Drawn} {tt : Nat} {os : OsState} {K : Frag} {x D : Addr} {ox : Obj} {odo : Option Obj} {name : Str}
theorem exc_check {nameV : Value} {Q : Unit → Shared → Prop} (X : K.In h) (I : InstAt h x ox D odo) (C : ExcK K D) (hq : Q () ⟨h, gn, dr, tt, os⟩) :
    wpAny (model prog w) A (checkBuiltinCall "BaseException.__getattribute__" ⟨[.ref x, nameV], []⟩) Q E ⟨h, gn, dr, tt, os⟩ := by
  have hk1 : builtinKind "BaseException.__getattribute__" = some .slot := by decide +kernel
  have hs1 : splitId "BaseException.__getattribute__" = some ("BaseException", "__getattribute__") := by decide +kernel
  have L0 := I.type (M := model prog w)
  have L1 := looks_subIn (M := model prog w) X C.sb
  have ha := F.args_bexc_ga (.ref x) nameV
  have LI : Looks (model prog w) h (isInstance (.ref x) (.type "BaseException")) true := L0.andThen L1
  simp only [checkBuiltinCall, hk1, hs1]
  refine wpAny_bind (LI.at ?_)
  repeat (any_goals (first | assumption | wp_step))
/-- the class of an exception -/
theorem exc_class {Q : Option Value → Shared → Prop} (X : K.In h) (I : InstAt h x ox D odo) (C : ExcK K D) (hq : Q (some (.ref D)) ⟨h, gn, dr, tt + 1, os⟩) :
    wpAny (model prog w) A (getAttr? (.ref x) "__class__") Q E ⟨h, gn, dr, tt, os⟩ := by
  have L0 := I.type (M := model prog w)
  have L1 := looks_findIn (M := model prog w) X C.ga
  have L2 := looks_findIn (M := model prog w) X C.gx
  unfold getAttr? getAttrBy? getAttrBy
  refine wpAny_bind (wpAny_mkText (wpAny_bind (wpAny_attempt (wpAny_holding (wpAny_bind (L0.at (wpAny_bind (L1.at ?_))))))))
  have hx2 : (Value.builtin "BaseException.__getattribute__" == Value.builtin "object.__getattribute__") = false := by decide +kernel
  have f3 := F.excAttr_ValueError.ga.bind (.ref x)
  have hf : findObj K D odo "__class__" = some (.bind (.builtin "getset_descriptor.__get__") (.builtin "object.__class__")) := by
    obtain ⟨cd, hc⟩ := Option.isSome_iff_exists.mp C.cls
    unfold findObj
    rw [hc, Option.bind_some, C.ca, Option.bind_some]
    simp [C.sp, C.tk]
  have L3 := looks_find (M := model prog w) X I hf
  dsimp only
  rw [hx2, Bool.and_false, if_neg Bool.false_ne_true]
  unfold getAttrByItsOwn
  repeat (any_goals (first | assumption | (with_reducible refine L2.at ?_) | (with_reducible refine L0.at ?_) | wp_step))
  refine codeAny_call_builtin F.excAttr_ValueError.ga.plain F.entry_bexc_ga (exc_check X I C ?_)
  repeat (any_goals (first | assumption | (with_reducible refine L3.at ?_) | (with_reducible refine L0.at ?_) | wp_step))
  refine class_get (s := ⟨h, gn, dr, tt + 1, os⟩) X I C.mo ?_
  exact wpAny_pure (handed_on rfl (wpAny_pure hq))
theorem ExcK.there (C : ExcK K D) : ∃ c0 d0 cd0 sl0, K.lookup D = some ⟨c0, d0, .cls cd0, sl0⟩ := by
  have q := C.cls
  unfold clsIn at q
  split at q
  · exact ⟨_, _, _, _, by assumption⟩
  · cases q
/-- an exception as isinstance looks at it -/
theorem kitx_exc (C : ExcK K D) : KitX K (.ref x) (.ref D) (fun h => ∃ ox odo, InstAt h x ox D odo) := by
  obtain ⟨c0, d0, cd0, sl0, lk⟩ := C.there
  refine ⟨fun _ _ _ ⟨_, _, I⟩ => I.type, fun _ _ X _ => ?_, fun hp a1 _ _ _ _ X z => ?_, fun {_ _ _ _ _ s1} X ⟨_, _, I⟩ k => ?_⟩
  · intro A1 Q1 E1 s1 k1 q1
    exact wpAny_bind (wpAny_loadPart (k1 _ _ (X _ _ lk)) (wpAny_pure q1))
  · by_cases e1 : D = a1
    · have := (X _ _ lk).symm.trans (e1 ▸ z)
      cases this
    · simp [e1]
  · obtain ⟨h1, g1, d1, t1, o1⟩ := s1
    exact exc_class X I C k
end
/-! ### an exception flies -/
/-- no traceback yet, or one whose last entry is at rest -/
def Trc (h : Heap) (a : Addr) (vs : Array Value) : Prop :=
  vs[1]? = some .none ∨ ∃ T oT ts, vs[1]? = some (.ref T) ∧ T ≠ a ∧ h.get? T = some oT ∧ oT.data = .fields ts ∧ ts[3]? = some .none
/-- what a step of its flight leaves: at a the same object with other fields, a new entry at T; of the frames at fs the slots may differ -/
structure Went (fs : List Addr) (a : Addr) (oe : Obj) (vs : Array Value) (h h' : Heap) : Prop where
  ex : ∃ vs' T oT ts, h'.get? a = some { oe with data := .fields vs' } ∧ vs'.size = vs.size ∧ vs'[0]? = vs[0]? ∧ vs'[1]? = some (.ref T) ∧ T ≠ a ∧ h.objs.size ≤ T ∧ h'.get? T = some oT ∧ oT.data = .fields ts ∧ ts[3]? = some .none
  keep : ∀ b o, b ≠ a → (∀ T, vs[1]? = some (.ref T) → b ≠ T) → b ∉ fs → h.get? b = some o → h'.get? b = some o
  slot : ∀ b o, b ≠ a → (∀ T, vs[1]? = some (.ref T) → b ≠ T) → h.get? b = some o → ∃ sl, h'.get? b = some { o with slots := sl }
theorem mapFields_eq {o : Obj} {vs : Array Value} (hd : o.data = .fields vs) (f : Array Value → Array Value) : o.mapFields f = { o with data := .fields (f vs) } := by
  obtain ⟨c, d, dt, sl⟩ := o
  subst hd
  rfl
section
variable {M : Model} {A : Around} {E : Value → Shared → Prop} {s : Shared} {base : Heap} {env : Env} {outer : List Env} {L a : Addr} {oe : Obj} {vs : Array Value} {Q : Unit → Shared → Prop}
theorem fly_entry {head : Value} {nx : Bool} (hfr : A.frames = some (env :: outer)) (hl : s.heap.FunFrames base (env :: outer)) (hf : env.frame = some L) (ha : s.heap.get? a = some oe) (hd : oe.data = .fields vs) (hz : 1 < vs.size)
    (h : ∀ h', (∃ vs' T oT ts, h'.get? a = some { oe with data := .fields vs' } ∧ vs'.size = vs.size ∧ vs'[0]? = vs[0]? ∧ vs'[1]? = some (.ref T) ∧ T ≠ a ∧ s.heap.objs.size ≤ T ∧ h'.get? T = some oT ∧ oT.data = .fields ts ∧ ts[3]? = some .none) →
      (∀ b o, b ≠ a → b ∉ frs (env :: outer) → s.heap.get? b = some o → h'.get? b = some o) → (∀ b o, b ≠ a → s.heap.get? b = some o → ∃ sl, h'.get? b = some { o with slots := sl }) → Q () { s with heap := h' }) :
    wpAny M A (do let fr ← frameOf env; let pl ← entryPlaceOf L nx; let b ← EntryCells.newEntry head fr .none (rawInt L) .none pl; setField (.ref a) 1 b) (fun _ s2 => wpAny M A (setFlight (.ref a) none) Q E s2) E s := by
  have anot : a ∉ frs (env :: outer) := fun hm => by
    obtain ⟨_, o, ho, hn⟩ := hl.mem hm
    rw [ha] at ho; cases ho
    exact hn vs hd
  refine wpAny_bind (wpAny_frameOf_fun hfr hl hf fun h1 so => wpAny_bind (wpAny_entryPlaceOf fun pl hpl => ?_))
  have a1 : h1.get? a = some oe := (so.2.1 a anot).trans ha
  unfold EntryCells.newEntry newFields
  refine wpAny_bind (wpAny_newObj_type ?_ (hpl.sizeOk5 _ _ _ _ _))
  generalize hobj : ({ cls := .type "traceback", dict := none, data := .fields ([head, .ref L, .none, rawInt L, .none] ++ (if pl.isEmpty then List.replicate 6 Value.none else pl)).toArray } : Obj) = tb
  have a2 : (h1.push tb).get? a = some oe := Heap.get?_push_of_some _ a1
  refine wpAny_setField a2 hd hz ?_
  have Tn : h1.objs.size ≠ a := Nat.ne_of_gt (Heap.lt_size a1)
  have m1 := mapFields_eq hd (·.setIfInBounds 1 (Value.ref h1.objs.size))
  have a3 : ((h1.push tb).update a (Obj.mapFields (·.setIfInBounds 1 (Value.ref h1.objs.size)))).get? a = some { oe with data := .fields (vs.setIfInBounds 1 (Value.ref h1.objs.size)) } := by
    have := Heap.get?_update_self (Obj.mapFields (·.setIfInBounds 1 (Value.ref h1.objs.size))) a2 (Obj.isFreed_of_fields (Obj.data_mapFields hd _))
    rw [m1] at this
    exact this
  have dtb : tb.data = .fields ([head, .ref L, .none, rawInt L, .none] ++ (if pl.isEmpty then List.replicate 6 Value.none else pl)).toArray := by rw [← hobj]
  have T2 : (h1.push tb).get? h1.objs.size = some tb := Heap.get?_push_size h1 (by rw [← hobj]; rfl)
  have T3 : ((h1.push tb).update a (Obj.mapFields (·.setIfInBounds 1 (Value.ref h1.objs.size)))).get? h1.objs.size = some tb := (Heap.get?_update_other _ _ (Ne.symm Tn)).trans T2
  unfold setFlight
  refine wpAny_bind (wpAny_field a3 rfl (x := .ref h1.objs.size) (by simp [hz]) ?_)
  rw [if_pos (show (Value.ref h1.objs.size != Value.none) = true from by simp)]
  refine wpAny_setField T3 dtb (by simp only [List.size_toArray, List.length_append, List.length_cons, List.length_nil]; omega) ?_
  have rest : ∀ b, b ≠ a → b ≠ h1.objs.size → (((h1.push tb).update a (Obj.mapFields (·.setIfInBounds 1 (Value.ref h1.objs.size)))).update h1.objs.size (Obj.mapFields (·.setIfInBounds 3 ((none : Option Addr).elim Value.none fun f => rawInt f)))).get? b = (h1.push tb).get? b := fun b hb hT => by
    rw [Heap.get?_update_other _ _ (Ne.symm hT), Heap.get?_update_other _ _ (Ne.symm hb)]
  dsimp only
  refine h _ ⟨vs.setIfInBounds 1 (Value.ref h1.objs.size), h1.objs.size, _, _, ?_, ?_, ?_, ?_, Tn, by rw [so.1]; exact Nat.le_refl _, Heap.get?_update_self _ T3 (Obj.isFreed_of_fields (Obj.data_mapFields dtb _)), Obj.data_mapFields dtb _, ?_⟩ ?_ ?_
  · rw [Heap.get?_update_other _ _ Tn]
    exact a3
  · simp
  · simp
  · simp [hz]
  · first | (simp; done) | (rcases hpl with rfl | ⟨_, _, _, _, _, _, _, rfl⟩ <;> simp)
  · intro b o hb hn e
    have e1 : h1.get? b = some o := (so.2.1 b hn).trans e
    exact (rest b hb (Nat.ne_of_lt (Heap.lt_size e1))).trans (Heap.get?_push_of_some _ e1)
  · intro b o hb e
    obtain ⟨sl, e1⟩ := so.2.2 b o e
    exact ⟨sl, (rest b hb (Nat.ne_of_lt (Heap.lt_size e1))).trans (Heap.get?_push_of_some _ e1)⟩
theorem fly_on (hfr : A.frames = some (env :: outer)) (hl : s.heap.FunFrames base (env :: outer)) (hf : env.frame = some L) (ha : s.heap.get? a = some oe) (hd : oe.data = .fields vs) (hz : 1 < vs.size) (tr : Trc s.heap a vs)
    (h : ∀ h', Went (frs (env :: outer)) a oe vs s.heap h' → Q () { s with heap := h' }) :
    wpAny M A (noteFrame (.ref a) env) (fun _ s2 => wpAny M A (setFlight (.ref a) none) Q E s2) E s := by
  unfold noteFrame
  simp only [hf]
  rcases tr with e1 | ⟨T, oT, ts, e1, Tn, hT, dT, e3⟩
  · refine wpAny_bind (wpAny_field ha hd e1 ?_)
    rw [if_neg (by decide)]
    exact fly_entry hfr hl hf ha hd hz fun h' x k sl => h h' ⟨x, fun b o hb _ hn e => k b o hb hn e, fun b o hb _ e => sl b o hb e⟩
  · refine wpAny_bind (wpAny_field ha hd e1 ?_)
    rw [if_pos (show (Value.ref T != Value.none) = true from by simp)]
    refine wpAny_bind (wpAny_field hT dT e3 ?_)
    rw [if_neg (show ¬ ((Value.none == rawInt L) = true) from by simp [rawInt])]
    refine wpAny_bind (wpAny_setField hT dT (Array.getElem?_eq_some_iff.mp e3).1 ?_)
    have ot : ∀ b, b ≠ T → (s.heap.update T (Obj.mapFields (·.setIfInBounds 3 Value.none))).get? b = s.heap.get? b := fun b hb => Heap.get?_update_other _ _ (Ne.symm hb)
    have nf : ∀ b o, s.heap.get? b = some o → (∀ ws, o.data ≠ .fields ws) → b ≠ T := fun b o e n z => by
      subst z
      rw [hT] at e; cases e
      exact n ts dT
    refine fly_entry (s := { s with heap := s.heap.update T (Obj.mapFields (·.setIfInBounds 3 Value.none)) }) hfr (hl.of_keeps fun b o e n => ⟨o, (ot b (nf b o e n)).trans e, rfl⟩) hf ((ot a (Ne.symm Tn)).trans ha) hd hz fun h' x k sl => ?_
    obtain ⟨vs', T', oT', ts', x1, x2, x3, x4, x5, x6, x7⟩ := x
    refine h h' ⟨⟨vs', T', oT', ts', x1, x2, x3, x4, x5, by rw [Heap.size_update] at x6; exact x6, x7⟩, fun b o hb hT' hn e => k b o hb hn ((ot b (hT' T e1)).trans e), fun b o hb hT' e => sl b o hb ((ot b (hT' T e1)).trans e)⟩
end
end L2

set_option Elab.async false
set_option linter.all false
set_option maxRecDepth 100000
namespace L2
open PySem PySem.Spec PySem.W PyProof.Rows
/-- a tracked object is there -/
theorem ObjOk.there {P : Program} {w : World} {H : Hp} {h : Heap} {a : Addr} {o : HO} (x : ObjOk P w H h a o) : ∃ ob, h.get? a = some ob := by
  cases o with
  | lst xs => obtain ⟨_, _, _, _, e⟩ := x; exact ⟨_, e⟩
  | tup xs => obtain ⟨_, _, _, _, e, _⟩ := x; exact ⟨_, e⟩
  | dK kvs => obtain ⟨_, _, _, _, _, _, _, e, _⟩ := x; exact ⟨_, e⟩
  | dT kvs => obtain ⟨_, _, _, _, _, _, _, e, _⟩ := x; exact ⟨_, e⟩
  | set S n => obtain ⟨_, _, _, _, e, _⟩ := x; exact ⟨_, e⟩
  | ins C dx fs => obtain ⟨_, _, _, e, _⟩ := x; exact ⟨_, e⟩
  | own y => exact x
  | xd fs => obtain ⟨_, ⟨_, _, _, e, _⟩, _⟩ := x; exact ⟨_, e⟩
  | rng lo hi => obtain ⟨_, _, _, e⟩ := x; exact ⟨_, e⟩
  | frz ob u => obtain ⟨e, _⟩ := x; exact ⟨_, e⟩
  | tbl ps => exact ⟨_, x⟩
  | met f y => exact ⟨_, x⟩
  | ext φ => obtain ⟨_, e, _⟩ := x; exact e
/-- an exception of the class cls at a, its own dict at dx, while the body of X runs -/
structure Flt (X : Cx) (pins : List (Addr × Obj)) (H : Hp) (s : Shared) (a : Addr) (cls : Value) (dx : Option Addr) : Prop where
  ex : ∃ oe vs, s.heap.get? a = some oe ∧ oe.cls = cls ∧ oe.dict = dx ∧ oe.data = .fields vs ∧ 1 < vs.size ∧ Trc s.heap a vs ∧ ∀ T, vs[1]? = some (.ref T) → H T = none ∧ X.s₀.heap.get? T = none ∧ ∀ p ∈ X.pn ++ pins, p.1 ≠ T
  hn : H a = none
  new : X.s₀.heap.get? a = none
  pn : ∀ p ∈ X.pn ++ pins, p.1 ≠ a
section
variable {X : Cx} {pins : List (Addr × Obj)} {σ : St} {H : Hp} {s : Shared} {a : Addr} {cls : Value} {dx : Option Addr}
/-- a step of the flight keeps what the body knows -/
theorem Inv.went {oe : Obj} {vs : Array Value} {h' : Heap} (I : Inv X pins σ H s) (hx : X.ex = []) (ha : s.heap.get? a = some oe) (hd : oe.data = .fields vs) (tr : Trc s.heap a vs)
    (hT : ∀ T, vs[1]? = some (.ref T) → H T = none ∧ X.s₀.heap.get? T = none ∧ ∀ p ∈ X.pn ++ pins, p.1 ≠ T) (hn : H a = none) (new : X.s₀.heap.get? a = none) (pn : ∀ p ∈ X.pn ++ pins, p.1 ≠ a)
    (W : Went (frs X.stack) a oe vs s.heap h') : Inv X pins σ H { s with heap := h' } := by
  have dT : ∀ T o, vs[1]? = some (.ref T) → s.heap.get? T = some o → ∃ ts, o.data = .fields ts := fun T o e1 e2 => by
    rcases tr with q | ⟨T', oT, ts, q1, _, q2, q3, _⟩
    · rw [q] at e1; cases e1
    · rw [q1] at e1; cases e1
      rw [q2] at e2; cases e2
      exact ⟨ts, q3⟩
  have nfa : ∀ b o, s.heap.get? b = some o → (∀ ws, o.data ≠ .fields ws) → b ≠ a ∧ ∀ T, vs[1]? = some (.ref T) → b ≠ T := fun b o e n => by
    refine ⟨fun z => ?_, fun T q z => ?_⟩
    · subst z; rw [ha] at e; cases e; exact n vs hd
    · subst z
      obtain ⟨ts, q2⟩ := dT b o q e
      exact n ts q2
  have old : ∀ b o, X.s₀.heap.get? b = some o → b ≠ a ∧ ∀ T, vs[1]? = some (.ref T) → b ≠ T := fun b o e => by
    refine ⟨fun z => ?_, fun T q z => ?_⟩
    · subst z; rw [new] at e; cases e
    · subst z; rw [(hT b q).2.1] at e; cases e
  have trk : ∀ b u, H b = some u → b ≠ a ∧ (∀ T, vs[1]? = some (.ref T) → b ≠ T) ∧ b ∉ frs X.stack := fun b u e => by
    refine ⟨fun z => ?_, fun T q z => ?_, fun z => ?_⟩
    · subst z; rw [hn] at e; cases e
    · subst z; rw [(hT b q).1] at e; cases e
    · rw [I.stkFree b z] at e; cases e
  have oldf : ∀ b o, X.s₀.heap.get? b = some o → b ∉ X.fs → b ∉ frs X.stack := fun b o e nb z => by
    rcases List.mem_cons.mp (I.stkSub b z) with q | q
    · exact Nat.ne_of_lt (Nat.lt_of_lt_of_le (Heap.lt_size e) I.ok.above) q
    · exact nb q
  have ne : ∀ b, b ∉ X.ex := fun b => by rw [hx]; simp
  refine ⟨I.ok, I.os, I.bare, ⟨fun b o e n hb _ => ?_, fun b o e n hb _ => ?_, I.base.free, fun b o e _ => ?_, I.base.tups, I.base.frzs, I.base.tbls⟩, ?_, fun x c e => ?_, I.free, I.freeC, fun p hp => ?_, fun b u e => ?_, I.len⟩
  · obtain ⟨z1, z2⟩ := old b o e
    exact W.keep b o z1 z2 (oldf b o e hb) (I.base.keep b o e n hb (ne b))
  · obtain ⟨z1, z2⟩ := old b o e
    obtain ⟨sl, q⟩ := I.base.slot b o e n hb (ne b)
    obtain ⟨sl', q'⟩ := W.slot b _ z1 z2 q
    exact ⟨sl', q'⟩
  · obtain ⟨z1, z2⟩ := old b o e
    obtain ⟨o', q⟩ := I.base.there b o e (ne b)
    obtain ⟨sl', q'⟩ := W.slot b _ z1 z2 q
    exact ⟨_, q'⟩
  · obtain ⟨m, ⟨o, es, ep, ho, dd, rr⟩, hl⟩ := I.loc
    obtain ⟨z1, z2⟩ := nfa _ o ho fun ws z => by rw [dd] at z; cases z
    obtain ⟨sl, q⟩ := W.slot _ o z1 z2 ho
    refine ⟨m, ⟨_, es, ep, q, dd, rr⟩, fun i x v e1 e2 e3 => ?_⟩
    obtain ⟨u, r, lk⟩ := hl i x v e1 e2 e3
    refine ⟨u, r, ?_⟩
    rcases lk with lk | ⟨k, c, ec, oc, hoc, dc⟩
    · exact .inl lk
    · obtain ⟨y1, y2⟩ := nfa c oc hoc fun ws z => by rw [dc] at z; cases z
      obtain ⟨sl2, q2⟩ := W.slot c oc y1 y2 hoc
      exact .inr ⟨k, c, ec, _, q2, dc⟩
  · obtain ⟨v, oc, hoc, dc⟩ := I.cell x c e
    obtain ⟨y1, y2⟩ := nfa c oc hoc fun ws z => by rw [dc] at z; cases z
    obtain ⟨sl2, q2⟩ := W.slot c oc y1 y2 hoc
    exact ⟨v, _, q2, dc⟩
  · obtain ⟨e, n, nl, nf, dd⟩ := I.pin p hp
    refine ⟨W.keep p.1 p.2 (pn p hp) (fun T q => (hT T q).2.2 p hp) (fun z => ?_) e, n, nl, nf, dd⟩
    rcases List.mem_cons.mp (I.stkSub _ z) with q | q
    · exact nl q
    · exact nf q
  · refine (I.hok b u e).stay (fun c v hc q => ?_) (fun _ q => q) fun _ _ q => q
    rcases hc with z | z
    · subst z
      obtain ⟨y1, y2, y3⟩ := trk c u e
      exact W.keep c v y1 y2 y3 q
    · obtain ⟨y1, y2, y3⟩ := trk c _ z
      exact W.keep c v y1 y2 y3 q
/-- the frame is noted: the exception flies on, the body's knowledge stays -/
theorem fly_inv {E : Value → Shared → Prop} {Q : Unit → Shared → Prop} (I : Inv X pins σ H s) (hx : X.ex = []) (hs : X.stack = X.env :: X.outer) (hf : X.env.frame = some X.env.locals) (F : Flt X pins H s a cls dx)
    (h : ∀ h' T, Inv X pins σ H { s with heap := h' } → Flt X pins H { s with heap := h' } a cls dx → (∃ oe vs oT ts, h'.get? a = some oe ∧ oe.cls = cls ∧ oe.dict = dx ∧ oe.data = .fields vs ∧ 1 < vs.size ∧ vs[1]? = some (.ref T) ∧ T ≠ a ∧ h'.get? T = some oT ∧ oT.data = .fields ts ∧ ts[3]? = some .none) →
      H T = none → X.s₀.heap.get? T = none → Q () { s with heap := h' }) :
    wpAny (model X.prog X.w) X.A (noteFrame (.ref a) X.env) (fun _ s2 => wpAny (model X.prog X.w) X.A (setFlight (.ref a) none) Q E s2) E s := by
  obtain ⟨oe, vs, ha, hc, hdx, hd, hz, tr, hT⟩ := F.ex
  have hfr : X.A.frames = some (X.env :: X.outer) := by rw [I.ok.frames, hs]
  have hl : s.heap.FunFrames X.base (X.env :: X.outer) := by rw [← hs]; exact I.stack
  refine fly_on hfr hl hf ha hd hz tr fun h' W => ?_
  rw [← hs] at W
  have I' := I.went hx ha hd tr hT F.hn F.new F.pn W
  obtain ⟨vs', T, oT, ts, e1, e2, e3, e4, e5, e6, e7, e8, e9⟩ := W.ex
  have Tn : H T = none := I.hok.fresh e6
  have Ts : X.s₀.heap.get? T = none := Heap.get?_none_of_le (Nat.le_trans I.sz e6)
  have Tp : ∀ p ∈ X.pn ++ pins, p.1 ≠ T := fun p hp z => by
    have := Heap.lt_size (I.pin p hp).1
    rw [z] at this
    exact absurd (Nat.lt_of_lt_of_le this e6) (Nat.lt_irrefl _)
  refine h h' T I' ⟨⟨_, vs', e1, hc, hdx, rfl, by omega, .inr ⟨T, oT, ts, e4, e5, e7, e8, e9⟩, fun T' q => ?_⟩, F.hn, F.new, F.pn⟩ ⟨_, vs', oT, ts, e1, hc, hdx, rfl, by omega, e4, e5, e7, e8, e9⟩ Tn Ts
  rw [e4] at q; cases q
  exact ⟨Tn, Ts, Tp⟩
end
/-- how an exception lies behind a call: its class, its own dict's place and the heap are told -/
def CX1 (P : Program) (w : World) (base : Heap) : CXT := fun outer H s E e s' => ∃ (a T : Addr) (cls : Value) (dx : Option Addr) (H' : Hp), e = .ref a ∧ s'.os = s.os ∧ AllBare s'.gens ∧ Un (frs outer) [] H H' s.heap s'.heap ∧ HOk P w H' s'.heap ∧
  (∃ oe vs oT ts, s'.heap.get? a = some oe ∧ oe.cls = cls ∧ oe.dict = dx ∧ oe.data = .fields vs ∧ 1 < vs.size ∧ vs[1]? = some (.ref T) ∧ T ≠ a ∧ s'.heap.get? T = some oT ∧ oT.data = .fields ts ∧ ts[3]? = some .none) ∧
  H' a = none ∧ H' T = none ∧ s.heap.get? a = none ∧ s.heap.get? T = none ∧ E cls dx H'
/-- a def's body whose exceptions lie so -/
structure Body1 (X : Cx) (E : XK) : Prop where
  ex : X.ex = []
  st : X.stack = X.env :: X.outer
  fr : X.env.frame = some X.env.locals
  xe : X.xe = fun e s' => wpAny (model X.prog X.w) X.A (leaving X.env e) (fun _ s'' => CX1 X.prog X.w X.base X.outer X.H₀ X.s₀ E e s'') (fun e' s'' => CX1 X.prog X.w X.base X.outer X.H₀ X.s₀ E e' s'') s'
section
variable {X : Cx} {pins : List (Addr × Obj)} {σ : St} {H : Hp} {s : Shared} {a : Addr} {cls : Value} {dx : Option Addr} {E : XK}
/-- it leaves the body -/
theorem leave1 (B : Body1 X E) (I : Inv X pins σ H s) (F : Flt X pins H s a cls dx) (h : E cls dx H) : X.xe (.ref a) s := by
  rw [B.xe]
  refine wpAny_bind (fly_inv I B.ex B.st B.fr F fun h' T I' _ fl Tn Ts => ?_)
  have b := I'.base
  rw [B.ex] at b
  exact ⟨a, T, cls, dx, H, rfl, I'.os, I'.bare, b, I'.hok, fl, F.hn, Tn, F.new, Ts, h⟩
/-- an exception behind a call, seen from the caller -/
theorem back1 {E' : XK} {e : Value} {s' : Shared} (I : Inv X pins σ H s) (hx : X.ex = []) (h : CX1 X.prog X.w X.base X.stack H s E' e s') : ∃ (a : Addr) (cls : Value) (dx : Option Addr) (H' : Hp), e = .ref a ∧ Inv X pins σ H' s' ∧ Flt X pins H' s' a cls dx ∧ E' cls dx H' := by
  obtain ⟨a, T, cls, dx, H', rfl, os, bare, un, hok, ⟨oe, vs, oT, ts, f1, f2, f3, f4, f5, f6, f7, f8, f9, f10⟩, n1, n2, n3, n4, q⟩ := h
  have I' := I.call' os un hok bare fun b hb => absurd hb (by simp)
  have ne : ∀ b, b ∉ X.ex := fun b => by rw [hx]; simp
  have old : ∀ b, s.heap.get? b = none → X.s₀.heap.get? b = none := fun b e => by
    cases z : X.s₀.heap.get? b with
    | none => rfl
    | some o =>
      obtain ⟨o', e'⟩ := I.base.there b o z (ne b)
      rw [e] at e'; cases e'
  have pin : ∀ b, s.heap.get? b = none → ∀ p ∈ X.pn ++ pins, p.1 ≠ b := fun b e p hp z => by
    have := (I.pin p hp).1
    rw [z, e] at this; cases this
  refine ⟨a, cls, dx, H', rfl, I', ⟨⟨oe, vs, f1, f2, f3, f4, f5, .inr ⟨T, oT, ts, f6, f7, f8, f9, f10⟩, fun T' z => ?_⟩, n1, old a n3, pin a n3⟩, q⟩
  rw [f6] at z; cases z
  exact ⟨n2, old T n4, pin T n4⟩
/-- what a callee raises passes on -/
theorem pass1 {E' : XK} (B : Body1 X E) (h : ∀ c d H, E' c d H → E c d H) : Passes (CX1 X.prog X.w X.base) X E' := fun pins σ H s e s' I q => by
  obtain ⟨a, cls, dx, H', rfl, I', F, q'⟩ := back1 I B.ex q
  exact leave1 B I' F (h _ _ _ q')
end
end L2

set_option Elab.async false
set_option linter.all false
set_option maxRecDepth 100000
namespace L2
open PySem PySem.Spec PySem.W PyProof.Rows
/-! ### a def that may raise -/
structure Cal1 (P : Program) (w : World) (K : PySem.W.Frag) (mg : Str → Option Value) (base : Heap) (n : Nat) (x : Str) (ps : List Str) (sp : Sp) : Prop where
  ex : ∃ g gd, FnOk P w K mg base (CX1 P w base) n g gd ps sp ∧ Binds K gd ps [] ∧ PySem.W.keepIn K (.ref g) = true ∧ mg x = some (.ref g)
theorem Cal1.mono {P : Program} {w : World} {K : PySem.W.Frag} {mg : Str → Option Value} {base : Heap} {n m : Nat} {x : Str} {ps : List Str} {sp : Sp} (c : Cal1 P w K mg base n x ps sp) (h : n ≤ m) : Cal1 P w K mg base m x ps sp :=
  let ⟨g, gd, F, b, k, m⟩ := c.ex
  ⟨g, gd, F.mono h, b, k, m⟩
section
variable {X : Cx} {e : Expr} {es : List Expr} {t : TA} {p pos : Pos}
theorem pe_cal1 {n : Nat} {x : Str} {ps : List Str} {sp : Sp} {E : XK} (c : Cal1 X.prog X.w X.K X.mg X.base n x ps sp) (hr : Room n X.A) (hx : Passes (CX1 X.prog X.w X.base) X E) (hg : Gl X x) (ha : PA X (e :: es) t) (hdb : (x == ("__debug__" : Str)) = false := by decide)
    (he : starEach (e :: es) X.env = (false, eval e X.env) :: starEach es X.env := by rfl) (hpl : (backTo pos (starEach es X.env)).any (·.1) = false := by rfl) : PE X (.Call (.Name x p) (e :: es) [] pos) (tCall sp [] E t) := by
  obtain ⟨g, gd, F, b, k, m⟩ := c.ex
  exact pe_call F hr hg m k b .nil hx ha hdb he hpl
end
section
variable {P : Program} {w : World} {K : PySem.W.Frag} {mg : Str → Option Value} {base : Heap}
/-- THE RULE for a def that may raise -/
theorem Fun.ok1 {x qual : Str} {st : Stmt} {f : Addr} {fd : FuncData} {N ps : List Str} {k : Nat} {sp : Sp} (F : Fun K x qual st f fd) (S : FnScope N ps (defScope st)) (len : ∀ vs H Q E, sp vs H Q E → vs.length = ps.length)
    (hbody : ∀ (cdv : Value) (A : Around) (outer : List Env) (s : Shared) (H : Hp) (vs : List V) (Q : VK) (E : XK), Room k (A.deeper (envOfC qual (defScope st) s.heap.objs.size f cdv)) →
      Body1 (cxOf (CX1 P w base) P w K mg base N qual (defScope st) f cdv A outer s H E) E → sp vs H Q E →
      ∃ t, PSs (cxOf (CX1 P w base) P w K mg base N qual (defScope st) f cdv A outer s H E) (defBody st) t ∧ t { nx := fun _ H' => Q .non H', rt := Q } (start N vs) H) : FnOk P w K mg base (CX1 P w base) (k + 1) f fd ps sp := by
  obtain ⟨oc, od, kV, doc, pm, an, cdv, ct, osl, rfl, lk, hcd⟩ := F.ex
  exact fn_of lk hcd S len fun A outer s H vs Q E hr hsp => hbody cdv A outer s H vs Q E hr ⟨rfl, rfl, rfl, rfl⟩ hsp
end
/-! ### raise X(..) of one's own class under ValueError, without an __init__ -/
abbrev vErr : List Value := [.type "ValueError", .type "Exception", .type "BaseException", .type "object"]
structure ExcMk (K : Frag) (C : Addr) : Prop where
  ex : ∃ nm q N bs bm hdct sn sub ab col dd k0 k1 k2 k3 k5, K.lookup C = some (excClassObj nm q C N bs bm hdct sn sub ab col dd k0 k1 k2 k3 k5 "ValueError.__new__") ∧ nsOkIn K N = true ∧ nsIn K N "__init__" = some none ∧ tailIn K vErr bm = true
section
variable {X : Cx} {E : XK} {C : Addr} {x : Str} {np cpos pos : Pos} {e₀ : Expr} {rest : List Expr} {ta : TA}
theorem ps_raise (B : Body1 X E) (hc : X.calm = true) (M : ExcMk X.K C) (hm : X.mg x = some (.ref C)) (hg : Gl X x) (ha : PA X (e₀ :: rest) ta) (hdb : (x == ("__debug__" : Str)) = false := by decide)
    (he : starEach (e₀ :: rest) X.env = (false, eval e₀ X.env) :: starEach rest X.env := by rfl) (hpl : (backTo cpos (starEach rest X.env)).any (·.1) = false := by rfl) :
    PS X (.Raise (some (.Call (.Name x np) (e₀ :: rest) [] cpos)) none pos) (fun _ σ H => ta σ H fun vs H1 => vs.length ≤ sizeLine ∧ E (.ref C) none H1) := by
  intro pins s σ H D I h
  obtain ⟨nm, q, N, bs, bm, hdct, sn, sub, ab, col, dd, k0, k1, k2, k3, k5, lk, ok, ini, tl⟩ := M.ex
  have T0 : OwnTail X.base vErr bm := tail_of_in I.ok.mod.kin tl
  have hb : (backTo cpos (starEach (e₀ :: rest) X.env)).any (·.1) = false := by
    rw [he]
    show (false || (backTo cpos (starEach rest X.env)).any (·.1)) = false
    rw [hpl]; rfl
  refine wpAny_Raise_call_subU (C := C) (bm := bm) (mN := X.base.nsMap N) (nm := nm) (q := q) (N := N) (bs := bs) (hdct := hdct) (sn := sn) (sub := sub) (ab := ab) (col := col) (dd := dd)
    (k0 := k0) (k1 := k1) (k2 := k2) (k3 := k3) (k5 := k5) F.excBase_ValueError (by decide) F.excBase_ValueError (T0.hasType (by decide)) (I.ok.hd hc) hb (nsMap_none_of_in I.ok.mod.kin ok ini) (ld_glob I hg hm ⟨rfl, ?_⟩ hdb)
  have hA := ha cpos pins s σ H _ I h
  rw [he] at hA ⊢
  refine Calls.evalArgs_plain (wpAny_mono hA (fun us s2 ⟨vs, H1, I1, r1, hl, q1⟩ => ⟨rfl, by rw [← r1.length]; exact hl, I1.bk _ _ (I.ok.mod.kin _ _ lk), (Heap.Ns.of_isNs (isNs_of_in I.ok.mod.kin ok)).keeps I1.bk, T0.keeps I1.bk, fun h' a hx => ?_⟩) fun _ _ y => y)
  obtain ⟨t, et, _, _⟩ := hx.there
  have I2 : Inv X pins σ H1 { s2 with heap := h' } := I1.kept (t' := s2.toks) hx.keeps
  refine leave1 B I2 (cls := .ref C) (dx := none) ⟨⟨_, _, et, rfl, rfl, rfl, by simp, .inl rfl, fun T z => ?_⟩, ?_, ?_, fun p hp z => ?_⟩ q1
  · cases z
  · cases z : H1 a with
    | none => rfl
    | some u =>
      obtain ⟨ob, eo⟩ := (I1.hok a u z).there
      rw [hx.new] at eo; cases eo
  · cases z : X.s₀.heap.get? a with
    | none => rfl
    | some o =>
      obtain ⟨o', e'⟩ := I1.base.there a o z (by rw [B.ex]; simp)
      rw [hx.new] at e'; cases e'
  · have := (I1.pin p hp).1
    rw [z, hx.new] at this; cases this
end
/-! ### try: f(..), except W as n: .. -/
/-- the context of an except's suite -/
abbrev Cx.inX (X : Cx) (a : Addr) : Cx := { X with A := X.A.mark (some (.ref a)), calm := false, xe := fun _ _ => False }
section
variable {X : Cx} {pins : List (Addr × Obj)} {σ : St} {H : Hp} {s : Shared}
theorem Cx.Ok.inX (ok : X.Ok) (a : Addr) : (X.inX a).Ok :=
  ⟨ok.mod, ok.kind, ok.glob, ok.blt, ok.above, ok.inj, ok.has, ok.cab, (fun h => Bool.noConfusion h), ok.frames, ok.stk, ok.exf, ok.bs, ok.bsz, ok.noex, ok.exfs, ok.funs, ok.frf⟩
theorem Inv.inX (I : Inv X pins σ H s) (a : Addr) : Inv (X.inX a) pins σ H s := ⟨I.ok.inX a, I.os, I.bare, I.base, I.loc, I.cell, I.free, I.freeC, I.pin, I.hok, I.len⟩
theorem Inv.offX {a : Addr} (ok : X.Ok) (I : Inv (X.inX a) pins σ H s) : Inv X pins σ H s := ⟨ok, I.os, I.bare, I.base, I.loc, I.cell, I.free, I.freeC, I.pin, I.hok, I.len⟩
/-- a name goes -/
theorem Inv.unname {n : Str} {j : Nat} {h' : Heap} {v : Option Value} {m : Str → Option Value} {t' : Nat} (I : Inv X pins σ H s) (hN : X.N.Nodup) (hj : X.N[j]? = some n) (hm : s.heap.Ns X.env.locals m)
    (hl : ∀ (i : Nat) (x : Str) (v : V), X.N[i]? = some x → σ[i]? = some (some v) → Vis X.env.scope x → ∃ u, RelV v u ∧ Look X.env s.heap m x u)
    (hn : h'.Ns X.env.locals (fun x => if x = n then v else m x)) (sb : Heap.SameBut X.env.locals s.heap h') : Inv X pins (σ.set j none) H { s with heap := h', toks := t' } := by
  have jl : j < σ.length := by rw [I.len]; exact (List.getElem?_eq_some_iff.mp hj).1
  obtain ⟨oL, _, _, hoL, _⟩ := id hm
  have low : ∀ b o, X.s₀.heap.get? b = some o → b ≠ X.env.locals := fun b o e => Nat.ne_of_lt (Nat.lt_of_lt_of_le (Heap.lt_size e) I.ok.above)
  refine ⟨I.ok, I.os, I.bare, ⟨fun b o e n hb hx => (sb.2 b (low b o e)).trans (I.base.keep b o e n hb hx), fun b o e n hb hx => ?_, I.base.free, fun b o e hx => ?_, I.base.tups, I.base.frzs, I.base.tbls⟩, ⟨_, hn, fun i x w e1 e2 e3 => ?_⟩, fun x c e => ?_, I.free, I.freeC, fun p hp => ?_, fun b u e => ?_, by simpa using I.len⟩
  · obtain ⟨sl, e1⟩ := I.base.slot b o e n hb hx
    exact ⟨sl, (sb.2 b (low b o e)).trans e1⟩
  · obtain ⟨o', e1⟩ := I.base.there b o e hx
    exact ⟨o', (sb.2 b (low b o e)).trans e1⟩
  · by_cases hi : i = j
    · subst hi
      rw [List.getElem?_set_self jl] at e2; cases e2
    · rw [List.getElem?_set_ne (Ne.symm hi)] at e2
      obtain ⟨u, r, lk⟩ := hl i x w e1 e2 e3
      refine ⟨u, r, ?_⟩
      rcases lk with ⟨k, e⟩ | ⟨k, c, e, z⟩
      · refine .inl ⟨k, ?_⟩
        have hx : x ≠ n := fun q => hi (nodup_ix hN e1 (q ▸ hj))
        show (if x = n then v else m x) = some u
        rw [if_neg hx]
        exact e
      · exact .inr ⟨k, c, e, z.sameBut sb (I.cne x c e)⟩
  · obtain ⟨w', z⟩ := I.cell x c e
    exact ⟨w', z.sameBut sb (I.cne x c e)⟩
  · obtain ⟨e, n1, nl, nf, dd⟩ := I.pin p hp
    exact ⟨(sb.2 p.1 nl).trans e, n1, nl, nf, dd⟩
  · refine (I.hok b u e).stay (fun c w' hc q => (sb.2 c fun z => ?_).trans q) (fun _ q => q) fun _ _ q => q
    subst z
    rcases hc with z | z
    · rw [← z, I.free] at e; cases e
    · rw [I.free] at z; cases z
end
section
variable {X : Cx} {fx cx n : Str} {fp cpos xpos hp hpos tpos : Pos} {e : Expr} {es : List Expr} {ta : TA} {k j : Nat} {ps : List Str} {sp : Sp} {W : Addr} {st0 : Stmt} {ts : TS}
end
/-! ### isinstance, an exception too; a tuple of classes -/
section
variable {X : Cx}
theorem vals_refs : ∀ {cs : List Addr} {its : List Value}, Vals (cs.map V.ref) its → its = cs.map Value.ref
  | [], _, .nil => rfl
  | c :: r, _, .cons r1 rr => by
    cases (show _ = Value.ref c from r1)
    rw [List.map_cons, ← vals_refs rr]
end
theorem boot_ValueError : bootBuiltins "ValueError" = some (.type "ValueError") := by decide +kernel
end L2

set_option Elab.async false
set_option linter.all false
set_option maxRecDepth 100000
namespace L2
open PySem PySem.Spec PyProof.Rows
/-! ### data: ints within tuples and lists -/
inductive Dt where
  | i (n : Int)
  | t (l : List Dt)
  | l (l : List Dt)
mutual
/-- the value is that datum -/
inductive IsD (K : PySem.W.Frag) (H : Hp) : V → Dt → Prop
  | i (n : Int) : IsD K H (.int n) (.i n)
  | t {a : Addr} {xs : List V} {ds : List Dt} : SqT K H a xs → IsDs K H xs ds → IsD K H (.ref a) (.t ds)
  | l {a : Addr} {xs : List V} {ds : List Dt} : SqL K H a xs → IsDs K H xs ds → IsD K H (.ref a) (.l ds)
inductive IsDs (K : PySem.W.Frag) (H : Hp) : List V → List Dt → Prop
  | nil : IsDs K H [] []
  | cons {x : V} {d : Dt} {xs : List V} {ds : List Dt} : IsD K H x d → IsDs K H xs ds → IsDs K H (x :: xs) (d :: ds)
end
mutual
def Dt.eqb : Dt → Dt → Bool
  | .i n, .i m => n == m
  | .t a, .t b => Dt.eqs a b
  | .l a, .l b => Dt.eqs a b
  | _, _ => false
def Dt.eqs : List Dt → List Dt → Bool
  | [], [] => true
  | x :: a, y :: b => Dt.eqb x y && Dt.eqs a b
  | _, _ => false
end
mutual
theorem Dt.eqb_iff : ∀ (d e : Dt), Dt.eqb d e = true ↔ d = e
  | .i n, .i m => by simp [Dt.eqb]
  | .t a, .t b => by simp only [Dt.eqb, Dt.t.injEq]; exact Dt.eqs_iff a b
  | .l a, .l b => by simp only [Dt.eqb, Dt.l.injEq]; exact Dt.eqs_iff a b
  | .i _, .t _ => by simp [Dt.eqb]
  | .i _, .l _ => by simp [Dt.eqb]
  | .t _, .i _ => by simp [Dt.eqb]
  | .t _, .l _ => by simp [Dt.eqb]
  | .l _, .i _ => by simp [Dt.eqb]
  | .l _, .t _ => by simp [Dt.eqb]
theorem Dt.eqs_iff : ∀ (a b : List Dt), Dt.eqs a b = true ↔ a = b
  | [], [] => by simp [Dt.eqs]
  | x :: a, y :: b => by simp only [Dt.eqs, Bool.and_eq_true, List.cons.injEq, Dt.eqb_iff x y, Dt.eqs_iff a b]
  | [], _ :: _ => by simp [Dt.eqs]
  | _ :: _, [] => by simp [Dt.eqs]
end
mutual
/-- == tells of them without a look at unlike kinds; how deep they lie -/
def Dt.ok : Nat → Dt → Dt → Bool
  | _, .i _, .i _ => true
  | n + 1, .t a, .t b => Dt.oks n a b
  | n + 1, .l a, .l b => Dt.oks n a b
  | _, _, _ => false
def Dt.oks : Nat → List Dt → List Dt → Bool
  | n, x :: a, y :: b => Dt.ok n x y && Dt.oks n a b
  | _, _, _ => true
end
section
variable {X : Cx} {pins : List (Addr × Obj)} {σ : St} {H : Hp} {s : Shared} {K : PySem.W.Frag}
theorem IsDs.length : ∀ {xs : List V} {ds : List Dt}, IsDs K H xs ds → xs.length = ds.length
  | _, _, .nil => rfl
  | _, _, .cons _ r => by rw [List.length_cons, List.length_cons, r.length]
/-- one by one -/
theorem all_range_succ (n : Nat) (e : Nat → Bool) : (List.range (n + 1)).all e = (e 0 && (List.range n).all fun j => e (j + 1)) := by
  rw [List.range_succ_eq_map, List.all_cons, List.all_map]
  rfl
/-- lengths and items -/
theorem eqs_min : ∀ (ds es : List Dt), (Dt.eqs (ds.take (min ds.length es.length)) (es.take (min ds.length es.length)) && ds.length == es.length) = Dt.eqs ds es
  | [], [] => by simp [Dt.eqs]
  | [], _ :: _ => by simp [Dt.eqs]
  | _ :: _, [] => by simp [Dt.eqs]
  | d :: ds, e :: es => by
    have m : min (d :: ds).length (e :: es).length = min ds.length es.length + 1 := by simp only [List.length_cons]; omega
    rw [m, List.take_succ_cons, List.take_succ_cons]
    have ih := eqs_min ds es
    have l : ((d :: ds).length == (e :: es).length) = (ds.length == es.length) := by simp
    rw [l]
    simp only [Dt.eqs, Bool.and_assoc, ih]
mutual
/-- the values tell the data -/
theorem dat_fun (I : Inv X pins σ H s) : ∀ {v : V} {d e : Dt}, IsD X.K H v d → IsD X.K H v e → d = e
  | _, _, _, .i _, .i _ => rfl
  | _, _, _, .t q1 d1, .t q2 d2 => by
    have e1 := I.tuple_inj q1 q2
    subst e1
    rw [dats_fun I d1 d2]
  | _, _, _, .l q1 d1, .l q2 d2 => by
    have e1 := I.list_inj q1 q2
    subst e1
    rw [dats_fun I d1 d2]
  | _, _, _, .t q1 _, .l q2 _ => by
    obtain ⟨_, _, ⟨o, h1, h2, _⟩, _⟩ := I.tuple q1
    obtain ⟨_, _, p, _⟩ := I.list q2
    obtain ⟨o', h1', h2', _⟩ := p.isList
    rw [h1] at h1'; cases h1'
    rw [h2] at h2'
    exact absurd (Value.type.inj h2') (by decide)
  | _, _, _, .l q2 _, .t q1 _ => by
    obtain ⟨_, _, ⟨o, h1, h2, _⟩, _⟩ := I.tuple q1
    obtain ⟨_, _, p, _⟩ := I.list q2
    obtain ⟨o', h1', h2', _⟩ := p.isList
    rw [h1] at h1'; cases h1'
    rw [h2] at h2'
    exact absurd (Value.type.inj h2') (by decide)
theorem dats_fun (I : Inv X pins σ H s) : ∀ {xs : List V} {ds es : List Dt}, IsDs X.K H xs ds → IsDs X.K H xs es → ds = es
  | _, _, _, .nil, .nil => rfl
  | _, _, _, .cons h1 r1, .cons h2 r2 => by rw [dat_fun I h1 h2, dats_fun I r1 r2]
end
/-- all pairs of data that n looks deep are told rightly -/
def Told (X : Cx) (H : Hp) (s : Shared) (n : Nat) (A : Around) : Prop := ∀ (v u : V) (d e : Dt) (x y : Value), IsD X.K H v d → IsD X.K H u e → RelV v x → RelV u y → Dt.ok n d e = true → SeqAt.EqAt A s x y (Dt.eqb d e)
theorem eq_dats {n : Nat} {A : Around} (P : Told X H s n A) : ∀ {xs ys : List V} {ds es : List Dt} {its its2 : List Value}, IsDs X.K H xs ds → IsDs X.K H ys es → Vals xs its → Vals ys its2 → Dt.oks n ds es = true →
    ∃ e : Nat → Bool, (∀ j (h1 : j < its.length) (h2 : j < its2.length), SeqAt.EqAt A s its[j] its2[j] (e j)) ∧ (List.range (min its.length its2.length)).all e = (Dt.eqs (ds.take (min ds.length es.length)) (es.take (min ds.length es.length)))
  | _, _, _, _, _, _, .nil, _, .nil, _, _ => ⟨fun _ => true, fun j h1 _ => absurd h1 (Nat.not_lt_zero _), by simp [Dt.eqs]⟩
  | _, _, _, _, _, _, .cons _ _, .nil, .cons _ _, .nil, _ => ⟨fun _ => true, fun j _ h2 => absurd h2 (Nat.not_lt_zero _), by simp [Dt.eqs]⟩
  | _, _, d :: ds, e' :: es, x :: its, y :: its2, .cons h1 r1, .cons h2 r2, .cons v1 w1, .cons v2 w2, ok => by
    have ok' : Dt.ok n d e' = true ∧ Dt.oks n ds es = true := by simpa [Dt.oks] using ok
    have hd := P _ _ d e' x y h1 h2 v1 v2 ok'.1
    obtain ⟨e, he, hall⟩ := eq_dats P r1 r2 w1 w2 ok'.2
    refine ⟨fun j => match j with | 0 => Dt.eqb d e' | j + 1 => e j, fun j h1 h2 => ?_, ?_⟩
    · cases j with
      | zero => exact hd
      | succ j => exact he j (by simpa using h1) (by simpa using h2)
    · have m1 : min (x :: its).length (y :: its2).length = min its.length its2.length + 1 := by simp only [List.length_cons]; omega
      have m2 : min (d :: ds).length (e' :: es).length = min ds.length es.length + 1 := by simp only [List.length_cons]; omega
      rw [m1, m2, all_range_succ, List.take_succ_cons, List.take_succ_cons]
      show (Dt.eqb d e' && (List.range (min its.length its2.length)).all e) = (Dt.eqb d e' && Dt.eqs _ _)
      rw [hall]
theorem same_len {ds es : List Dt} (hl : ds.length = es.length) : Dt.eqs (ds.take (min ds.length es.length)) (es.take (min ds.length es.length)) = Dt.eqs ds es := by
  have e5 := eqs_min ds es
  have z : (ds.length == es.length) = true := by simpa using hl
  rw [z, Bool.and_true] at e5
  exact e5
/-- two objects compared: ==, and != -/
theorem rc_dat (I : Inv X pins σ H s) {n : Nat} {A : Around} (P : Told X H s n A.in1) (hu : A.units < cLine) {a b : Addr} {d e : Dt} (hv : IsD X.K H (.ref a) d) (hw : IsD X.K H (.ref b) e) (ok : Dt.ok (n + 1) d e = true) :
    SeqAt.RcAt A s (.ref a) (.ref b) (Dt.eqb d e) ∧ SeqAt.RcNeAt A s (.ref a) (.ref b) (!Dt.eqb d e) := by
  cases hv with
  | t q1 d1 =>
    cases hw with
    | l _ _ => simp [Dt.ok] at ok
    | t q2 d2 =>
      rename_i xs ds ys es
      obtain ⟨its, rv, p, hz⟩ := I.tuple q1
      obtain ⟨its2, rv2, p2, hz2⟩ := I.tuple q2
      have ok' : Dt.oks n ds es = true := by simpa [Dt.ok] using ok
      obtain ⟨f, hf, hall⟩ := eq_dats P d1 d2 rv rv2 ok'
      have t1 := SeqAt.RcAt.tuples (A := A) (s := s) (e := f) (show s.heap.IsTuple a its.toArray from p) (show s.heap.IsTuple b its2.toArray from p2) hu (fun j h1 h2 => by simpa using hf j (by simpa using h1) (by simpa using h2))
      have t2 := SeqAt.RcNeAt.tuples (A := A) (s := s) (e := f) (show s.heap.IsTuple a its.toArray from p) (show s.heap.IsTuple b its2.toArray from p2) hu (fun j h1 h2 => by simpa using hf j (by simpa using h1) (by simpa using h2))
      rw [List.size_toArray, List.size_toArray, hall, ← rv.length, ← rv2.length, d1.length, d2.length, eqs_min ds es] at t1 t2
      exact ⟨t1, t2⟩
  | l q1 d1 =>
    cases hw with
    | t _ _ => simp [Dt.ok] at ok
    | l q2 d2 =>
      rename_i xs ds ys es
      obtain ⟨its, rv, p, hz⟩ := I.list q1
      obtain ⟨its2, rv2, p2, hz2⟩ := I.list q2
      have ok' : Dt.oks n ds es = true := by simpa [Dt.ok] using ok
      have l1 : its.length = ds.length := by rw [← rv.length, d1.length]
      have l2 : its2.length = es.length := by rw [← rv2.length, d2.length]
      by_cases hl : ds.length = es.length
      · obtain ⟨f, hf, hall⟩ := eq_dats P d1 d2 rv rv2 ok'
        have sz : its.toArray.size = its2.toArray.size := by rw [List.size_toArray, List.size_toArray]; omega
        have t1 := SeqAt.RcAt.lists (A := A) (s := s) (e := f) p.isList p2.isList sz hu (fun j h1 h2 => by simpa using hf j (by simpa using h1) (by simpa using h2))
        have t2 := SeqAt.RcNeAt.lists (A := A) (s := s) (e := f) p.isList p2.isList sz hu (fun j h1 h2 => by simpa using hf j (by simpa using h1) (by simpa using h2))
        have hm : min its.length its2.length = its.length := by omega
        rw [hm] at hall
        rw [List.size_toArray, hall, same_len hl] at t1 t2
        exact ⟨t1, t2⟩
      · have e5 : Dt.eqs ds es = false := by
          have e5 := eqs_min ds es
          have z : (ds.length == es.length) = false := by simpa using hl
          rw [z, Bool.and_false] at e5
          exact e5.symm
        have sz : (its.toArray.size != its2.toArray.size) = true := by rw [List.size_toArray, List.size_toArray, l1, l2]; simpa using hl
        show SeqAt.RcAt A s _ _ (Dt.eqs ds es) ∧ SeqAt.RcNeAt A s _ _ (!Dt.eqs ds es)
        rw [e5]
        exact ⟨SeqAt.RcAt.lists_lengths p.isList p2.isList sz hu, SeqAt.RcNeAt.lists_lengths p.isList p2.isList sz hu⟩
theorem told (I : Inv X pins σ H s) : ∀ (n : Nat) (A : Around), A.units + n < cLine → Told X H s n A := by
  intro n
  induction n with
  | zero =>
    intro A hu v u d e x y hv hw r1 r2 ok
    cases hv with
    | i k =>
      cases hw with
      | i m =>
        obtain ⟨t, rfl⟩ := r1
        obtain ⟨t', rfl⟩ := r2
        exact SeqAt.EqAt.int_int k t m t'
      | t _ _ => simp [Dt.ok] at ok
      | l _ _ => simp [Dt.ok] at ok
    | t _ _ => cases hw <;> simp [Dt.ok] at ok
    | l _ _ => cases hw <;> simp [Dt.ok] at ok
  | succ n ih =>
    intro A hu v u d e x y hv hw r1 r2 ok
    have P := ih A.in1 (by show A.units + 1 + n < cLine; omega)
    have refs : ∀ {a b : Addr}, v = .ref a → u = .ref b → SeqAt.EqAt A s x y (Dt.eqb d e) := fun {a b} ev eu => by
      subst ev eu
      cases (show x = Value.ref a from r1)
      cases (show y = Value.ref b from r2)
      by_cases hab : a = b
      · subst hab
        rw [(Dt.eqb_iff d e).mpr (dat_fun I hv hw)]
        exact SeqAt.EqAt.same _
      · exact SeqAt.EqAt.of_refs hab (rc_dat I P (by omega) hv hw ok).1
    cases hv with
    | i k =>
      cases hw with
      | i m =>
        obtain ⟨t, rfl⟩ := r1
        obtain ⟨t', rfl⟩ := r2
        exact SeqAt.EqAt.int_int k t m t'
      | t _ _ => simp [Dt.ok] at ok
      | l _ _ => simp [Dt.ok] at ok
    | t _ _ =>
      cases hw with
      | i m => simp [Dt.ok] at ok
      | t _ _ => exact refs rfl rfl
      | l _ _ => simp [Dt.ok] at ok
    | l _ _ =>
      cases hw with
      | i m => simp [Dt.ok] at ok
      | t _ _ => simp [Dt.ok] at ok
      | l _ _ => exact refs rfl rfl
end
/-! ### ==, !=, in, not in of data -/
section
variable {X : Cx}
/-- == of two lists or tuples -/
def rEqD (K : PySem.W.Frag) : R2 := fun x y H Q => ∃ (a b : Addr) (d e : Dt), x = .ref a ∧ y = .ref b ∧ IsD K H x d ∧ IsD K H y e ∧ Dt.ok 9 d e = true ∧ Q (.bl (Dt.eqb d e)) H
def rNeD (K : PySem.W.Frag) : R2 := fun x y H Q => ∃ (a b : Addr) (d e : Dt), x = .ref a ∧ y = .ref b ∧ IsD K H x d ∧ IsD K H y e ∧ Dt.ok 9 d e = true ∧ Q (.bl (!Dt.eqb d e)) H
theorem op_eqD (hu : X.A.units + 64 < cLine) : OpR X (compareOp .Eq) (rEqD X.K) := by
  intro pins s σ H x y v u Q I r1 r2 h
  obtain ⟨a, b, d, e, rfl, rfl, h1, h2, ok, q⟩ := h
  cases (show v = Value.ref a from r1)
  cases (show u = Value.ref b from r2)
  exact (rc_dat I (told I 8 X.A.in1 (by show X.A.units + 1 + 8 < cLine; omega)) (by omega) h1 h2 ok).1 _ _ _ _ ⟨.bl _, H, I, rfl, q⟩
theorem op_neD (hu : X.A.units + 64 < cLine) : OpR X (compareOp .NotEq) (rNeD X.K) := by
  intro pins s σ H x y v u Q I r1 r2 h
  obtain ⟨a, b, d, e, rfl, rfl, h1, h2, ok, q⟩ := h
  cases (show v = Value.ref a from r1)
  cases (show u = Value.ref b from r2)
  exact (rc_dat I (told I 8 X.A.in1 (by show X.A.units + 1 + 8 < cLine; omega)) (by omega) h1 h2 ok).2 _ _ _ _ ⟨.bl _, H, I, rfl, q⟩
/-! ### data in short -/
theorem isD_ints {K : PySem.W.Frag} {H : Hp} : ∀ ns : List Int, IsDs K H (ns.map V.int) (ns.map Dt.i)
  | [] => .nil
  | n :: r => .cons (.i n) (isD_ints r)
theorem oks_ints (n : Nat) : ∀ a b : List Int, Dt.oks n (a.map Dt.i) (b.map Dt.i) = true
  | [], _ => by simp [Dt.oks]
  | _ :: _, [] => by simp [Dt.oks]
  | x :: a, y :: b => by
    have := oks_ints n a b
    simp only [List.map_cons, Dt.oks, this, Bool.and_true]
    cases n <;> rfl
theorem eqs_ints : ∀ a b : List Int, Dt.eqs (a.map Dt.i) (b.map Dt.i) = decide (a = b)
  | [], [] => by simp [Dt.eqs]
  | [], _ :: _ => by simp [Dt.eqs]
  | _ :: _, [] => by simp [Dt.eqs]
  | x :: a, y :: b => by
    have ih := eqs_ints a b
    simp only [List.map_cons, Dt.eqs, Dt.eqb, ih]
    by_cases h1 : x = y <;> by_cases h2 : a = b <;> simp [h1, h2]
end
end L2

set_option Elab.async false
set_option linter.all false
set_option maxRecDepth 100000
set_option maxHeartbeats 1000000
namespace L2
open PySem PySem.Spec PyProof.Rows
/-! ### a list comprehension with one clause -/
/-- the context of its block: C the block's own names, s2 and H2 the state where the iterator has come, fp the iterator's objects -/
def cxComp (X : Cx) (Nc : List Str) (scope : Scope) (cl : List (Str × Addr)) (C : Addr) (s2 : Shared) (H2 : Hp) (fp : List Addr) : Cx where
  prog := X.prog
  w := X.w
  K := X.K
  mg := X.mg
  base := X.base
  A := X.A
  N := Nc
  s₀ := s2
  H₀ := H2
  env := compEnvC scope cl C X.env
  outer := X.stack
  stack := X.stack
  ex := fp
  fn := fun _ => false
  calm := true
  pn := []
  xe := fun _ _ => False
/-- every captured cell is the enclosing body's -/
def CapC (env : Env) : List (Str × Addr) → Prop
  | [] => True
  | (x, c) :: r => env.cells.lookup x = some c ∧ CapC env r
/-- the block's names: its own (none), or the enclosing body's k-th -/
def CapN (X : Cx) (scope : Scope) (cl : List (Str × Addr)) : List Str → List (Option Nat) → Prop
  | [], [] => True
  | _ :: r, none :: q => CapN X scope cl r q
  | x :: r, some k :: q => (X.N[k]? = some x ∧ X.env.kindOf x = some .cell ∧ (cl.lookup x).isSome = true ∧ (relabel scope X.env).names.lookup x = some .cell) ∧ CapN X scope cl r q
  | _, _ => False
def start0 (fr : List (Option Nat)) (σ : St) : St := fr.map fun o => o.bind fun k => (σ[k]?).join
theorem CapC.mem {env : Env} : ∀ {cl : List (Str × Addr)}, CapC env cl → ∀ x c, cl.lookup x = some c → env.cells.lookup x = some c
  | [], _, x, c, e => by simp at e
  | (y, d) :: r, h, x, c, e => by
    rw [List.lookup_cons] at e
    split at e
    · rename_i hb
      have : x = y := by simpa using hb
      subst this
      cases e
      exact h.1
    · exact h.2.mem x c e
theorem CapN.length {X : Cx} {scope : Scope} {cl : List (Str × Addr)} : ∀ {Nc : List Str} {fr : List (Option Nat)}, CapN X scope cl Nc fr → fr.length = Nc.length
  | [], [], _ => rfl
  | _ :: r, none :: q, h => by rw [List.length_cons, List.length_cons, CapN.length (show CapN X scope cl r q from h)]
  | _ :: r, some k :: q, h => by rw [List.length_cons, List.length_cons, CapN.length h.2]
  | [], _ :: _, h => h.elim
  | _ :: _, [], h => h.elim
theorem CapN.at {X : Cx} {scope : Scope} {cl : List (Str × Addr)} : ∀ {Nc : List Str} {fr : List (Option Nat)}, CapN X scope cl Nc fr → ∀ (j : Nat) (x : Str) (k : Nat), Nc[j]? = some x → fr[j]? = some (some k) →
    X.N[k]? = some x ∧ X.env.kindOf x = some .cell ∧ (cl.lookup x).isSome = true ∧ (relabel scope X.env).names.lookup x = some .cell
  | [], [], _, j, x, k, e, _ => by simp at e
  | _ :: r, none :: q, h, 0, x, k, _, e => by simp at e
  | y :: r, some k' :: q, h, 0, x, k, e1, e2 => by
    simp at e1 e2
    subst e1 e2
    exact h.1
  | _ :: r, none :: q, h, j + 1, x, k, e1, e2 => CapN.at (show CapN X scope cl r q from h) j x k (by simpa using e1) (by simpa using e2)
  | _ :: r, some k' :: q, h, j + 1, x, k, e1, e2 => CapN.at h.2 j x k (by simpa using e1) (by simpa using e2)
  | [], _ :: _, h, _, _, _, _, _ => h.elim
  | _ :: _, [], h, _, _, _, _, _ => h.elim
theorem relabel_lookup {scope : Scope} {env : Env} {cl : List (Str × Addr)} (hcell : ∀ y ∈ scope.names, y.2 ≠ .cell) (hall : (scope.names.all fun p => p.2 != .free || (cl.lookup p.1).isSome) = true) :
    ∀ x, ((relabel scope env).names.lookup x = some .cell ∨ (relabel scope env).names.lookup x = some .free) → ∃ c, cl.lookup x = some c := by
  intro x hx
  unfold relabel at hx
  dsimp only at hx
  revert hcell hall hx
  generalize scope.names = ns
  intro hcell hall hx
  induction ns with
  | nil => simp at hx
  | cons p r ih =>
    obtain ⟨n, k⟩ := p
    have hk : k ≠ .cell := hcell (n, k) List.mem_cons_self
    simp only [List.all_cons, Bool.and_eq_true] at hall
    rw [List.map_cons] at hx
    by_cases hxn : x = n
    · subst hxn
      have kf : k = .free := by
        by_cases hc : (k == NameKind.free && env.scope.kind == .function && env.kindOf x == some .cell) = true
        · simp only [Bool.and_eq_true, beq_iff_eq] at hc
          exact hc.1.1
        · dsimp only at hx
          rw [if_neg hc] at hx
          simp only [List.lookup_cons, beq_self_eq_true] at hx
          rcases hx with z | z
          · exact absurd (Option.some.inj z) hk
          · exact Option.some.inj z
      have h1 := hall.1
      rw [kf] at h1
      have h2 : (cl.lookup x).isSome = true := by simpa using h1
      exact Option.isSome_iff_exists.mp h2
    · refine ih (fun y hy => hcell y (List.mem_cons_of_mem _ hy)) hall.2 ?_
      have hb : (x == n) = false := by simpa using hxn
      dsimp only at hx
      by_cases hc : (k == NameKind.free && env.scope.kind == .function && env.kindOf n == some .cell) = true
      · rw [if_pos hc] at hx
        simpa only [List.lookup_cons, hb] using hx
      · rw [if_neg hc] at hx
        simpa only [List.lookup_cons, hb] using hx
/-- tests of a clause -/
def PTs (X : Cx) (ifs : List Expr) (t : TT) : Prop :=
  ∀ (pins : List (Addr × Obj)) (s : Shared) (σ : St) (H : Hp) (Q : Bool → Hp → Prop), Inv X pins σ H s → t σ H Q →
    wpAny (model X.prog X.w) X.A (forIn ifs true fun c r => if r = true then do let ok ← isTrue c X.env (eval c X.env); pure (ForInStep.yield ok) else pure (ForInStep.yield r)) (TP X pins σ Q) X.xe s
theorem pts_nil {X : Cx} : PTs X [] (fun _ H Q => Q true H) := fun _ _ _ H _ I h => wpAny_tests_nil ⟨H, I, h⟩
theorem pts_one {X : Cx} {c : Expr} {t : TT} (h : PT X c t) : PTs X [c] t := fun pins s σ H Q I q => wpAny_tests_one (h pins s σ H Q I q)
/-- one turn after another: fr tells what the block knows at its start -/
def CompGo (J : It) (g : TG) (tt : TT) (te : TE) (Q : VK) (D : Addr) (σ0 : St) (H0 : Hp) : Prop := ∃ W : Nat → Nat → St → Hp → Prop, (∃ m, W 0 m σ0 H0) ∧ ∀ i m σc Hc, W i m σc Hc →
  (J.stop i Hc ∧ Q (.ref D) Hc) ∨ (J.go i Hc ∧ ∀ x H', J.yld i Hc x H' → g x σc H' fun σ2 H2 => tt σ2 H2 fun b H3 =>
    if b = true then te σ2 H3 fun v H4 => ∃ acc m', H4 D = some (.lst acc) ∧ acc.length < sizeLine ∧ m' < m ∧ W (i + 1) m' σ2 (upd H4 D (.lst (acc ++ [v]))) else ∃ m', m' < m ∧ W (i + 1) m' σ2 H3)
def tComp (fr : List (Option Nat)) (wi : TI) (g : TG) (tt : TT) (te : TE) : TE := fun σ H Q => wi σ H fun J H1 => ∀ D, H1 D = none → CompGo J g tt te Q D (start0 fr σ) (upd H1 D (.lst []))
section
variable {X : Cx} {tg iter elt : Expr} {ifs : List Expr} {scope : Scope} {pos : Pos} {cl : List (Str × Addr)} {Nc : List Str} {fr : List (Option Nat)} {wi : TI} {g : TG} {tt : TT} {te : TE}
theorem pe_comp (hc : X.calm = true) (hi : PI X tg iter wi) (hcl : closureFor scope X.env = pure cl) (hcell : ∀ y ∈ scope.names, y.2 ≠ .cell) (hk : scope.kind = .function) (hnm : ∀ y ∈ scope.names, y.2 = .local → scope.names.lookup y.1 = some .local)
    (hall : (scope.names.all fun p => p.2 != .free || (cl.lookup p.1).isSome) = true) (cc : CapC X.env cl) (cn : CapN X scope cl Nc fr)
    (hg : ∀ C s2 H2 fp, PG (cxComp X Nc scope cl C s2 H2 fp) tg g) (ht : ∀ C s2 H2 fp, PTs (cxComp X Nc scope cl C s2 H2 fp) ifs tt) (he : ∀ C s2 H2 fp, PE (cxComp X Nc scope cl C s2 H2 fp) elt te)
    (hs : ∀ x, foldedSetIterable iter X.env x = pure x := by intro _; rfl) : PE X (.ListComp elt [⟨tg, iter, ifs, 0⟩] scope pos) (tComp fr wi g tt te) := by
  intro pins s σ H Q I h
  rw [eval_ListComp]
  refine wpAny_comprehension_free (use := none) rfl hs hcl hk hnm ?_
  refine wpAny_mono (hi pins s σ H _ I h) (fun xv s1 h1 => wpAny_mono h1 (fun itv s2 h2 => ?_) fun _ _ e => e) fun _ _ e => e
  obtain ⟨it, fp, tn, J, H2, rfl, I2, T, st2, f2, q2⟩ := h2
  obtain ⟨W, ⟨m0, w0⟩, turn⟩ := q2 s2.heap.objs.size (I2.hok.fresh (Nat.le_refl _))
  refine wpAny_newObj_type (wpAny_newFunctionEnv hcell (by intro y hy; simp at hy) (fun h4 ns4 sb4 => ?_) hk)
  dsimp only at ns4 sb4 ⊢
  generalize hD : s2.heap.objs.size = D at *
  generalize hL : s2.heap.push { cls := .type "list", dict := none, data := .seq ([] : List Value).toArray } = hl at ns4 sb4 ⊢
  have hlsz : hl.objs.size = D + 1 := by rw [← hL, Heap.size_push, hD]
  rw [hlsz] at ns4 sb4 ⊢
  have DC : D ≠ D + 1 := Nat.ne_of_lt (Nat.lt_succ_self _)
  have low : ∀ b o, s2.heap.get? b = some o → b < D := fun b o e => by rw [← hD]; exact Heap.lt_size e
  have kp : ∀ b o, s2.heap.get? b = some o → h4.get? b = some o := fun b o e => by
    have z := low b o e
    refine sb4.extBut b o (Nat.ne_of_lt (Nat.lt_succ_of_lt z)) (Heap.get?_push_of_some _ ?_)
    rw [← hL]
    exact Heap.get?_push_of_some _ e
  have hD4 : h4.get? D = some { cls := .type "list", dict := none, data := .seq ([] : List Value).toArray } := by
    refine sb4.extBut D _ DC (Heap.get?_push_of_some _ ?_)
    rw [← hL, ← hD]
    exact Heap.get?_push_size _ rfl
  have hn : H2 D = none := by rw [← hD]; exact I2.hok.fresh (Nat.le_refl _)
  have hnC : H2 (D + 1) = none := I2.hok.fresh (by rw [hD]; exact Nat.le_succ _)
  -- the block's context
  let Y := cxComp X Nc scope cl (D + 1) s2 H2 fp
  have ixv : ∀ b ∈ fp, b < D := fun b hb => by
    obtain ⟨o, e, _⟩ := T.obj 0 _ st2 b hb
    exact low b o e
  have okY : Y.Ok := by
    refine ⟨I2.ok.mod, ?_, I2.ok.glob, I2.ok.blt, ?_, ?_, ?_, ?_, fun _ => I2.ok.hd hc, I2.ok.frames, .inl rfl, ?_, I2.bs, ?_, ?_, ?_, I2.stack, I2.stkFree⟩
    · exact hk
    · show s2.heap.objs.size ≤ D + 1
      omega
    · intro x y c e1 e2
      exact I2.ok.inj x y c (cc.mem x c e1) (cc.mem y c e2)
    · intro x hx
      exact relabel_lookup hcell hall x hx
    · intro x c e
      cases e
    · intro b hb
      refine ⟨fun z => ?_, fun x c e z => ?_⟩
      · exact absurd z (Nat.ne_of_lt (Nat.lt_succ_of_lt (ixv b hb)))
      · exact (f2 b hb).2.2.2.2.1 x c (cc.mem x c e) z
    · exact Nat.le_trans I2.ok.bsz I2.sz
    · intro b o e hb
      have z := (f2 b hb).2.2.2.1
      rcases z with z | z
      · exact I2.ok.noex b o e z
      · exact absurd (Nat.lt_of_lt_of_le (Heap.lt_size (I2.ok.bs b o e).1) z) (Nat.lt_irrefl _)
    · intro b hb z
      have e2 := List.mem_cons.mp (I2.stkSub b z)
      rcases e2 with e2 | e2
      · exact (f2 b hb).2.1 e2
      · exact (f2 b hb).2.2.1 e2
  -- what it knows at its start
  have IY : Inv Y [] (start0 fr σ) (upd H2 D (.lst [])) { s2 with heap := h4, toks := s2.toks + ([] : List (Str × Value)).length } := by
    refine ⟨okY, rfl, I2.bare, ⟨fun b o e n _ _ => kp b o e, fun b o e n _ _ => ⟨o.slots, kp b o e⟩, fun b o e n _ => ?_, fun b o e _ => ⟨o, kp b o e⟩, fun b xs e => ?_, fun b o u e => ?_, fun b ps e => ⟨#[], ?_⟩⟩, ?_, fun x c e => ?_, ?_, fun x c e => ?_, fun p hp => ?_, fun b u e => ?_, ?_⟩
    · rw [upd_ne (Nat.ne_of_lt (low b o e))]; exact n
    · rw [upd_ne (ne_of_none e hn)]; exact e
    · rw [upd_ne (ne_of_none e hn)]; exact e
    · rw [upd_ne (ne_of_none e hn), show H2 b = _ from e]; simp
    · refine ⟨_, ns4, fun j x v e1 e2 e3 => ?_⟩
      have e2' : (fr.map fun o => o.bind fun k => (σ[k]?).join)[j]? = some (some v) := e2
      rw [List.getElem?_map] at e2'
      obtain ⟨o, ho, hv⟩ := Option.map_eq_some_iff.mp e2'
      cases o with
      | none => cases hv
      | some k =>
        obtain ⟨c1, c2, c3, c4⟩ := cn.at j x k e1 ho
        have hσ : σ[k]? = some (some v) := by
          have hv' : (σ[k]?).join = some v := hv
          cases z : σ[k]? with
          | none => rw [z] at hv'; cases hv'
          | some w' => rw [z] at hv'; exact congrArg some hv'
        obtain ⟨m, hm, hlk⟩ := I2.loc
        obtain ⟨u, r, lk⟩ := hlk k x v c1 hσ (.inr (.inl c2))
        refine ⟨u, r, .inr ⟨.inl c4, ?_⟩⟩
        rcases lk with ⟨z, _⟩ | ⟨_, c, ec, oc, hoc, dc⟩
        · rw [c2] at z; cases z
        · obtain ⟨c', ec'⟩ := Option.isSome_iff_exists.mp c3
          have := cc.mem x c' ec'
          rw [ec] at this; cases this
          exact ⟨c, ec', oc, kp c oc hoc, dc⟩
    · obtain ⟨v, oc, hoc, dc⟩ := I2.cell x c (cc.mem x c e)
      exact ⟨v, oc, kp c oc hoc, dc⟩
    · show upd H2 D (.lst []) (D + 1) = none
      rw [upd_ne (Ne.symm DC)]; exact hnC
    · obtain ⟨v, oc, hoc, dc⟩ := I2.cell x c (cc.mem x c e)
      rw [upd_ne (Nat.ne_of_lt (low c oc hoc))]
      exact I2.freeC x c (cc.mem x c e)
    · simp [Y, cxComp] at hp
    · by_cases hb : b = D
      · subst hb
        rw [upd_same] at e; cases e
        exact ⟨Nat.zero_le _, [], _, .nil, hD4⟩
      · rw [upd_ne hb] at e
        exact (I2.hok b u e).stay (fun c v _ q => kp c v q) (fun c q => by rw [upd_ne (ne_of_none q hn)]; exact q) fun c xs q => by rw [upd_ne (ne_of_none q hn)]; exact q
    · show (fr.map _).length = Nc.length
      rw [List.length_map]; exact cn.length
  have fY : ∀ {H' : Hp}, (∀ b ∈ fp, H' b = none) → ∀ b ∈ fp, FpOk Y [] H' b := fun {H'} hn' b hb => by
    refine ⟨hn' b hb, fun z => ?_, fun z => ?_, .inl hb, fun x c e z => ?_, fun p hp => ?_⟩
    · exact absurd z (Nat.ne_of_lt (Nat.lt_succ_of_lt (ixv b hb)))
    · exact okY.exfs b hb z
    · exact (f2 b hb).2.2.2.2.1 x c (cc.mem x c e) z
    · simp [Y, cxComp] at hp
  have st4 : tn 0 h4 := T.keep _ _ _ st2 fun b hb o e => kp b o e
  have fr4 : ∀ b ∈ fp, upd H2 D (.lst []) b = none := fun b hb => by
    rw [upd_ne (Nat.ne_of_lt (ixv b hb))]
    exact (f2 b hb).1
  have loop : ∀ s3 : Shared, s3 = { s2 with heap := h4, toks := s2.toks + ([] : List (Str × Value)).length } →
      codeAny (model X.prog X.w) X.A (.compLoop (.ListComp elt [⟨tg, iter, ifs, 0⟩] scope pos) 0 (.ref it) (.ref D) (compEnvC scope cl (D + 1) X.env)) (compPost (model X.prog X.w) X.A X.xe none (EP X pins σ Q) (.ref D) (D + 1)) s3 := by
    rintro s3 rfl
    refine codeAny_loop rfl (fun n s' => ∃ i σ' H', Inv Y [] σ' H' s' ∧ tn i s'.heap ∧ (∀ b ∈ fp, H' b = none) ∧ W i n σ' H') (fun n s5 hI => ?_) m0 ⟨0, _, _, IY, st4, fr4, w0⟩
    obtain ⟨i, σ5, H5, I5, st5, fr5, w5⟩ := hI
    show wpAny _ X.A ((compTurn (.ListComp elt [⟨tg, iter, ifs, 0⟩] scope pos) 0 (.ref it) (.ref D) (compEnvC scope cl (D + 1) X.env)).onRaise (fun x => do noteFrame x (compEnvC scope cl (D + 1) X.env); theTreesLotGoes x)) _ _ s5
    refine wpAny_noted ?_
    rw [compTurn_list]
    refine wpAny_bind (wpAny_standAt (wpAny_bind ?_))
    rcases turn i n σ5 H5 w5 with ⟨stop, qn⟩ | ⟨go, step⟩
    · refine wpAny_mono (T.done Y rfl rfl rfl rfl i [] s5 σ5 H5 (fun _ _ => False) I5 (fY fr5) st5 stop) (fun r s6 ⟨hr, I6⟩ => ?_) fun _ _ z => z.elim
      subst hr
      refine wpAny_pure ?_
      obtain ⟨m6, hm6, _⟩ := id I6.loc
      refine ⟨m6, hm6, fun h7 sb7 => ?_⟩
      -- back in the enclosing body
      have un : Un (frs X.stack) fp H2 H5 s2.heap h7 := by
        have b6 := I6.base
        have nc : ∀ b o, s2.heap.get? b = some o → b ≠ D + 1 := fun b o e => Nat.ne_of_lt (Nat.lt_succ_of_lt (low b o e))
        refine ⟨fun b o e n1 n2 n3 => (sb7.2 b (nc b o e)).trans (b6.keep b o e n1 n2 n3), fun b o e n1 n2 n3 => ?_, b6.free, fun b o e n3 => ?_, b6.tups, b6.frzs, b6.tbls⟩
        · obtain ⟨sl, z⟩ := b6.slot b o e n1 n2 n3
          exact ⟨sl, (sb7.2 b (nc b o e)).trans z⟩
        · obtain ⟨o', z⟩ := b6.there b o e n3
          exact ⟨o', (sb7.2 b (nc b o e)).trans z⟩
      have hok7 : HOk X.prog X.w H5 h7 := fun b u e => by
        refine (I6.hok b u e).stay (fun c v hc' q => (sb7.2 c fun z => ?_).trans q) (fun _ q => q) fun _ _ q => q
        have fC : H5 (D + 1) = none := I6.free
        subst z
        rcases hc' with z | z
        · rw [← z, fC] at e; cases e
        · rw [fC] at z; cases z
      have IX := I2.call' (s' := { s6 with heap := h7 }) (ch := fp) I6.os un hok7 I6.bare fun b hb => ⟨(f2 b hb).2.2.2.1, (f2 b hb).2.1, (f2 b hb).2.2.2.2.1, (f2 b hb).2.2.2.2.2⟩
      exact ⟨.ref D, H5, IX, rfl, qn⟩
    · refine wpAny_mono (T.item Y rfl rfl rfl rfl i [] s5 σ5 H5 (fun _ _ => False) I5 (fY fr5) st5 go) (fun r s6 ⟨u, hr, h6⟩ => ?_) fun _ _ z => z.elim
      subst hr
      refine wpAny_bind (wpAny_mono h6 (fun _ s7 ⟨x, H7, I7, r7, y7, st7, fr7⟩ => ?_) fun _ _ z => z.elim)
      have I7' := I7.pinned (fY fr7) (T.obj _ _ st7)
      refine wpAny_bind (wpAny_mono (hg _ _ _ _ _ s7 σ5 H7 x u _ I7' r7 (step x H7 y7)) (fun _ s8 ⟨σ8, H8, I8, q8⟩ => ?_) fun _ _ z => z.elim)
      have again : ∀ {σ' : St} {H' : Hp} {s' : Shared} {k : Nat}, Inv Y ([] ++ pinsAt fp s7.heap) σ' H' s' → W (i + 1) k σ' H' → ∃ i' σ'' H'', Inv Y [] σ'' H'' s' ∧ tn i' s'.heap ∧ (∀ b ∈ fp, H'' b = none) ∧ W i' k σ'' H'' := fun {σ' H' s' k} I' w' => by
        refine ⟨i + 1, σ', H', I'.unpinned, T.keep _ _ _ st7 fun b hb o e => (I'.pin (b, o) (List.mem_append_right _ (List.mem_append_right _ (mem_pinsAt hb e)))).1, fun b hb => ?_, w'⟩
        obtain ⟨o, e, d⟩ := T.obj _ _ st7 b hb
        exact (I'.pin (b, o) (List.mem_append_right _ (List.mem_append_right _ (mem_pinsAt hb e)))).2.1
      refine wpAny_bind (wpAny_mono (ht _ _ _ _ _ s8 σ8 H8 _ I8 q8) (fun ok s9 ⟨H9, I9, q9⟩ => ?_) fun _ _ z => z.elim)
      cases ok with
      | false =>
        obtain ⟨m', hm', w'⟩ := q9
        exact wpAny_pure ⟨rfl, m', hm', again I9 w'⟩
      | true =>
        refine wpAny_bind (wpAny_bind (wpAny_mono (he _ _ _ _ _ s9 σ8 H9 _ I9 q9) (fun ev s10 ⟨v, H10, I10, r10, acc, m', hacc, hlen, hm', w'⟩ => ?_) fun _ _ z => z.elim))
        refine wpAny_bind (wpAny_mono (mt_append (X := Y) _ s10 σ8 H10 (.ref D) [v] (.ref D) [ev] (fun r H' => r = .non ∧ H' = upd H10 D (.lst (acc ++ [v]))) I10 rfl (.cons r10 .nil) ⟨D, acc, v, rfl, rfl, hacc, hlen, rfl, rfl⟩) (fun _ s11 ⟨_, H11, I11, _, _, e11⟩ => ?_) fun _ _ z => z.elim)
        subst e11
        exact wpAny_pure (wpAny_pure ⟨rfl, m', hm', again I11 w'⟩)
  exact codeAny_compStart_list (loop _ rfl) (T.self _ _ _ _ _ st4 (loop _ rfl))
end
end L2

set_option Elab.async false
set_option linter.all false
set_option maxRecDepth 100000
namespace L2
open PySem PySem.Spec PyProof.Rows
/-! ### a list or a tuple, read -/
def SqA (K : PySem.W.Frag) (H : Hp) (a : Addr) (xs : List V) : Prop := SqL K H a xs ∨ SqT K H a xs
theorem SqA.same {K : PySem.W.Frag} {H H' : Hp} {a : Addr} {xs : List V} (g : Same H H') (h : SqA K H a xs) : SqA K H' a xs := by
  rcases h with h | h
  · exact .inl (h.same g)
  · exact .inr (h.same g)
/-- truth of a plain value -/
def trV : V → Bool
  | .int i => i != 0
  | .bl b => b
  | _ => false
def PlV : V → Prop
  | .int _ => True
  | .bl _ => True
  | .non => True
  | _ => False
section
variable {X : Cx}
theorem any_ix {xs : List V} (f : V → Bool) : ((List.range xs.length).any fun i => ((xs[i]?).map f).getD false) = xs.any f := by
  rw [Bool.eq_iff_iff, List.any_eq_true, List.any_eq_true]
  constructor
  · rintro ⟨i, hi, h⟩
    have hl : i < xs.length := List.mem_range.mp hi
    refine ⟨xs[i], List.getElem_mem hl, ?_⟩
    simpa [hl] using h
  · rintro ⟨x, hx, h⟩
    obtain ⟨i, hl, e⟩ := List.mem_iff_getElem.mp hx
    exact ⟨i, List.mem_range.mpr hl, by simp [hl, e, h]⟩
theorem truthOf_vals {prog : Program} {w : World} {A : Around} {ys : List V} {its : List Value} (r : Vals ys its) (hp : ∀ y ∈ ys, PlV y) :
    TruthOf prog w A (fun i v => its.toArray[i]? = some v) (fun i => ((ys[i]?).map trV).getD false) := by
  intro i v s Q E hv q
  have hv' : its[i]? = some v := by simpa using hv
  have hi : i < ys.length := by rw [r.length]; exact (List.getElem?_eq_some_iff.mp hv').1
  obtain ⟨u, hu, ru⟩ := r.get (List.getElem?_eq_getElem hi)
  rw [hv'] at hu; cases hu
  have p := hp _ (List.getElem_mem hi)
  have q' : Q (trV ys[i]) s := by simpa [hi] using q
  generalize ys[i] = y at *
  cases y with
  | int k => obtain ⟨t, rfl⟩ := ru; exact PySem.P.truthy_int q'
  | bl b => cases ru; exact wpAny_truthy_bool q'
  | non => cases ru; exact truthy_none q'
  | _ => exact p.elim
theorem call_any (hc : X.calm = true) : CallR X (.builtin "any") (fun xs H Q => ∃ p ys, xs = [.ref p] ∧ SqA X.K H p ys ∧ (∀ y ∈ ys, PlV y) ∧ Q (.bl (ys.any trV)) H) := by
  intro pins s σ H xs us Q I r h
  obtain ⟨p, ys, rfl, hq, hp, q⟩ := h
  obtain ⟨u, rfl, rx⟩ := vals1 r
  cases rx
  have hh : X.A.in1.handled = none := I.ok.hd hc
  refine call_any_walk ?_
  rcases hq with hq | hq
  · obtain ⟨its, r', pl, hz⟩ := I.list hq
    have hne : p ≠ s.heap.objs.size := by obtain ⟨o, e, _⟩ := pl.isList; exact Nat.ne_of_lt (Heap.lt_size e)
    refine wpAny_pyIter_list pl.isList ⟨_, _, _, _, _, _, _, rfl, Walks.list hh _ p hne its.toArray, ⟨⟨_, Heap.get?_push_size _ rfl, rfl, rfl⟩, pl.isList.push _⟩, truthOf_vals r' hp, fun h' tk kp => ?_⟩
    have kp' : ∀ b o, s.heap.get? b = some o → h'.get? b = some o := fun b o e => kp b o (by have := Heap.lt_size e; simp; exact Nat.ne_of_lt this) (Heap.get?_push_of_some _ e)
    refine ⟨.bl (ys.any trV), H, I.kept kp', ?_, q⟩
    show Value.bool _ = _
    rw [List.size_toArray, ← r'.length, any_ix]
  · obtain ⟨its, r', pl, hz⟩ := I.tuple hq
    have pl' : s.heap.IsTuple p its.toArray := pl
    have hne : p ≠ s.heap.objs.size := by obtain ⟨o, e, _⟩ := pl'; exact Nat.ne_of_lt (Heap.lt_size e)
    refine wpAny_pyIter_tuple pl' ⟨_, _, _, _, _, _, _, rfl, Walks.tuple hh _ p hne its.toArray, ⟨⟨_, Heap.get?_push_size _ rfl, rfl, rfl⟩, pl'.push _⟩, truthOf_vals r' hp, fun h' tk kp => ?_⟩
    have kp' : ∀ b o, s.heap.get? b = some o → h'.get? b = some o := fun b o e => kp b o (by have := Heap.lt_size e; simp; exact Nat.ne_of_lt this) (Heap.get?_push_of_some _ e)
    refine ⟨.bl (ys.any trV), H, I.kept kp', ?_, q⟩
    show Value.bool _ = _
    rw [List.size_toArray, ← r'.length, any_ix]
end
/-! ### an iterator over a list (true) or a tuple (false) -/
section
variable {prog : Program} {w : World} {A : Around} {E : Value → Shared → Prop} {s : Shared}
end
end L2

set_option Elab.async false
set_option linter.all false
set_option maxRecDepth 100000
namespace L2
open PySem PySem.Spec PyProof.Rows
/-! ### zip of two, each a list or a tuple -/
section
variable {prog : Program} {w : World} {A : Around} {E : Value → Shared → Prop} {s : Shared}
end
end L2

set_option Elab.async false
set_option linter.all false
set_option maxRecDepth 100000
namespace L2
open PySem PySem.Spec PyProof.Rows
section
variable {prog : Program} {w : World} {A : Around} {E : Value → Shared → Prop} {s : Shared}
end
section
variable {prog : Program} {w : World} {A : Around} {E : Value → Shared → Prop} {s : Shared}
end
/-! ### as a loop's iterator -/
def SqB (b : Bool) (K : PySem.W.Frag) (H : Hp) (a : Addr) (xs : List V) : Prop := match b with
  | true => SqL K H a xs
  | false => SqT K H a xs
section
variable {X : Cx} {pins : List (Addr × Obj)} {σ : St} {H : Hp} {s : Shared} {a : Addr} {xs ys : List V} {b : Bool}
theorem SqA.toB {K : PySem.W.Frag} (h : SqA K H a xs) : ∃ b, SqB b K H a xs := by
  rcases h with h | h
  · exact ⟨true, h⟩
  · exact ⟨false, h⟩
end
section
variable {X : Cx}
end
end L2

set_option Elab.async false
set_option linter.all false
set_option maxRecDepth 100000
namespace L2
open PySem PySem.Spec PyProof.Rows
/-! ### loops and comprehensions over any iterator of known length -/
structure Runs (J : It) (n : Nat) (Ok : Hp → Prop) (yl : Nat → Hp → V → Hp → Prop) : Prop where
  go : ∀ i H, Ok H → i < n → J.go i H
  stop : ∀ H, Ok H → J.stop n H
  yld : ∀ i H x H', Ok H → i < n → J.yld i H x H' → yl i H x H'
theorem runs_list (K : PySem.W.Frag) (a : Addr) (xs : List V) : Runs (Itl K a) xs.length (fun H => SqL K H a xs) (fun i H x H' => H' = H ∧ xs[i]? = some x) where
  go := fun i H h hi => ⟨xs, xs[i], h, by simp [hi]⟩
  stop := fun H h => ⟨xs, h, Nat.le_refl _⟩
  yld := fun i H x H' h hi y => ⟨y.1, y.2 xs h⟩
theorem runs_tup (K : PySem.W.Frag) (a : Addr) (xs : List V) : Runs (Itt K a) xs.length (fun H => SqT K H a xs) (fun i H x H' => H' = H ∧ xs[i]? = some x) where
  go := fun i H h hi => ⟨xs, xs[i], h, by simp [hi]⟩
  stop := fun H h => ⟨xs, h, Nat.le_refl _⟩
  yld := fun i H x H' h hi y => ⟨y.1, y.2 xs h⟩
theorem runs_range (lo : Int) (n : Nat) : Runs (Itr lo n) n (fun _ => True) (fun i H x H' => H' = H ∧ x = .int (lo + i)) where
  go := fun i H h hi => hi
  stop := fun H h => Nat.le_refl _
  yld := fun i H x H' h hi y => y
theorem runs_enum (K : PySem.W.Frag) (a : Addr) (xs : List V) : Runs (Ite K a) xs.length (fun H => SqL K H a xs) (fun i H x H' => ∃ p v, x = .ref p ∧ H p = none ∧ xs[i]? = some v ∧ H' = upd H p (.tup [.int i, v])) where
  go := fun i H h hi => ⟨xs, xs[i], h, by simp [hi]⟩
  stop := fun H h => ⟨xs, h, Nat.le_refl _⟩
  yld := fun i H x H' h hi y => let ⟨p, v, e, hn, hv, e2⟩ := y; ⟨p, v, e, hn, hv xs h, e2⟩
theorem for_runs {J : It} {n : Nat} {Ok : Hp → Prop} {yl : Nat → Hp → V → Hp → Prop} (R : Runs J n Ok yl) {g : TG} {tb : TS} {D : Ends} {σ : St} {H : Hp} (Pv : Nat → St → Hp → Prop) (h0 : Pv 0 σ H) (hl : ∀ i σ H, i ≤ n → Pv i σ H → Ok H)
    (hs : ∀ i x σ H H', i < n → Pv i σ H → yl i H x H' → g x σ H' fun σ2 H2 => tb { D with nx := Pv (i + 1), ct := Pv (i + 1), bk := D.nx } σ2 H2) (hd : ∀ σ H, Pv n σ H → D.nx σ H) :
    ∃ W : Nat → Nat → St → Hp → Prop, (∃ m, W 0 m σ H) ∧ ∀ i m σ H, W i m σ H →
      (J.stop i H ∧ D.nx σ H) ∨ (J.go i H ∧ ∃ N : St → Hp → Prop, (∀ σ' H', N σ' H' → ∃ m', m' < m ∧ W (i + 1) m' σ' H') ∧ ∀ x H', J.yld i H x H' → g x σ H' fun σ2 H2 => tb { D with nx := N, ct := N, bk := D.nx } σ2 H2) := by
  refine ⟨fun i m σ H => m = n - i ∧ i ≤ n ∧ Pv i σ H, ⟨n, by simp, Nat.zero_le _, h0⟩, ?_⟩
  rintro i m σ H ⟨rfl, hi, p⟩
  have q := hl i σ H hi p
  by_cases hlt : i < n
  · exact .inr ⟨R.go i H q hlt, Pv (i + 1), fun σ' H' p' => ⟨n - (i + 1), by omega, rfl, hlt, p'⟩, fun x H' y => hs i x σ H H' hlt p (R.yld i H x H' q hlt y)⟩
  · have e : i = n := by omega
    subst e
    exact .inl ⟨R.stop H q, hd σ H p⟩
/-- a comprehension, by a word over the list so far -/
theorem comp_by {J : It} {n : Nat} {Ok : Hp → Prop} {yl : Nat → Hp → V → Hp → Prop} (R : Runs J n Ok yl) {fr : List (Option Nat)} {g : TG} {tt : TT} {te : TE} {σ : St} {H1 : Hp} {Q : VK} {D : Addr} (Pv : Nat → List V → St → Hp → Prop)
    (h0 : Pv 0 [] (start0 fr σ) (upd H1 D (.lst []))) (hl : ∀ i acc σ H, i ≤ n → Pv i acc σ H → Ok H ∧ acc.length ≤ i) (hn : n ≤ sizeLine)
    (hs : ∀ (N : Bool → V → St → Hp → Prop) (i : Nat) (x : V) (acc : List V) (σ : St) (H H' : Hp), i < n → Pv i acc σ H → yl i H x H' →
      (∀ v σ2 H4, H4 D = some (.lst acc) → Pv (i + 1) (acc ++ [v]) σ2 (upd H4 D (.lst (acc ++ [v]))) → N true v σ2 H4) → (∀ σ2 H3, Pv (i + 1) acc σ2 H3 → N false .non σ2 H3) →
      g x σ H' fun σ2 H2 => tt σ2 H2 fun b H3 => if b = true then te σ2 H3 fun v H4 => N true v σ2 H4 else N false .non σ2 H3)
    (hd : ∀ acc σ H, Pv n acc σ H → Q (.ref D) H) :
    CompGo J g tt te Q D (start0 fr σ) (upd H1 D (.lst [])) := by
  refine ⟨fun i m σ H => m = n - i ∧ i ≤ n ∧ ∃ acc, Pv i acc σ H, ⟨n, by simp, Nat.zero_le _, [], h0⟩, ?_⟩
  rintro i m σ H ⟨em, hi, acc, p⟩
  obtain ⟨q, ha⟩ := hl i acc σ H hi p
  by_cases hlt : i < n
  · refine .inr ⟨R.go i H q hlt, fun x H' y => ?_⟩
    exact hs (fun b v σ2 H4 => match b with | true => ∃ acc' m', H4 D = some (.lst acc') ∧ acc'.length < sizeLine ∧ m' < m ∧ (m' = n - (i + 1) ∧ i + 1 ≤ n ∧ ∃ acc2, Pv (i + 1) acc2 σ2 (upd H4 D (.lst (acc' ++ [v])))) | false => ∃ m', m' < m ∧ (m' = n - (i + 1) ∧ i + 1 ≤ n ∧ ∃ acc2, Pv (i + 1) acc2 σ2 H4))
      i x acc σ H H' hlt p (R.yld i H x H' q hlt y) (fun v σ2 H4 e pv => ⟨acc, n - (i + 1), e, by omega, by omega, rfl, hlt, _, pv⟩) (fun σ2 H3 pv => ⟨n - (i + 1), by omega, rfl, hlt, _, pv⟩)
  · have e : i = n := by omega
    subst e
    exact .inl ⟨R.stop H q, hd acc σ H p⟩
theorem filter_tt {α : Type} (xs : List α) : xs.filter (fun _ => true) = xs := List.filter_eq_self.mpr fun _ _ => rfl
/-- a comprehension whose test and item change nothing: one own name, in slot 0 -/
theorem comp_pure {J : It} {n : Nat} {Ok : Hp → Prop} {xs : List V} (hx : n = xs.length) (R : Runs J n Ok (fun i H x H' => H' = H ∧ xs[i]? = some x)) {fr : List (Option Nat)} {tt : TT} {te : TE} {σ : St} {H1 : Hp} {Q : VK} {D : Addr} (hD : H1 D = none) (tst : V → Bool) (val : V → V)
    (hok : ∀ H, Same H1 H → Ok H) (hn : n ≤ sizeLine)
    (ht : ∀ x ∈ xs, ∀ Hc, Same H1 Hc → ∀ S : Bool → Hp → Prop, S (tst x) Hc → tt ((start0 fr σ).set 0 (some x)) Hc S)
    (hv : ∀ x ∈ xs, tst x = true → ∀ Hc, Same H1 Hc → ∀ S : VK, S (val x) Hc → te ((start0 fr σ).set 0 (some x)) Hc S)
    (q : Q (.ref D) (upd H1 D (.lst ((xs.filter tst).map val)))) :
    CompGo J (gName 0) tt te Q D (start0 fr σ) (upd H1 D (.lst [])) := by
  subst hx
  have st : ∀ acc, Same H1 (upd H1 D (.lst acc)) := fun acc => same_new hD _
  refine comp_by R (fun i acc σ' H' => (∃ o, σ' = (start0 fr σ).set 0 o ∨ σ' = start0 fr σ) ∧ H' = upd H1 D (.lst acc) ∧ acc = ((xs.take i).filter tst).map val) ⟨⟨none, .inr rfl⟩, rfl, by simp⟩ ?_ hn ?_ ?_
  · rintro i acc σ' H' hi ⟨_, rfl, rfl⟩
    refine ⟨hok _ (st _), ?_⟩
    rw [List.length_map]
    refine Nat.le_trans (List.length_filter_le _ _) ?_
    rw [List.length_take]; omega
  · rintro N i x acc σ' H' H'' hi ⟨hσ, rfl, ha⟩ ⟨rfl, hx⟩ n1 n2
    have hm : x ∈ xs := List.mem_of_getElem? hx
    have es : σ'.set 0 (some x) = (start0 fr σ).set 0 (some x) := by
      obtain ⟨o, e | e⟩ := hσ
      · rw [e, List.set_set]
      · rw [e]
    show tt (σ'.set 0 (some x)) _ _
    rw [es]
    have tk : xs.take (i + 1) = xs.take i ++ [x] := by rw [List.take_add_one, hx]; rfl
    refine ht x hm _ (st _) _ ?_
    cases hb : tst x with
    | true =>
      refine iteT (hv x hm hb _ (st _) _ (n1 _ _ _ upd_same ⟨⟨_, .inl rfl⟩, upd_upd, ?_⟩))
      rw [tk, List.filter_append, List.map_append, ← ha]
      simp [hb]
    | false =>
      refine iteF (n2 _ _ ⟨⟨_, .inl rfl⟩, rfl, ?_⟩)
      rw [tk, List.filter_append, List.map_append, ← ha]
      simp [hb]
  · rintro acc σ' H' ⟨_, rfl, rfl⟩
    rw [List.take_length]
    exact q
/-! ### the rules with the text's own K in their place -/
section
variable {X : Cx} {K : PySem.W.Frag} {tg : Expr}
theorem ix_listK (h : X.K = K) : IxR X (rIxL K) := by subst h; exact ix_list
theorem ix_tupK (h : X.K = K) : IxR X (rIxT K) := by subst h; exact ix_tup
theorem sl_listK (h : X.K = K) : SlR X (rSlL K) := by subst h; exact sl_list
def cLen (K : PySem.W.Frag) : List V → Hp → VK → Prop := fun xs H Q => ∃ p ys, xs = [.ref p] ∧ SqA K H p ys ∧ Q (.int ys.length) H
theorem call_lenK (h : X.K = K) : CallR X (.builtin "len") (cLen K) := by subst h; exact call_len_seq
def cAny (K : PySem.W.Frag) : List V → Hp → VK → Prop := fun xs H Q => ∃ p ys, xs = [.ref p] ∧ SqA K H p ys ∧ (∀ y ∈ ys, PlV y) ∧ Q (.bl (ys.any trV)) H
theorem call_anyK (h : X.K = K) (hc : X.calm = true) : CallR X (.builtin "any") (cAny K) := by subst h; exact call_any hc
def cList (K : PySem.W.Frag) : List V → Hp → VK → Prop := fun xs H Q => ∃ p ys, xs = [.ref p] ∧ SqA K H p ys ∧ ∀ l, H l = none → Q (.ref l) (upd H l (.lst ys))
theorem call_listK (h : X.K = K) : CallR X (.type "list") (cList K) := by subst h; exact call_list_of
def cTuple (K : PySem.W.Frag) : List V → Hp → VK → Prop := fun xs H Q => ∃ p ys, xs = [.ref p] ∧ ((SqL K H p ys ∧ ∀ l, H l = none → Q (.ref l) (upd H l (.tup ys))) ∨ (SqT K H p ys ∧ Q (.ref p) H))
theorem call_tupleK (h : X.K = K) : CallR X (.type "tuple") (cTuple K) := by subst h; exact call_tuple_of
theorem pi_listK (h : X.K = K) {l : Expr} {tl : TE} (hl : PE X l tl) : PI X tg l (iList K tl) := by subst h; exact pi_list hl
theorem pi_tupK (h : X.K = K) {l : Expr} {tl : TE} (hl : PE X l tl) : PI X tg l (iTup K tl) := by subst h; exact pi_tup hl
def iEnumK (K : PySem.W.Frag) (tl : TA) : TI := fun σ H R => tl σ H fun vs H1 => ∃ a xs, vs = [.ref a] ∧ H1 a = some (.lst xs) ∧ R (Ite K a) H1
theorem pi_enumK (h : X.K = K) {elts : List Expr} {k : Nat} {tpos : Pos} {l : Expr} {tl : TA} {p pos : Pos} (hg : Gl X "enumerate") (hm : X.mg "enumerate" = none) (ha : PA X [l] tl) (hs : starEach [l] X.env = [(false, eval l X.env)] := by rfl) :
    PI X (.Tuple elts k tpos) (.Call (.Name "enumerate" p) [l] [] pos) (iEnumK K tl) := by subst h; exact pi_enum hg hm ha hs
theorem pg_tupK (h : X.K = K) {es : List Expr} {k : Nat} {pos : Pos} {t : TGs} (n : Nat) (hc : X.calm = true) (hp : PGs X es t) (hn : (assignEach es X.env).length = n := by rfl) (hst : (assignEach es X.env).findIdx? (·.1) = none := by rfl) : PG X (.Tuple es k pos) (gTup K n t) := by
  subst h; exact pg_tup hc hp hn hst
end
end L2

set_option Elab.async false
set_option linter.all false
set_option maxRecDepth 100000
set_option maxHeartbeats 1000000
namespace L2
open PySem PySem.Spec PySem.W PyProof.Rows
/-! ### f'.. {i}' -/
section
variable {X : Cx} {e : Expr} {te : TE} {a : Str} {j : Nat} {p1 p2 pos : Pos}
end
/-! ### an exception of one's own while it is made -/
def XO (C : Addr) (dx : Option Addr) (a : Addr) : HO := .ext fun h => ∃ oe vs, h.get? a = some oe ∧ oe.cls = .ref C ∧ oe.dict = dx ∧ oe.data = .fields vs ∧ vs.size = 6 ∧ vs[1]? = some .none ∧ ∃ t0, vs[0]? = some (.ref t0)
theorem XO.ok {P : Program} {w : World} {H : Hp} {h : Heap} {C a : Addr} {dx : Option Addr} {oe : Obj} {vs : Array Value} {t0 : Addr} (e : h.get? a = some oe) (c : oe.cls = .ref C) (d : oe.dict = dx) (f : oe.data = .fields vs) (z : vs.size = 6) (n : vs[1]? = some .none) (t : vs[0]? = some (.ref t0)) :
    ObjOk P w H h a (XO C dx a) :=
  ⟨⟨oe, vs, e, c, d, f, z, n, t0, t⟩, ⟨oe, e⟩, fun h1 h2 q k => let ⟨o, v, q1, r⟩ := q; ⟨o, v, k o q1, r⟩⟩
/-- what the text says of a class of one's own straight under one under ValueError, with an __init__ -/
structure ExcMi (K : Frag) (C W fI : Addr) : Prop where
  ex : ∃ nm q N bs bm hdct sn sub ab col dd k0 k1 k2 k3 k5, K.lookup C = some (excClassObj nm q C N bs bm hdct sn sub ab col dd k0 k1 k2 k3 k5 "ValueError.__new__") ∧ nsOkIn K N = true ∧ nsIn K N "__init__" = some (some (.ref fI)) ∧ tailIn K vErr bm = true
  fn : typeIn K (.ref fI) = some (.type "function")
  rd : readsIn K W (.type "type") = true
  ga : specialIn K (.ref W) "__getattribute__" = some (some (.builtin "type.__getattribute__"))
  val : ∃ v, findCls K (.ref W) (.type "type") "__init__" = some (.val v) ∧ v = .builtin "ValueError.__init__"
  sa : findIn K (.ref C) "__setattr__" = some (some (.builtin "object.__setattr__"))
section
variable {X : Cx} {C W fI : Addr} {x : Str} {np apos cpos : Pos} {e1 e2 : Expr} {ta : TA}
theorem base_init {pins : List (Addr × Obj)} {s : Shared} {σ : St} {H : Hp} {a : Addr} {z : Value} {Q : VK} (M : ExcMi X.K C W fI) (I : Inv X pins σ H s) (hx : H a = some (XO C none a)) (q : Q .non H) :
    wpAny (model X.prog X.w) X.A (call (.builtin "ValueError.__init__") [.ref a, z]) (EP X pins σ Q) X.xe s := by
  obtain ⟨nm, qn, N, bs, bm, hdct, sn, sub, ab, col, dd, k0, k1, k2, k3, k5, lk, ok, ini, tl⟩ := M.ex
  have T0 : OwnTail X.base vErr bm := tail_of_in I.ok.mod.kin tl
  have hC := I.bk _ _ (I.ok.mod.kin _ _ lk)
  obtain ⟨⟨oe, vs, he, hc, hd, hf, hz, h1, t0, h0⟩, _, _⟩ := I.hok a _ hx
  have I' := I
  obtain ⟨hp, g, d, tk, os⟩ := s
  refine wpAny_call (codeAny_call_builtin F.excBase_ValueError.init.plain F.excBase_ValueError.initEntry (wpAny_check_init_subU F.excBase_ValueError (T0.keeps I.bk) hC he hc ?_))
  unfold Builtin.«BaseException.__init__»
  dsimp only
  rw [if_neg (by simp)]
  unfold newTuple Builtin.BaseException.bexcPut
  have hsz : 0 < vs.size := by omega
  have he1 := Heap.get?_push_of_some (h := hp) { cls := .type "tuple", data := .seq #[z] } he
  refine wpAny_bind (wpAny_newObj_type (wpAny_bind (wpAny_bind (wpAny_field he1 hf h0 (wpAny_bind (wpAny_setField he1 hf hsz ?_))))) (by size_fits))
  refine wpAny_letGo (wpAny_pure ?_)
  have m1 := mapFields_eq hf (·.setIfInBounds 0 (Value.ref hp.objs.size))
  have e2 : ((hp.push { cls := .type "tuple", data := .seq #[z] }).update a (Obj.mapFields (·.setIfInBounds 0 (Value.ref hp.objs.size)))).get? a = some { oe with data := .fields (vs.setIfInBounds 0 (Value.ref hp.objs.size)) } := by
    have := Heap.get?_update_self (Obj.mapFields (·.setIfInBounds 0 (Value.ref hp.objs.size))) he1 (Obj.isFreed_of_fields (Obj.data_mapFields hf _))
    rw [m1] at this
    exact this
  have kk : ∀ b u, b ≠ a → hp.get? b = some u → ((hp.push { cls := .type "tuple", data := .seq #[z] }).update a (Obj.mapFields (·.setIfInBounds 0 (Value.ref hp.objs.size)))).get? b = some u := fun b u hb e => by
    rw [Heap.get?_update_other _ _ (Ne.symm hb)]
    exact Heap.get?_push_of_some _ e
  have I2 := I'.write (x := a) (e := a) (o := XO C none a) (t' := tk) (by rw [hx]; trivial) (.inl rfl) kk ⟨_, e2⟩ (XO.ok e2 hc hd rfl (by simpa using hz) (by simpa using h1) (t0 := hp.objs.size) (by simp [hsz]))
  have eH : upd H a (XO C none a) = H := by
    funext b
    by_cases hb : b = a
    · rw [hb, upd_same, hx]
    · rw [upd_ne hb]
  rw [eH] at I2
  exact ⟨.non, H, I2, rfl, q⟩
theorem pe_xinit {pl : Sem Bool} (M : ExcMi X.K C W fI) (hg : Gl X x) (hm : X.mg x = some (.ref W)) (ha : PA X [e1, e2] ta) (hdb : (x == ("__debug__" : Str)) = false := by decide)
    (hs : starEach [e1, e2] X.env = [(false, eval e1 X.env), (false, eval e2 X.env)] := by rfl)
    (ht : eval (.Call (.Attribute (.Name x np) "__init__" apos) [e1, e2] [] cpos) X.env = (do
      let ov ← eval (.Name x np) X.env
      standAt apos.atName
      let (f, first) ← holding [ov] (getMethod ov "__init__" pl)
      callWith cpos f first (backTo cpos (starEach [e1, e2] X.env)) (backToKw cpos (keywordEach [] X.env))) := by rfl) :
    PE X (.Call (.Attribute (.Name x np) "__init__" apos) [e1, e2] [] cpos) (fun σ H Q => ta σ H fun vs H1 => ∃ a z, vs = [.ref a, z] ∧ H1 a = some (XO C none a) ∧ Q .non H1) := by
  intro pins s σ H Q I h
  obtain ⟨v, hv, rfl⟩ := M.val
  refine PySem.W.methodCall_KW (pl := pl) (ld_glob I hg hm ?_ hdb) ht
  refine method_cls I.kIn M.ga (cls_value I.kIn M.rd hv rfl ?_)
  have hA := ha cpos pins { s with toks := s.toks + 1 } σ H _ (I.tok _) h
  rw [hs] at hA ⊢
  refine Calls.callWith_builtin rfl (Calls.evalArgs_plain (thn hA fun us s2 ⟨vs, H1, I2, r, a, z, ev, hx, q⟩ => ?_))
  subst ev
  obtain ⟨u1, u2, rfl, r1, r2⟩ := vals2 r
  cases r1
  exact base_init M I2 hx q
end
/-! ### self.f = v of an exception that has no dict yet -/
section
variable {X : Cx} {pins : List (Addr × Obj)} {σ : St} {H : Hp} {s : Shared} {h' : Heap}
theorem Inv.writeLaid {a d : Addr} {o u : HO} {φ : Heap → Prop} {t' : Nat} (I : Inv X pins σ H s) (ha : H a = some (.ext φ)) (hd : s.heap.objs.size ≤ d) (k : ∀ b ob, b ≠ a → s.heap.get? b = some ob → h'.get? b = some ob) (heo : ∃ ob, h'.get? a = some ob)
    (new1 : ObjOk X.prog X.w (upd (upd H d u) a o) h' a o) (new2 : ObjOk X.prog X.w (upd (upd H d u) a o) h' d u) : Inv X pins σ (upd (upd H d u) a o) { s with heap := h', toks := t' } := by
  have hn : H d = none := I.hok.fresh hd
  have nad : d ≠ a := fun z => by rw [z, ha] at hn; cases hn
  have ne : ∀ b v, H b = some v → (∀ ψ, v ≠ .ext ψ) → b ≠ a ∧ b ≠ d := fun b v e n => ⟨(fun z => by rw [z, ha] at e; cases e; exact n _ rfl), (fun z => by rw [z, hn] at e; cases e)⟩
  have H2 : ∀ b v, H b = some v → (∀ ψ, v ≠ .ext ψ) → upd (upd H d u) a o b = some v := fun b v e n => by
    obtain ⟨n1, n2⟩ := ne b v e n
    rw [upd_ne n1, upd_ne n2]; exact e
  have fr : ∀ b ob, s.heap.get? b = some ob → H b = none → b ≠ a ∧ b ≠ d := fun b ob e n => ⟨(fun z => by rw [z, ha] at n; cases n), Nat.ne_of_lt (Nat.lt_of_lt_of_le (Heap.lt_size e) hd)⟩
  refine I.un ⟨fun b ob e n _ _ => k b ob (fr b ob e n).1 e, fun b ob e n _ _ => ⟨ob.slots, k b ob (fr b ob e n).1 e⟩, fun b ob e n _ => ?_, fun b ob e _ => ?_, fun b xs e => H2 b _ e (fun _ z => by cases z), fun b ob xs e => H2 b _ e (fun _ z => by cases z), fun b ps e => ⟨#[], ?_⟩⟩ fun b v e => ?_
  · obtain ⟨n1, n2⟩ := fr b ob e n
    rw [upd_ne n1, upd_ne n2]; exact n
  · by_cases hb : b = a
    · subst hb; exact heo
    · exact ⟨ob, k b ob hb e⟩
  · rw [H2 b _ e (fun _ z => by cases z)]; simp
  · by_cases hb : b = a
    · subst hb; rw [upd_same] at e; cases e; exact new1
    · rw [upd_ne hb] at e
      by_cases hb2 : b = d
      · subst hb2; rw [upd_same] at e; cases e; exact new2
      · rw [upd_ne hb2] at e
        refine (I.hok b v e).stay (fun c w' hc q => k c w' ?_ q) (fun c q => H2 c _ q (fun _ z => by cases z)) fun c xs q => H2 c _ q (fun _ z => by cases z)
        rcases hc with z | z
        · rw [z]; exact hb
        · exact (ne c _ z (fun _ z => by cases z)).1
end
def excMro : List Value → Bool
  | .ref _ :: r => excMro r
  | [.type a, .type b, .type c, .type d] => a == "ValueError" && b == "Exception" && c == "BaseException" && d == "object"
  | _ => false
theorem refuse_exc (self : Value) : ∀ {l : List Value}, excMro l = true → refuseLoop self "__setattr__" l = pure ()
  | .ref c :: r, e => by rw [refuseLoop_ref]; exact refuse_exc self (by cases r <;> first | exact e | cases e)
  | [.type a, .type b, .type c, .type d], e => by
    simp only [excMro, Bool.and_eq_true, beq_iff_eq] at e
    obtain ⟨⟨⟨rfl, rfl⟩, rfl⟩, rfl⟩ := e
    exact PySem.F.store_ValueError.passes self
theorem excMro_has : ∀ {l : List Value}, excMro l = true → l.contains (.type "object") = true
  | .ref c :: r, e => by rw [List.contains_cons, excMro_has (l := r) (by cases r <;> first | exact e | cases e), Bool.or_true]
  | [.type a, .type b, .type c, .type d], e => by
    simp only [excMro, Bool.and_eq_true, beq_iff_eq] at e
    obtain ⟨⟨⟨rfl, rfl⟩, rfl⟩, rfl⟩ := e
    simp
/-- an attribute may be put on its objects -/
structure ExcSet (K : Frag) (C : Addr) (f : Str) : Prop where
  sa : findIn K (.ref C) "__setattr__" = some (some (.builtin "object.__setattr__"))
  mr : ((clsIn K C).any fun cd => excMro cd.mro && cd.hasDict) = true
  tk : takerIn K C f = some none
section
variable {X : Cx} {pins : List (Addr × Obj)} {σ : St} {H : Hp} {s : Shared} {C a : Addr} {f : Str} {v : Value} {y : V}
theorem set_exc {Q : Unit → Shared → Prop} (I : Inv X pins σ H s) (M : ExcSet X.K C f) (hx : H a = some (XO C none a)) (ry : RelV y v)
    (q : ∀ s' d, H d = none → Inv X pins σ (upd (upd H d (.xd [(f, y)])) a (XO C (some d) a)) s' → Q () s') : wpAny (model X.prog X.w) X.A (setAttr (.ref a) f v) Q X.xe s := by
  obtain ⟨⟨oe, vs, he, hc, hd, hf, hz, h1, t0, h0⟩, _, _⟩ := I.hok a _ hx
  have J : InstAt s.heap a oe C none := ⟨he, hc, by (obtain ⟨c1, d1, dt1, sl1⟩ := oe; cases hf; rfl), by rw [hd]; trivial⟩
  obtain ⟨cd, hcd, ho⟩ := any_some M.mr
  rw [Bool.and_eq_true] at ho
  have KX := I.kIn
  refine set_plain KX J M.sa ?_
  have ne : cd.mro.isEmpty = false := by cases z : cd.mro with | nil => rw [z] at ho; cases ho.1 | cons _ _ => rfl
  have sub : Looks (model X.prog X.w) s.heap (isInstance (.ref a) (.type "object")) true := J.type.andThen (looks_mroIn KX (by unfold mroIn; rw [hcd, Option.bind_some, if_neg (by rw [ne]; decide), excMro_has ho.1]))
  have SF := PySem.F.store_object
  refine codeAny_call_builtin SF.slot.plain SF.entry (@check_slot (model X.prog X.w) _ _ { s with toks := s.toks + 1 } "object.__setattr__" "object" "__setattr__" (.ref a) [.str f s.toks, v] [] _ SF.kind SF.split sub (SF.args (.ref a) (.str f s.toks) v) ?_)
  obtain ⟨attr, hat, hr⟩ := Option.bind_eq_some_iff.mp M.tk
  have hm : Looks (model X.prog X.w) s.heap (mroOf (.ref C)) cd.mro := (looks_clsIn KX hcd).andThen .now
  have L3 : Looks (model X.prog X.w) s.heap (Builtin.ObjectAttr.storeTaker? attr) none := by
    cases attr with
    | none => exact .now
    | some b =>
      obtain ⟨c, hb, e⟩ := Option.map_eq_some_iff.mp hr
      refine (looks_takesIn KX hb).andThen ?_
      cases c with
      | true => cases e
      | false => exact .now
  rw [osa_eq, refuse_eq]
  refine wpAny_bind (wpAny_bind (Looks.here (s := { s with toks := s.toks + 1 }) J.type (wpAny_bind (Looks.here (s := { s with toks := s.toks + 1 }) hm ?_))))
  rw [refuse_exc _ ho.1]
  refine wpAny_pure (wpAny_bind (Looks.here (s := { s with toks := s.toks + 1 }) J.type (wpAny_bind (Looks.here (s := { s with toks := s.toks + 1 }) (looks_findIn KX hat) (wpAny_bind (Looks.here (s := { s with toks := s.toks + 1 }) L3 ?_))))))
  dsimp only
  refine wpAny_bind (wpAny_pure (wpAny_bind (wpAny_bind (wpAny_loadPart he ?_))))
  show wpAny _ _ _ _ _ _
  rw [hc]
  refine wpAny_bind (Looks.here (s := { s with toks := s.toks + 1 }) (looks_clsIn KX hcd) ?_)
  rw [ho.2, if_neg (by decide)]
  dsimp only
  rw [hd]
  dsimp only
  rw [if_neg (by simp [typeHasDict]), hf]
  dsimp only
  have hx1 : (s.heap.push { cls := .type "dict", data := .dict #[] }).get? a = some oe := Heap.get?_push_of_some _ he
  have hxs : a ≠ s.heap.objs.size := Nat.ne_of_lt (Heap.lt_size he)
  refine wpAny_bind (wpAny_alloc' (wpAny_bind (wpAny_update' hx1 (wpAny_pure ?_))))
  have hgd : ((s.heap.push { cls := .type "dict", data := .dict #[] }).update a fun o => { cls := o.cls, dict := some s.heap.objs.size, data := o.data, slots := o.slots }).get? s.heap.objs.size = some { cls := .type "dict", data := .dict #[] } :=
    (Heap.get?_update_ne _ _ _ _ hxs.symm).trans (Heap.get?_push_at rfl rfl)
  have hnd : ((s.heap.push { cls := .type "dict", data := .dict #[] }).update a fun o => { cls := o.cls, dict := some s.heap.objs.size, data := o.data, slots := o.slots }).Ns s.heap.objs.size (fun _ => none) :=
    ⟨_, #[], _, hgd, rfl, fun e he => absurd he (by simp), fun _ => rfl⟩
  show wpAny _ _ (Builtin.ObjectAttr.storeInDict s.heap.objs.size (.str f s.toks) f v) _ _ _
  unfold Builtin.ObjectAttr.storeInDict Builtin.ObjectAttr.newKeyGuard
  refine wpAny_bind (wpAny_pure (wpAny_bind (wpAny_nsSet1 (Heap.Ns1.of_empty hnd) fun h' hn' hs => ?_)))
  obtain ⟨oD, esD, epD, hoD, hdD, hcD⟩ := hn'.count (Within.cons f v Within.nil)
  refine wpAny_bind (wpAny_lookBehind hoD (by rw [hdD]; exact pastItsLine_dict (Nat.le_trans hcD (by rw [List.length_cons, List.length_nil, sizeLine_eq]; omega))) ?_)
  refine wpAny_pure ?_
  have hx' : h'.get? a = some { cls := oe.cls, dict := some s.heap.objs.size, data := oe.data, slots := oe.slots } := by
    refine (hs.2 a hxs).trans (Heap.get?_update_self _ hx1 ?_)
    have hfr := (Heap.get?_some_iff.mp he).2
    obtain ⟨oc, od, odt, osl⟩ := oe
    cases odt <;> first | rfl | exact hfr
  refine q _ s.heap.objs.size (I.hok.fresh (Nat.le_refl _)) (I.writeLaid (d := s.heap.objs.size) hx (Nat.le_refl _) (fun b ob hb e => ?_) ⟨_, hx'⟩ (XO.ok hx' hc rfl hf hz h1 h0) ?_)
  · exact (hs.2 b (Nat.ne_of_lt (Heap.lt_size e))).trans ((Heap.get?_update_ne _ _ _ _ hb).trans (Heap.get?_push_of_some _ e))
  · refine ⟨_, hn', fun g => ?_⟩
    show RelO (List.lookup g [(f, y)]) (if g = f then some v else none)
    by_cases hg : g = f
    · rw [if_pos hg, hg, List.lookup_cons_self]; exact ry
    · rw [if_neg hg, List.lookup_cons, show (g == f) = false from by simpa using hg]; trivial
variable {o value : Expr} {ta tv : TE} {pos pos' : Pos}
theorem ps_xset (M : ExcSet X.K C f) (ha : PE X o ta) (hv : PE X value tv) (hs : swapsWith value (some (.Attribute o f pos')) pos.line X.env = pure false := by rfl) :
    PS X (.Assign [.Attribute o f pos'] value pos) (fun D σ H => tv σ H fun y H1 => ta σ H1 fun x H2 => ∃ a, x = .ref a ∧ H2 a = some (XO C none a) ∧ ∀ d, H2 d = none → D.nx σ (upd (upd H2 d (.xd [(f, y)])) a (XO C (some d) a))) := by
  intro pins s σ H D I h
  refine plainObj_wpAny_Assign_Attribute (thn (hv pins s σ H _ I h) fun u s1 ⟨y, H1, I1, ry, q⟩ => thn (ha pins s1 σ H1 _ I1 q) fun ov s2 ⟨x, H2, I2, rx, a, ex, ea, q2⟩ => ?_) hs
  subst ex
  obtain rfl : ov = Value.ref a := rx
  exact set_exc I2 M ea ry fun s3 d hd I3 => ⟨σ, _, I3, q2 d hd⟩
end
end L2

set_option Elab.async false
set_option linter.all false
set_option maxRecDepth 100000
set_option maxHeartbeats 1000000
namespace L2
open PySem PySem.Spec PySem.W PyProof.Rows
/-! ### C(..) of an exception class of one's own, by its __init__ -/
section
variable {prog : Program} {w : World} {A : Around} {E : Value → Shared → Prop} {h : Heap} {g : Array GenState} {d : Drawn} {t : Nat} {os : OsState}
variable {nm q : Str} {C N : Addr} {bs bm : List Value} {hdct : Bool} {sn : List Str} {sub : List Value} {ab : Bool} {col : Option Bool} {dd : Option Addr} {k0 k1 k2 k3 k5 : Option Value} {mN : Str → Option Value} {fI : Addr} {oI : Obj}
theorem tycall_x {rest : List Value} {Q : Fin → Shared → Prop} (T : OwnTail h vErr bm) (hC : h.get? C = some (excClassObj nm q C N bs bm hdct sn sub ab col dd k0 k1 k2 k3 k5 "ValueError.__new__")) (hn : h.Ns N mN) (hi : mN "__init__" = some (.ref fI)) (hfI : h.get? fI = some oI) (hfc : oI.cls = .type "function")
    (hq : ∀ h' e, h.objs.size ≤ e → Heap.MadeExcOf h h' e (.ref C) rest → wpAny (model prog w) A (call (.ref fI) (.ref e :: rest)) (fun r s' => r = .none ∧ Q (.done (.ret (.ref e))) s') E ⟨h', g, d, t, os⟩) (hrest : rest.length ≤ sizeLine) :
    wpAny (model prog w) A (Builtin.«type.__call__» ⟨.ref C :: rest, []⟩) Q E ⟨h, g, d, t, os⟩ := by
  have FV := F.excBase_ValueError
  repeat (first | with_reducible refine wpAny_loadPart_at hC ?_ | with_reducible refine wpAny_madeBy_exc hC ?_ | wp_step)
  refine codeAny_call_builtin_code (Code.quiet_builtin _ FV.quiet) (wpAny_check_new_subU FV (by decide) T hC ?_)
  refine codeAny_exc_new_subU FV (by decide) FV T hC ?_ hrest
  show wpAny _ _ _ _ _ _
  generalize hg1 : (h.push { cls := .type "tuple", data := .seq rest.toArray }).push { cls := .ref C, data := .fields #[.ref h.objs.size, .none, .none, .none, .bool false, .none] } = h1
  have kp : ∀ b o, h.get? b = some o → h1.get? b = some o := fun b o e => by rw [← hg1]; exact Heap.get?_push_of_some _ (Heap.get?_push_of_some _ e)
  have hC1 := kp _ _ hC
  have hfI1 := kp _ _ hfI
  have hn1 : h1.Ns N mN := let ⟨o, es, ep, e, r⟩ := hn; ⟨o, es, ep, kp _ _ e, r⟩
  have hget : h1.get? (h.objs.size + 1) = some { cls := .ref C, data := .fields #[.ref h.objs.size, .none, .none, .none, .bool false, .none] } := by rw [← hg1]; heap_get
  have htup : h1.get? h.objs.size = some { cls := .type "tuple", data := .seq rest.toArray } := by rw [← hg1]; exact Heap.get?_push_of_some _ (Heap.get?_push_at rfl rfl)
  have hcC : (Value.ref C :: bm).contains (.ref C) = true := by simp
  have T1 := T.keeps (h' := h1) kp
  unfold isInstance
  repeat (first | with_reducible refine wpAny_loadPart_at hget ?_ | (with_reducible refine wpAny_isSubtype_exc hC1 ?_; rw [hcC]) | wp_step)
  show wpAny _ _ (typeLookup (.ref C) _) _ _ _
  refine wpAny_typeLookup_tail hC1 hn1 T1 FV.mroIs FV.init.lookup ?_
  rw [hi]
  refine wpAny_holding (wpAny_bind ?_)
  unfold bindSpecial
  refine wpAny_bind (wpAny_typeOf (T := "function") ⟨_, hfI1, hfc⟩ ?_)
  rw [if_pos (by decide)]
  refine wpAny_pure (wpAny_bind (wpAny_mono (hq _ (h.objs.size + 1) (Nat.le_succ _) ⟨kp, Heap.get?_none_of_le (Nat.le_succ _), h.objs.size, hget, Heap.get?_none_of_le (Nat.le_refl _), htup⟩) (fun r s' hr => ?_) fun _ _ x => x))
  obtain ⟨rfl, hQ⟩ := hr
  wp_walk
  exact hQ
theorem call_x {rest : List Value} {Q : Value → Shared → Prop} (T : OwnTail h vErr bm) (hC : h.get? C = some (excClassObj nm q C N bs bm hdct sn sub ab col dd k0 k1 k2 k3 k5 "ValueError.__new__")) (hn : h.Ns N mN) (hi : mN "__init__" = some (.ref fI)) (hfI : h.get? fI = some oI) (hfc : oI.cls = .type "function")
    (hq : ∀ h' e, h.objs.size ≤ e → Heap.MadeExcOf h h' e (.ref C) rest → wpAny (model prog w) (A.under (.builtin "type.__call__" ⟨.ref C :: rest, []⟩)) (call (.ref fI) (.ref e :: rest)) (fun r s' => r = .none ∧ Q (.ref e) s') E ⟨h', g, d, t, os⟩) (hrest : rest.length ≤ sizeLine) :
    wpAny (model prog w) A (call (.ref C) rest) Q E ⟨h, g, d, t, os⟩ := by
  have f1 := tc_lookup
  have f2 := tc_bind (.ref C)
  have hT : (⟨h, g, d, t, os⟩ : Shared).TypeIs (.ref C) "type" := ⟨_, hC, rfl⟩
  refine wpAny_call (codeAny_of_tree ?_)
  show wpAny _ _ (callAny (.ref C) _) _ _ _
  repeat (any_goals (first | assumption | with_reducible refine wpAny_loadPart_at hC ?_ | wp_step))
  refine ⟨rfl, ?_⟩
  refine codeAny_call_builtin_at (Code.quiet_builtin _ (by decide +kernel)) entry_typeCall (wpAny_check_type_call_sub hC (tycall_x T hC hn hi hfI hfc (fun h' e he hm => ?_) hrest))
  exact hq h' e he hm
theorem raise_made {M : Model} {s : Shared} {env : Env} {x : Sem Value} {Q : Flow → Shared → Prop} (hbase : bm.contains (.type "BaseException") = true) (hh : A.handled = none)
    (hx : wpAny M A x (fun v s₁ => ∃ e oe vs, v = .ref e ∧ s₁.heap.get? C = some (excClassObj nm q C N bs bm hdct sn sub ab col dd k0 k1 k2 k3 k5 "ValueError.__new__") ∧ s₁.heap.get? e = some oe ∧ oe.cls = .ref C ∧ oe.data = .fields vs ∧ vs[1]? = some .none ∧ E (.ref e) s₁) E s) :
    wpAny M A (raiseStmt env (some x) none) Q E s := by
  have hcB : (Value.ref C :: bm).contains (.type "BaseException") = true := by rw [List.contains_cons, hbase, Bool.or_true]
  unfold raiseStmt
  refine wpAny_bind (wpAny_mono hx (fun v s₁ h₁ => ?_) fun _ _ x => x)
  obtain ⟨e, oe, vs, rfl, hC, he, hc, hf, h1, hE⟩ := h₁
  obtain ⟨c1, d1, dt1, sl1⟩ := oe
  dsimp only at hc hf
  subst hc hf
  obtain ⟨hp, g, d, tk, os⟩ := s₁
  repeat (first | with_reducible refine wpAny_loadPart_at he ?_ | with_reducible refine wpAny_loadPart_at hC ?_ | (with_reducible refine wpAny_isSubtype_exc hC ?_; rw [hcB]) | wp_step)
  rw [h1]
  refine wpAny_pure ?_
  rw [if_neg (by decide)]
  exact wpAny_pure (wpAny_raiseNew_none hh hE)
end
theorem nsMap_some {K : Frag} {h : Heap} {N : Addr} {x : Str} {v : Value} (KX : K.In h) (e1 : nsOkIn K N = true) (e : nsIn K N x = some (some v)) : h.nsMap N x = some v := by
  obtain ⟨ob, es, ep, ho, hd, _, hf⟩ := Heap.Ns.of_isNs (isNs_of_in KX e1)
  unfold nsIn at e
  split at e
  · rename_i q
    have z := KX _ _ q
    rw [ho] at z
    cases z
    cases hd
    split at e
    · rename_i he
      cases e
      rw [← hf]
      unfold nsFind findBy
      rw [← Array.find?_toList, he]; rfl
    · split at e <;> cases e
  · cases e
/-! ### within a body -/
def del (H : Hp) (a : Addr) : Hp := fun b => if b = a then none else H b
theorem del_same {H : Hp} {a : Addr} : del H a a = none := if_pos rfl
theorem del_ne {H : Hp} {a b : Addr} (h : b ≠ a) : del H a b = H b := if_neg h
section
variable {X : Cx} {pins : List (Addr × Obj)} {σ : St} {H : Hp} {s : Shared}
/-- a thing that came later is tracked no more -/
theorem Inv.untrack {a : Addr} {φ : Heap → Prop} (I : Inv X pins σ H s) (ha : H a = some (.ext φ)) (new : X.s₀.heap.get? a = none) : Inv X pins σ (del H a) s := by
  have H2 : ∀ b v, H b = some v → (∀ ψ, v ≠ .ext ψ) → del H a b = some v := fun b v e n => by
    rw [del_ne (fun z => by rw [z, ha] at e; cases e; exact n _ rfl)]; exact e
  have fr : ∀ b, H b = none → del H a b = none := fun b n => by
    by_cases hb : b = a
    · rw [hb]; exact del_same
    · rw [del_ne hb]; exact n
  refine ⟨I.ok, I.os, I.bare, ⟨I.base.keep, I.base.slot, fun b o e n hx => fr b (I.base.free b o e n hx), I.base.there, fun b xs e => H2 b _ (I.base.tups b xs e) (fun _ z => by cases z), fun b o u e => H2 b _ (I.base.frzs b o u e) (fun _ z => by cases z), fun b ps e => ?_⟩, I.loc, I.cell, fr _ I.free, fun x c e => fr _ (I.freeC x c e), fun p hp => ?_, fun b u e => ?_, I.len⟩
  · obtain ⟨m, q⟩ := I.base.tbls b ps e
    exact ⟨m, H2 b _ q (fun _ z => by cases z)⟩
  · obtain ⟨q1, q2, q3, q4, q5⟩ := I.pin p hp
    exact ⟨q1, fr _ q2, q3, q4, q5⟩
  · have hb : b ≠ a := fun z => by rw [z, del_same] at e; cases e
    rw [del_ne hb] at e
    exact (I.hok b u e).stay (fun c v _ q => q) (fun c q => H2 c _ q (fun _ z => by cases z)) fun c xs q => H2 c _ q (fun _ z => by cases z)
variable {CX : CXT} {k : Nat} {C W fI : Addr} {fd : FuncData} {ps : List Str} {sp : Sp} {E : XK} {x : Str} {np pos : Pos} {e : Expr} {es : List Expr} {t : TA}
theorem run_xmake {Q : VK} {us : List Value} {vs : List V} (M : ExcMi X.K C W fI) (Fn : FnOk X.prog X.w X.K X.mg X.base CX k fI fd ps sp) (hr : Room (k + 1) X.A) (hb : Binds X.K fd ps []) (hx : Passes CX X E) (I : Inv X pins σ H s) (r : Vals vs us) (hl : us.length ≤ sizeLine)
    (h : ∀ a, H a = none → X.s₀.heap.get? a = none → sp (.ref a :: vs) (upd H a (XO C none a)) (fun v H2 => v = .non ∧ Q (.ref a) H2) E) : wpAny (model X.prog X.w) X.A (call (.ref C) us) (EP X pins σ Q) X.xe s := by
  obtain ⟨nm, qn, N, bs, bm, hdct, sn, sub, ab, col, dd, k0, k1, k2, k3, k5, lk, ok, ini, tl⟩ := M.ex
  have T0 : OwnTail X.base vErr bm := tail_of_in I.ok.mod.kin tl
  have hC := I.bk _ _ (I.ok.mod.kin _ _ lk)
  obtain ⟨oI, hfI, hfc⟩ : ∃ oI, s.heap.get? fI = some oI ∧ oI.cls = .type "function" := by
    have q := M.fn
    unfold typeIn at q
    cases z : X.K.lookup fI with
    | none => simp [z] at q
    | some o => exact ⟨o, I.kIn _ _ z, by simpa [z] using q⟩
  have hnn : s.heap.Ns N (X.base.nsMap N) := (Heap.Ns.of_isNs (isNs_of_in I.ok.mod.kin ok)).keeps I.bk
  have hini : X.base.nsMap N "__init__" = some (.ref fI) := nsMap_some I.ok.mod.kin ok ini
  have I' := I
  obtain ⟨hp, g, d, tk, os⟩ := s
  refine call_x (T0.keeps I.bk) hC hnn hini hfI hfc (fun h' a ha hm => ?_) hl
  obtain ⟨t0, et, _, _⟩ := hm.there
  have hH : H a = none := I.hok.fresh ha
  have I2 : Inv X pins σ (upd H a (XO C none a)) ⟨h', g, d, tk, os⟩ := I'.laid (t' := tk) hm.keeps ha (XO.ok et rfl rfl rfl rfl rfl (t0 := t0) rfl)
  have hq := h a hH (Heap.get?_none_of_le (Nat.le_trans I.sz ha))
  have r2 : Vals (V.ref a :: vs) (Value.ref a :: us) := .cons rfl r
  have hlen : (Value.ref a :: us ++ []).length = ps.length := by
    have e := r2.length
    rw [Fn.len _ _ _ _ hq] at e
    rw [List.append_nil]; exact e.symm
  have hbb := hb ⟨h', g, d, tk, os⟩ (Value.ref a :: us) I2.kIn hlen
  rw [List.append_nil] at hbb
  refine wpAny_call (codeAny_mono (Fn.run _ X.stack _ _ ⟨Value.ref a :: us, []⟩ (Value.ref a :: us) _ _ E (hr.make C us []) (I2.env0.make C us []) hbb r2 hq) fun rr s' hq' => ?_)
  cases rr with
  | error ev => exact hx pins σ _ _ ev s' I2 hq'
  | ok fl =>
    cases fl with
    | ret u =>
      obtain ⟨v, H', I3, rv, ev, q3⟩ := I2.after hq'
      subst ev
      exact ⟨rv, ⟨V.ref a, H', I3, rfl, q3⟩⟩
    | next => exact False.elim hq'
    | brk => exact False.elim hq'
    | cont => exact False.elim hq'
def tXMake (X : Cx) (C : Addr) (sp : Sp) (E : XK) (t : TA) : TE := fun σ H Q => t σ H fun vs H1 => vs.length ≤ sizeLine ∧ ∀ a, H1 a = none → X.s₀.heap.get? a = none → sp (.ref a :: vs) (upd H1 a (XO C none a)) (fun v H2 => v = .non ∧ Q (.ref a) H2) E
/-- C(e, ..) -/
theorem pe_xmake (M : ExcMi X.K C W fI) (Fn : FnOk X.prog X.w X.K X.mg X.base CX k fI fd ps sp) (hr : Room (k + 1) X.A) (hg : Gl X x) (hm : X.mg x = some (.ref C)) (hk : keepIn X.K (.ref C) = true) (hb : Binds X.K fd ps []) (hx : Passes CX X E) (ha : PA X (e :: es) t)
    (hdb : (x == ("__debug__" : Str)) = false := by decide) (he : starEach (e :: es) X.env = (false, eval e X.env) :: starEach es X.env := by rfl) (hpl : (backTo pos (starEach es X.env)).any (·.1) = false := by rfl) :
    PE X (.Call (.Name x np) (e :: es) [] pos) (tXMake X C sp E t) := by
  intro pins s σ H Q I h
  refine wpAny_Call_Name_kw (ld_glob I hg hm ?_ hdb)
  refine PySem.W.callWith_K (h₀ := X.base) I.ok.mod.kin hk (thn (ha pos pins s σ H _ I h) fun us s1 ⟨vs, H1, I1, r, hl, q⟩ => ⟨I1.kIn, ?_⟩) he hpl
  exact run_xmake M Fn hr hb hx I1 r (by show us.length ≤ sizeLine; rw [← r.length]; exact hl) q
/-- raise of what is just made -/
theorem ps_raiseX {E : XK} {ex : Expr} {te : TE} (B : Body1 X E) (hc : X.calm = true) (M : ExcMi X.K C W fI) (hp : PE X ex te) :
    PS X (.Raise (some ex) none pos) (fun _ σ H => te σ H fun v H2 => ∃ a d, v = .ref a ∧ X.s₀.heap.get? a = none ∧ H2 a = some (XO C (some d) a) ∧ E (.ref C) (some d) (del H2 a)) := by
  intro pins s σ H D I h
  obtain ⟨nm, qn, N, bs, bm, hdct, sn, sub, ab, col, dd, k0, k1, k2, k3, k5, lk, ok, ini, tl⟩ := M.ex
  have T0 : OwnTail X.base vErr bm := tail_of_in I.ok.mod.kin tl
  rw [arm_exec_Raise]
  refine wpAny_bind (wpAny_standAt (raise_made (C := C) (nm := nm) (q := qn) (N := N) (bs := bs) (bm := bm) (hdct := hdct) (sn := sn) (sub := sub) (ab := ab) (col := col) (dd := dd) (k0 := k0) (k1 := k1) (k2 := k2) (k3 := k3) (k5 := k5) (T0.hasType (by decide)) (I.ok.hd hc) ?_))
  refine wpAny_bind (wpAny_mono (hp pins s σ H _ I h) (fun v s3 ⟨w', H2, I2, rx, a, d, ev, hn, hx, q⟩ => wpAny_bind (wpAny_standAt (wpAny_pure ?_))) fun _ _ z => z)
  subst ev
  obtain rfl : v = Value.ref a := rx
  obtain ⟨⟨oe, vs, he, hcl, hd, hf, hz, h1, t0, h0⟩, _, _⟩ := I2.hok a _ hx
  refine ⟨a, oe, vs, rfl, I2.bk _ _ (I2.ok.mod.kin _ _ lk), he, hcl, hf, h1, ?_⟩
  refine leave1 B (I2.untrack hx hn) (cls := .ref C) (dx := some d) ⟨⟨oe, vs, he, hcl, hd, hf, by omega, .inl h1, fun T z => ?_⟩, del_same, hn, fun p hp z => ?_⟩ q
  · rw [h1] at z; cases z
  · have := (I2.pin p hp).2.1
    rw [z, hx] at this; cases this
end
/-! ### an exception that is held, with its own dict -/
def HX (a C : Addr) (dx : Option Addr) : HO := .ext fun h => ∃ ox, h.get? a = some ox ∧ ox.cls = .ref C ∧ notCls ox = true ∧ ox.dict = dx
theorem HX.ok {P : Program} {w : World} {H : Hp} {h : Heap} {a C : Addr} {dx : Option Addr} {ox : Obj} (e : h.get? a = some ox) (c : ox.cls = .ref C) (n : notCls ox = true) (d : ox.dict = dx) : ObjOk P w H h a (HX a C dx) :=
  ⟨⟨ox, e, c, n, d⟩, ⟨ox, e⟩, fun h1 h2 ⟨o, q, r⟩ k => ⟨o, k o q, r⟩⟩
/-- its dict is none, or tracked -/
def XdOk (H : Hp) : Option Addr → Prop
  | none => True
  | some d => ∃ fs, H d = some (.xd fs)
theorem inst_of {X : Cx} {pins : List (Addr × Obj)} {σ : St} {H : Hp} {s : Shared} {a C : Addr} {ox : Obj} (I : Inv X pins σ H s) (e : s.heap.get? a = some ox) (c : ox.cls = .ref C) (n : notCls ox = true) (xd : XdOk H ox.dict) : ∃ od, InstAt s.heap a ox C od := by
  cases z : ox.dict with
  | none => exact ⟨none, e, c, n, by rw [z]; trivial⟩
  | some d =>
    rw [z] at xd
    obtain ⟨fs, hd⟩ := xd
    obtain ⟨ob, ho⟩ := (I.hok d _ hd).there
    exact ⟨some ob, e, c, n, by rw [z]; exact ho⟩
section
variable {X : Cx} {fx cx n : Str} {fp cpos xpos hp hpos tpos : Pos} {e : Expr} {es : List Expr} {ta : TA} {k j : Nat} {ps : List Str} {sp : Sp} {W : Addr} {st0 : Stmt} {ts : TS}
end
section
variable {X : Cx} {K : Frag}
def cIsX (K : Frag) : List V → Hp → VK → Prop := fun xs H Q => ∃ (a C D : Addr) (dx : Option Addr) (k : Bool), xs = [.ref a, .ref D] ∧ H a = some (HX a C dx) ∧ XdOk H dx ∧ ExcK K C ∧ kitOne K (.ref C) (.ref D) = some k ∧ Q (.bl k) H
theorem call_isX (hK : X.K = K) : CallR X (.builtin "isinstance") (cIsX K) := by
  subst hK
  intro pins s σ H xs us Q I r h
  obtain ⟨a, C, D, dx, k, rfl, e, xd, K1, ek, q⟩ := h
  obtain ⟨u, w', rfl, r1, r2⟩ := vals2 r
  cases (show u = Value.ref a from r1)
  cases (show w' = Value.ref D from r2)
  obtain ⟨⟨ox, e1, e2, e3, e4⟩, _, _⟩ := I.hok a _ e
  obtain ⟨od, J⟩ := inst_of I e1 e2 e3 (by rw [e4]; exact xd)
  exact kia_one (kitx_exc K1) I.kIn ⟨ox, od, J⟩ ek (fun z => nomatch z) fun tk => ⟨.bl k, H, I.tok tk, rfl, q⟩
def cIsXB (K : Frag) : List V → Hp → VK → Prop := fun xs H Q => ∃ (a C : Addr) (n : String) (dx : Option Addr) (k : Bool), xs = [.ref a, .ty n] ∧ H a = some (HX a C dx) ∧ XdOk H dx ∧ ExcK K C ∧ kitOne K (.ref C) (.type n) = some k ∧ Q (.bl k) H
theorem call_isXB (hK : X.K = K) : CallR X (.builtin "isinstance") (cIsXB K) := by
  subst hK
  intro pins s σ H xs us Q I r h
  obtain ⟨a, C, n, dx, k, rfl, e, xd, K1, ek, q⟩ := h
  obtain ⟨u, w', rfl, r1, r2⟩ := vals2 r
  cases (show u = Value.ref a from r1)
  cases (show w' = Value.type n from r2)
  obtain ⟨⟨ox, e1, e2, e3, e4⟩, _, _⟩ := I.hok a _ e
  obtain ⟨od, J⟩ := inst_of I e1 e2 e3 (by rw [e4]; exact xd)
  exact kia_one (kitx_exc K1) I.kIn ⟨ox, od, J⟩ ek (fun z => nomatch z) fun tk => ⟨.bl k, H, I.tok tk, rfl, q⟩
def cIsXT (K : Frag) : List V → Hp → VK → Prop := fun xs H Q => ∃ (a C t : Addr) (cs : List Addr) (dx : Option Addr) (k : Bool), xs = [.ref a, .ref t] ∧ H a = some (HX a C dx) ∧ XdOk H dx ∧ ExcK K C ∧ H t = some (.tup (cs.map V.ref)) ∧ kitAny K (.ref C) (cs.map Value.ref) = some k ∧ Q (.bl k) H
theorem call_isXT (hK : X.K = K) : CallR X (.builtin "isinstance") (cIsXT K) := by
  subst hK
  intro pins s σ H xs us Q I r h
  obtain ⟨a, C, t, cs, dx, k, rfl, e, xd, K1, et, ek, q⟩ := h
  obtain ⟨u, w', rfl, r1, r2⟩ := vals2 r
  cases (show u = Value.ref a from r1)
  cases (show w' = Value.ref t from r2)
  obtain ⟨⟨ox, e1, e2, e3, e4⟩, _, _⟩ := I.hok a _ e
  obtain ⟨od, J⟩ := inst_of I e1 e2 e3 (by rw [e4]; exact xd)
  obtain ⟨_, its, rv, o, ho, hc, n, hd⟩ := I.hok t _ et
  have ei := vals_refs rv
  subst ei
  obtain ⟨c1, d1, dt1, sl1⟩ := o
  dsimp only at hc hd
  subst hc hd
  exact kia_tup (kitx_exc K1) I.kIn ⟨ox, od, J⟩ ho ek (fun z => nomatch z) fun tk => ⟨.bl k, H, I.tok tk, rfl, q⟩
end
/-- a field that only the object has -/
structure ExcF (K : Frag) (C : Addr) (f : Str) : Prop where
  k : ExcK K C
  hd : hasDictIn K C = true
  no : findIn K (.ref C) f = some none
section
variable {prog : Program} {w : World} {A : Around} {E : Value → Shared → Prop} {h : Heap} {gn : Array GenState} {dr : Drawn} {tt : Nat} {os : OsState} {K : Frag} {x D : Addr} {ox od : Obj} {name : Str}
theorem exc_field {v : Value} {expr : Bool} {Q : Value → Shared → Prop} (X : K.In h) (I : InstAt h x ox D (some od)) (C : ExcF K D name) (hl : lookIn name od = some (some v)) (hv : handedIn v = true) (hq : Q v ⟨h, gn, dr, tt + 1, os⟩) :
    wpAny (model prog w) A (getAttr (.ref x) name expr) Q E ⟨h, gn, dr, tt, os⟩ := by
  have L0 := I.type (M := model prog w)
  have L1 := looks_findIn (M := model prog w) X C.k.ga
  have L2 := looks_findIn (M := model prog w) X C.k.gx
  unfold getAttr getAttrBy
  refine wpAny_bind (wpAny_mkText (wpAny_holding (wpAny_bind (L0.at (wpAny_bind (L1.at ?_))))))
  have hx2 : (Value.builtin "BaseException.__getattribute__" == Value.builtin "object.__getattribute__") = false := by decide +kernel
  have f3 := F.excAttr_ValueError.ga.bind (.ref x)
  have hf : findObj K D (some od) name = some (.value v) := findObj_own C.hd C.no rfl hl
  have L3 := looks_find (M := model prog w) X I hf
  dsimp only
  rw [hx2, Bool.and_false, if_neg Bool.false_ne_true]
  unfold getAttrByItsOwn
  repeat (any_goals (first | assumption | (with_reducible refine L2.at ?_) | (with_reducible refine L0.at ?_) | wp_step))
  rw [show (expr && onTheHeap (Value.builtin "BaseException.__getattribute__")) = false from Bool.and_false _, if_neg (by decide)]
  unfold boundAndCalled
  rw [f3]
  refine wpAny_bind (wpAny_pure ?_)
  show wpAny _ _ (call (.builtin "BaseException.__getattribute__") [.ref x, .str name tt]) _ _ _
  refine wpAny_call ?_
  refine codeAny_call_builtin F.excAttr_ValueError.ga.plain F.entry_bexc_ga (exc_check X I C.k ?_)
  repeat (any_goals (first | assumption | (with_reducible refine L3.at ?_) | (with_reducible refine L0.at ?_) | wp_step))
  exact handed_on hv hq
end
theorem lookIn_some {h : Heap} {d : Addr} {mA : Str → Option Value} (n : h.Ns1 d mA) : ∃ od, h.get? d = some od ∧ ∀ name, lookIn name od = some (mA name) := lookIn_ns n
section
variable {X : Cx} {e : Expr} {f : Str} {pos : Pos} {ta : TE} {K : Frag}
/-- e.f of an exception -/
theorem pe_xfld (hK : X.K = K) (he : PE X e ta) (hb : attributeBase e f X.env (eval e X.env) = eval e X.env := by rfl) : PE X (.Attribute e f pos) (fun σ H Q => ta σ H fun x H1 => ∃ a C d fs v, x = .ref a ∧ (H1 a = some (HX a C (some d)) ∨ H1 a = some (XO C (some d) a)) ∧ H1 d = some (.xd fs) ∧ ExcF K C f ∧ fs.lookup f = some v ∧ (∃ i, v = .int i) ∧ Q v H1) := by
  subst hK
  intro pins s σ H Q I h
  refine attr_of hb (thn (he pins s σ H _ I h) fun u s1 ⟨x, H1, I1, rx, a, C, d, fs, v, ex, ea, ed, K1, l, ⟨i, ei⟩, q⟩ => ?_)
  subst ex ei
  obtain rfl : u = Value.ref a := rx
  obtain ⟨ox, e1, e2, e3, e4⟩ : ∃ ox, s1.heap.get? a = some ox ∧ ox.cls = .ref C ∧ notCls ox = true ∧ ox.dict = some d := by
    rcases ea with ea | ea
    · obtain ⟨⟨ox, r⟩, _, _⟩ := I1.hok a _ ea
      exact ⟨ox, r⟩
    · obtain ⟨⟨oe, vs, g1, g2, g3, g4, _⟩, _, _⟩ := I1.hok a _ ea
      exact ⟨oe, g1, g2, by (obtain ⟨c1, d1, dt1, sl1⟩ := oe; cases g4; rfl), g3⟩
  obtain ⟨mA, n1, rr⟩ := I1.hok d _ ed
  obtain ⟨od, ho, hl⟩ := lookIn_some n1
  have r := rr f
  rw [l] at r
  cases z : mA f with
  | none => rw [z] at r; exact r.elim
  | some w' =>
    rw [z] at r
    obtain ⟨t, rfl⟩ := r
    have J : InstAt s1.heap a ox C (some od) := ⟨e1, e2, e3, by rw [e4]; exact ho⟩
    obtain ⟨hp, g, dr, tk, os⟩ := s1
    exact exc_field I1.kIn J K1 (by rw [hl, z]) rfl ⟨.int i, H1, I1.tok _, ⟨t, rfl⟩, q⟩
end
end L2

set_option Elab.async false
set_option linter.all false
set_option maxRecDepth 100000
set_option maxHeartbeats 1000000
namespace L2
open PySem PySem.Spec PyProof.Rows
/-! ### xs[:c] = ys -/
section
variable {prog : Program} {w : World} {A : Around} {E : Value → Shared → Prop} {s : Shared}
end
section
variable {X : Cx} {K : PySem.W.Frag}
/-! ### over a list or a tuple -/
def Itq (K : PySem.W.Frag) (b : Bool) (a : Addr) : It := match b with
  | true => Itl K a
  | false => Itt K a
theorem runs_sq (K : PySem.W.Frag) (b : Bool) (a : Addr) (xs : List V) : Runs (Itq K b a) xs.length (fun H => SqB b K H a xs) (fun i H x H' => H' = H ∧ xs[i]? = some x) := by
  cases b with
  | true => exact runs_list K a xs
  | false => exact runs_tup K a xs
def iSq (K : PySem.W.Frag) (tl : TE) : TI := fun σ H R => tl σ H fun x H1 => ∃ a b xs, x = .ref a ∧ SqB b K H1 a xs ∧ R (Itq K b a) H1
theorem pi_sqK {tg l : Expr} {tl : TE} (h : X.K = K) (hl : PE X l tl) : PI X tg l (iSq K tl) := by
  subst h
  intro pins s σ H R I q
  refine thn (hl pins s σ H _ I q) fun v s1 ⟨x, H1, I1, r1, a, b, xs, e, hq, q1⟩ => ?_
  subst e
  cases r1
  cases b with
  | true =>
    obtain ⟨its, rv, p, hz⟩ := I1.list hq
    refine wpAny_pyIter_list p.isList ⟨s1.heap.objs.size, [s1.heap.objs.size], _, _, H1, rfl, I1.kept (t' := s1.toks) fun b o e => Heap.get?_push_of_some _ e, turn_list a _, ⟨_, Heap.get?_push_size _ rfl, rfl, rfl⟩, fun b hb => ?_, q1⟩
    have e : b = s1.heap.objs.size := by simpa using hb
    subst e
    exact I1.fpOk (Nat.le_refl _) (I1.hok.fresh (Nat.le_refl _))
  | false =>
    obtain ⟨its, rv, p, hz⟩ := I1.tuple hq
    refine wpAny_pyIter_tuple (show s1.heap.IsTuple a its.toArray from p) ⟨s1.heap.objs.size, [s1.heap.objs.size], _, _, H1, rfl, I1.kept (t' := s1.toks) fun b o e => Heap.get?_push_of_some _ e, turn_tuple a _, ⟨_, Heap.get?_push_size _ rfl, rfl, rfl⟩, fun b hb => ?_, q1⟩
    have e : b = s1.heap.objs.size := by simpa using hb
    subst e
    exact I1.fpOk (Nat.le_refl _) (I1.hok.fresh (Nat.le_refl _))
def rSlA (K : PySem.W.Frag) : V → Option Int → Option Int → Hp → VK → Prop := fun x lo hi H Q => rSlL K x lo hi H Q ∨ rSlT K x lo hi H Q
theorem sl_anyK (h : X.K = K) : SlR X (rSlA K) := by subst h; exact SlR.or sl_list sl_tup
theorem op_eqDK (h : X.K = K) (hu : X.A.units + 64 < cLine) : OpR X (compareOp .Eq) (rEqD K) := by subst h; exact op_eqD hu
theorem op_neDK (h : X.K = K) (hu : X.A.units + 64 < cLine) : OpR X (compareOp .NotEq) (rNeD K) := by subst h; exact op_neD hu
end
theorem SqB.same {b : Bool} {K : PySem.W.Frag} {H H' : Hp} {a : Addr} {xs : List V} (g : Same H H') (h : SqB b K H a xs) : SqB b K H' a xs := by
  cases b with
  | true => exact SqL.same g h
  | false => exact SqT.same g h
theorem line_ge {n : Nat} (h : n ≤ 16777216) : n ≤ sizeLine := by rw [sizeLine_eq]; exact h
theorem line_gt {n : Nat} (h : n < 16777216) : n < sizeLine := by rw [sizeLine_eq]; exact h
end L2

set_option Elab.async false
set_option linter.all false
set_option maxRecDepth 100000
set_option maxHeartbeats 1000000
namespace L2
open PySem PySem.Spec PyProof.Rows
section
variable {X : Cx} {tg iter elt : Expr} {ifs : List Expr} {scope : Scope} {pos : Pos} {cl : List (Str × Addr)} {Nc : List Str} {fr : List (Option Nat)} {wi : TI} {g : TG} {tt : TT} {te : TE}
/-- x = [.. for ..], x a plain local name: the name is stored ahead of the block's end -/
theorem ps_comp {y : Str} {py spos : Pos} {jj : Nat} (hsw : swapsWith (.ListComp elt [⟨tg, iter, ifs, 0⟩] scope pos) (some (.Name y py)) spos.line X.env = pure true) (hN : X.N.Nodup) (hj : X.N[jj]? = some y) (hx : Loc X.env.scope y) (hf : X.fn y = true ∨ X.env.scope.names.lookup y = some .local)
    (hc : X.calm = true) (hi : PI X tg iter wi) (hcl : closureFor scope X.env = pure cl) (hcell : ∀ y ∈ scope.names, y.2 ≠ .cell) (hk : scope.kind = .function) (hnm : ∀ y ∈ scope.names, y.2 = .local → scope.names.lookup y.1 = some .local)
    (hall : (scope.names.all fun p => p.2 != .free || (cl.lookup p.1).isSome) = true) (cc : CapC X.env cl) (cn : CapN X scope cl Nc fr)
    (hg : ∀ C s2 H2 fp, PG (cxComp X Nc scope cl C s2 H2 fp) tg g) (ht : ∀ C s2 H2 fp, PTs (cxComp X Nc scope cl C s2 H2 fp) ifs tt) (he : ∀ C s2 H2 fp, PE (cxComp X Nc scope cl C s2 H2 fp) elt te)
    (hs : ∀ x, foldedSetIterable iter X.env x = pure x := by intro _; rfl) : PS X (.Assign [.Name y py] (.ListComp elt [⟨tg, iter, ifs, 0⟩] scope pos) spos) (tAsg (tComp fr wi g tt te) (gName jj)) := by
  intro pins s σ H Ds I h
  rw [exec_Assign_Name_used _ _ _ _ hsw]
  refine wpAny_bind (wpAny_standAt (wpAny_bind ?_))
  show wpAny _ X.A (do let _ ← comprehension (.ListComp elt [⟨tg, iter, ifs, 0⟩] scope pos) scope X.env _ (newList []) false (eval iter X.env) (some (assign (.Name y py) X.env))) _ _ s
  refine wpAny_bind (wpAny_mono (wpAny_comprehension_free (use := some (assign (.Name y py) X.env)) (Q := fun _ s' => SP X pins Ds .next s') rfl hs hcl hk hnm ?_) (fun _ s' hq => wpAny_pure (wpAny_pure hq)) fun _ _ e => e)
  refine wpAny_mono (hi pins s σ H _ I h) (fun xv s1 h1 => wpAny_mono h1 (fun itv s2 h2 => ?_) fun _ _ e => e) fun _ _ e => e
  obtain ⟨it, fp, tn, J, H2, rfl, I2, T, st2, f2, q2⟩ := h2
  obtain ⟨W, ⟨m0, w0⟩, turn⟩ := q2 s2.heap.objs.size (I2.hok.fresh (Nat.le_refl _))
  refine wpAny_newObj_type (wpAny_newFunctionEnv hcell (by intro y hy; simp at hy) (fun h4 ns4 sb4 => ?_) hk)
  dsimp only at ns4 sb4 ⊢
  generalize hD : s2.heap.objs.size = D at *
  generalize hL : s2.heap.push { cls := .type "list", dict := none, data := .seq ([] : List Value).toArray } = hl at ns4 sb4 ⊢
  have hlsz : hl.objs.size = D + 1 := by rw [← hL, Heap.size_push, hD]
  rw [hlsz] at ns4 sb4 ⊢
  have DC : D ≠ D + 1 := Nat.ne_of_lt (Nat.lt_succ_self _)
  have low : ∀ b o, s2.heap.get? b = some o → b < D := fun b o e => by rw [← hD]; exact Heap.lt_size e
  have kp : ∀ b o, s2.heap.get? b = some o → h4.get? b = some o := fun b o e => by
    have z := low b o e
    refine sb4.extBut b o (Nat.ne_of_lt (Nat.lt_succ_of_lt z)) (Heap.get?_push_of_some _ ?_)
    rw [← hL]
    exact Heap.get?_push_of_some _ e
  have hD4 : h4.get? D = some { cls := .type "list", dict := none, data := .seq ([] : List Value).toArray } := by
    refine sb4.extBut D _ DC (Heap.get?_push_of_some _ ?_)
    rw [← hL, ← hD]
    exact Heap.get?_push_size _ rfl
  have hn : H2 D = none := by rw [← hD]; exact I2.hok.fresh (Nat.le_refl _)
  have hnC : H2 (D + 1) = none := I2.hok.fresh (by rw [hD]; exact Nat.le_succ _)
  -- the block's context
  let Y := cxComp X Nc scope cl (D + 1) s2 H2 fp
  have ixv : ∀ b ∈ fp, b < D := fun b hb => by
    obtain ⟨o, e, _⟩ := T.obj 0 _ st2 b hb
    exact low b o e
  have okY : Y.Ok := by
    refine ⟨I2.ok.mod, ?_, I2.ok.glob, I2.ok.blt, ?_, ?_, ?_, ?_, fun _ => I2.ok.hd hc, I2.ok.frames, .inl rfl, ?_, I2.bs, ?_, ?_, ?_, I2.stack, I2.stkFree⟩
    · exact hk
    · show s2.heap.objs.size ≤ D + 1
      omega
    · intro x y c e1 e2
      exact I2.ok.inj x y c (cc.mem x c e1) (cc.mem y c e2)
    · intro x hx
      exact relabel_lookup hcell hall x hx
    · intro x c e
      cases e
    · intro b hb
      refine ⟨fun z => ?_, fun x c e z => ?_⟩
      · exact absurd z (Nat.ne_of_lt (Nat.lt_succ_of_lt (ixv b hb)))
      · exact (f2 b hb).2.2.2.2.1 x c (cc.mem x c e) z
    · exact Nat.le_trans I2.ok.bsz I2.sz
    · intro b o e hb
      have z := (f2 b hb).2.2.2.1
      rcases z with z | z
      · exact I2.ok.noex b o e z
      · exact absurd (Nat.lt_of_lt_of_le (Heap.lt_size (I2.ok.bs b o e).1) z) (Nat.lt_irrefl _)
    · intro b hb z
      have e2 := List.mem_cons.mp (I2.stkSub b z)
      rcases e2 with e2 | e2
      · exact (f2 b hb).2.1 e2
      · exact (f2 b hb).2.2.1 e2
  -- what it knows at its start
  have IY : Inv Y [] (start0 fr σ) (upd H2 D (.lst [])) { s2 with heap := h4, toks := s2.toks + ([] : List (Str × Value)).length } := by
    refine ⟨okY, rfl, I2.bare, ⟨fun b o e n _ _ => kp b o e, fun b o e n _ _ => ⟨o.slots, kp b o e⟩, fun b o e n _ => ?_, fun b o e _ => ⟨o, kp b o e⟩, fun b xs e => ?_, fun b o u e => ?_, fun b ps e => ⟨#[], ?_⟩⟩, ?_, fun x c e => ?_, ?_, fun x c e => ?_, fun p hp => ?_, fun b u e => ?_, ?_⟩
    · rw [upd_ne (Nat.ne_of_lt (low b o e))]; exact n
    · rw [upd_ne (ne_of_none e hn)]; exact e
    · rw [upd_ne (ne_of_none e hn)]; exact e
    · rw [upd_ne (ne_of_none e hn), show H2 b = _ from e]; simp
    · refine ⟨_, ns4, fun j x v e1 e2 e3 => ?_⟩
      have e2' : (fr.map fun o => o.bind fun k => (σ[k]?).join)[j]? = some (some v) := e2
      rw [List.getElem?_map] at e2'
      obtain ⟨o, ho, hv⟩ := Option.map_eq_some_iff.mp e2'
      cases o with
      | none => cases hv
      | some k =>
        obtain ⟨c1, c2, c3, c4⟩ := cn.at j x k e1 ho
        have hσ : σ[k]? = some (some v) := by
          have hv' : (σ[k]?).join = some v := hv
          cases z : σ[k]? with
          | none => rw [z] at hv'; cases hv'
          | some w' => rw [z] at hv'; exact congrArg some hv'
        obtain ⟨m, hm, hlk⟩ := I2.loc
        obtain ⟨u, r, lk⟩ := hlk k x v c1 hσ (.inr (.inl c2))
        refine ⟨u, r, .inr ⟨.inl c4, ?_⟩⟩
        rcases lk with ⟨z, _⟩ | ⟨_, c, ec, oc, hoc, dc⟩
        · rw [c2] at z; cases z
        · obtain ⟨c', ec'⟩ := Option.isSome_iff_exists.mp c3
          have := cc.mem x c' ec'
          rw [ec] at this; cases this
          exact ⟨c, ec', oc, kp c oc hoc, dc⟩
    · obtain ⟨v, oc, hoc, dc⟩ := I2.cell x c (cc.mem x c e)
      exact ⟨v, oc, kp c oc hoc, dc⟩
    · show upd H2 D (.lst []) (D + 1) = none
      rw [upd_ne (Ne.symm DC)]; exact hnC
    · obtain ⟨v, oc, hoc, dc⟩ := I2.cell x c (cc.mem x c e)
      rw [upd_ne (Nat.ne_of_lt (low c oc hoc))]
      exact I2.freeC x c (cc.mem x c e)
    · simp [Y, cxComp] at hp
    · by_cases hb : b = D
      · subst hb
        rw [upd_same] at e; cases e
        exact ⟨Nat.zero_le _, [], _, .nil, hD4⟩
      · rw [upd_ne hb] at e
        exact (I2.hok b u e).stay (fun c v _ q => kp c v q) (fun c q => by rw [upd_ne (ne_of_none q hn)]; exact q) fun c xs q => by rw [upd_ne (ne_of_none q hn)]; exact q
    · show (fr.map _).length = Nc.length
      rw [List.length_map]; exact cn.length
  have fY : ∀ {H' : Hp}, (∀ b ∈ fp, H' b = none) → ∀ b ∈ fp, FpOk Y [] H' b := fun {H'} hn' b hb => by
    refine ⟨hn' b hb, fun z => ?_, fun z => ?_, .inl hb, fun x c e z => ?_, fun p hp => ?_⟩
    · exact absurd z (Nat.ne_of_lt (Nat.lt_succ_of_lt (ixv b hb)))
    · exact okY.exfs b hb z
    · exact (f2 b hb).2.2.2.2.1 x c (cc.mem x c e) z
    · simp [Y, cxComp] at hp
  have st4 : tn 0 h4 := T.keep _ _ _ st2 fun b hb o e => kp b o e
  have fr4 : ∀ b ∈ fp, upd H2 D (.lst []) b = none := fun b hb => by
    rw [upd_ne (Nat.ne_of_lt (ixv b hb))]
    exact (f2 b hb).1
  have loop : ∀ s3 : Shared, s3 = { s2 with heap := h4, toks := s2.toks + ([] : List (Str × Value)).length } →
      codeAny (model X.prog X.w) X.A (.compLoop (.ListComp elt [⟨tg, iter, ifs, 0⟩] scope pos) 0 (.ref it) (.ref D) (compEnvC scope cl (D + 1) X.env)) (compPost (model X.prog X.w) X.A X.xe (some (assign (.Name y py) X.env)) (fun _ s' => SP X pins Ds .next s') (.ref D) (D + 1)) s3 := by
    rintro s3 rfl
    refine codeAny_loop rfl (fun n s' => ∃ i σ' H', Inv Y [] σ' H' s' ∧ tn i s'.heap ∧ (∀ b ∈ fp, H' b = none) ∧ W i n σ' H') (fun n s5 hI => ?_) m0 ⟨0, _, _, IY, st4, fr4, w0⟩
    obtain ⟨i, σ5, H5, I5, st5, fr5, w5⟩ := hI
    show wpAny _ X.A ((compTurn (.ListComp elt [⟨tg, iter, ifs, 0⟩] scope pos) 0 (.ref it) (.ref D) (compEnvC scope cl (D + 1) X.env)).onRaise (fun x => do noteFrame x (compEnvC scope cl (D + 1) X.env); theTreesLotGoes x)) _ _ s5
    refine wpAny_noted ?_
    rw [compTurn_list]
    refine wpAny_bind (wpAny_standAt (wpAny_bind ?_))
    rcases turn i n σ5 H5 w5 with ⟨stop, qn⟩ | ⟨go, step⟩
    · refine wpAny_mono (T.done Y rfl rfl rfl rfl i [] s5 σ5 H5 (fun _ _ => False) I5 (fY fr5) st5 stop) (fun r s6 ⟨hr, I6⟩ => ?_) fun _ _ z => z.elim
      subst hr
      refine wpAny_pure ?_
      obtain ⟨m6, hm6, _⟩ := id I6.loc
      have sb7 : Heap.SameBut (D + 1) s6.heap s6.heap := Heap.SameBut.refl ..
      -- back in the enclosing body
      have un : Un (frs X.stack) fp H2 H5 s2.heap s6.heap := by
        have b6 := I6.base
        have nc : ∀ b o, s2.heap.get? b = some o → b ≠ D + 1 := fun b o e => Nat.ne_of_lt (Nat.lt_succ_of_lt (low b o e))
        refine ⟨fun b o e n1 n2 n3 => (sb7.2 b (nc b o e)).trans (b6.keep b o e n1 n2 n3), fun b o e n1 n2 n3 => ?_, b6.free, fun b o e n3 => ?_, b6.tups, b6.frzs, b6.tbls⟩
        · obtain ⟨sl, z⟩ := b6.slot b o e n1 n2 n3
          exact ⟨sl, (sb7.2 b (nc b o e)).trans z⟩
        · obtain ⟨o', z⟩ := b6.there b o e n3
          exact ⟨o', (sb7.2 b (nc b o e)).trans z⟩
      have hok7 : HOk X.prog X.w H5 s6.heap := fun b u e => by
        refine (I6.hok b u e).stay (fun c v hc' q => (sb7.2 c fun z => ?_).trans q) (fun _ q => q) fun _ _ q => q
        have fC : H5 (D + 1) = none := I6.free
        subst z
        rcases hc' with z | z
        · rw [← z, fC] at e; cases e
        · rw [fC] at z; cases z
      have IX := I2.call' (s' := { s6 with heap := s6.heap }) (ch := fp) I6.os un hok7 I6.bare fun b hb => ⟨(f2 b hb).2.2.2.1, (f2 b hb).2.1, (f2 b hb).2.2.2.2.1, (f2 b hb).2.2.2.2.2⟩
      have lx : X.env.locals < D := by
        obtain ⟨m, ⟨o, _, _, ho, _⟩, _⟩ := I2.loc
        exact low _ o ho
      refine wpAny_assign_Name (store_ok2 IX hN hj hx (show RelV (.ref D) (.ref D) from rfl) (fun s7 I7 ⟨a7, sa7, ha7⟩ => ?_) hf)
      have al : a7 < D := by
        rcases ha7 with z | z
        · rw [z]; exact lx
        · obtain ⟨v, o, ho, _⟩ := I2.cell y a7 z
          exact low _ o ho
      refine ⟨m6, hm6.sameBut sa7 (Ne.symm (Nat.ne_of_lt (Nat.lt_succ_of_lt al))), fun h8 sb8 => ?_⟩
      have I8 : Inv X pins (σ.set jj (some (.ref D))) H5 { s7 with heap := h8 } := I7.turned (t' := s7.toks) (it := D + 1) (fun b o hb e => (sb8.2 b hb).trans e) I6.free (Ne.symm (Nat.ne_of_lt (Nat.lt_succ_of_lt lx))) (.inr (by
          have := I2.sz
          rw [hD] at this
          exact Nat.le_succ_of_le this)) (fun x c e z => by
          obtain ⟨v, o, ho, _⟩ := I2.cell x c e
          have := low _ o ho
          rw [z] at this
          exact absurd this (Nat.not_lt.mpr (Nat.le_succ _))) (fun p hp z => by
          have := low _ _ (I2.pin p hp).1
          rw [z] at this
          exact absurd this (Nat.not_lt.mpr (Nat.le_succ _)))
      exact ⟨_, H5, I8, qn⟩
    · refine wpAny_mono (T.item Y rfl rfl rfl rfl i [] s5 σ5 H5 (fun _ _ => False) I5 (fY fr5) st5 go) (fun r s6 ⟨u, hr, h6⟩ => ?_) fun _ _ z => z.elim
      subst hr
      refine wpAny_bind (wpAny_mono h6 (fun _ s7 ⟨x, H7, I7, r7, y7, st7, fr7⟩ => ?_) fun _ _ z => z.elim)
      have I7' := I7.pinned (fY fr7) (T.obj _ _ st7)
      refine wpAny_bind (wpAny_mono (hg _ _ _ _ _ s7 σ5 H7 x u _ I7' r7 (step x H7 y7)) (fun _ s8 ⟨σ8, H8, I8, q8⟩ => ?_) fun _ _ z => z.elim)
      have again : ∀ {σ' : St} {H' : Hp} {s' : Shared} {k : Nat}, Inv Y ([] ++ pinsAt fp s7.heap) σ' H' s' → W (i + 1) k σ' H' → ∃ i' σ'' H'', Inv Y [] σ'' H'' s' ∧ tn i' s'.heap ∧ (∀ b ∈ fp, H'' b = none) ∧ W i' k σ'' H'' := fun {σ' H' s' k} I' w' => by
        refine ⟨i + 1, σ', H', I'.unpinned, T.keep _ _ _ st7 fun b hb o e => (I'.pin (b, o) (List.mem_append_right _ (List.mem_append_right _ (mem_pinsAt hb e)))).1, fun b hb => ?_, w'⟩
        obtain ⟨o, e, d⟩ := T.obj _ _ st7 b hb
        exact (I'.pin (b, o) (List.mem_append_right _ (List.mem_append_right _ (mem_pinsAt hb e)))).2.1
      refine wpAny_bind (wpAny_mono (ht _ _ _ _ _ s8 σ8 H8 _ I8 q8) (fun ok s9 ⟨H9, I9, q9⟩ => ?_) fun _ _ z => z.elim)
      cases ok with
      | false =>
        obtain ⟨m', hm', w'⟩ := q9
        exact wpAny_pure ⟨rfl, m', hm', again I9 w'⟩
      | true =>
        refine wpAny_bind (wpAny_bind (wpAny_mono (he _ _ _ _ _ s9 σ8 H9 _ I9 q9) (fun ev s10 ⟨v, H10, I10, r10, acc, m', hacc, hlen, hm', w'⟩ => ?_) fun _ _ z => z.elim))
        refine wpAny_bind (wpAny_mono (mt_append (X := Y) _ s10 σ8 H10 (.ref D) [v] (.ref D) [ev] (fun r H' => r = .non ∧ H' = upd H10 D (.lst (acc ++ [v]))) I10 rfl (.cons r10 .nil) ⟨D, acc, v, rfl, rfl, hacc, hlen, rfl, rfl⟩) (fun _ s11 ⟨_, H11, I11, _, _, e11⟩ => ?_) fun _ _ z => z.elim)
        subst e11
        exact wpAny_pure (wpAny_pure ⟨rfl, m', hm', again I11 w'⟩)
  exact codeAny_compStart_list (loop _ rfl) (T.self _ _ _ _ _ st4 (loop _ rfl))
end
end L2

set_option Elab.async false
set_option linter.all false
set_option maxRecDepth 100000
set_option maxHeartbeats 1000000
namespace L2
open PySem PySem.Spec PySem.W PyProof.Rows
/-! ### x in xs, of data -/
section
variable {X : Cx} {K : Frag}
open Classical in
theorem in_data {pins : List (Addr × Obj)} {σ : St} {H : Hp} {s : Shared} {A : Around} (I : Inv X pins σ H s) (hu : A.units + 9 < cLine) {x : V} {v : Value} {e : Dt} (hx : IsD X.K H x e) (rx : RelV x v) : ∀ {xs : List V} {ds : List Dt} {its : List Value}, IsDs X.K H xs ds → Vals xs its → (∀ d ∈ ds, Dt.ok 9 d e = true) →
    ∃ f : Value → Bool, (∀ w ∈ its, SeqAt.EqAt A s w v (f w)) ∧ its.any f = ds.any fun d => Dt.eqb d e := by
  intro xs ds its hd rv ok
  have T := told I 9 A hu
  have each : ∀ {xs : List V} {ds : List Dt} {its : List Value}, IsDs X.K H xs ds → Vals xs its → (∀ d ∈ ds, Dt.ok 9 d e = true) → (∀ w ∈ its, ∃ d, (w, d) ∈ its.zip ds) ∧ ∀ w d, (w, d) ∈ its.zip ds → SeqAt.EqAt A s w v (Dt.eqb d e) := by
    intro xs ds its hd rv ok
    induction its generalizing xs ds with
    | nil => exact ⟨fun w h => by simp at h, fun w d h => by simp at h⟩
    | cons u us ih =>
      cases rv with
      | cons r1 r2 =>
        cases hd with
        | cons h1 h2 =>
          obtain ⟨i1, i2⟩ := ih h2 r2 fun d hd => ok d (List.mem_cons_of_mem _ hd)
          refine ⟨fun w hw => ?_, fun w d hw => ?_⟩
          · rcases List.mem_cons.mp hw with rfl | hw
            · exact ⟨_, List.mem_cons_self⟩
            · obtain ⟨d, q⟩ := i1 w hw
              exact ⟨d, List.mem_cons_of_mem _ q⟩
          · rcases List.mem_cons.mp hw with z | hw
            · cases z
              exact T _ _ _ _ _ _ h1 hx r1 rx (ok _ List.mem_cons_self)
            · exact i2 w d hw
  obtain ⟨i1, i2⟩ := each hd rv ok
  have hlen : its.length = ds.length := by
    have a := rv.length
    have b : xs.length = ds.length := by
      clear rv ok i1 i2 a
      induction ds generalizing xs with
      | nil => cases hd; rfl
      | cons d r ih => cases hd with | cons h1 h2 => rw [List.length_cons, List.length_cons, ih h2]
    omega
  refine ⟨fun w => decide (∃ d, (w, d) ∈ its.zip ds ∧ Dt.eqb d e = true), fun w hw => ?_, ?_⟩
  · by_cases h : ∃ d, (w, d) ∈ its.zip ds ∧ Dt.eqb d e = true
    · obtain ⟨d, h1, h2⟩ := h
      have := i2 w d h1
      rw [h2] at this
      dsimp only
      rw [decide_eq_true (⟨d, h1, h2⟩ : ∃ d, (w, d) ∈ its.zip ds ∧ Dt.eqb d e = true)]
      exact this
    · obtain ⟨d, h1⟩ := i1 w hw
      have := i2 w d h1
      have hf : Dt.eqb d e = false := by
        cases z : Dt.eqb d e with
        | false => rfl
        | true => exact absurd ⟨d, h1, z⟩ h
      rw [hf] at this
      dsimp only
      rw [decide_eq_false h]
      exact this
  · rw [Bool.eq_iff_iff, List.any_eq_true, List.any_eq_true]
    constructor
    · rintro ⟨w, hw, h⟩
      obtain ⟨d, h1, h2⟩ := of_decide_eq_true h
      exact ⟨d, (List.of_mem_zip h1).2, h2⟩
    · rintro ⟨d, hd', h⟩
      obtain ⟨i, hi, e1⟩ := List.mem_iff_getElem.mp hd'
      have hi2 : i < its.length := by omega
      have hm : (its[i], d) ∈ its.zip ds := by
        refine List.mem_iff_getElem.mpr ⟨i, by rw [List.length_zip]; omega, ?_⟩
        rw [List.getElem_zip, e1]
      exact ⟨its[i], List.getElem_mem hi2, decide_eq_true ⟨d, hm, h⟩⟩
def rInD (K : Frag) (neg : Bool) : R2 := fun x y H Q => ∃ p xs ds e, y = .ref p ∧ SqA K H p xs ∧ IsDs K H xs ds ∧ IsD K H x e ∧ (∀ d ∈ ds, Dt.ok 9 d e = true) ∧ Q (.bl (if neg then !(ds.any fun d => Dt.eqb d e) else ds.any fun d => Dt.eqb d e)) H
theorem op_inDK (h : X.K = K) (hu : X.A.units + 64 < cLine) : OpR X (compareOp .In) (rInD K false) := by
  subst h
  intro pins s σ H x y v u Q I rx ry h
  obtain ⟨p, xs, ds, e, rfl, hq, hd, hx, ok, q⟩ := h
  cases ry
  rcases hq with hq | hq
  · obtain ⟨its, r, pl, hz⟩ := I.list hq
    obtain ⟨f, f1, f2⟩ := in_data (A := X.A.in1) I (by show X.A.units + 1 + 9 < cLine; omega) hx rx hd r ok
    refine SeqAt.in_listAt f pl.isList (fun w hw => f1 w (by simpa using hw)) ⟨.bl _, H, I, rfl, ?_⟩
    rw [show its.toArray.any f = its.any f by simp, f2]
    exact q
  · obtain ⟨its, r, pl, hz⟩ := I.tuple hq
    obtain ⟨f, f1, f2⟩ := in_data (A := X.A.in1) I (by show X.A.units + 1 + 9 < cLine; omega) hx rx hd r ok
    refine SeqAt.in_tupleAt f pl (fun w hw => f1 w (by simpa using hw)) ⟨.bl _, H, I, rfl, ?_⟩
    rw [show its.toArray.any f = its.any f by simp, f2]
    exact q
/-! ### xs.insert(k, y) -/
/-! ### isinstance(x, (A, B, ..)) of what is None -/
end
end L2

set_option Elab.async false
set_option linter.all false
set_option maxRecDepth 100000
set_option maxHeartbeats 1000000
namespace L2
open PySem PySem.Spec PySem.W PyProof.Rows
/-! ### t + u of tuples, t perhaps empty, u not -/
section
variable {X : Cx} {K : Frag}
end
end L2

set_option Elab.async false
set_option linter.all false
set_option maxRecDepth 100000
set_option maxHeartbeats 1000000
namespace L2
open PySem PySem.Spec PyProof.Rows
/-! ### enumerate over a list or a tuple -/
section
variable {prog : Program} {w : World} {A : Around} {E : Value → Shared → Prop} {s : Shared}
end
section
variable {X : Cx} {K : PySem.W.Frag}
end
end L2

set_option Elab.async false
set_option linter.all false
set_option maxRecDepth 100000
set_option maxHeartbeats 1000000
namespace L2
open PySem PySem.Spec PyProof.Rows
/-! ### a comprehension over pairs (enumerate, zip), two own names in slots 0 and 1 -/
end L2

set_option Elab.async false
set_option linter.all false
set_option maxRecDepth 100000
set_option maxHeartbeats 1000000
namespace L2
open PySem PySem.Spec PyProof.Rows
end L2

set_option Elab.async false
set_option linter.all false
set_option maxRecDepth 100000
set_option maxHeartbeats 1000000
namespace L2
open PySem PySem.Spec PyProof.Rows
/-! ### sorted by an own def that tells ints -/
section
variable {X : Cx} {pins : List (Addr × Obj)} {σ : St} {H : Hp} {s : Shared} {A : Around} {E : Value → Shared → Prop} {kS a : Addr} {e1 : Nat} {xs : List V} {us : List Value} {kz : List Int} {W : PySem.Fin → Shared → Prop}
end
section
variable {X : Cx} {pins : List (Addr × Obj)} {σ : St} {H : Hp} {s : Shared} {k : Nat} {g l : Addr} {gd : FuncData} {ps : List Str} {sp : Sp} {xs : List V} {kz : List Int}
end
end L2

set_option Elab.async false
set_option linter.all false
set_option maxRecDepth 100000
set_option maxHeartbeats 1000000
namespace L2
open PySem PySem.Spec PyProof.Rows PySem.MeetsSeq
/-! ### xs.remove(y) of data -/
section
variable {X : Cx} {K : PySem.W.Frag}
end
end L2

set_option Elab.async false
set_option linter.all false
set_option maxRecDepth 100000
set_option maxHeartbeats 1000000
namespace L2
open PySem PySem.Spec PyProof.Rows
/-! ### a list comprehension whose own names an inner one captures -/
section
variable {X : Cx} {tg iter elt : Expr} {ifs : List Expr} {scope : Scope} {pos : Pos} {cl : List (Str × Addr)} {Nc : List Str} {fr : List (Option Nat)} {wi : TI} {g : TG} {tt : TT} {te : TE}
end
end L2

set_option Elab.async false
set_option linter.all false
set_option maxRecDepth 100000
set_option maxHeartbeats 1000000
namespace L2
open PySem PySem.Spec PyProof.Rows
/-! ### sum of a list of whole numbers -/
section
variable {X : Cx} {K : PySem.W.Frag}
end
end L2

set_option Elab.async false
set_option linter.all false
set_option maxRecDepth 100000
set_option maxHeartbeats 1000000
namespace L2
open PySem PySem.Spec PyProof.Rows
/-! ### range(n) as a thing, and the list of it -/
section
variable {X : Cx}
end
end L2

set_option Elab.async false
set_option linter.all false
set_option maxRecDepth 100000
set_option maxHeartbeats 1000000
namespace L2
open PySem PySem.Spec PyProof.Rows
/-! ### lists of pairs as tables -/
section
variable {κ : Type} [DecidableEq κ]
end


/-! ### a tracked dict, its keys ints and texts or tuples of these -/
section
variable {P : Program} {w : World} {H : Hp} {h : Heap} {a : Addr}
end

section
variable {X : Cx} {pins : List (Addr × Obj)} {σ : St} {H : Hp} {s : Shared} {a : Addr} {y v : V} {u r : Value} {o : Option V} {A : Around} {E : Value → Shared → Prop}

end

section
variable {X : Cx} {pins : List (Addr × Obj)} {σ : St} {H : Hp} {s : Shared} {a : Addr} {kvs : List (Key × V)} {k : Key} {u : Value} {A : Around} {E : Value → Shared → Prop}
end


/-! ### readings and rules -/
section
variable {X : Cx} {o i e value : Expr} {pos pos' tpos : Pos} {td ty tv : TE}
end


/-! ### displays -/
section
variable {X : Cx} {pos : Pos}
end
end L2

set_option Elab.async false
set_option linter.all false
set_option maxRecDepth 100000
set_option maxHeartbeats 1000000
namespace L2
open PySem PySem.Spec PyProof.Rows
/-! ### list(d) of a dict whose keys are tuples -/
section
variable {prog : Program} {w : World} {A : Around} {E : Value → Shared → Prop} {s : Shared} {it d : Addr} {i n ep : Nat} {o : Obj} {es : Array DictEntry} {e : DictEntry}
section
variable {Q : Option Value → Shared → Prop}
end
end
section
variable {X : Cx}
end
end L2

set_option Elab.async false
set_option linter.all false
set_option maxRecDepth 100000
set_option maxHeartbeats 1000000
namespace L2
open PySem PySem.Spec PyProof.Rows
/-! ### list(reversed(xs)); xs.count(n) of whole numbers -/
/-! ### list(reversed(xs)) -/
section
variable {X : Cx}
/-! ### xs.count(n) of whole numbers -/
end
end L2

set_option Elab.async false
set_option linter.all false
set_option maxRecDepth 100000
set_option maxHeartbeats 1000000
namespace L2
open PySem PySem.Spec PySem.W PyProof.Rows
/-! ### try: o.m(..) except .. -/
def tTryM (K : Frag) (C0 : Addr) (m : Str) (sp : Sp) (tob : TE) (ta : TA) (j : Nat) (W : Addr) (ts : TS) : TS := fun D σ H => tob σ H fun x H0 => ∃ a0 dx0 fs, x = .ref a0 ∧ H0 a0 = some (.ins C0 dx0 fs) ∧ fs.lookup m = none ∧ ta σ H0 fun vs H1 => sp (x :: (vs ++ [])) H1 (fun _ H2 => D.nx σ H2) fun cls dx H2 =>
  ∃ C, cls = .ref C ∧ XdOk H2 dx ∧ exmOne K (.ref C) (.ref W) = some true ∧ ∀ a, H2 a = none →
    ts { nx := fun σ' H' => D.nx (σ'.set j none) H', rt := fun _ _ => False } (σ.set j (some (.ref a))) (upd H2 a (HX a C dx))
section
variable {X : Cx} {mth cx n : Str} {apos cpos xpos hp hpos tpos : Pos} {o e : Expr} {es : List Expr} {tob : TE} {ta : TA} {k j : Nat} {ps : List Str} {sp : Sp} {W C0 g : Addr} {gd : FuncData} {st0 : Stmt} {ts : TS}
theorem ps_tryM {pl : Sem Bool} (c : Cls X.K C0) (hm : Meth X.K C0 mth g) (F : FnOk X.prog X.w X.K X.mg X.base (CX1 X.prog X.w X.base) k g gd ps sp) (hb : Binds X.K gd ps []) (hr : Room k X.A) (hcalm : X.calm = true) (hex : X.ex = []) (hst : X.stack = X.env :: X.outer) (hfr : X.env.frame = some X.env.locals) (ho : PE X.nox o tob) (ha : PA X.nox (e :: es) ta) (hgc : Gl X cx) (hmc : X.mg cx = some (.ref W))
    (hN : X.N.Nodup) (hj : X.N[j]? = some n) (hl : X.env.scope.names.lookup n = some .local) (hs0 : ∀ a, PSs (X.inX a) [st0] ts) (hfn : X.fn n = true)
    (hdc : (cx == ("__debug__" : Str)) = false := by decide)
    (he : starEach (e :: es) X.env = (false, eval e X.env) :: starEach es X.env := by rfl) (hpl : (backTo cpos (starEach es X.env)).any (·.1) = false := by rfl)
    (ht : eval (.Call (.Attribute o mth apos) (e :: es) [] cpos) X.env = (do
      let ov ← eval o X.env
      standAt apos.atName
      let (f, first) ← holding [ov] (getMethod ov mth pl)
      callWith cpos f first (backTo cpos (starEach (e :: es) X.env)) (backToKw cpos (keywordEach [] X.env))) := by rfl)
    (hsw : swapsWith (.Call (.Attribute o mth apos) (e :: es) [] cpos) none xpos.line X.env = pure false := by rfl) :
    PS X (.Try [.Expr (.Call (.Attribute o mth apos) (e :: es) [] cpos) xpos] [.ExceptHandler (some (.Name cx hp)) (some n) [st0] hpos] [] [] tpos) (tTryM X.K C0 mth sp tob ta j W ts) := by
  intro pins s σ H D I h
  refine wpAny_Try_except ?_
  refine wpAny_execs_cons (wpAny_Expr_any ?_ I.quiet hsw)
  refine PySem.W.methodCall_KW (pl := pl) (wpAny_mono (ho pins s σ H _ (I.wish _) h) (fun u s0 ⟨x, H0, I0, rx, a0, dx0, fs, ex, ea, l, q0⟩ => ?_) fun _ _ z => z.elim) ht
  have I0 := I0.unwish
  subst ex
  obtain rfl : u = Value.ref a0 := rx
  refine getmeth_ok I0 ea c hm l ?_
  refine PySem.W.callWith_K (first := [.ref a0]) (h₀ := X.base) I.ok.mod.kin hm.kp (wpAny_mono (ha cpos pins s0 σ H0 _ (I0.wish _) q0) (fun us s1 ⟨vs, H1, I1, r, q⟩ => ⟨I1.kIn, ?_⟩) fun _ _ z => z.elim) he hpl
  have I1 := I1.unwish
  have r2 : Vals (V.ref a0 :: (vs ++ [])) (Value.ref a0 :: us ++ []) := .cons rfl (r.append .nil)
  have hlen : (Value.ref a0 :: us ++ []).length = ps.length := by rw [← r2.length]; exact F.len _ _ _ _ q
  refine wpAny_call (codeAny_mono (F.run X.A X.stack s1 H1 ⟨Value.ref a0 :: us, []⟩ (Value.ref a0 :: us ++ []) (V.ref a0 :: (vs ++ [])) _ _ hr I1.env0 (hb s1 (Value.ref a0 :: us) I1.kIn hlen) r2 q) fun rr s' hq => ?_)
  cases rr with
  | ok fl =>
    cases fl with
    | ret u =>
      obtain ⟨v, H', I', _, q'⟩ := I1.after hq
      exact wpAny_execs_nil (wpAny_execs_nil ⟨σ, H', I', q'⟩)
    | next => exact False.elim hq
    | brk => exact False.elim hq
    | cont => exact False.elim hq
  | error ev =>
    obtain ⟨a, cls, dx, H', rfl, I', Fl, C, rfl, hxd, hex1, hsu⟩ := back1 I1 hex hq
    refine fly_inv I' hex hst hfr Fl fun h' T I2 Fl2 _ _ _ => ?_
    refine wpAny_handleBy_cons ?_ (by intro z; cases z)
    have fr2 : (X.A.mark (some (.ref a))).frames = X.A.frames := rfl
    have I3 := I2.inX a
    refine codeAny_handlers_test (ld_glob I3 (show Gl (X.inX a) cx from hgc) hmc ?_ hdc)
    obtain ⟨oe, vs', ha2, hcls, hdd, hdat, hz, tr, hTT⟩ := Fl2.ex
    obtain ⟨od, IA⟩ := inst_of I2 ha2 hcls (by (obtain ⟨c1, d1, dt1, sl1⟩ := oe; subst hdat; rfl)) (by rw [hdd]; exact hxd)
    refine (exm_one (M := model X.prog X.w) (h := h') I2.kIn IA.type hex1).at ?_
    refine codeAny_handlers_suite_as ?_
    -- the flight is at rest already; it is set once more
    obtain ⟨T, oT, ts', e4, e5, e7, e8, e9⟩ : ∃ T oT ts', vs'[1]? = some (.ref T) ∧ T ≠ a ∧ h'.get? T = some oT ∧ oT.data = .fields ts' ∧ ts'[3]? = some .none := by
      rename_i fl3 _ _
      obtain ⟨oe3, vs3, oT, ts3, g1, g2, g3, g4, g5, g6, g7, g8, g9, g10⟩ := fl3
      rw [ha2] at g1; cases g1
      rw [hdat] at g4; cases g4
      exact ⟨T, oT, ts3, g6, g7, g8, g9, g10⟩
    unfold setFlight
    refine wpAny_bind (wpAny_field ha2 hdat e4 ?_)
    rw [if_pos (show (Value.ref T != Value.none) = true from by simp)]
    refine wpAny_setField e7 e8 (Array.getElem?_eq_some_iff.mp e9).1 ?_
    have m1 := mapFields_eq e8 (·.setIfInBounds 3 ((none : Option Addr).elim Value.none fun f => rawInt f))
    have sames : ts'.setIfInBounds 3 Value.none = ts' := by
      refine Array.ext_getElem? fun i => ?_
      by_cases hi : 3 = i
      · subst hi
        rw [Array.getElem?_setIfInBounds_self_of_lt (Array.getElem?_eq_some_iff.mp e9).1, e9]
      · rw [Array.getElem?_setIfInBounds_ne hi]
    have same : ({ oT with data := .fields (ts'.setIfInBounds 3 Value.none) } : Obj) = oT := by
      rw [sames]
      obtain ⟨c1, d1, dt1, sl1⟩ := oT
      subst e8
      rfl
    have kk : ∀ b o, h'.get? b = some o → (h'.update T (Obj.mapFields (·.setIfInBounds 3 ((none : Option Addr).elim Value.none fun f => rawInt f)))).get? b = some o := fun b o eo => by
      by_cases hb : b = T
      · subst hb
        rw [e7] at eo; cases eo
        have := Heap.get?_update_self (Obj.mapFields (·.setIfInBounds 3 ((none : Option Addr).elim Value.none fun f => rawInt f))) e7 (Obj.isFreed_of_fields (Obj.data_mapFields e8 _))
        rw [m1] at this
        exact this.trans (congrArg some same)
      · rw [Heap.get?_update_other _ _ (Ne.symm hb)]
        exact eo
    dsimp only
    have I4 : Inv X pins σ H' { s' with heap := h'.update T (Obj.mapFields (·.setIfInBounds 3 ((none : Option Addr).elim Value.none fun f => rawInt f))) } := I2.kept (t' := s'.toks) kk
    -- the exception becomes a thing that is known
    have I5 : Inv X pins σ (upd H' a (HX a C dx)) { s' with heap := h'.update T (Obj.mapFields (·.setIfInBounds 3 ((none : Option Addr).elim Value.none fun f => rawInt f))) } := by
      refine ⟨I4.ok, I4.os, I4.bare, ⟨I4.base.keep, I4.base.slot, fun b o eb nb hx => ?_, I4.base.there, fun b xs q => ?_, fun b o u q => ?_, fun b ps' q => ?_⟩, I4.loc, I4.cell, ?_, fun x c e => ?_, fun p hp => ?_, fun b u eb => ?_, I4.len⟩
      · have : b ≠ a := fun z => by subst z; rw [Fl2.new] at eb; cases eb
        rw [upd_ne this]; exact I4.base.free b o eb nb hx
      · have q' := I4.base.tups b xs q
        rw [upd_ne (ne_of_none q' Fl2.hn)]; exact q'
      · have q' := I4.base.frzs b o u q
        rw [upd_ne (ne_of_none q' Fl2.hn)]; exact q'
      · obtain ⟨mr, q'⟩ := I4.base.tbls b ps' q
        exact ⟨mr, by rw [upd_ne (ne_of_none q' Fl2.hn)]; exact q'⟩
      · have : X.env.locals ≠ a := fun z => by
          obtain ⟨mm, ⟨o1, es1, ep1, ho1, dd1, _⟩, _⟩ := I2.loc
          rw [z] at ho1
          rw [ha2] at ho1; cases ho1
          rw [hdat] at dd1; cases dd1
        rw [upd_ne this]; exact I4.free
      · have : c ≠ a := fun z => by
          obtain ⟨v1, o1, ho1, dd1⟩ := I2.cell x c e
          rw [z] at ho1
          rw [ha2] at ho1; cases ho1
          rw [hdat] at dd1; cases dd1
        rw [upd_ne this]; exact I4.freeC x c e
      · obtain ⟨q1, q2, q3, q4, q5⟩ := I4.pin p hp
        refine ⟨q1, ?_, q3, q4, q5⟩
        rw [upd_ne (Fl2.pn p hp)]; exact q2
      · by_cases hb : b = a
        · subst hb
          rw [upd_same] at eb; cases eb
          exact HX.ok (kk _ _ ha2) hcls IA.no hdd
        · rw [upd_ne hb] at eb
          exact (I4.hok b u eb).stay (fun c v _ q => q) (fun c q => by rw [upd_ne (ne_of_none q Fl2.hn)]; exact q) fun c xs q => by rw [upd_ne (ne_of_none q Fl2.hn)]; exact q
    refine store_ok (X := X) I5 hN hj (.inl hl) (show RelV (.ref a) (.ref a) from rfl) (fun s6 I6 => ?_) (.inl hfn)
    refine wpAny_mono (hs0 a pins s6 _ _ _ (I6.inX a) (hsu a Fl2.hn)) (fun fl s7 q7 => ?_) fun _ _ z => z.elim
    cases fl with
    | next =>
      obtain ⟨σ7, H7, I7, q7⟩ := q7
      have I7 := I7.offX I6.ok
      obtain ⟨m, hns, hlk⟩ := id I7.loc
      refine wpAny_nameGoes_keeps hl hns (by rw [I7.ok.kind]; rfl) fun h8 v8 hn8 sb8 => ?_
      exact ⟨_, H7, I7.unname hN hj hns hlk hn8 sb8, q7⟩
    | ret u => obtain ⟨_, _, _, _, _, z⟩ := q7; exact z.elim
    | brk => obtain ⟨_, _, _, z⟩ := q7; exact z.elim
    | cont => obtain ⟨_, _, _, z⟩ := q7; exact z.elim
end
end L2

set_option Elab.async false
set_option linter.all false
set_option maxRecDepth 100000
set_option maxHeartbeats 4000000
namespace L2
open PySem PySem.Spec PyProof.Rows
/-! ### the mathematics of fractions -/
namespace Fr
open Builtin.Int (intBits)
theorem turn {a0 b0 a b : Int} (h : Int.gcd a b = Int.gcd a0 b0) : Int.gcd b (a.fmod b) = Int.gcd a0 b0 := by
  rw [Int.fmod_def, Int.gcd_sub_mul_left_right, Int.gcd_comm b a]
  exact h
theorem less {a b : Int} (h : b ≠ 0) : (a.fmod b).natAbs < b.natAbs := by
  rcases (by omega : 0 < b ∨ b < 0) with p | p
  · have h1 := Int.fmod_nonneg_of_pos a p
    have h2 := Int.fmod_lt_of_pos a p
    omega
  · have e : a.fmod b = -((-a).fmod (-b)) := by
      rw [Int.fmod_def, Int.fmod_def, Int.neg_fdiv_neg]
      rw [Int.neg_mul]
      omega
    have h1 := Int.fmod_nonneg_of_pos (-a) (show 0 < -b by omega)
    have h2 := Int.fmod_lt_of_pos (-a) (show 0 < -b by omega)
    omega
theorem abs_gcd {a b a0 b0 : Int} (h : Int.gcd a b = Int.gcd a0 b0) (hb : b = 0) : (if a < 0 then -a else a) = (Int.gcd a0 b0 : Int) := by
  rw [← h, hb, Int.gcd_zero]
  split <;> omega
end Fr
end L2

set_option Elab.async false
set_option linter.all false
set_option maxRecDepth 100000
set_option maxHeartbeats 4000000
namespace L2
open PySem PySem.Spec PyProof.Rows
/-! ### the one form of a wall's numbers -/
namespace Wl
open Builtin.Int (intBits)
def gcdL (rs : List Int) : Nat := rs.foldl (fun (g : Nat) n => Int.gcd (g : Int) n) 0
theorem fold_dvd : ∀ (rs : List Int) (g0 : Nat), (((rs.foldl (fun (g : Nat) n => Int.gcd (g : Int) n) g0 : Nat) : Int) ∣ (g0 : Int)) ∧ ∀ n ∈ rs, ((rs.foldl (fun (g : Nat) n => Int.gcd (g : Int) n) g0 : Nat) : Int) ∣ n
  | [], g0 => ⟨Int.dvd_refl _, fun n h => by simp at h⟩
  | m :: r, g0 => by
    obtain ⟨h1, h2⟩ := fold_dvd r (Int.gcd (g0 : Int) m)
    rw [List.foldl_cons]
    refine ⟨Int.dvd_trans h1 (Int.gcd_dvd_left _ _), fun n hn => ?_⟩
    rcases List.mem_cons.mp hn with rfl | hn
    · exact Int.dvd_trans h1 (Int.gcd_dvd_right _ _)
    · exact h2 n hn
theorem gcdL_dvd {rs : List Int} {n : Int} (h : n ∈ rs) : (gcdL rs : Int) ∣ n := (fold_dvd rs 0).2 n h
theorem gcdL_pos {rs : List Int} (h : ∃ n ∈ rs, n ≠ 0) : 0 < gcdL rs := by
  obtain ⟨n, hn, n0⟩ := h
  have d := gcdL_dvd hn
  rcases Nat.eq_zero_or_pos (gcdL rs) with z | z
  · rw [z] at d
    exact absurd (Int.zero_dvd.mp d) n0
  · exact z
theorem gcdL_snoc (rs : List Int) (n : Int) : gcdL (rs ++ [n]) = Int.gcd (gcdL rs : Int) n := by
  unfold gcdL
  rw [List.foldl_append]; rfl
def leadL : List Int → Int
  | [] => 0
  | n :: r => if n = 0 then leadL r else n
theorem leadL_snoc : ∀ (rs : List Int) (n : Int), leadL (rs ++ [n]) = if leadL rs = 0 then n else leadL rs
  | [], n => by
    show (if n = 0 then (0 : Int) else n) = if (0 : Int) = 0 then n else 0
    rw [if_pos rfl]
    split
    · rename_i h; exact h.symm
    · rfl
  | m :: r, n => by
    show (if m = 0 then leadL (r ++ [n]) else m) = if (if m = 0 then leadL r else m) = 0 then n else (if m = 0 then leadL r else m)
    by_cases h : m = 0
    · rw [if_pos h, if_pos h]; exact leadL_snoc r n
    · rw [if_neg h, if_neg h, if_neg h]
theorem leadL_ne {rs : List Int} (h : ∃ n ∈ rs, n ≠ 0) : leadL rs ≠ 0 := by
  induction rs with
  | nil => obtain ⟨n, hn, _⟩ := h; simp at hn
  | cons m r ih =>
    show (if m = 0 then leadL r else m) ≠ 0
    by_cases hm : m = 0
    · rw [if_pos hm]
      obtain ⟨n, hn, n0⟩ := h
      rcases List.mem_cons.mp hn with rfl | hn
      · exact absurd hm n0
      · exact ih ⟨n, hn, n0⟩
    · rw [if_neg hm]; exact hm
/-- what is divided by, with its sign -/
def byL (rs : List Int) : Int := if leadL rs < 0 then -(gcdL rs : Int) else (gcdL rs : Int)
def plainL (rs : List Int) : List Int := rs.map fun n => n.fdiv (byL rs)
theorem byL_ne {rs : List Int} (h : ∃ n ∈ rs, n ≠ 0) : byL rs ≠ 0 := by
  have := gcdL_pos h
  unfold byL
  split <;> omega
theorem byL_dvd {rs : List Int} {n : Int} (h : n ∈ rs) : byL rs ∣ n := by
  unfold byL
  split
  · exact Int.neg_dvd.mpr (gcdL_dvd h)
  · exact gcdL_dvd h
theorem fdiv_mul {n s : Int} (h : s ∣ n) : n.fdiv s * s = n := Int.fdiv_mul_cancel h
theorem fdiv_le {n s : Int} (h : s ∣ n) (s0 : s ≠ 0) : (n.fdiv s).natAbs ≤ n.natAbs := by
  have e := congrArg Int.natAbs (fdiv_mul h)
  rw [Int.natAbs_mul] at e
  have : 0 < s.natAbs := by omega
  rw [← e]
  exact Nat.le_mul_of_pos_right _ this
theorem byL_bits {rs : List Int} {k : Nat} (h : ∃ n ∈ rs, n ≠ 0) (hb : ∀ n ∈ rs, intBits n ≤ k) : intBits (byL rs) ≤ k := by
  obtain ⟨n, hn, n0⟩ := h
  refine intBits_le_of_natAbs (y := n) ?_ (hb n hn)
  obtain ⟨m, e⟩ := byL_dvd hn
  have m0 : m ≠ 0 := fun z => n0 (by rw [e, z, Int.mul_zero])
  have e' := congrArg Int.natAbs e
  rw [Int.natAbs_mul] at e'
  rw [e']
  exact Nat.le_mul_of_pos_right _ (by omega)
end Wl
end L2

set_option Elab.async false
set_option linter.all false
set_option maxRecDepth 100000
set_option maxHeartbeats 4000000
namespace L2
open PySem PySem.Spec PyProof.Rows
/-! ### sums over a wall and a point -/
namespace Sd
open Builtin.Int (intBits)
open Fr
end Sd
theorem cut_last {xs : List V} {v : V} : cutV (xs ++ [v]) none (some (-1)) = xs := by
  have e : HT.sIx (xs ++ [v]).length (xs ++ [v]).length (some (-1)) = xs.length := by
    simp only [HT.sIx, List.length_append, List.length_singleton]
    split <;> omega
  unfold cutV
  rw [HT.sIx_none, e, List.drop_zero, Nat.sub_zero]
  simp
theorem cut_whole {xs : List V} {v : V} : ¬ (HT.sIx (xs ++ [v]).length 0 none = 0 ∧ HT.sIx (xs ++ [v]).length (xs ++ [v]).length (some (-1)) = (xs ++ [v]).length) := by
  rintro ⟨_, h⟩
  have e : HT.sIx (xs ++ [v]).length (xs ++ [v]).length (some (-1)) = xs.length := by
    simp only [HT.sIx, List.length_append, List.length_singleton]
    split <;> omega
  rw [e] at h
  simp at h
end L2

set_option Elab.async false
set_option linter.all false
set_option maxRecDepth 100000
set_option maxHeartbeats 4000000
namespace L2
open PySem PySem.Spec PyProof.Rows
/-! ### rows of whole numbers, each a tuple -/
open Builtin.Int (intBits)
def TsA (H : Hp) (as : List Addr) (ts : List (List Int)) : Prop := as.length = ts.length ∧ ∀ (i : Nat) (a : Addr) (t : List Int), as[i]? = some a → ts[i]? = some t → H a = some (.tup (t.map V.int))
theorem TsA.same {H H' : Hp} {as : List Addr} {ts : List (List Int)} (g : Same H H') (h : TsA H as ts) : TsA H' as ts := ⟨h.1, fun i a t e1 e2 => g _ _ (h.2 i a t e1 e2)⟩
theorem TsA.nil {H : Hp} : TsA H [] [] := ⟨rfl, fun i a t e => by simp at e⟩
theorem TsA.snoc {H : Hp} {as : List Addr} {ts : List (List Int)} {r : Addr} {t : List Int} (h : TsA H as ts) (e : H r = some (.tup (t.map V.int))) : TsA H (as ++ [r]) (ts ++ [t]) := by
  refine ⟨by simp [h.1], fun i a p e1 e2 => ?_⟩
  by_cases hi : i < as.length
  · rw [List.getElem?_append_left hi] at e1
    rw [List.getElem?_append_left (by rw [← h.1]; exact hi)] at e2
    exact h.2 i a p e1 e2
  · rw [List.getElem?_append_right (by omega)] at e1
    rw [List.getElem?_append_right (by rw [← h.1]; omega), ← h.1] at e2
    have hz : i - as.length = 0 := by
      have := (List.getElem?_eq_some_iff.mp e1).1
      simp at this
      omega
    rw [hz] at e1 e2
    cases e1; cases e2
    exact e
def dtT (t : List Int) : Dt := .t (t.map Dt.i)
theorem TsA.isDs {K : PySem.W.Frag} {H : Hp} : ∀ {as : List Addr} {ts : List (List Int)}, TsA H as ts → IsDs K H (as.map V.ref) (ts.map dtT)
  | [], [], _ => .nil
  | a :: r, t :: q, h => .cons (.t (SqT.of (h.2 0 a t rfl rfl)) (isD_ints t)) (TsA.isDs ⟨by simpa using h.1, fun i b u e1 e2 => h.2 (i + 1) b u (by simpa using e1) (by simpa using e2)⟩)
  | [], _ :: _, h => by have := h.1; simp at this
  | _ :: _, [], h => by have := h.1; simp at this
theorem eqb_t (a b : List Int) : Dt.eqb (dtT a) (dtT b) = decide (a = b) := eqs_ints a b
theorem ok_t (a b : List Int) : Dt.ok 9 (dtT a) (dtT b) = true := oks_ints 8 a b
theorem ok_ts {ts : List (List Int)} {b : List Int} : ∀ d ∈ ts.map dtT, Dt.ok 9 d (dtT b) = true := fun d hd => by
  obtain ⟨t, _, rfl⟩ := List.mem_map.mp hd
  exact ok_t t b
theorem any_t (ts : List (List Int)) (b : List Int) : ((ts.map dtT).any fun d => Dt.eqb d (dtT b)) = decide (b ∈ ts) := by
  rw [Bool.eq_iff_iff, List.any_eq_true, decide_eq_true_eq]
  constructor
  · rintro ⟨d, hd, h⟩
    obtain ⟨t, ht, rfl⟩ := List.mem_map.mp hd
    rw [eqb_t, decide_eq_true_eq] at h
    rw [← h]; exact ht
  · intro h
    exact ⟨dtT b, List.mem_map_of_mem h, by rw [eqb_t]; simp⟩
theorem isD_t {K : PySem.W.Frag} {H : Hp} {a : Addr} {t : List Int} (h : H a = some (.tup (t.map V.int))) : IsD K H (.ref a) (dtT t) := .t (SqT.of h) (isD_ints t)
theorem oks_ts : ∀ (ts us : List (List Int)), Dt.oks 8 (ts.map dtT) (us.map dtT) = true
  | [], _ => by simp [Dt.oks]
  | _ :: _, [] => by simp [Dt.oks]
  | t :: r, u :: q => by
    simp only [List.map_cons, Dt.oks, Bool.and_eq_true]
    exact ⟨oks_ints 7 t u, oks_ts r q⟩
theorem eqs_ts : ∀ (ts us : List (List Int)), Dt.eqs (ts.map dtT) (us.map dtT) = decide (ts = us)
  | [], [] => by simp [Dt.eqs]
  | [], _ :: _ => by simp [Dt.eqs]
  | _ :: _, [] => by simp [Dt.eqs]
  | t :: r, u :: q => by
    simp only [List.map_cons, Dt.eqs, eqb_t, eqs_ts r q]
    by_cases h1 : t = u <;> by_cases h2 : r = q <;> simp [h1, h2]
theorem isD_ts {K : PySem.W.Frag} {H : Hp} {l : Addr} {as : List Addr} {ts : List (List Int)} (h : H l = some (.lst (as.map V.ref))) (t : TsA H as ts) : IsD K H (.ref l) (.l (ts.map dtT)) := .l (SqL.of h) t.isDs
/-! ### a wall in its one form, and the first place that is not so -/
namespace Wl
end Wl
end L2

set_option Elab.async false
set_option linter.all false
set_option maxRecDepth 100000
set_option maxHeartbeats 1000000
namespace L2
/-! ### rows of whole numbers: what they span, and how many ways that is wide -/
namespace Rk
/-! ### rows in steps -/
/-! ### the count by clearing columns, of lists -/
end Rk
end L2

set_option Elab.async false
set_option linter.all false
set_option maxRecDepth 100000
set_option maxHeartbeats 1000000
namespace L2
namespace Rk
/-! ### rows in reduced steps: each with the place of its lead -/
/-! ### sums over a list -/
end Rk
end L2

set_option Elab.async false
set_option linter.all false
set_option maxRecDepth 100000
set_option maxHeartbeats 1000000
namespace L2
open PySem PySem.Spec PyProof.Rows
open Builtin.Int (intBits)
namespace Rk
end Rk
end L2

set_option Elab.async false
set_option linter.all false
set_option maxRecDepth 100000
set_option maxHeartbeats 1000000
namespace L2
open PySem PySem.Spec PyProof.Rows
open Builtin.Int (intBits)
namespace Rk
open Wl
end Rk
end L2

set_option Elab.async false
set_option linter.all false
set_option maxRecDepth 100000
set_option maxHeartbeats 1000000
namespace L2
namespace Rk
open Wl
end Rk
end L2

set_option Elab.async false
set_option linter.all false
set_option maxRecDepth 100000
set_option maxHeartbeats 1000000
namespace L2
namespace Rk
open Wl
end Rk
end L2

set_option Elab.async false
set_option linter.all false
set_option maxRecDepth 100000
set_option maxHeartbeats 1000000
namespace L2
namespace Rk
open Wl
end Rk
end L2

set_option Elab.async false
set_option linter.all false
set_option maxRecDepth 100000
set_option maxHeartbeats 1000000
namespace L2
open PySem PySem.Spec PyProof.Rows
open Builtin.Int (intBits)
namespace Rk
open Wl
end Rk
end L2

set_option Elab.async false
set_option linter.all false
set_option maxRecDepth 100000
set_option maxHeartbeats 1000000
namespace L2
open PySem PySem.Spec PyProof.Rows
open Builtin.Int (intBits)
namespace Rk
open Wl
end Rk
end L2

set_option Elab.async false
set_option linter.all false
set_option maxRecDepth 100000
set_option maxHeartbeats 1000000
namespace L2
open PySem PySem.Spec PyProof.Rows
open Builtin.Int (intBits)
/-! ### rows that are lists of whole numbers -/
namespace Rk
end Rk
end L2

set_option Elab.async false
set_option linter.all false
set_option maxRecDepth 100000
set_option maxHeartbeats 1000000
namespace L2
namespace Pt
open Rk
/-! ### by rests -/
end Pt
end L2

set_option Elab.async false
set_option linter.all false
set_option maxRecDepth 100000
set_option maxHeartbeats 1000000
namespace L2
namespace Dm
open Rk
/-! ### rising lists of places -/
/-! ### determinants -/
/-! ### the least number that all divide -/
end Dm
end L2

set_option Elab.async false
set_option linter.all false
set_option maxRecDepth 100000
set_option maxHeartbeats 1000000
namespace L2
namespace Dm
open Rk Wl
/-! ### determinants of pieces: rows backwards, columns in another order, signs turned -/
end Dm
end L2

set_option Elab.async false
set_option linter.all false
set_option maxRecDepth 100000
set_option maxHeartbeats 1000000
namespace L2
namespace Pt
open Rk Wl
/-! ### counting points by rests -/
/-! ### pushed -/
/-! ### one wall taken out -/
/-! ### points drawn the other way about -/
end Pt
end L2

set_option Elab.async false
set_option linter.all false
set_option maxRecDepth 100000
set_option maxHeartbeats 1000000
namespace L2
namespace Pt
open Rk Wl Dm
/-! ### two ways exchanged -/
end Pt
end L2

set_option Elab.async false
set_option linter.all false
set_option maxRecDepth 100000
set_option maxHeartbeats 1000000
namespace L2
open PySem PySem.Spec PyProof.Rows
/-! ### xs.index(t) of tuples of whole numbers -/
section
variable {X : Cx}
def rIndexT (K : PySem.W.Frag) : V → List V → Hp → VK → Prop := fun x vs H Q => ∃ (l b : Addr) (as : List Addr) (ts : List (List Int)) (t : List Int) (j : Nat), x = .ref l ∧ vs = [.ref b] ∧ H l = some (.lst (as.map V.ref)) ∧ TsA H as ts ∧ H b = some (.tup (t.map V.int)) ∧ ts[j]? = some t ∧ (∀ m, m < j → ts[m]? ≠ some t) ∧ ts.length ≤ 1000 ∧ Q (.int ((j : Nat) : Int)) H
def eqTup (H : Hp) (t : List Int) (y : Value) : Bool := match y with
  | .ref a => match H a with
    | some (.tup xs) => decide (xs = t.map V.int)
    | _ => false
  | _ => false
theorem mt_indexT {K : PySem.W.Frag} (hK : X.K = K) (hu : X.A.units + 64 < cLine) : MtM X "list.index" (rIndexT K) := by
  subst hK
  intro pins s σ H x vs v us Q I rx rv h
  obtain ⟨l, b, as, ts, t, j, rfl, rfl, hH, hts, hb, hj, hno, h1000, q⟩ := h
  cases rx
  obtain ⟨u, rfl, ru⟩ := rv.one
  cases ru
  obtain ⟨z, its, n, r, hl, el⟩ := I.lstM hH
  have P := told I 9 X.A.in1 (by show X.A.units + 1 + 9 < cLine; omega)
  have hlen : its.length = ts.length := by rw [← hl, List.length_map, hts.1]
  have at_ : ∀ m (hm : m < its.length), ∃ (a : Addr) (t' : List Int), its[m] = .ref a ∧ as[m]? = some a ∧ ts[m]? = some t' ∧ H a = some (.tup (t'.map V.int)) := fun m hm => by
    have hm2 : m < as.length := by rw [hts.1]; omega
    have e1 : (as.map V.ref)[m]? = some (.ref as[m]) := by rw [List.getElem?_map, List.getElem?_eq_getElem hm2]; rfl
    obtain ⟨w', hw, rw'⟩ := r.get e1
    have ew : its[m] = w' := by
      have := List.getElem?_eq_getElem hm
      have hw2 : its[m]? = some w' := by simpa using hw
      rw [this] at hw2
      exact Option.some.inj hw2
    have hm3 : m < ts.length := by omega
    exact ⟨as[m], ts[m], by rw [ew]; exact rw', List.getElem?_eq_getElem hm2, List.getElem?_eq_getElem hm3, hts.2 m _ _ (List.getElem?_eq_getElem hm2) (List.getElem?_eq_getElem hm3)⟩
  have ev : ∀ m (hm : m < its.length) (t' : List Int), ts[m]? = some t' → eqTup H t its[m] = decide (t' = t) := fun m hm t' e => by
    obtain ⟨a, t2, h1, h2, h3, h4⟩ := at_ m hm
    rw [h3] at e
    cases e
    rw [h1]
    unfold eqTup
    dsimp only
    rw [h4]
    dsimp only
    rw [decide_eq_decide]
    exact ⟨fun z => List.map_inj_right (fun x y h => by injection h) |>.mp z, fun z => by rw [z]⟩
  have hjl : j < its.length := by rw [hlen]; exact (List.getElem?_eq_some_iff.mp hj).1
  refine call_meets F.slot_list_index ⟨_, el, rfl⟩ F.entry_list_index (F.args_list_index_2 _ _) (SeqAt.list_indexAt l its.toArray n none #[] (.ref b) (eqTup H t) j (by simpa using hjl) (by omega) (by
    have := ev j hjl t hj
    simpa using this) (fun m hm hmj => by
    have hm2 : m < its.length := by simpa using hm
    have e2 : ts[m]? = some ts[m] := List.getElem?_eq_getElem (by omega)
    have := ev m hm2 _ e2
    rw [decide_eq_false (fun z => hno m hmj (by rw [e2, z]))] at this
    simpa using this)) ⟨el, fun y hy => ?_, ?_⟩
  · obtain ⟨m, hm, rfl⟩ := List.mem_iff_getElem.mp (show y ∈ its by simpa using hy)
    obtain ⟨a, t2, h1, h2, h3, h4⟩ := at_ m hm
    rw [ev m hm t2 h3, h1, ← eqb_t]
    exact P _ _ _ _ _ _ (isD_t h4) (isD_t hb) rfl rfl (ok_t _ _)
  · exact ⟨.int ((j : Nat) : Int), H, I.tok _, ⟨s.toks, rfl⟩, q⟩
end
/-! ### != of two lists that are alike: texts, and pairs of a text and a number -/
inductive Sd where
  | s (x : Str)
  | p (x : Str) (n : Int)
def IsSd (K : PySem.W.Frag) (H : Hp) (v : V) : Sd → Prop
  | .s x => v = .str x
  | .p x n => ∃ a, v = .ref a ∧ SqT K H a [.str x, .int n]
inductive IsSds (K : PySem.W.Frag) (H : Hp) : List V → List Sd → Prop
  | nil : IsSds K H [] []
  | cons {x : V} {d : Sd} {xs : List V} {ds : List Sd} : IsSd K H x d → IsSds K H xs ds → IsSds K H (x :: xs) (d :: ds)
section
variable {X : Cx} {pins : List (Addr × Obj)} {σ : St} {H : Hp} {s : Shared}
def rNeSame (K : PySem.W.Frag) : R2 := fun x y H Q => ∃ (a b : Addr) (xs ys : List V) (ds : List Sd), x = .ref a ∧ y = .ref b ∧ SqL K H a xs ∧ SqL K H b ys ∧ IsSds K H xs ds ∧ IsSds K H ys ds ∧ Q (.bl false) H
theorem eq_sd (I : Inv X pins σ H s) {A : Around} (hu : A.units + 2 < cLine) {x y : V} {d : Sd} {u v : Value} (h1 : IsSd X.K H x d) (h2 : IsSd X.K H y d) (r1 : RelV x u) (r2 : RelV y v) : SeqAt.EqAt A s u v true := by
  cases d with
  | s t =>
    cases (show x = .str t from h1)
    cases (show y = .str t from h2)
    obtain ⟨t1, rfl⟩ := r1
    obtain ⟨t2, rfl⟩ := r2
    have := (SeqRoads2.EqGives.str t t t1 t2).at A s
    rw [show (t.cps.toList == t.cps.toList) = true from beq_self_eq_true _] at this
    exact this
  | p t n =>
    obtain ⟨a, rfl, q1⟩ := h1
    obtain ⟨b, rfl, q2⟩ := h2
    cases (show u = Value.ref a from r1)
    cases (show v = Value.ref b from r2)
    by_cases hab : a = b
    · subst hab
      exact SeqAt.EqAt.same _
    · obtain ⟨its, rv, p, hz⟩ := I.tuple q1
      obtain ⟨its2, rv2, p2, hz2⟩ := I.tuple q2
      obtain ⟨w1, w2, rfl, s1, s2⟩ := vals2 rv
      obtain ⟨w3, w4, rfl, s3, s4⟩ := vals2 rv2
      obtain ⟨t1, rfl⟩ := s1
      obtain ⟨t2, rfl⟩ := s2
      obtain ⟨t3, rfl⟩ := s3
      obtain ⟨t4, rfl⟩ := s4
      refine SeqAt.EqAt.of_refs hab ?_
      have := SeqAt.RcAt.tuples (A := A) (s := s) (e := fun _ => true) (show s.heap.IsTuple a _ from p) (show s.heap.IsTuple b _ from p2) (by omega) (fun j h1 h2 => by
        have hj : j < 2 := by simpa using h1
        rcases (by omega : j = 0 ∨ j = 1) with rfl | rfl
        · have := (SeqRoads2.EqGives.str t t t1 t3).at A.in1 s
          rw [show (t.cps.toList == t.cps.toList) = true from beq_self_eq_true _] at this
          simpa using this
        · have := SeqAt.EqAt.int_int (A := A.in1) (s := s) n t2 n t4
          rw [show (n == n) = true from beq_self_eq_true _] at this
          simpa using this)
      have e2 : ((List.range 2).all fun _ => true) = true := rfl
      simp only [List.size_toArray, List.length_cons, List.length_nil] at this
      simpa [e2] using this
theorem sds_get {K : PySem.W.Frag} : ∀ {xs : List V} {ds : List Sd}, IsSds K H xs ds → ∀ {i : Nat} {x : V}, xs[i]? = some x → ∃ d, ds[i]? = some d ∧ IsSd K H x d
  | _, _, .nil, i, x, e => by simp at e
  | _, _, .cons h t, 0, x, e => by cases e; exact ⟨_, rfl, h⟩
  | _, _, .cons h t, i + 1, x, e => sds_get t (by simpa using e)
theorem sds_len {K : PySem.W.Frag} : ∀ {xs : List V} {ds : List Sd}, IsSds K H xs ds → xs.length = ds.length
  | _, _, .nil => rfl
  | _, _, .cons _ t => by rw [List.length_cons, List.length_cons, sds_len t]
theorem op_neSame {K : PySem.W.Frag} (hK : X.K = K) (hu : X.A.units + 64 < cLine) : OpR X (compareOp .NotEq) (rNeSame K) := by
  subst hK
  intro pins s σ H x y v u Q I r1 r2 h
  obtain ⟨a, b, xs, ys, ds, rfl, rfl, q1, q2, d1, d2, q⟩ := h
  cases (show v = Value.ref a from r1)
  cases (show u = Value.ref b from r2)
  obtain ⟨its, rv, p, hz⟩ := I.list q1
  obtain ⟨its2, rv2, p2, hz2⟩ := I.list q2
  have l1 := rv.length
  have l2 := rv2.length
  have e1 := sds_len d1
  have e2 := sds_len d2
  have sz : its.toArray.size = its2.toArray.size := by rw [List.size_toArray, List.size_toArray]; omega
  have t2 := SeqAt.RcNeAt.lists (A := X.A) (s := s) (e := fun _ => true) p.isList p2.isList sz (by omega) (fun j h1 h2 => by
    have hj : j < its.length := by simpa using h1
    have hj2 : j < its2.length := by simpa using h2
    have x1 : xs[j]? = some (xs[j]'(by omega)) := List.getElem?_eq_getElem (by omega)
    have x2 : ys[j]? = some (ys[j]'(by omega)) := List.getElem?_eq_getElem (by omega)
    obtain ⟨w1, hw1, rw1⟩ := rv.get x1
    obtain ⟨w2, hw2, rw2⟩ := rv2.get x2
    have f1 : its[j] = w1 := by
      have : its[j]? = some w1 := by simpa using hw1
      rw [List.getElem?_eq_getElem hj] at this
      exact Option.some.inj this
    have f2 : its2[j] = w2 := by
      have : its2[j]? = some w2 := by simpa using hw2
      rw [List.getElem?_eq_getElem hj2] at this
      exact Option.some.inj this
    obtain ⟨da, hda, ia⟩ := sds_get d1 x1
    obtain ⟨db, hdb, ib⟩ := sds_get d2 x2
    rw [hda] at hdb
    cases hdb
    have := eq_sd I (A := X.A.in1) (by show X.A.units + 1 + 2 < cLine; omega) ia ib rw1 rw2
    rw [← f1, ← f2] at this
    simpa using this)
  refine t2 _ _ _ _ ?_
  refine ⟨.bl false, H, I, ?_, q⟩
  show Value.bool _ = Value.bool false
  congr 1
  rw [Bool.not_eq_false', List.all_eq_true]
  intro _ _; rfl
/-- == with the empty list -/
def rEqNil (K : PySem.W.Frag) : R2 := fun x y H Q => ∃ (a b : Addr) (xs : List V), x = .ref a ∧ y = .ref b ∧ SqL K H a xs ∧ SqL K H b [] ∧ Q (.bl xs.isEmpty) H
theorem op_eqNil {K : PySem.W.Frag} (hK : X.K = K) (hu : X.A.units + 64 < cLine) : OpR X (compareOp .Eq) (rEqNil K) := by
  subst hK
  intro pins s σ H x y v u Q I r1 r2 h
  obtain ⟨a, b, xs, rfl, rfl, q1, q2, q⟩ := h
  cases (show v = Value.ref a from r1)
  cases (show u = Value.ref b from r2)
  obtain ⟨its, rv, p, hz⟩ := I.list q1
  obtain ⟨its2, rv2, p2, hz2⟩ := I.list q2
  have l1 := rv.length
  have l2 := rv2.length
  have e2 : its2 = [] := List.length_eq_zero_iff.mp (by rw [← l2]; rfl)
  subst e2
  cases xs with
  | nil =>
    have e1 : its = [] := List.length_eq_zero_iff.mp (by rw [← l1]; rfl)
    subst e1
    have t := SeqAt.RcAt.lists (A := X.A) (s := s) (e := fun _ => true) p.isList p2.isList rfl (by omega) (fun j h1 h2 => by simp at h1)
    exact t _ _ _ _ ⟨.bl true, H, I, rfl, q⟩
  | cons x0 xs =>
    have sz : (its.toArray.size != ([] : List Value).toArray.size) = true := by
      rw [List.size_toArray, ← l1]
      simp
    have t := SeqAt.RcAt.lists_lengths (A := X.A) (s := s) p.isList p2.isList sz (by omega)
    exact t _ _ _ _ ⟨.bl false, H, I, rfl, q⟩
end
end L2

set_option Elab.async false
set_option linter.all false
set_option maxRecDepth 100000
set_option maxHeartbeats 4000000
namespace L2
open PySem PySem.Spec PyProof.Rows
def top (i : Nat) : Stmt := PySem.Challenge.pw_wallspace_k81_whole_hall.main.body.getD i (.Pass ⟨0, 0, 0, 0⟩)
structure Txt (mg : Str → Option Value) : Prop where
  abs : mg "abs" = none
  len : mg "len" = none
  isinstance : mg "isinstance" = none
  int : mg "int" = none
  bool : mg "bool" = none
  tuple : mg "tuple" = none
  list : mg "list" = none
  any : mg "any" = none
  min : mg "min" = none
  max : mg "max" = none
  range : mg "range" = none
  enumerate : mg "enumerate" = none
  ValueError : mg "ValueError" = none
/-! ### NoWall -/
section
open PySem.W
variable {P : Program} {w : World} {K : PySem.W.Frag} {mg : Str → Option Value} {base : Heap} {f : Addr} {fd : FuncData}
structure Nw (K : PySem.W.Frag) (mg : Str → Option Value) (W NN F L P NW fI : Addr) : Prop where
  mWallError : mg "WallError" = some (.ref W)
  mNoNumber : mg "NoNumber" = some (.ref NN)
  mNoFace : mg "NoFace" = some (.ref F)
  mNoLand : mg "NoLand" = some (.ref L)
  mNoPlace : mg "NoPlace" = some (.ref P)
  mNoWall : mg "NoWall" = some (.ref NW)
  mi : ExcMi K NW W fI
  st : ExcSet K NW "place"
  fl : ExcF K NW "place"
  kp : keepIn K (.ref NW) = true
  ex : exmOne K (.ref NW) (.ref W) = some true
  no : kitAny K (.ref NW) [.ref F, .ref L, .ref NN, .ref P] = some false
  se : kitOne K (.ref NW) (.ref NW) = some true
  ve : kitOne K (.ref NW) (.type "ValueError") = some true
abbrev s_init : Stmt := inClass (top 7) 0
theorem sc_init : FnScope ["self", "place"] ["self", "place"] (defScope s_init) := ⟨rfl, rfl, rfl, by decide +kernel, rfl, by decide +kernel, by decide +kernel⟩
def spInit (C : Addr) : Sp := fun vs H Q _ => ∃ (a : Addr) (k : Int), vs = [.ref a, .int k] ∧ k.natAbs.log2 < 1920 ∧ H a = some (XO C none a) ∧ ∀ d, H d = none → Q .non (upd (upd H d (.xd [("place", .int k)])) a (XO C (some d) a))
theorem ok_init {W NN F0 L0 P0 NW fI : Addr} (nw : Nw K mg W NN F0 L0 P0 NW fI) (F : Fun K "__init__" "NoWall.__init__" s_init f fd) : FnOk P w K mg base CX0 1 f fd ["self", "place"] (spInit NW) := by
  refine F.ok sc_init (fun vs H Q E h => ?_) (fun cdv A outer s H vs Q E hr h => ?_)
  · obtain ⟨_, _, rfl, _⟩ := h; rfl
  obtain ⟨a, k, rfl, hk, hx, q⟩ := h
  refine ⟨_, (pss_cons (ps_expr (pe_xinit nw.mi rfl nw.mWallError (pa_cons (pv 0) (pa_cons (pv 1) pa_nil)))) (pss_one (ps_xset nw.st (pv 0) (pv 1)))), ?_⟩
  refine ⟨_, rfl, _, rfl, a, _, rfl, hx, ?_⟩
  exact ⟨_, rfl, _, rfl, a, rfl, hx, fun d hd => q d hd⟩
end
/-! ### the program's own: divisor, ratio, plus, minus, times -/
section
open Fr
open Builtin.Int (intBits)
variable {P : Program} {w : World} {K : PySem.W.Frag} {mg : Str → Option Value} {base : Heap} {f : Addr} {fd : FuncData}
abbrev s_divisor : Stmt := top 9
theorem sc_divisor : FnScope ["one", "other", "rest"] ["one", "other"] (defScope s_divisor) := ⟨rfl, rfl, rfl, by decide +kernel, rfl, by decide +kernel, by decide +kernel⟩
def spDivisor : Sp := fun vs H Q _ => ∃ a b : Int, vs = [.int a, .int b] ∧ Q (.int (Int.gcd a b : Int)) H
theorem ok_divisor (T : Txt mg) (F : Fun K "divisor" "divisor" s_divisor f fd) : FnOk P w K mg base CX0 1 f fd ["one", "other"] spDivisor := by
  refine F.ok sc_divisor (fun vs H Q E h => ?_) (fun cdv A outer s H vs Q E hr h => ?_)
  · obtain ⟨a, b, rfl, _⟩ := h; rfl
  obtain ⟨a, b, rfl, q⟩ := h
  refine ⟨_, (pss_cons (ps_while PassesOwn.never (pt_cmpR op_ne (pv 1) pe_int (nomark _)) (pss_cons (ps_set (i := 2) sc_divisor.nd rfl (Or.inl rfl) (pe_op op_modN (pv 0) (pv 1)))
    (pss_cons (ps_set (i := 0) sc_divisor.nd rfl (Or.inl rfl) (pv 1))
    (pss_one (ps_set (i := 1) sc_divisor.nd rfl (Or.inl rfl) (pv 2))))))
    (pss_one (ps_ret (pe_callB call_abs rfl T.abs boot_abs (pa_cons (pv 0) pa_nil))))), ?_⟩
  refine while_by (fun σ H' => H' = H ∧ ∃ x y r, σ = [some (.int x), some (.int y), r] ∧ Int.gcd x y = Int.gcd a b) (fun σ _ => match σ with | [_, some (.int y), _] => y.natAbs | _ => 0) ⟨rfl, a, b, none, rfl, rfl⟩ ?_ ?_
  · rintro σ H' ⟨rfl, x, y, r, rfl, hg⟩
    refine ⟨_, rfl, rfl, _, rfl, ?_⟩
    by_cases hy : y = 0
    · subst hy
      refine iteF ?_
      refine ⟨_, rfl, _, rfl, ?_⟩
      rw [abs_gcd hg rfl]
      exact q
    · rw [show (!decide (V.int y = V.int 0)) = true from by simp [hy]]
      refine iteT ?_
      refine ⟨_, rfl, _, rfl, _, _, rfl, rfl, hy, ?_⟩
      refine ⟨_, rfl, ?_⟩
      refine ⟨_, rfl, ?_⟩
      exact ⟨⟨rfl, y, x.fmod y, _, rfl, turn hg⟩, less hy⟩
  · rintro σ H' Q1 Q2 hQ ⟨v, e, e2, k, ek, qk⟩
    exact ⟨v, e, e2, k, ek, hQ _ _ qk⟩
end
/-! ### the law's own: cells, whole numbers, its divisor, lowest terms -/
section
open Fr
open Builtin.Int (intBits)
variable {P : Program} {w : World} {K : PySem.W.Frag} {mg : Str → Option Value} {base : Heap} {f : Addr} {fd : FuncData}
abbrev s_l_cell_at : Stmt := top 16
theorem sc_l_cell_at : FnScope ["_law_script", "_law_k"] ["_law_script", "_law_k"] (defScope s_l_cell_at) := ⟨rfl, rfl, rfl, by decide +kernel, rfl, by decide +kernel, by decide +kernel⟩
def spCell (K : PySem.W.Frag) : Sp := fun vs H Q _ => ∃ (a : Addr) (ns : List Int) (k : Int), vs = [.ref a, .int k] ∧ SqL K H a (ns.map V.int) ∧ 0 ≤ k ∧ Q (.int (ns.getD k.toNat 0)) H
theorem ok_l_cell_at (T : Txt mg) (F : Fun K "_law_cell_at" "_law_cell_at" s_l_cell_at f fd) : FnOk P w K mg base CX0 1 f fd ["_law_script", "_law_k"] (spCell K) := by
  refine F.ok sc_l_cell_at (fun vs H Q E h => ?_) (fun cdv A outer s H vs Q E hr h => ?_)
  · obtain ⟨_, _, _, rfl, _⟩ := h; rfl
  obtain ⟨a, ns, k, rfl, hS, h0, q⟩ := h
  refine ⟨_, (pss_cons (ps_if (pt_cmpR op_lt (pv 1) (pe_callB (call_lenK (K := K) rfl) rfl T.len PySem.boot_len (pa_cons (pv 0) pa_nil)) (nomark _)) (pss_one (ps_ret (pe_ix (ix_listK (K := K) rfl) (pv 0) (pv 1) (fun _ _ => rfl)))) pss_nil)
    (pss_one (ps_ret pe_int))), ?_⟩
  have hl : (ns.map V.int).length = ns.length := List.length_map _
  refine ⟨_, rfl, _, rfl, a, _, rfl, .inl hS, _, _, rfl, rfl, _, rfl, ?_⟩
  refine ite2 (fun c => ?_) (fun c => ?_)
  · have c' : k < (((ns.map V.int).length : Nat) : Int) := of_decide_eq_true c
    rw [hl] at c'
    have hk : k.toNat < ns.length := by omega
    have hv : atI (ns.map V.int) k = some (.int (ns.getD k.toNat 0)) := by
      have ek : k = ((k.toNat : Nat) : Int) := by omega
      rw [ek]
      refine atI_nat ?_
      rw [List.getElem?_map, Int.toNat_natCast, List.getD_eq_getElem?_getD, List.getElem?_eq_getElem hk]
      rfl
    exact ⟨_, rfl, _, rfl, a, _, _, _, rfl, rfl, hS, hv, q⟩
  · have c' : ¬ k < (((ns.map V.int).length : Nat) : Int) := fun z => c (decide_eq_true z)
    rw [hl] at c'
    have e : ns.getD k.toNat 0 = 0 := by
      rw [List.getD_eq_getElem?_getD, List.getElem?_eq_none (by omega)]
      rfl
    rw [e] at q
    exact q
abbrev s_l_whole : Stmt := top 17
theorem sc_l_whole : FnScope ["_law_found"] ["_law_found"] (defScope s_l_whole) := ⟨rfl, rfl, rfl, by decide +kernel, rfl, by decide +kernel, by decide +kernel⟩
def spWhole : Sp := fun vs H Q _ => ∃ i : Int, vs = [.int i] ∧ Q (.bl true) H
theorem ok_l_whole (T : Txt mg) (F : Fun K "_law_whole" "_law_whole" s_l_whole f fd) : FnOk P w K mg base CX0 1 f fd ["_law_found"] spWhole := by
  refine F.ok sc_l_whole (fun vs H Q E h => ?_) (fun cdv A outer s H vs Q E hr h => ?_)
  · obtain ⟨_, rfl, _⟩ := h; rfl
  obtain ⟨i, rfl, q⟩ := h
  refine ⟨_, (pss_one (ps_ret (pe_and (pe_callB call_isinst rfl T.isinstance boot_isinstance (pa_cons (pv 0) (pa_cons (pe_bltn (v := .ty "int") rfl T.int boot_int rfl) pa_nil))) (pe_one (pe_not (pe_callB call_isinst rfl T.isinstance boot_isinstance (pa_cons (pv 0) (pa_cons (pe_bltn (v := .ty "bool") rfl T.bool boot_bool rfl) pa_nil)))))))), ?_⟩
  refine ⟨_, rfl, _, _, _, _, rfl, .int _, rfl, _, rfl, ?_⟩
  refine iteT ?_
  exact ⟨_, rfl, _, _, _, _, rfl, .int _, rfl, _, rfl, q⟩
end
section
open Fr
open Builtin.Int (intBits)
variable {P : Program} {w : World} {K : PySem.W.Frag} {mg : Str → Option Value} {base : Heap} {f : Addr} {fd : FuncData}
abbrev s_l_divisor : Stmt := top 20
theorem sc_l_divisor : FnScope ["_law_one", "_law_other"] ["_law_one", "_law_other"] (defScope s_l_divisor) := ⟨rfl, rfl, rfl, by decide +kernel, rfl, by decide +kernel, by decide +kernel⟩
theorem turnE {a0 b0 a b : Int} (h : Int.gcd a b = Int.gcd a0 b0) : Int.gcd b (a % b) = Int.gcd a0 b0 := by
  rw [Int.emod_def, Int.gcd_sub_mul_left_right, Int.gcd_comm b a]
  exact h
theorem gcd_abs (a b : Int) : Int.gcd (if a < 0 then -a else a) (if b < 0 then -b else b) = Int.gcd a b := by
  split <;> split <;> simp [Int.gcd_neg, Int.neg_gcd]
theorem ok_l_divisor (T : Txt mg) (F : Fun K "_law_divisor" "_law_divisor" s_l_divisor f fd) : FnOk P w K mg base CX0 1 f fd ["_law_one", "_law_other"] spDivisor := by
  refine F.ok sc_l_divisor (fun vs H Q E h => ?_) (fun cdv A outer s H vs Q E hr h => ?_)
  · obtain ⟨_, _, rfl, _⟩ := h; rfl
  obtain ⟨a, b, rfl, q⟩ := h
  refine ⟨_, (pss_cons (ps_set (i := 0) sc_l_divisor.nd rfl (Or.inl rfl) (pe_callB call_abs rfl T.abs boot_abs (pa_cons (pv 0) pa_nil)))
    (pss_cons (ps_set (i := 1) sc_l_divisor.nd rfl (Or.inl rfl) (pe_callB call_abs rfl T.abs boot_abs (pa_cons (pv 1) pa_nil)))
    (pss_cons (ps_while PassesOwn.never (pt_cmpR op_gt (pv 1) pe_int (nomark _)) (pss_one (ps_par (i := 0) (j := 1) rfl sc_l_divisor.nd rfl rfl (by decide) rfl rfl (pa_cons (pv 1) (pa_cons (pe_op op_modP (pv 0) (pv 1)) pa_nil)) (by rfl))))
    (pss_one (ps_ret (pv 0)))))), ?_⟩
  refine ⟨_, rfl, _, rfl, ?_⟩
  refine ⟨_, rfl, _, rfl, ?_⟩
  refine while_by (fun σ H' => H' = H ∧ ∃ x y, σ = [some (.int x), some (.int y)] ∧ 0 ≤ x ∧ 0 ≤ y ∧ Int.gcd x y = Int.gcd a b) (fun σ _ => match σ with | [_, some (.int y)] => y.natAbs | _ => 0)
    ⟨rfl, _, _, rfl, by split <;> omega, by split <;> omega, gcd_abs a b⟩ ?_ ?_
  · rintro σ H' ⟨rfl, x, y, rfl, hx, hy, hg⟩
    refine ⟨_, rfl, _, _, rfl, rfl, _, rfl, ?_⟩
    refine ite2 (fun c => ?_) (fun c => ?_)
    · have c' : 0 < y := of_decide_eq_true c
      refine ⟨_, rfl, _, rfl, _, rfl, _, _, rfl, rfl, c', _, _, rfl, ?_⟩
      have m0 := Int.emod_nonneg x (Int.ne_of_gt c')
      have m1 := Int.emod_lt_of_pos x c'
      refine ⟨⟨rfl, y, x % y, rfl, hy, m0, turnE hg⟩, ?_⟩
      show (x % y).natAbs < y.natAbs
      omega
    · have c' : ¬ 0 < y := fun z => c (decide_eq_true z)
      have y0 : y = 0 := by omega
      subst y0
      refine ⟨_, rfl, ?_⟩
      have e : x = (Int.gcd a b : Int) := by rw [← hg, Int.gcd_zero]; omega
      rw [← e] at q
      exact q
  · rintro σ H' Q1 Q2 hQ ⟨v, e, i, j, e2, e3, k, ek, qk⟩
    exact ⟨v, e, i, j, e2, e3, k, ek, hQ _ _ qk⟩
end
end L2

set_option Elab.async false
set_option linter.all false
set_option maxRecDepth 100000
set_option maxHeartbeats 4000000
namespace L2
open PySem PySem.Spec PyProof.Rows
section
open Fr Wl
open Builtin.Int (intBits)
variable {P : Program} {w : World} {K : PySem.W.Frag} {mg : Str → Option Value} {base : Heap} {f : Addr} {fd : FuncData}
theorem sl_last {K : PySem.W.Frag} {b : Bool} {H : Hp} {a : Addr} {xs : List V} {v : V} {Q : VK} (h : SqB b K H a (xs ++ [v])) (q : ∀ p H', Same H H' → SqA K H' p xs → Q (.ref p) H') : rSlA K (.ref a) none (some (-1)) H Q := by
  cases b with
  | true =>
    refine .inl ⟨a, _, rfl, h, fun p hp => ?_⟩
    rw [cut_last]
    exact q p _ (same_new hp _) (.inl (SqL.of upd_same))
  | false =>
    refine .inr ⟨a, _, rfl, h, cut_whole, fun p hp => ?_⟩
    rw [cut_last]
    exact q p _ (same_new hp _) (.inr (SqT.of upd_same))
theorem any_ints (rs : List Int) : (rs.map V.int).any trV = true ↔ ∃ n ∈ rs, n ≠ 0 := by
  rw [List.any_map, List.any_eq_true]
  constructor
  · rintro ⟨n, hn, h⟩
    exact ⟨n, hn, by simpa [trV] using h⟩
  · rintro ⟨n, hn, h⟩
    exact ⟨n, hn, by simpa [trV] using h⟩
theorem plain_ints (rs : List Int) : ∀ y ∈ rs.map V.int, PlV y := fun y hy => by
  obtain ⟨n, _, rfl⟩ := List.mem_map.mp hy
  trivial
theorem xmade {H H1 : Hp} {a d C : Addr} {fs : List (Str × V)} (g : Same H H1) (ha : H1 a = none) (hd : upd H1 a (XO C none a) d = none) :
    Same H (del (upd (upd (upd H1 a (XO C none a)) d (.xd fs)) a (XO C (some d) a)) a) ∧ del (upd (upd (upd H1 a (XO C none a)) d (.xd fs)) a (XO C (some d) a)) a d = some (.xd fs) := by
  have da : d ≠ a := fun z => by rw [z, upd_same] at hd; cases hd
  have hd1 : H1 d = none := by rw [upd_ne da] at hd; exact hd
  refine ⟨fun b o e => ?_, ?_⟩
  · have e1 := g _ _ e
    have n1 : b ≠ a := ne_of_none e1 ha
    have n2 : b ≠ d := ne_of_none e1 hd1
    rw [del_ne n1, upd_ne n1, upd_ne n2, upd_ne n1]; exact e1
  · rw [del_ne da, upd_ne da, upd_same]
abbrev s_divisor_of_all : Stmt := top 10
theorem sc_divisor_of_all : FnScope ["numbers", "shared", "number"] ["numbers"] (defScope s_divisor_of_all) := ⟨rfl, rfl, rfl, by decide +kernel, rfl, by decide +kernel, by decide +kernel⟩
def spDivAll (K : PySem.W.Frag) : Sp := fun vs H Q _ => ∃ (p : Addr) (rs : List Int), vs = [.ref p] ∧ SqA K H p (rs.map V.int) ∧ rs.length ≤ 1000 ∧ Q (.int (gcdL rs : Nat)) H
theorem ok_divisor_of_all (T : Txt mg) (F : Fun K "divisor_of_all" "divisor_of_all" s_divisor_of_all f fd) (c_divisor : Cal P w K mg base 1 "divisor" ["one", "other"] spDivisor) : FnOk P w K mg base CX0 2 f fd ["numbers"] (spDivAll K) := by
  refine F.ok sc_divisor_of_all (fun vs H Q E h => ?_) (fun cdv A outer s H vs Q E hr h => ?_)
  · obtain ⟨_, _, rfl, _⟩ := h; rfl
  obtain ⟨p, rs, rfl, hS, hlen, q⟩ := h
  obtain ⟨b, hB⟩ := hS.toB
  refine ⟨_, (pss_cons (ps_set (i := 1) sc_divisor_of_all.nd rfl (Or.inl rfl) pe_int)
    (pss_cons (ps_for PassesOwn.never rfl (pi_sqK (K := K) rfl (pv 0)) (pg_name (i := 2) sc_divisor_of_all.nd rfl (Or.inl rfl)) (pss_one (ps_set (i := 1) sc_divisor_of_all.nd rfl (Or.inl rfl) (pe_cal c_divisor hr rfl (pa_cons (pv 1) (pa_cons (pv 2) pa_nil))))))
    (pss_one (ps_ret (pv 1))))), ?_⟩
  refine ⟨_, rfl, p, b, _, rfl, hB, ?_⟩
  refine for_runs (runs_sq K b p (rs.map V.int)) (fun i σ H' => H' = H ∧ ∃ s2, σ = [some (.ref p), some (.int (gcdL (rs.take i) : Nat)), s2]) ⟨rfl, _, rfl⟩ (fun i σ H' _ h => h.1 ▸ hB) ?_ ?_
  · rintro i x σ H4 H5 hi ⟨rfl, s2, rfl⟩ ⟨rfl, hx⟩
    rw [List.getElem?_map] at hx
    obtain ⟨n, hn, rfl⟩ := Option.map_eq_some_iff.mp hx
    have tk : rs.take (i + 1) = rs.take i ++ [n] := by rw [List.take_add_one, hn]; rfl
    refine ⟨_, rfl, _, rfl, _, _, rfl, ?_⟩
    rw [tk, gcdL_snoc]
    exact ⟨rfl, _, rfl⟩
  · rintro σ H4 ⟨rfl, s2, rfl⟩
    rw [List.length_map, List.take_length]
    exact ⟨_, rfl, q⟩
abbrev s_wall : Stmt := top 12
theorem sc_wall : FnScope ["numbers", "shared", "leading"] ["numbers"] (defScope s_wall) := ⟨rfl, rfl, rfl, by decide +kernel, rfl, by decide +kernel, by decide +kernel⟩
/-- numbers come in: a wall goes out, or the refusal -/
def spWall1 (K : PySem.W.Frag) (NW : Addr) : Sp := fun vs H Q E => ∃ (p : Addr) (ns : List Int) (last : Int), vs = [.ref p] ∧ SqA K H p ((ns ++ [last]).map V.int) ∧ (ns ++ [last]).length ≤ 1000 ∧ (∀ n ∈ ns ++ [last], intBits n ≤ 9000) ∧
  (((∃ n ∈ ns, n ≠ 0) ∧ ∀ t H', Same H H' → H' t = some (.tup ((plainL (ns ++ [last])).map V.int)) → Q (.ref t) H') ∨
   ((∀ n ∈ ns, n = 0) ∧ ∀ d H', Same H H' → H' d = some (.xd [("place", .int 0)]) → E (.ref NW) (some d) H'))
theorem filter_lead (rs : List Int) (h : leadL rs ≠ 0) : atI (((rs.map V.int).filter fun v => match v with | .int n => !decide (V.int n = V.int 0) | _ => false).map fun v => v) 0 = some (.int (leadL rs)) := by
  rw [List.map_id']
  induction rs with
  | nil => exact absurd rfl h
  | cons m r ih =>
    rw [List.map_cons]
    by_cases hm : m = 0
    · subst hm
      rw [List.filter_cons_of_neg (by simp)]
      have e : leadL (0 :: r) = leadL r := if_pos rfl
      rw [e] at h ⊢
      exact ih h
    · rw [List.filter_cons_of_pos (by simp [hm])]
      have e : leadL (m :: r) = m := if_neg hm
      rw [e]
      exact atI_nat (j := 0) rfl
theorem ok_wall1 {W NN F0 L0 P0 NW fI : Addr} {fdI : FuncData} (T : Txt mg) (nw : Nw K mg W NN F0 L0 P0 NW fI) (F : Fun K "wall" "wall" s_wall f fd) (c_divisor_of_all : Cal P w K mg base 2 "divisor_of_all" ["numbers"] (spDivAll K))
    (FI : FnOk P w K mg base CX0 1 fI fdI ["self", "place"] (spInit NW)) (bI : Binds K fdI ["self", "place"] []) : FnOk P w K mg base (CX1 P w base) 3 f fd ["numbers"] (spWall1 K NW) := by
  refine F.ok1 sc_wall (fun vs H Q E h => ?_) (fun cdv A outer s H vs Q E hr B h => ?_)
  · obtain ⟨_, _, _, rfl, _⟩ := h; rfl
  obtain ⟨p, ns, last, rfl, hS, hlen, zb, h⟩ := h
  obtain ⟨b, hB⟩ := hS.toB
  refine ⟨_, (pss_cons (ps_if (pt_not (pt_val (pe_callB (call_anyK (K := K) rfl rfl) rfl T.any boot_any (pa_cons (pe_slice (sl_anyK (K := K) rfl) (pv 0) po_none (po_some (pe_un un_neg pe_int))) pa_nil)))) (pss_one (ps_raiseX B rfl nw.mi (pe_xmake nw.mi FI hr rfl nw.mNoWall nw.kp bI pass0 (pa_cons pe_int pa_nil)))) pss_nil)
    (PSs.nox (pss_cons (ps_set (i := 1) sc_wall.nd rfl (Or.inr rfl) (pe_cal c_divisor_of_all hr rfl (pa_cons (pv 0) pa_nil)))
    (pss_cons (ps_set (i := 2) sc_wall.nd rfl (Or.inl rfl) (pe_ix (ix_listK (K := K) rfl) (pe_comp (Nc := ["number"]) (fr := [none]) rfl (pi_sqK (K := K) rfl (pv 0)) rfl (by decide) rfl (by decide) rfl trivial trivial (fun _ _ _ _ => (pg_name (i := 0) (show List.Nodup (["number"] : List Str) from by decide) rfl (Or.inl rfl))) (fun _ _ _ _ => (pts_one (pt_cmpR op_ne (pv 0) pe_int (nomark _)))) (fun _ _ _ _ => (pv 0))) pe_int (fun _ _ => rfl)))
    (pss_cons (ps_if (pt_cmpR op_lt (pv 2) pe_int (nomark _)) (pss_one (ps_set (i := 1) sc_wall.nd rfl (Or.inr rfl) (pe_un un_neg (pv 1)))) pss_nil)
    (pss_one (ps_ret (pe_callTy (call_tupleK (K := K) rfl) rfl T.tuple boot_tuple (pa_cons (pe_comp (Nc := ["number", "shared"]) (fr := [none, some 1]) rfl (pi_sqK (K := K) rfl (pv 0)) rfl (by decide) rfl (by decide) rfl ⟨rfl, trivial⟩ ⟨⟨rfl, rfl, rfl, rfl⟩, trivial⟩ (fun _ _ _ _ => (pg_name (i := 0) (show List.Nodup (["number", "shared"] : List Str) from by decide) rfl (Or.inl rfl))) (fun _ _ _ _ => pts_nil) (fun _ _ _ _ => (pe_op op_fdivN' (pv 0) (pv 1)))) pa_nil))))))))), ?_⟩
  refine ⟨_, rfl, _, rfl, _, rfl, sl_last (by rw [List.map_append] at hB; exact hB) fun q1 H1 g1 hq1 => ?_⟩
  refine ⟨q1, _, rfl, hq1, plain_ints ns, _, rfl, ?_⟩
  rcases h with ⟨hnz, q⟩ | ⟨hz, q⟩
  · rw [(any_ints ns).mpr hnz]
    refine iteF ?_
    have hnz2 : ∃ n ∈ ns ++ [last], n ≠ 0 := let ⟨n, h1, h2⟩ := hnz; ⟨n, List.mem_append_left _ h1, h2⟩
    generalize ns ++ [last] = rs at *
    have hB1 := hB.same g1
    have hS1 := hS.same g1
    refine ⟨_, rfl, p, rs, rfl, hS1, hlen, ?_⟩
    refine ⟨_, rfl, p, b, _, rfl, hB1, fun D hD => ?_⟩
    refine comp_pure rfl (runs_sq K b p (rs.map V.int)) hD (fun v => match v with | .int n => !decide (V.int n = V.int 0) | _ => false) (fun v => v) (fun H' g' => hB1.same g') (line_ge (by rw [List.length_map]; omega)) ?_ ?_ ?_
    · intro x hx Hc gc S h
      obtain ⟨n, _, rfl⟩ := List.mem_map.mp hx
      exact ⟨_, rfl, rfl, _, rfl, h⟩
    · intro x hx _ Hc gc S h
      exact ⟨_, rfl, h⟩
    · refine ⟨D, _, _, _, rfl, rfl, SqL.of upd_same, filter_lead rs (leadL_ne hnz2), ?_⟩
      have gD := same_new (H := H1) hD (.lst ((((rs.map V.int).filter fun v => match v with | .int n => !decide (V.int n = V.int 0) | _ => false)).map fun v => v))
      generalize upd H1 D (.lst ((((rs.map V.int).filter fun v => match v with | .int n => !decide (V.int n = V.int 0) | _ => false)).map fun v => v)) = H5 at gD
      have hB5 := hB1.same gD
      refine ⟨_, rfl, _, _, rfl, rfl, _, rfl, ?_⟩
      have hby : byL rs ≠ 0 ∧ intBits (byL rs) ≤ 9000 := ⟨byL_ne hnz2, byL_bits hnz2 zb⟩
      refine ite2 (fun c => ?_) (fun c => ?_)
      case' _ =>
        have c' : leadL rs < 0 := of_decide_eq_true c
        have eb : -(gcdL rs : Int) = byL rs := by unfold byL; rw [if_pos c']
        refine ⟨_, rfl, _, rfl, ?_⟩
        dsimp only
        rw [eb]
      rotate_left
      case' _ =>
        have c' : ¬ leadL rs < 0 := fun z => c (decide_eq_true z)
        have eb : (gcdL rs : Int) = byL rs := by unfold byL; rw [if_neg c']
        rw [eb]
      all_goals
        refine ⟨_, rfl, p, b, _, rfl, hB5, fun D2 hD2 => ?_⟩
        refine comp_pure rfl (runs_sq K b p (rs.map V.int)) hD2 (fun _ => true) (fun v => match v with | .int n => .int (n.fdiv (byL rs)) | u => u) (fun H' g' => hB5.same g') (line_ge (by rw [List.length_map]; omega)) ?_ ?_ ?_
        · intro x _ Hc _ S h
          exact h
        · intro x hx _ Hc _ S h
          obtain ⟨n, _, rfl⟩ := List.mem_map.mp hx
          exact ⟨_, rfl, _, rfl, _, _, rfl, rfl, hby, h⟩
        · rw [filter_tt, List.map_map]
          have em : rs.map ((fun v => match v with | .int n => V.int (n.fdiv (byL rs)) | u => u) ∘ V.int) = (plainL rs).map V.int := by
            unfold plainL
            rw [List.map_map]; rfl
          rw [em]
          exact ⟨D2, _, rfl, .inl ⟨SqL.of upd_same, fun t ht => q t _ (g1.trans (gD.trans ((same_new hD2 _).trans (same_new ht _)))) upd_same⟩⟩
  · have ha : (ns.map V.int).any trV = false := by
      cases h : (ns.map V.int).any trV with
      | false => rfl
      | true =>
        obtain ⟨n, h1, h2⟩ := (any_ints ns).mp h
        exact absurd (hz n h1) h2
    rw [ha]
    refine iteT ?_
    refine ⟨line_ge (by show 1 ≤ _; decide), fun a ha1 hnew => ?_⟩
    refine ⟨a, 0, rfl, by decide, upd_same, fun d hd => ⟨rfl, a, d, rfl, hnew, upd_same, ?_⟩⟩
    obtain ⟨m1, m2⟩ := xmade (fs := [("place", .int 0)]) (C := NW) g1 ha1 hd
    exact q d _ m1 m2
end
section
open Fr Wl
open Builtin.Int (intBits)
variable {P : Program} {w : World} {K : PySem.W.Frag} {mg : Str → Option Value} {base : Heap} {f : Addr} {fd : FuncData}
abbrev s_l_plain : Stmt := top 21
theorem sc_l_plain : FnScope ["_law_row_here", "_law_by", "_law_lead", "_law_number"] ["_law_row_here"] (defScope s_l_plain) := ⟨rfl, rfl, rfl, by decide +kernel, rfl, by decide +kernel, by decide +kernel⟩
def spPlain (K : PySem.W.Frag) : Sp := fun vs H Q _ => ∃ (p : Addr) (rs : List Int), vs = [.ref p] ∧ SqA K H p (rs.map V.int) ∧ rs.length ≤ 1000 ∧ (∀ n ∈ rs, intBits n ≤ 9000) ∧ (∃ n ∈ rs, n ≠ 0) ∧
  ∀ t H', Same H H' → H' t = some (.tup ((plainL rs).map V.int)) → Q (.ref t) H'
theorem ok_l_plain (T : Txt mg) (F : Fun K "_law_plain" "_law_plain" s_l_plain f fd) (c_l_divisor : Cal P w K mg base 1 "_law_divisor" ["_law_one", "_law_other"] spDivisor) : FnOk P w K mg base CX0 2 f fd ["_law_row_here"] (spPlain K) := by
  refine F.ok sc_l_plain (fun vs H Q E h => ?_) (fun cdv A outer s H vs Q E hr h => ?_)
  · obtain ⟨_, _, rfl, _⟩ := h; rfl
  obtain ⟨p, rs, rfl, hS, hlen, zb, hnz, q⟩ := h
  obtain ⟨b, hB⟩ := hS.toB
  refine ⟨_, (pss_cons (ps_set (i := 1) sc_l_plain.nd rfl (Or.inr rfl) pe_int)
    (pss_cons (ps_set (i := 2) sc_l_plain.nd rfl (Or.inl rfl) pe_int)
    (pss_cons (ps_for PassesOwn.never rfl (pi_sqK (K := K) rfl (pv 0)) (pg_name (i := 3) sc_l_plain.nd rfl (Or.inl rfl)) (pss_cons (ps_set (i := 1) sc_l_plain.nd rfl (Or.inr rfl) (pe_cal c_l_divisor hr rfl (pa_cons (pv 1) (pa_cons (pv 3) pa_nil))))
    (pss_one (ps_if (pt_cmpR op_eq (pv 2) pe_int (nomark _)) (pss_one (ps_set (i := 2) sc_l_plain.nd rfl (Or.inl rfl) (pv 3))) pss_nil))))
    (pss_cons (ps_if (pt_cmpR op_lt (pv 2) pe_int (nomark _)) (pss_one (ps_set (i := 1) sc_l_plain.nd rfl (Or.inr rfl) (pe_op op_sub pe_int (pv 1)))) pss_nil)
    (pss_one (ps_ret (pe_callTy (call_tupleK (K := K) rfl) rfl T.tuple boot_tuple (pa_cons (pe_comp (Nc := ["_law_number", "_law_by"]) (fr := [none, some 1]) rfl (pi_sqK (K := K) rfl (pv 0)) rfl (by decide) rfl (by decide) rfl ⟨rfl, trivial⟩ ⟨⟨rfl, rfl, rfl, rfl⟩, trivial⟩ (fun _ _ _ _ => (pg_name (i := 0) (show List.Nodup (["_law_number", "_law_by"] : List Str) from by decide) rfl (Or.inl rfl))) (fun _ _ _ _ => pts_nil) (fun _ _ _ _ => (pe_op op_fdivN' (pv 0) (pv 1)))) pa_nil)))))))), ?_⟩
  refine ⟨_, rfl, p, b, _, rfl, hB, ?_⟩
  refine for_runs (runs_sq K b p (rs.map V.int)) (fun i σ H' => H' = H ∧ ∃ s3, σ = [some (.ref p), some (.int (gcdL (rs.take i) : Nat)), some (.int (leadL (rs.take i))), s3]) ⟨rfl, _, rfl⟩ (fun i σ H' _ h => h.1 ▸ hB) ?_ ?_
  · rintro i x σ H4 H5 hi ⟨rfl, s3, rfl⟩ ⟨rfl, hx⟩
    rw [List.getElem?_map] at hx
    obtain ⟨n, hn, rfl⟩ := Option.map_eq_some_iff.mp hx
    have tk : rs.take (i + 1) = rs.take i ++ [n] := by rw [List.take_add_one, hn]; rfl
    refine ⟨_, rfl, _, rfl, _, _, rfl, ?_⟩
    rw [tk, gcdL_snoc, leadL_snoc]
    refine ⟨_, rfl, rfl, _, rfl, ?_⟩
    refine ite2 (fun c => ?_) (fun c => ?_)
    · have c' : leadL (rs.take i) = 0 := by simpa using c
      rw [if_pos c']
      exact ⟨_, rfl, rfl, _, rfl⟩
    · have c' : ¬ leadL (rs.take i) = 0 := by simpa using c
      rw [if_neg c']
      exact ⟨rfl, _, rfl⟩
  · rintro σ H4 ⟨rfl, s3, rfl⟩
    rw [List.length_map, List.take_length]
    have hby : byL rs ≠ 0 ∧ intBits (byL rs) ≤ 9000 := ⟨byL_ne hnz, byL_bits hnz zb⟩
    refine ⟨_, rfl, _, _, rfl, rfl, _, rfl, ?_⟩
    refine ite2 (fun c => ?_) (fun c => ?_)
    case' _ =>
      have c' : leadL rs < 0 := of_decide_eq_true c
      have eb : 0 - (gcdL rs : Int) = byL rs := by unfold byL; rw [if_pos c']; omega
      refine ⟨_, rfl, _, _, rfl, rfl, ?_⟩
      dsimp only
      rw [eb]
    rotate_left
    case' _ =>
      have c' : ¬ leadL rs < 0 := fun z => c (decide_eq_true z)
      have eb : (gcdL rs : Int) = byL rs := by unfold byL; rw [if_neg c']
      rw [eb]
    all_goals
      refine ⟨_, rfl, p, b, _, rfl, hB, fun D2 hD2 => ?_⟩
      refine comp_pure rfl (runs_sq K b p (rs.map V.int)) hD2 (fun _ => true) (fun v => match v with | .int n => .int (n.fdiv (byL rs)) | u => u) (fun H' g' => hB.same g') (line_ge (by rw [List.length_map]; omega)) ?_ ?_ ?_
      · intro x _ Hc _ S h
        exact h
      · intro x hx _ Hc _ S h
        obtain ⟨n, _, rfl⟩ := List.mem_map.mp hx
        exact ⟨_, rfl, _, rfl, _, _, rfl, rfl, hby, h⟩
      · rw [filter_tt, List.map_map]
        have em : rs.map ((fun v => match v with | .int n => V.int (n.fdiv (byL rs)) | u => u) ∘ V.int) = (plainL rs).map V.int := by
          unfold plainL
          rw [List.map_map]; rfl
        rw [em]
        exact ⟨D2, _, rfl, .inl ⟨SqL.of upd_same, fun t ht => q t _ ((same_new hD2 _).trans (same_new ht _)) upd_same⟩⟩
end
end L2

set_option Elab.async false
set_option linter.all false
set_option maxRecDepth 100000
set_option maxHeartbeats 4000000
namespace L2
open PySem PySem.Spec PyProof.Rows
section
open Fr Wl
open PySem.W (kitAny kitOne exmOne keepIn)
open Builtin.Int (intBits)
variable {P : Program} {w : World} {K : PySem.W.Frag} {mg : Str → Option Value} {base : Heap} {f : Addr} {fd : FuncData}
/-- what of the text the hall's class and NoPlace must have -/
structure Hl (K : PySem.W.Frag) (mg : Str → Option Value) (C W NN F0 L0 NP NW fP fT fW : Addr) : Prop where
  mg : mg "Hall" = some (.ref C)
  cl : Cls K C
  nW : NoAttr K C "ways"
  nS : NoAttr K C "standing"
  mput : Meth K C "put" fP
  mtake : Meth K C "take" fT
  mwalls : Meth K C "walls" fW
  pm : ExcMk K NP
  px : ExcK K NP
  pe : exmOne K (.ref NP) (.ref W) = some true
  pn : kitAny K (.ref NP) [.ref F0, .ref L0, .ref NN] = some false
  pv : kitOne K (.ref NP) (.type "ValueError") = some true
  pw : kitOne K (.ref NP) (.ref NW) = some false
  pp : kitOne K (.ref NP) (.ref NP) = some true
  wn : kitAny K (.ref NW) [.ref F0, .ref L0, .ref NN] = some false
  wp : kitOne K (.ref NW) (.ref NP) = some false
abbrev s_hinit : Stmt := inClass (top 14) 0
abbrev s_put : Stmt := inClass (top 14) 1
abbrev s_take : Stmt := inClass (top 14) 2
abbrev s_walls : Stmt := inClass (top 14) 3
theorem sc_hinit : FnScope ["self", "ways"] ["self", "ways"] (defScope s_hinit) := ⟨rfl, rfl, rfl, by decide +kernel, rfl, by decide +kernel, by decide +kernel⟩
theorem sc_put : FnScope ["self", "numbers", "made"] ["self", "numbers"] (defScope s_put) := ⟨rfl, rfl, rfl, by decide +kernel, rfl, by decide +kernel, by decide +kernel⟩
theorem sc_take : FnScope ["self", "place"] ["self", "place"] (defScope s_take) := ⟨rfl, rfl, rfl, by decide +kernel, rfl, by decide +kernel, by decide +kernel⟩
theorem sc_walls : FnScope ["self"] ["self"] (defScope s_walls) := ⟨rfl, rfl, rfl, by decide +kernel, rfl, by decide +kernel, by decide +kernel⟩
theorem map_erase {α β : Type} (g : α → β) : ∀ (l : List α) (n : Nat), (l.map g).eraseIdx n = (l.eraseIdx n).map g
  | [], _ => rfl
  | a :: l, 0 => rfl
  | a :: l, n + 1 => by rw [List.map_cons, List.eraseIdx_cons_succ, List.eraseIdx_cons_succ, List.map_cons, map_erase g l n]
abbrev hFs (m : Int) (st : Addr) : List (Str × V) := [("ways", .int m), ("standing", .ref st)]
def spHInit (C : Addr) : Sp := fun vs H Q _ => ∃ (x dx : Addr) (m : Int), vs = [.ref x, .int m] ∧ H x = some (.ins C dx []) ∧ ∀ st, H st = none → Q .non (upd (upd (upd H x (.ins C dx [("ways", .int m)])) st (.lst [])) x (.ins C dx (hFs m st)))
variable {C W NN F0 L0 NP NW fP fT fW fI : Addr} {fdI : FuncData}
theorem ok_hinit (hl : Hl K mg C W NN F0 L0 NP NW fP fT fW) (F : Fun K "__init__" "Hall.__init__" s_hinit f fd) : FnOk P w K mg base CX0 1 f fd ["self", "ways"] (spHInit C) := by
  refine F.ok sc_hinit (fun vs H Q E h => ?_) (fun cdv A outer s H vs Q E hr h => ?_)
  · obtain ⟨_, _, _, rfl, _⟩ := h; rfl
  obtain ⟨x, dx, m, rfl, hx, q⟩ := h
  refine ⟨_, (pss_cons (ps_fld (pv 0) (pv 1) rfl) (pss_one (ps_fld (pv 0) (pe_lst pa_nil) rfl))), ?_⟩
  refine ⟨_, rfl, _, rfl, x, C, dx, [], rfl, hx, hl.cl, hl.nW, by decide, ?_⟩
  refine ⟨Nat.zero_le _, fun st hst => ?_⟩
  have sx : st ≠ x := fun z => by rw [z, upd_same] at hst; cases hst
  rw [upd_ne sx] at hst
  refine ⟨_, rfl, x, C, dx, [("ways", .int m)], rfl, by rw [upd_ne sx.symm, upd_same]; rfl, hl.cl, hl.nS, by show 1 < 1000; decide, ?_⟩
  exact q st hst
def spHWalls (C : Addr) : Sp := fun vs H Q _ => ∃ (x dx st : Addr) (m : Int) (as : List Addr), vs = [.ref x] ∧ H x = some (.ins C dx (hFs m st)) ∧ H st = some (.lst (as.map V.ref)) ∧ ∀ l, H l = none → Q (.ref l) (upd H l (.lst (as.map V.ref)))
theorem ok_hwalls (T : Txt mg) (hl : Hl K mg C W NN F0 L0 NP NW fP fT fW) (F : Fun K "walls" "Hall.walls" s_walls f fd) : FnOk P w K mg base CX0 1 f fd ["self"] (spHWalls C) := by
  refine F.ok sc_walls (fun vs H Q E h => ?_) (fun cdv A outer s H vs Q E hr h => ?_)
  · obtain ⟨_, _, _, _, _, rfl, _⟩ := h; rfl
  obtain ⟨x, dx, st, m, as, rfl, hx, hst, q⟩ := h
  refine ⟨_, (pss_one (ps_ret (pe_callTy (call_listK (K := K) rfl) rfl T.list boot_list (pa_cons (pe_fld (pv 0) rfl) pa_nil)))), ?_⟩
  exact ⟨_, rfl, x, C, dx, _, _, rfl, hx, hl.cl, hl.nS, rfl, st, _, rfl, .inl (SqL.of hst), fun l hl => q l hl⟩
def spHTake (C NP : Addr) : Sp := fun vs H Q E => ∃ (x dx st : Addr) (m k : Int) (as : List Addr), vs = [.ref x, .int k] ∧ H x = some (.ins C dx (hFs m st)) ∧ H st = some (.lst (as.map V.ref)) ∧ as.length ≤ 1000 ∧
  ((0 ≤ k ∧ k < as.length ∧ Q .non (upd H st (.lst ((as.eraseIdx k.toNat).map V.ref)))) ∨ ((k < 0 ∨ (as.length : Int) ≤ k) ∧ E (.ref NP) none H))
theorem ok_htake (T : Txt mg) (nw : Nw K mg W NN F0 L0 NP NW fI) (hl : Hl K mg C W NN F0 L0 NP NW fP fT fW) (F : Fun K "take" "Hall.take" s_take f fd) : FnOk P w K mg base (CX1 P w base) 1 f fd ["self", "place"] (spHTake C NP) := by
  refine F.ok1 sc_take (fun vs H Q E h => ?_) (fun cdv A outer s H vs Q E hr B h => ?_)
  · obtain ⟨_, _, _, _, _, _, rfl, _⟩ := h; rfl
  obtain ⟨x, dx, st, m, k, as, rfl, hx, hst, a1000, h⟩ := h
  refine ⟨_, (pss_cons (ps_if (PW.pt (pw_or (pt_cmpR op_lt (pv 1) pe_int (nomark _)) (pw_or1 (pt_cmpR op_ge (pv 1) (pe_callB (call_lenK (K := K) rfl) rfl T.len PySem.boot_len (pa_cons (pe_fld (pv 0) rfl) pa_nil)) (nomark _))))) (pss_one (ps_raise B rfl hl.pm nw.mNoPlace rfl (pa_cons pe_str pa_nil))) pss_nil)
    (pss_one (ps_expr (pe_bm PySem.F.plainAttrs_list PySem.F.slot_list_pop PySem.F.type_list_pop mt_popAt (pe_fld (pv 0) rfl) (pa_cons (pv 1) pa_nil))))), ?_⟩
  refine ⟨_, rfl, _, _, rfl, rfl, _, rfl, ?_⟩
  rcases h with ⟨k0, k1, q⟩ | ⟨kk, q⟩
  · refine ite2 (fun c => ?_) (fun c => ?_)
    · have := of_decide_eq_true c
      omega
    refine ⟨_, rfl, _, rfl, x, C, dx, _, _, rfl, hx, hl.cl, hl.nS, rfl, st, _, rfl, .inl (SqL.of hst), _, _, rfl, rfl, _, rfl, ?_⟩
    rw [List.length_map]
    refine ite2 (fun c2 => ?_) (fun c2 => ?_)
    · have := of_decide_eq_true c2
      omega
    obtain ⟨n, rfl⟩ : ∃ n : Nat, k = (n : Int) := ⟨k.toNat, by omega⟩
    have hn : n < as.length := by omega
    refine ⟨_, rfl, x, C, dx, _, _, rfl, hx, hl.cl, hl.nS, rfl, .inl ⟨rfl, _, SqL.of hst⟩, _, rfl, st, _, _, n, .ref as[n], rfl, rfl, hst, by omega, by omega, ?_, by rw [List.getElem?_map, List.getElem?_eq_getElem hn]; rfl, ?_⟩
    · unfold seqIndex?
      rw [List.length_map]
      dsimp only
      have e1 : (if (n : Int) < 0 then (n : Int) + (as.length : Int) else (n : Int)) = (n : Int) := if_neg (by omega)
      rw [e1, decide_eq_true (show 0 ≤ (n : Int) by omega), decide_eq_true (show (n : Int) < (as.length : Int) by omega)]
      rfl
    · rw [Int.toNat_natCast] at q
      have e : (as.map V.ref).eraseIdx n = (as.eraseIdx n).map V.ref := map_erase V.ref as n
      rw [e]
      exact q
  · refine ite2 (fun c => ?_) (fun c => ?_)
    · exact ⟨line_ge (by show 1 ≤ _; decide), q⟩
    · have c' : ¬ k < 0 := fun z => c (decide_eq_true z)
      refine ⟨_, rfl, _, rfl, x, C, dx, _, _, rfl, hx, hl.cl, hl.nS, rfl, st, _, rfl, .inl (SqL.of hst), _, _, rfl, rfl, _, rfl, ?_⟩
      rw [List.length_map]
      rw [decide_eq_true (show k ≥ (as.length : Int) by omega)]
      refine iteT ?_
      exact ⟨line_ge (by show 1 ≤ _; decide), q⟩
def spPut (K : PySem.W.Frag) (C NW : Addr) : Sp := fun vs H Q E => ∃ (x dx st p : Addr) (m : Int) (as : List Addr) (ts : List (List Int)) (ns : List Int) (last : Int), vs = [.ref x, .ref p] ∧ H x = some (.ins C dx (hFs m st)) ∧ H st = some (.lst (as.map V.ref)) ∧ TsA H as ts ∧ ts.length ≤ 100 ∧ H p = some (.lst ((ns ++ [last]).map V.int)) ∧ (ns ++ [last]).length ≤ 1000 ∧ (∀ n ∈ ns ++ [last], intBits n ≤ 9000) ∧
  (((∃ n ∈ ns, n ≠ 0) ∧ plainL (ns ++ [last]) ∉ ts ∧ ∀ t H1, Same H H1 → H1 t = some (.tup ((plainL (ns ++ [last])).map V.int)) → Q .non (upd H1 st (.lst ((as ++ [t]).map V.ref)))) ∨
   ((∀ n ∈ ns, n = 0) ∧ ∀ d H', Same H H' → H' d = some (.xd [("place", .int 0)]) → E (.ref NW) (some d) H') ∨
   (∃ j : Nat, (∃ n ∈ ns, n ≠ 0) ∧ ts[j]? = some (plainL (ns ++ [last])) ∧ (∀ m, m < j → ts[m]? ≠ some (plainL (ns ++ [last]))) ∧ ∀ d H', Same H H' → H' d = some (.xd [("place", .int (j : Nat))]) → E (.ref NW) (some d) H'))
theorem ok_put (T : Txt mg) (nw : Nw K mg W NN F0 L0 NP NW fI) (hl : Hl K mg C W NN F0 L0 NP NW fP fT fW) (F : Fun K "put" "Hall.put" s_put f fd) (c_wall : Cal1 P w K mg base 3 "wall" ["numbers"] (spWall1 K NW))
    (FI : FnOk P w K mg base CX0 2 fI fdI ["self", "place"] (spInit NW)) (bI : Binds K fdI ["self", "place"] []) : FnOk P w K mg base (CX1 P w base) 4 f fd ["self", "numbers"] (spPut K C NW) := by
  refine F.ok1 sc_put (fun vs H Q E h => ?_) (fun cdv A outer s H vs Q E hr B h => ?_)
  · obtain ⟨_, _, _, _, _, _, _, _, _, rfl, _⟩ := h; rfl
  obtain ⟨x, dx, st, p, m, as, ts, ns, last, rfl, hx, hst, hts, t100, hp, plen, pb, h⟩ := h
  refine ⟨_, (pss_cons (ps_set (i := 2) sc_put.nd rfl (Or.inl rfl) (pe_cal1 c_wall hr (pass1 B fun _ _ _ h => h) rfl (pa_cons (pv 1) pa_nil)))
    (pss_cons (ps_if (pt_cmpR (op_inDK (K := K) rfl hr.units) (pv 2) (pe_fld (pv 0) rfl) (by with_unfolding_all rfl)) (pss_one (ps_raiseX B rfl nw.mi (pe_xmake nw.mi FI hr rfl nw.mNoWall nw.kp bI pass0 (pa_cons (pe_bm PySem.F.plainAttrs_list PySem.F.slot_list_index PySem.F.type_list_index (mt_indexT (K := K) rfl hr.units) (pe_fld (pv 0) rfl) (pa_cons (pv 2) pa_nil)) pa_nil)))) pss_nil)
    (pss_one (ps_expr (pe_bm PySem.F.plainAttrs_list PySem.F.slot_list_append PySem.F.type_list_append mt_append (pe_fld (pv 0) rfl) (pa_cons (pv 2) pa_nil)))))), ?_⟩
  refine ⟨_, rfl, p, ns, last, rfl, .inl (SqL.of hp), plen, pb, ?_⟩
  rcases h with ⟨hnz, hni, q⟩ | ⟨hz, q⟩ | ⟨j, hnz, hj, hno, q⟩
  · refine .inl ⟨hnz, fun t H1 g1 ht => ?_⟩
    have hx1 := g1 _ _ hx
    have hst1 := g1 _ _ hst
    have hts1 := hts.same g1
    refine ⟨_, rfl, _, rfl, x, C, dx, _, _, rfl, hx1, hl.cl, hl.nS, rfl, st, _, _, _, rfl, .inl (SqL.of hst1), hts1.isDs, isD_t ht, ok_ts, _, rfl, ?_⟩
    rw [any_t, decide_eq_false hni]
    refine iteF ?_
    refine ⟨_, rfl, x, C, dx, _, _, rfl, hx1, hl.cl, hl.nS, rfl, .inl ⟨rfl, _, SqL.of hst1⟩, _, rfl, st, _, _, rfl, rfl, hst1, line_gt (by rw [List.length_map, hts.1]; omega), ?_⟩
    have e : (as ++ [t]).map V.ref = as.map V.ref ++ [V.ref t] := by rw [List.map_append]; rfl
    rw [← e]
    exact q t _ g1 ht
  · exact .inr ⟨hz, fun d H1 g1 hd => q d _ g1 hd⟩
  · refine .inl ⟨hnz, fun t H1 g1 ht => ?_⟩
    have hx1 := g1 _ _ hx
    have hst1 := g1 _ _ hst
    have hts1 := hts.same g1
    have hjl : j < ts.length := (List.getElem?_eq_some_iff.mp hj).1
    refine ⟨_, rfl, _, rfl, x, C, dx, _, _, rfl, hx1, hl.cl, hl.nS, rfl, st, _, _, _, rfl, .inl (SqL.of hst1), hts1.isDs, isD_t ht, ok_ts, _, rfl, ?_⟩
    rw [any_t, decide_eq_true (List.mem_of_getElem? hj)]
    refine iteT ?_
    refine ⟨_, rfl, x, C, dx, _, _, rfl, hx1, hl.cl, hl.nS, rfl, .inl ⟨rfl, _, SqL.of hst1⟩, _, rfl, st, t, as, ts, _, j, rfl, rfl, hst1, hts1, ht, hj, hno, by omega, line_ge (by show 1 ≤ _; decide), fun b ha1 hnew => ?_⟩
    have li : ((j : Int)).natAbs.log2 < 1920 := by
      have : ((j : Int)).natAbs = j := Int.natAbs_natCast j
      rw [this]
      exact Nat.lt_of_le_of_lt (Nat.log2_le_self j) (by omega)
    refine ⟨b, _, rfl, li, upd_same, fun d hd => ⟨rfl, b, d, rfl, hnew, upd_same, ?_⟩⟩
    obtain ⟨m1, m2⟩ := xmade (fs := [("place", .int (j : Nat))]) (C := NW) g1 ha1 hd
    exact q d _ m1 m2
end
end L2

set_option Elab.async false
set_option linter.all false
set_option maxRecDepth 100000
set_option maxHeartbeats 4000000
namespace L2
open PySem PySem.Spec PyProof.Rows
section
open Fr Wl
open Builtin.Int (intBits)
variable {P : Program} {w : World} {K : PySem.W.Frag} {mg : Str → Option Value} {base : Heap} {f : Addr} {fd : FuncData}
theorem bits64 {i : Int} (h1 : -(2 ^ 64) < i) (h2 : i < 2 ^ 64) : intBits i ≤ 64 := intBits_le_64 h1 h2
def rngV (n : Nat) : List V := (List.range n).map fun i => V.int ((0 : Int) + (i : Nat))
theorem rngV_at {n i : Nat} (h : i < n) : (rngV n)[i]? = some (V.int (0 + (i : Nat))) := by
  unfold rngV
  rw [List.getElem?_map, List.getElem?_range h]; rfl
theorem rngV_len (n : Nat) : (rngV n).length = n := by unfold rngV; rw [List.length_map, List.length_range]
theorem runs_rangeV (n : Nat) : Runs (Itr 0 n) (rngV n).length (fun _ => True) (fun i H x H' => H' = H ∧ (rngV n)[i]? = some x) := by
  have r := runs_range 0 n
  rw [rngV_len]
  exact ⟨r.go, r.stop, fun i H x H' h hi y => by
    obtain ⟨e1, e2⟩ := r.yld i H x H' h hi y
    exact ⟨e1, by rw [rngV_at hi, e2]⟩⟩
theorem part_bits {c z : Int} (h0 : -2 ≤ c) (h1 : c ≤ 2) : intBits (c * (1 + z % 100000000000000000000)) ≤ 100 := by
  have a1 := Int.emod_nonneg z (show (100000000000000000000 : Int) ≠ 0 by decide)
  have a2 := Int.emod_lt_of_pos z (show (0 : Int) < 100000000000000000000 by decide)
  generalize z % 100000000000000000000 = y at *
  refine intBits_le_of_natAbs (y := 200000000000000000000) ?_ (by decide)
  rw [Int.natAbs_mul]
  have e : (200000000000000000000 : Int).natAbs = 2 * 100000000000000000000 := by decide
  rw [e]
  exact Nat.mul_le_mul (by omega) (by omega)
theorem neg_bits {n : Int} {b : Nat} (h : intBits n ≤ b) : intBits (0 - n) ≤ b := intBits_le_of_natAbs (y := n) (by omega) h
theorem cut_tail {xs : List V} {u : V} : cutV (xs ++ [u]) (some (-1)) none = [u] := by
  unfold cutV
  have e1 : HT.sIx (xs ++ [u]).length 0 (some (-1)) = xs.length := by
    simp only [HT.sIx, List.length_append, List.length_singleton]
    split <;> omega
  have e2 : HT.sIx (xs ++ [u]).length (xs ++ [u]).length none = (xs ++ [u]).length := rfl
  rw [e1, e2]
  simp
abbrev s_l_row : Stmt := top 22
theorem sc_l_row : FnScope ["_law_standing", "_law_ways", "_law_cell", "_law_row_here", "_law_number", "_law_k", "_law_way"] ["_law_standing", "_law_ways", "_law_cell"] (defScope s_l_row) := ⟨rfl, rfl, rfl, by decide +kernel, rfl, by decide +kernel, by decide +kernel⟩
def spRow (K : PySem.W.Frag) : Sp := fun vs H Q _ => ∃ (ls : Addr) (bs : List Addr) (ts : List (List Int)) (m : Nat) (cell : Int), vs = [.ref ls, .int (m : Nat), .int cell] ∧ H ls = some (.lst (bs.map V.ref)) ∧ TsA H bs ts ∧ ts.length ≤ 20 ∧ m ≤ 4 ∧ (∀ t ∈ ts, t.length = m + 1 ∧ ∀ n ∈ t, intBits n ≤ 100) ∧
  ∀ (R : Addr) (rs : List Int) (H' : Hp), H R = none → Same H H' → H' R = some (.lst (rs.map V.int)) → rs.length = m + 1 → (∀ n ∈ rs, intBits n ≤ 100) → Q (.ref R) H'
theorem ok_l_row (T : Txt mg) (F : Fun K "_law_row" "_law_row" s_l_row f fd) : FnOk P w K mg base CX0 1 f fd ["_law_standing", "_law_ways", "_law_cell"] (spRow K) := by
  refine F.ok sc_l_row (fun vs H Q E h => ?_) (fun cdv A outer s H vs Q E hr h => ?_)
  · obtain ⟨_, _, _, _, _, rfl, _⟩ := h; rfl
  obtain ⟨ls, bs, ts, m, cell, rfl, hls, hts, t20, m4, zt, q⟩ := h
  refine ⟨_, (pss_cons (ps_set (i := 3) sc_l_row.nd rfl (Or.inl rfl) (pe_lst pa_nil))
    (pss_cons (ps_set (i := 4) sc_l_row.nd rfl (Or.inr rfl) (pv 2))
    (pss_cons (ps_for PassesOwn.never rfl (pi_range1 rfl T.range (pa_cons (pe_op op_add (pv 1) pe_int) pa_nil)) (pg_name (i := 5) sc_l_row.nd rfl (Or.inl rfl)) (pss_cons (ps_expr (pe_bm PySem.F.plainAttrs_list PySem.F.slot_list_append PySem.F.type_list_append mt_append (pv 3) (pa_cons (pe_op op_sub (pe_op op_modP (pv 4) pe_int) pe_int) pa_nil)))
    (pss_one (ps_set (i := 4) sc_l_row.nd rfl (Or.inr rfl) (pe_op op_fdivB (pv 4) pe_int)))))
    (pss_cons (ps_set (i := 6) sc_l_row.nd rfl (Or.inl rfl) (pe_op op_modP (pv 4) pe_int))
    (pss_cons (ps_if (pt_cmpR op_eq (pv 6) pe_int (nomark _)) (pss_one (ps_comp (jj := 3) rfl sc_l_row.nd rfl (Or.inl rfl) (Or.inl rfl) (Nc := ["_law_part", "_law_number"]) (fr := [none, some 4]) rfl (pi_listK (K := K) rfl (pv 3)) rfl (by decide) rfl (by decide) rfl ⟨rfl, trivial⟩ ⟨⟨rfl, rfl, rfl, rfl⟩, trivial⟩ (fun _ _ _ _ => (pg_name (i := 0) (show List.Nodup (["_law_part", "_law_number"] : List Str) from by decide) rfl (Or.inl rfl))) (fun _ _ _ _ => pts_nil) (fun _ _ _ _ => (pe_op op_mulB (pv 0) (pe_op op_add pe_int (pe_op op_modP (pe_op op_fdivB (pv 1) pe_int) (pe_powC (v := 100000000000000000000) (by decide +kernel) pe_int pe_int))))))) pss_nil)
    (pss_cons (ps_if (pt_cmpR op_eq (pv 6) pe_int (nomark _)) (pss_one (ps_set (i := 3) sc_l_row.nd rfl (Or.inl rfl) (pe_op op_cat (pe_comp (Nc := ["_law_k"]) (fr := [none]) rfl (pi_range1 rfl T.range (pa_cons (pv 1) pa_nil)) rfl (by decide) rfl (by decide) rfl trivial trivial (fun _ _ _ _ => (pg_name (i := 0) (show List.Nodup (["_law_k"] : List Str) from by decide) rfl (Or.inl rfl))) (fun _ _ _ _ => pts_nil) (fun _ _ _ _ => pe_int)) (pe_slice (sl_listK (K := K) rfl) (pv 3) (po_some (pe_un un_neg pe_int)) po_none)))) pss_nil)
    (pss_cons (ps_if (PW.pt (pw_and (pt_cmpR op_eq (pv 6) pe_int (nomark _)) (pw_and1 (pt_cmpR (op_neDK (K := K) rfl hr.units) (pv 0) (pe_lst pa_nil) (nomark _))))) (pss_one (ps_comp (jj := 3) rfl sc_l_row.nd rfl (Or.inl rfl) (Or.inl rfl) (Nc := ["_law_part"]) (fr := [none]) rfl (pi_tupK (K := K) rfl (pe_ix (ix_listK (K := K) rfl) (pv 0) (pe_op op_modP (pe_op op_fdivB (pv 4) pe_int) (pe_callB (call_lenK (K := K) rfl) rfl T.len PySem.boot_len (pa_cons (pv 0) pa_nil))) (fun _ _ => rfl))) rfl (by decide) rfl (by decide) rfl trivial trivial (fun _ _ _ _ => (pg_name (i := 0) (show List.Nodup (["_law_part"] : List Str) from by decide) rfl (Or.inl rfl))) (fun _ _ _ _ => pts_nil) (fun _ _ _ _ => (pe_op op_sub pe_int (pv 0))))) pss_nil)
    (pss_one (ps_ret (pv 3)))))))))), ?_⟩
  refine ⟨Nat.zero_le _, fun R hR => ?_⟩
  have g0 := same_new hR (.lst [])
  have e0 : upd H R (.lst []) R = some (.lst (([] : List Int).map V.int)) := upd_same
  generalize upd H R (.lst []) = H0 at *
  refine ⟨_, rfl, ?_⟩
  refine ⟨_, rfl, _, _, rfl, rfl, _, rfl, by omega, by omega, ?_⟩
  rw [show ((m : Int) + 1).toNat = m + 1 by omega]
  refine for_runs (runs_range 0 (m + 1)) (fun i σ H' => ∃ (rs : List Int) (num : Int) (s5 : Option V), σ = [some (.ref ls), some (.int (m : Nat)), some (.int cell), some (.ref R), some (.int num), s5, none] ∧ H' R = some (.lst (rs.map V.int)) ∧ rs.length = i ∧ (∀ n ∈ rs, -2 ≤ n ∧ n ≤ 2) ∧ Same H H')
    ⟨[], _, _, rfl, e0, rfl, by simp, g0⟩ (fun _ _ _ _ _ => trivial) ?_ ?_
  · clear e0
    rintro i x σ H1 H2 hi ⟨rs, num, s5, rfl, eR, rl, rb, g⟩ ⟨rfl, rfl⟩
    refine ⟨_, rfl, .inl ⟨rfl, _, SqL.of eR⟩, _, rfl, _, _, rfl, rfl, cm, _, _, rfl, rfl, R, _, _, rfl, rfl, eR, line_gt (by rw [List.length_map, rl]; omega), ?_⟩
    refine ⟨_, rfl, _, _, rfl, rfl, cf, ?_⟩
    refine ⟨rs ++ [num % 5 - 2], _, _, rfl, by rw [upd_same]; simp, by simp [rl], fun n hn => ?_, fun b o e => by rw [upd_ne (ne_of_none e hR)]; exact g _ _ e⟩
    rcases List.mem_append.mp hn with hn | hn
    · exact rb n hn
    · rw [List.mem_singleton.mp hn]; omega
  rintro σ H1 ⟨rs, num, s5, rfl, eR, rl, rb, g⟩
  have b100 : ∀ n ∈ rs, intBits n ≤ 100 := fun n hn => by
    have := rb n hn
    exact Nat.le_trans (bits64 (by omega) (by omega)) (by decide)
  refine ⟨_, rfl, _, _, rfl, rfl, cm, ?_⟩
  dsimp only
  refine ⟨_, rfl, rfl, _, rfl, ?_⟩
  by_cases h1 : num % 5 = 1
  · rw [show decide (V.int (num % 5) = V.int 1) = true from decide_eq_true (by rw [h1])]
    refine iteT ?_
    refine ⟨_, rfl, R, rfl, ⟨_, SqL.of eR⟩, fun D hD => ?_⟩
    refine comp_pure rfl (runs_list K R (rs.map V.int)) hD (fun _ => true) (fun v => match v with | .int n => .int (n * (1 + num / 5 % 100000000000000000000)) | u => u) (fun H' g' => SqL.of (g' _ _ eR)) (line_ge (by rw [List.length_map]; omega)) ?_ ?_ ?_
    · intro x _ Hc _ S h
      exact h
    · intro x hx _ Hc _ S h
      obtain ⟨n, hn, rfl⟩ := List.mem_map.mp hx
      have := rb n hn
      have hb := part_bits (c := 1) (z := num / 5) (by decide) (by decide)
      rw [Int.one_mul] at hb
      exact ⟨_, rfl, _, rfl, _, _, rfl, rfl, cf, _, _, rfl, rfl, cm, _, _, rfl, rfl, _, _, rfl, rfl, mulOk (m := 64) (n := 100) (bits64 (by omega) (by omega)) hb, h⟩
    rw [filter_tt]
    have em : (rs.map V.int).map (fun v => match v with | .int n => V.int (n * (1 + num / 5 % 100000000000000000000)) | u => u) = (rs.map fun n => n * (1 + num / 5 % 100000000000000000000)).map V.int := by rw [List.map_map, List.map_map]; rfl
    rw [em]
    have gD := same_new hD (.lst ((rs.map fun n => n * (1 + num / 5 % 100000000000000000000)).map V.int))
    have eD : upd H1 D (.lst ((rs.map fun n => n * (1 + num / 5 % 100000000000000000000)).map V.int)) D = some (.lst ((rs.map fun n => n * (1 + num / 5 % 100000000000000000000)).map V.int)) := upd_same
    generalize upd H1 D (.lst ((rs.map fun n => n * (1 + num / 5 % 100000000000000000000)).map V.int)) = H3 at *
    refine ⟨_, rfl, rfl, _, rfl, ?_⟩
    rw [show decide (V.int (num % 5) = V.int 2) = false from decide_eq_false (by rw [h1]; decide)]
    refine iteF ?_
    refine ⟨_, rfl, rfl, _, rfl, ?_⟩
    rw [show decide (V.int (num % 5) = V.int 3) = false from decide_eq_false (by rw [h1]; decide)]
    refine iteF ?_
    refine iteF ?_
    refine ⟨_, rfl, q D _ _ (g.free hD) (g.trans gD) eD (by rw [List.length_map]; exact rl) fun n hn => ?_⟩
    obtain ⟨k, hk, rfl⟩ := List.mem_map.mp hn
    have := rb k hk
    exact part_bits (by omega) (by omega)
  rw [show decide (V.int (num % 5) = V.int 1) = false from decide_eq_false (fun z => by injection z with z; exact h1 z)]
  refine iteF ?_
  refine ⟨_, rfl, rfl, _, rfl, ?_⟩
  by_cases h2 : num % 5 = 2
  · rw [show decide (V.int (num % 5) = V.int 2) = true from decide_eq_true (by rw [h2])]
    refine iteT ?_
    refine ⟨_, rfl, _, rfl, by omega, by omega, fun z1 hz1 => ?_⟩
    rw [Int.toNat_natCast]
    refine comp_pure rfl (runs_rangeV m) hz1 (fun _ => true) (fun _ => .int 0) (fun _ _ => trivial) (line_ge (by rw [rngV_len]; omega)) ?_ ?_ ?_
    · intro x _ Hc _ S h
      exact h
    · intro x hx _ Hc gc S h
      exact h
    rw [filter_tt]
    have ez : (rngV m).map (fun _ => V.int 0) = (List.replicate m (0 : Int)).map V.int := by
      rw [List.map_replicate, List.map_const', rngV_len]
    rw [ez]
    have g1 := same_new hz1 (.lst ((List.replicate m (0 : Int)).map V.int))
    have e1 : upd H1 z1 (.lst ((List.replicate m (0 : Int)).map V.int)) z1 = some (.lst ((List.replicate m (0 : Int)).map V.int)) := upd_same
    generalize upd H1 z1 (.lst ((List.replicate m (0 : Int)).map V.int)) = H3 at *
    obtain ⟨ns, last, ers⟩ : ∃ ns last, rs = ns ++ [last] := ⟨rs.dropLast, rs.getLast (fun z => by rw [z] at rl; simp at rl), (List.dropLast_concat_getLast _).symm⟩
    have eR3 : H3 R = some (.lst (ns.map V.int ++ [V.int last])) := by have z := g1 _ _ eR; rw [ers, List.map_append] at z; exact z
    refine ⟨_, rfl, _, rfl, _, rfl, R, _, rfl, SqL.of eR3, fun z2 hz2 => ?_⟩
    rw [cut_tail]
    have g2 := same_new hz2 (.lst [V.int last])
    have e2 : upd H3 z2 (.lst [V.int last]) z2 = some (.lst [V.int last]) := upd_same
    generalize upd H3 z2 (.lst [V.int last]) = H4 at *
    refine ⟨z1, z2, _, _, rfl, rfl, g2 _ _ e1, e2, line_ge (by rw [List.length_map, List.length_replicate]; show m + 1 ≤ _; omega), fun z3 hz3 => ?_⟩
    have ea : (List.replicate m (0 : Int)).map V.int ++ [V.int last] = (List.replicate m (0 : Int) ++ [last]).map V.int := by rw [List.map_append]; rfl
    rw [ea]
    have g3 := same_new hz3 (.lst ((List.replicate m (0 : Int) ++ [last]).map V.int))
    have e3 : upd H4 z3 (.lst ((List.replicate m (0 : Int) ++ [last]).map V.int)) z3 = some (.lst ((List.replicate m (0 : Int) ++ [last]).map V.int)) := upd_same
    generalize upd H4 z3 (.lst ((List.replicate m (0 : Int) ++ [last]).map V.int)) = H5 at *
    refine ⟨_, rfl, rfl, _, rfl, ?_⟩
    rw [show decide (V.int (num % 5) = V.int 3) = false from decide_eq_false (by rw [h2]; decide)]
    refine iteF ?_
    refine iteF ?_
    have g15 := g1.trans (g2.trans g3)
    refine ⟨_, rfl, q z3 _ _ ((g.trans (g1.trans g2)).free hz3) (g.trans g15) e3 (by simp) fun n hn => ?_⟩
    rcases List.mem_append.mp hn with hn | hn
    · rw [(List.mem_replicate.mp hn).2]; decide
    · rw [List.mem_singleton.mp hn]; exact b100 last (by rw [ers]; simp)
  rw [show decide (V.int (num % 5) = V.int 2) = false from decide_eq_false (fun z => by injection z with z; exact h2 z)]
  refine iteF ?_
  refine ⟨_, rfl, rfl, _, rfl, ?_⟩
  by_cases h3 : num % 5 = 3
  · rw [show decide (V.int (num % 5) = V.int 3) = true from decide_eq_true (by rw [h3])]
    refine iteT ?_
    refine ⟨_, rfl, Nat.zero_le _, fun e1 he1 => ?_⟩
    have g1 := same_new he1 (.lst [])
    have ee : upd H1 e1 (.lst []) e1 = some (.lst (([] : List Addr).map V.ref)) := upd_same
    generalize upd H1 e1 (.lst []) = H3 at *
    have hls3 := (g.trans g1) _ _ hls
    have hts3 := hts.same (g.trans g1)
    refine ⟨ls, e1, _, _, rfl, rfl, isD_ts hls3 hts3, isD_ts (ts := []) ee TsA.nil, oks_ts _ _, _, rfl, ?_⟩
    rw [show Dt.eqb (.l (ts.map dtT)) (.l (([] : List (List Int)).map dtT)) = decide (ts = []) from eqs_ts ts []]
    by_cases hn : ts = []
    · rw [decide_eq_true hn]
      refine iteF ?_
      exact ⟨_, rfl, q R rs _ hR (g.trans g1) (g1 _ _ eR) rl b100⟩
    · rw [decide_eq_false hn]
      refine iteT ?_
      have tl : 1 ≤ ts.length := by
        cases ts with
        | nil => exact absurd rfl hn
        | cons a b => simp
      have al : ((bs.map V.ref).length : Int) = (ts.length : Int) := by rw [List.length_map, hts.1]
      have pl0 : (0 : Int) < ((bs.map V.ref).length : Int) := by omega
      obtain ⟨j, ej, hj⟩ : ∃ j : Nat, num / 5 % ((bs.map V.ref).length : Int) = (j : Nat) ∧ j < ts.length := ⟨(num / 5 % ((bs.map V.ref).length : Int)).toNat, by rw [Int.toNat_of_nonneg (Int.emod_nonneg _ (by omega))], by have := Int.emod_lt_of_pos (num / 5) pl0; have := Int.emod_nonneg (num / 5) (show ((bs.map V.ref).length : Int) ≠ 0 by omega); omega⟩
      have hjb : j < bs.length := by rw [hts.1]; exact hj
      have hat : atI (bs.map V.ref) (num / 5 % ((bs.map V.ref).length : Int)) = some (.ref bs[j]) := by
        rw [ej]
        exact atI_nat (by rw [List.getElem?_map, List.getElem?_eq_getElem hjb]; rfl)
      have ht := hts3.2 j _ _ (List.getElem?_eq_getElem hjb) (List.getElem?_eq_getElem hj)
      obtain ⟨t1, t2⟩ := zt _ (List.getElem_mem hj)
      generalize ts[j] = t at ht t1 t2
      refine ⟨_, rfl, _, rfl, _, _, rfl, rfl, cf, _, rfl, ls, _, rfl, .inl (SqL.of hls3), _, _, rfl, rfl, pl0, ls, _, _, _, rfl, rfl, SqL.of hls3, hat, _, rfl, ⟨_, SqT.of ht⟩, fun D hD => ?_⟩
      refine comp_pure rfl (runs_tup K _ (t.map V.int)) hD (fun _ => true) (fun u => match u with | .int n => .int (0 - n) | u => u) (fun H' g' => SqT.of (g' _ _ ht)) (line_ge (by rw [List.length_map]; omega)) ?_ ?_ ?_
      · intro x _ Hc _ S h
        exact h
      · intro x hx _ Hc gc S h
        obtain ⟨y, _, rfl⟩ := List.mem_map.mp hx
        exact ⟨_, rfl, _, _, rfl, rfl, h⟩
      rw [filter_tt]
      have em : (t.map V.int).map (fun u => match u with | .int n => V.int (0 - n) | u => u) = (t.map fun n => 0 - n).map V.int := by rw [List.map_map, List.map_map]; rfl
      rw [em]
      have gD := same_new hD (.lst ((t.map fun n => 0 - n).map V.int))
      refine ⟨_, rfl, q D _ _ ((g.trans g1).free hD) (g.trans (g1.trans gD)) upd_same (by rw [List.length_map]; exact t1) fun n hn => ?_⟩
      obtain ⟨k, hk, rfl⟩ := List.mem_map.mp hn
      exact neg_bits (t2 k hk)
  rw [show decide (V.int (num % 5) = V.int 3) = false from decide_eq_false (fun z => by injection z with z; exact h3 z)]
  refine iteF ?_
  refine iteF ?_
  exact ⟨_, rfl, q R rs _ hR g eR rl b100⟩
end
end L2

set_option Elab.async false
set_option linter.all false
set_option maxRecDepth 100000
set_option maxHeartbeats 4000000
namespace L2
open PySem PySem.Spec PyProof.Rows
section
open Fr Wl
open Builtin.Int (intBits)
variable {P : Program} {w : World} {K : PySem.W.Frag} {mg : Str → Option Value} {base : Heap} {f : Addr} {fd : FuncData} {C W NN F0 L0 NP NW fP fT fW fI : Addr} {fdP fdT fdW : FuncData}
/-- what the law tells of a refusal -/
def TL (K : PySem.W.Frag) (H : Hp) (r : Addr) (ds : List Sd) : Prop := ∃ xs, H r = some (.lst xs) ∧ IsSds K H xs ds
abbrev s_l_told : Stmt := top 23
theorem sc_l_told : FnScope ["_law_caught", "_law_found"] ["_law_caught"] (defScope s_l_told) := ⟨rfl, rfl, rfl, by decide +kernel, rfl, by decide +kernel, by decide +kernel⟩
def spTold (K : PySem.W.Frag) (NW NP : Addr) : Sp := fun vs H Q _ => ∃ v : V, vs = [v] ∧
  ((v = .non ∧ ∀ r, H r = none → Q (.ref r) (upd H r (.lst []))) ∨
   (∃ (a d : Addr) (j : Int), v = .ref a ∧ H a = some (HX a NW (some d)) ∧ H d = some (.xd [("place", .int j)]) ∧ ∀ r H', Same H H' → TL K H' r [.p "wall" j] → Q (.ref r) H') ∨
   (∃ a : Addr, v = .ref a ∧ H a = some (HX a NP none) ∧ ∀ r H', Same H H' → TL K H' r [.s "place"] → Q (.ref r) H'))
theorem ok_l_told (T : Txt mg) (xc : Nw K mg W NN F0 L0 NP NW fI) (hl : Hl K mg C W NN F0 L0 NP NW fP fT fW) (F : Fun K "_law_told" "_law_told" s_l_told f fd) (c_l_whole : Cal P w K mg base 1 "_law_whole" ["_law_found"] spWhole) : FnOk P w K mg base CX0 2 f fd ["_law_caught"] (spTold K NW NP) := by
  refine F.ok sc_l_told (fun vs H Q E h => ?_) (fun cdv A outer s H vs Q E hr h => ?_)
  · obtain ⟨_, rfl, _⟩ := h; rfl
  obtain ⟨v, rfl, h⟩ := h
  refine ⟨_, (pss_cons (ps_if (pt_cmp (pc_isN (pv 0))) (pss_one (ps_ret (pe_lst pa_nil))) pss_nil)
    (pss_cons (ps_if (PW.pt (pw_or (pt_val (pe_callB (call_isXT (K := K) rfl) rfl T.isinstance boot_isinstance (pa_cons (pv 0) (pa_cons (pe_tup (pa_cons (pe_glob (v := .ref _) rfl xc.mNoFace rfl) (pa_cons (pe_glob (v := .ref _) rfl xc.mNoLand rfl) (pa_cons (pe_glob (v := .ref _) rfl xc.mNoNumber rfl) pa_nil)))) pa_nil)))) (pw_or1 (pt_not (pt_val (pe_callB (call_isXB (K := K) rfl) rfl T.isinstance boot_isinstance (pa_cons (pv 0) (pa_cons (pe_bltn (v := .ty "ValueError") rfl T.ValueError boot_ValueError rfl) pa_nil)))))))) (pss_one (ps_ret (pe_lst (pa_cons pe_str pa_nil)))) pss_nil)
    (pss_cons (ps_set (i := 1) sc_l_told.nd rfl (Or.inl rfl) (pe_lst pa_nil))
    (pss_cons (ps_if (PW.pt (pw_and (pt_val (pe_callB (call_isX (K := K) rfl) rfl T.isinstance boot_isinstance (pa_cons (pv 0) (pa_cons (pe_glob (v := .ref _) rfl xc.mNoWall rfl) pa_nil)))) (pw_and1 (pt_val (pe_cal c_l_whole hr rfl (pa_cons (pe_xfld (K := K) rfl (pv 0)) pa_nil)))))) (pss_one (ps_expr (pe_bm PySem.F.plainAttrs_list PySem.F.slot_list_append PySem.F.type_list_append mt_append (pv 1) (pa_cons (pe_tup (pa_cons pe_str (pa_cons (pe_xfld (K := K) rfl (pv 0)) pa_nil))) pa_nil)))) pss_nil)
    (pss_cons (ps_if (pt_val (pe_callB (call_isX (K := K) rfl) rfl T.isinstance boot_isinstance (pa_cons (pv 0) (pa_cons (pe_glob (v := .ref _) rfl xc.mNoPlace rfl) pa_nil)))) (pss_one (ps_expr (pe_bm PySem.F.plainAttrs_list PySem.F.slot_list_append PySem.F.type_list_append mt_append (pv 1) (pa_cons pe_str pa_nil)))) pss_nil)
    (pss_one (ps_ret (pv 1)))))))), ?_⟩
  refine ⟨_, rfl, _, rfl, ?_⟩
  rcases h with ⟨rfl, q⟩ | ⟨a, d, j, rfl, hx, hd, q⟩ | ⟨a, rfl, hx, q⟩
  · refine iteT ?_
    exact ⟨Nat.zero_le _, fun r hr0 => q r hr0⟩
  · refine iteF ?_
    refine ⟨_, rfl, by show 3 ≤ sizeLine; decide, fun t ht => ?_⟩
    have g4 : Same H (upd H t (.tup [.ref F0, .ref L0, .ref NN])) := same_new ht _
    have e4 : upd H t (.tup [.ref F0, .ref L0, .ref NN]) t = some (.tup ([F0, L0, NN].map V.ref)) := upd_same
    generalize upd H t (.tup [.ref F0, .ref L0, .ref NN]) = H4 at *
    have hx4 := g4 _ _ hx
    have hd4 := g4 _ _ hd
    refine ⟨a, NW, t, [F0, L0, NN], some d, false, rfl, hx4, ⟨_, hd4⟩, xc.fl.k, e4, hl.wn, _, rfl, ?_⟩
    refine iteF ?_
    refine ⟨_, rfl, a, NW, "ValueError", some d, true, rfl, hx4, ⟨_, hd4⟩, xc.fl.k, xc.ve, _, rfl, ?_⟩
    refine iteF ?_
    refine ⟨Nat.zero_le _, fun r hr0 => ?_⟩
    have g5 := same_new hr0 (.lst [])
    have e5 : upd H4 r (.lst []) r = some (.lst []) := upd_same
    have hrH : H r = none := g4.free hr0
    generalize upd H4 r (.lst []) = H5 at *
    have hx5 := g5 _ _ hx4
    have hd5 := g5 _ _ hd4
    refine ⟨_, rfl, a, NW, NW, some d, true, rfl, hx5, ⟨_, hd5⟩, xc.fl.k, xc.se, _, rfl, ?_⟩
    refine iteT ?_
    refine ⟨_, rfl, a, NW, d, _, _, rfl, .inl hx5, hd5, xc.fl, rfl, ⟨_, rfl⟩, _, rfl, _, rfl, ?_⟩
    refine iteT ?_
    refine ⟨_, rfl, .inl ⟨rfl, _, SqL.of e5⟩, _, rfl, a, NW, d, _, _, rfl, .inl hx5, hd5, xc.fl, rfl, ⟨_, rfl⟩, by show 2 ≤ sizeLine; decide, fun tp htp => ?_⟩
    have g6 := same_new htp (.tup [.str "wall", .int j])
    have e6 : upd H5 tp (.tup [.str "wall", .int j]) tp = some (.tup [.str "wall", .int j]) := upd_same
    generalize upd H5 tp (.tup [.str "wall", .int j]) = H6 at *
    have e56 := g6 _ _ e5
    refine ⟨r, _, _, rfl, rfl, e56, line_gt (by show 0 < _; decide), ?_⟩
    have rne : r ≠ tp := fun z => by rw [z, e6] at e56; cases e56
    have gU : ∀ {b : Addr} {o : HO}, H b = some o → upd H6 r (.lst ([] ++ [.ref tp])) b = some o := fun e => by rw [upd_ne (ne_of_none e hrH)]; exact (g4.trans (g5.trans g6)) _ _ e
    have eT : upd H6 r (.lst ([] ++ [.ref tp])) tp = some (.tup [.str "wall", .int j]) := by rw [upd_ne rne.symm]; exact e6
    have eR : upd H6 r (.lst ([] ++ [.ref tp])) r = some (.lst [.ref tp]) := upd_same
    have gH7 : Same H (upd H6 r (.lst ([] ++ [.ref tp]))) := fun b o e => gU e
    generalize upd H6 r (.lst ([] ++ [.ref tp])) = H7 at *
    refine ⟨_, rfl, a, NW, NP, some d, false, rfl, gU hx, ⟨_, gU hd⟩, xc.fl.k, hl.wp, _, rfl, ?_⟩
    refine iteF ?_
    exact ⟨_, rfl, q r _ gH7 ⟨_, eR, .cons ⟨tp, rfl, SqT.of eT⟩ .nil⟩⟩
  · refine iteF ?_
    refine ⟨_, rfl, by show 3 ≤ sizeLine; decide, fun t ht => ?_⟩
    have g4 : Same H (upd H t (.tup [.ref F0, .ref L0, .ref NN])) := same_new ht _
    have e4 : upd H t (.tup [.ref F0, .ref L0, .ref NN]) t = some (.tup ([F0, L0, NN].map V.ref)) := upd_same
    generalize upd H t (.tup [.ref F0, .ref L0, .ref NN]) = H4 at *
    have hx4 := g4 _ _ hx
    refine ⟨a, NP, t, [F0, L0, NN], none, false, rfl, hx4, trivial, hl.px, e4, hl.pn, _, rfl, ?_⟩
    refine iteF ?_
    refine ⟨_, rfl, a, NP, "ValueError", none, true, rfl, hx4, trivial, hl.px, hl.pv, _, rfl, ?_⟩
    refine iteF ?_
    refine ⟨Nat.zero_le _, fun r hr0 => ?_⟩
    have g5 := same_new hr0 (.lst [])
    have e5 : upd H4 r (.lst []) r = some (.lst []) := upd_same
    have hrH : H r = none := g4.free hr0
    generalize upd H4 r (.lst []) = H5 at *
    have hx5 := g5 _ _ hx4
    refine ⟨_, rfl, a, NP, NW, none, false, rfl, hx5, trivial, hl.px, hl.pw, _, rfl, ?_⟩
    refine iteF ?_
    refine iteF ?_
    refine ⟨_, rfl, a, NP, NP, none, true, rfl, hx5, trivial, hl.px, hl.pp, _, rfl, ?_⟩
    refine iteT ?_
    refine ⟨_, rfl, .inl ⟨rfl, _, SqL.of e5⟩, r, _, _, rfl, rfl, e5, line_gt (by show 0 < _; decide), ?_⟩
    exact ⟨_, rfl, q r _ (fun b o e => by rw [upd_ne (ne_of_none e hrH)]; exact (g4.trans g5) _ _ e) ⟨_, upd_same, .cons rfl .nil⟩⟩
abbrev s_l_put : Stmt := top 24
theorem sc_l_put : FnScope ["_law_hall", "_law_row_here", "_law_caught", "e"] ["_law_hall", "_law_row_here"] (defScope s_l_put) := ⟨rfl, rfl, rfl, by decide +kernel, rfl, by decide +kernel, by decide +kernel⟩
def spLPut (K : PySem.W.Frag) (C : Addr) : Sp := fun vs H Q _ => ∃ (x dx st p : Addr) (m : Int) (as : List Addr) (ts : List (List Int)) (ns : List Int) (last : Int), vs = [.ref x, .ref p] ∧ H x = some (.ins C dx (hFs m st)) ∧ H st = some (.lst (as.map V.ref)) ∧ TsA H as ts ∧ ts.length ≤ 100 ∧ H p = some (.lst ((ns ++ [last]).map V.int)) ∧ (ns ++ [last]).length ≤ 1000 ∧ (∀ n ∈ ns ++ [last], intBits n ≤ 9000) ∧
  (((∃ n ∈ ns, n ≠ 0) ∧ plainL (ns ++ [last]) ∉ ts ∧ ∀ t r H', (∀ b o, b ≠ st → H b = some o → H' b = some o) → H' st = some (.lst ((as ++ [t]).map V.ref)) → H' t = some (.tup ((plainL (ns ++ [last])).map V.int)) → TL K H' r [] → Q (.ref r) H') ∨
   ((∀ n ∈ ns, n = 0) ∧ ∀ r H', Same H H' → TL K H' r [.p "wall" 0] → Q (.ref r) H') ∨
   (∃ j : Nat, (∃ n ∈ ns, n ≠ 0) ∧ ts[j]? = some (plainL (ns ++ [last])) ∧ (∀ m, m < j → ts[m]? ≠ some (plainL (ns ++ [last]))) ∧ ∀ r H', Same H H' → TL K H' r [.p "wall" (j : Nat)] → Q (.ref r) H'))
theorem ok_l_put (T : Txt mg) (xc : Nw K mg W NN F0 L0 NP NW fI) (hl : Hl K mg C W NN F0 L0 NP NW fP fT fW) (F : Fun K "_law_put" "_law_put" s_l_put f fd) (Fput : FnOk P w K mg base (CX1 P w base) 4 fP fdP ["self", "numbers"] (spPut K C NW)) (bput : Binds K fdP ["self", "numbers"] []) (c_l_told : Cal P w K mg base 4 "_law_told" ["_law_caught"] (spTold K NW NP)) : FnOk P w K mg base CX0 5 f fd ["_law_hall", "_law_row_here"] (spLPut K C) := by
  refine F.ok sc_l_put (fun vs H Q E h => ?_) (fun cdv A outer s H vs Q E hr h => ?_)
  · obtain ⟨_, _, _, _, _, _, _, _, _, rfl, _⟩ := h; rfl
  obtain ⟨x, dx, st, p, m, as, ts, ns, last, rfl, hx, hst, hts, t100, hp, plen, pb, h⟩ := h
  refine ⟨_, (pss_cons (ps_set (i := 2) sc_l_put.nd rfl (Or.inl rfl) pe_non)
    (pss_cons (ps_tryM (j := 3) hl.cl hl.mput Fput bput hr rfl rfl rfl rfl (pv 0) (pa_cons (pv 1) pa_nil) rfl xc.mWallError sc_l_put.nd rfl rfl (fun a => (pss_one (ps_set (i := 2) sc_l_put.nd rfl (Or.inl rfl) (pv 3)))) rfl)
    (pss_one (ps_ret (pe_cal c_l_told hr rfl (pa_cons (pv 2) pa_nil)))))), ?_⟩
  refine ⟨_, rfl, x, dx, _, rfl, hx, rfl, _, rfl, x, dx, st, p, m, as, ts, ns, last, rfl, hx, hst, hts, t100, hp, plen, pb, ?_⟩
  rcases h with ⟨hnz, hni, q⟩ | ⟨hz, q⟩ | ⟨j, hnz, hj, hno, q⟩
  · refine .inl ⟨hnz, hni, fun t H1 g1 ht => ?_⟩
    have hst1 := g1 _ _ hst
    have tne : t ≠ st := fun z => by rw [z, hst1] at ht; cases ht
    refine ⟨_, rfl, _, rfl, .inl ⟨rfl, fun r hr0 => ?_⟩⟩
    have rst : r ≠ st := fun z => by rw [z, upd_same] at hr0; cases hr0
    have hr1 : H1 r = none := by rw [upd_ne rst] at hr0; exact hr0
    refine q t r _ (fun b o hb e => ?_) ?_ ?_ ⟨[], upd_same, .nil⟩
    · have e1 := g1 _ _ e
      rw [upd_ne (ne_of_none e1 hr1), upd_ne hb]; exact e1
    · rw [upd_ne rst.symm, upd_same]
    · rw [upd_ne (ne_of_none ht hr1), upd_ne tne]; exact ht
  · refine .inr (.inl ⟨hz, fun d H1 g1 hd => ⟨NW, rfl, ⟨_, hd⟩, xc.ex, fun a ha => ?_⟩⟩)
    refine ⟨_, rfl, ?_⟩
    have g2 := same_new ha (HX a NW (some d))
    exact ⟨_, rfl, _, rfl, .inr (.inl ⟨a, d, 0, rfl, upd_same, g2 _ _ hd, fun r H' g' tl => q r H' (g1.trans (g2.trans g')) tl⟩)⟩
  · refine .inr (.inr ⟨j, hnz, hj, hno, fun d H1 g1 hd => ⟨NW, rfl, ⟨_, hd⟩, xc.ex, fun a ha => ?_⟩⟩)
    refine ⟨_, rfl, ?_⟩
    have g2 := same_new ha (HX a NW (some d))
    exact ⟨_, rfl, _, rfl, .inr (.inl ⟨a, d, _, rfl, upd_same, g2 _ _ hd, fun r H' g' tl => q r H' (g1.trans (g2.trans g')) tl⟩)⟩
abbrev s_l_took : Stmt := top 25
theorem sc_l_took : FnScope ["_law_hall", "_law_place", "_law_caught", "e"] ["_law_hall", "_law_place"] (defScope s_l_took) := ⟨rfl, rfl, rfl, by decide +kernel, rfl, by decide +kernel, by decide +kernel⟩
def spLTook (K : PySem.W.Frag) (C : Addr) : Sp := fun vs H Q _ => ∃ (x dx st : Addr) (m k : Int) (as : List Addr), vs = [.ref x, .int k] ∧ H x = some (.ins C dx (hFs m st)) ∧ H st = some (.lst (as.map V.ref)) ∧ as.length ≤ 1000 ∧
  ((0 ≤ k ∧ k < as.length ∧ ∀ r H', (∀ b o, b ≠ st → H b = some o → H' b = some o) → H' st = some (.lst ((as.eraseIdx k.toNat).map V.ref)) → TL K H' r [] → Q (.ref r) H') ∨ ((k < 0 ∨ (as.length : Int) ≤ k) ∧ ∀ r H', Same H H' → TL K H' r [.s "place"] → Q (.ref r) H'))
theorem ok_l_took (T : Txt mg) (xc : Nw K mg W NN F0 L0 NP NW fI) (hl : Hl K mg C W NN F0 L0 NP NW fP fT fW) (F : Fun K "_law_took" "_law_took" s_l_took f fd) (Ftake : FnOk P w K mg base (CX1 P w base) 4 fT fdT ["self", "place"] (spHTake C NP)) (btake : Binds K fdT ["self", "place"] []) (c_l_told : Cal P w K mg base 4 "_law_told" ["_law_caught"] (spTold K NW NP)) : FnOk P w K mg base CX0 5 f fd ["_law_hall", "_law_place"] (spLTook K C) := by
  refine F.ok sc_l_took (fun vs H Q E h => ?_) (fun cdv A outer s H vs Q E hr h => ?_)
  · obtain ⟨_, _, _, _, _, _, rfl, _⟩ := h; rfl
  obtain ⟨x, dx, st, m, k, as, rfl, hx, hst, a1000, h⟩ := h
  refine ⟨_, (pss_cons (ps_set (i := 2) sc_l_took.nd rfl (Or.inl rfl) pe_non)
    (pss_cons (ps_tryM (j := 3) hl.cl hl.mtake Ftake btake hr rfl rfl rfl rfl (pv 0) (pa_cons (pv 1) pa_nil) rfl xc.mWallError sc_l_took.nd rfl rfl (fun a => (pss_one (ps_set (i := 2) sc_l_took.nd rfl (Or.inl rfl) (pv 3)))) rfl)
    (pss_one (ps_ret (pe_cal c_l_told hr rfl (pa_cons (pv 2) pa_nil)))))), ?_⟩
  refine ⟨_, rfl, x, dx, _, rfl, hx, rfl, _, rfl, x, dx, st, m, k, as, rfl, hx, hst, a1000, ?_⟩
  rcases h with ⟨k0, k1, q⟩ | ⟨kk, q⟩
  · refine .inl ⟨k0, k1, ?_⟩
    refine ⟨_, rfl, _, rfl, .inl ⟨rfl, fun r hr0 => ?_⟩⟩
    have rst : r ≠ st := fun z => by rw [z, upd_same] at hr0; cases hr0
    have hr1 : H r = none := by rw [upd_ne rst] at hr0; exact hr0
    refine q r _ (fun b o hb e => ?_) ?_ ⟨[], upd_same, .nil⟩
    · rw [upd_ne (ne_of_none e hr1), upd_ne hb]; exact e
    · rw [upd_ne rst.symm, upd_same]
  · refine .inr ⟨kk, ⟨NP, rfl, trivial, hl.pe, fun a ha => ?_⟩⟩
    refine ⟨_, rfl, ?_⟩
    have g2 := same_new ha (HX a NP none)
    exact ⟨_, rfl, _, rfl, .inr (.inr ⟨a, rfl, upd_same, fun r H' g' tl => q r H' (g2.trans g') tl⟩)⟩
end
end L2

set_option Elab.async false
set_option linter.all false
set_option maxRecDepth 100000
set_option maxHeartbeats 4000000
namespace L2
open PySem PySem.Spec PyProof.Rows
section
open Fr Wl
open Builtin.Int (intBits)
variable {P : Program} {w : World} {K : PySem.W.Frag} {mg : Str → Option Value} {base : Heap} {f : Addr} {fd : FuncData} {C W NN F0 L0 NP NW fP fT fW fI : Addr} {fdP fdT fdW : FuncData}
theorem TsA.put_lst {H : Hp} {as : List Addr} {ts : List (List Int)} {ll : Addr} {o : HO} {xs : List V} (h : TsA H as ts) (hl : H ll = some (.lst xs)) : TsA (upd H ll o) as ts :=
  ⟨h.1, fun i a t e1 e2 => by
    have := h.2 i a t e1 e2
    rw [upd_ne fun z => by rw [z, hl] at this; cases this]; exact this⟩
theorem isD_l {K : PySem.W.Frag} {H : Hp} {a : Addr} {ns : List Int} (h : H a = some (.lst (ns.map V.int))) : IsD K H (.ref a) (.l (ns.map Dt.i)) := .l (SqL.of h) (isD_ints ns)
theorem TsA.era {H H' : Hp} {as : List Addr} {ts : List (List Int)} (n : Nat) (h : TsA H as ts) (k : ∀ (b : Addr) (t : List Int), H b = some (.tup (t.map V.int)) → H' b = some (.tup (t.map V.int))) : TsA H' (as.eraseIdx n) (ts.eraseIdx n) := by
  refine ⟨by rw [List.length_eraseIdx, List.length_eraseIdx, h.1], fun i a t e1 e2 => ?_⟩
  rw [List.getElem?_eraseIdx] at e1 e2
  by_cases hi : i < n
  · rw [if_pos hi] at e1 e2
    exact k _ _ (h.2 i a t e1 e2)
  · rw [if_neg hi] at e1 e2
    exact k _ _ (h.2 (i + 1) a t e1 e2)
theorem TsA.keep {H H' : Hp} {as : List Addr} {ts : List (List Int)} (h : TsA H as ts) (k : ∀ (b : Addr) (t : List Int), H b = some (.tup (t.map V.int)) → H' b = some (.tup (t.map V.int))) : TsA H' as ts := ⟨h.1, fun i a t e1 e2 => k _ _ (h.2 i a t e1 e2)⟩
theorem len_era {α : Type} (l : List α) (n : Nat) : (l.eraseIdx n).length ≤ l.length := by rw [List.length_eraseIdx]; split <;> omega
theorem seq_at {n k : Nat} (h : n < k) : seqIndex? (n : Int) k = some n := by
  unfold seqIndex?
  dsimp only
  have e1 : (if (n : Int) < 0 then (n : Int) + (k : Int) else (n : Int)) = (n : Int) := if_neg (by omega)
  rw [e1, decide_eq_true (show 0 ≤ (n : Int) by omega), decide_eq_true (show (n : Int) < (k : Int) by omega)]
  rfl
theorem sds_same {K : PySem.W.Frag} {H H' : Hp} (g : Same H H') : ∀ {xs : List V} {ds : List Sd}, IsSds K H xs ds → IsSds K H' xs ds
  | _, _, .nil => .nil
  | _, _, .cons (d := .s x) h t => .cons h (sds_same g t)
  | _, _, .cons (d := .p x n) ⟨a, e, q⟩ t => .cons ⟨a, e, SqT.same g q⟩ (sds_same g t)
theorem pick3 {a b c z : Int} (h0 : 0 ≤ z) (h1 : z < 3) : ∃ k : Int, atI [V.int a, V.int b, V.int c] z = some (.int k) := by
  rcases (by omega : z = 0 ∨ z = 1 ∨ z = 2) with rfl | rfl | rfl
  · exact ⟨a, rfl⟩
  · exact ⟨b, rfl⟩
  · exact ⟨c, rfl⟩
theorem first_at {ts : List (List Int)} {t : List Int} (h : t ∈ ts) : ∃ j : Nat, ts[j]? = some t ∧ ∀ m, m < j → ts[m]? ≠ some t := by
  induction ts with
  | nil => cases h
  | cons u ts ih =>
    by_cases e : u = t
    · exact ⟨0, by rw [e]; rfl, fun m hm => absurd hm (Nat.not_lt_zero m)⟩
    · rcases List.mem_cons.mp h with rfl | h
      · exact absurd rfl e
      · obtain ⟨j, h1, h2⟩ := ih h
        refine ⟨j + 1, h1, fun m hm => ?_⟩
        cases m with
        | zero => exact fun z => e (Option.some.inj z)
        | succ m => exact h2 m (by omega)
abbrev s_l_shown : Stmt := top 27
theorem sc_l_shown : FnScope ["_law_hall", "_law_standing", "_law_found", "_law_one"] ["_law_hall", "_law_standing"] (defScope s_l_shown) := ⟨rfl, rfl, rfl, by decide +kernel, rfl, by decide +kernel, by decide +kernel⟩
def spShown (K : PySem.W.Frag) (C : Addr) : Sp := fun vs H Q _ => ∃ (x dx st ls : Addr) (m : Int) (as bs : List Addr) (ts : List (List Int)), vs = [.ref x, .ref ls] ∧ H x = some (.ins C dx (hFs m st)) ∧ H st = some (.lst (as.map V.ref)) ∧ TsA H as ts ∧ H ls = some (.lst (bs.map V.ref)) ∧ TsA H bs ts ∧ ts.length ≤ 100 ∧ (∀ t ∈ ts, t.length ≤ 10) ∧ ∀ H', Same H H' → Q (.bl true) H'
theorem ok_l_shown (T : Txt mg) (hl : Hl K mg C W NN F0 L0 NP NW fP fT fW) (F : Fun K "_law_shown" "_law_shown" s_l_shown f fd) (Fwalls : FnOk P w K mg base CX0 1 fW fdW ["self"] (spHWalls C)) (bwalls : Binds K fdW ["self"] []) (c_l_whole : Cal P w K mg base 1 "_law_whole" ["_law_found"] spWhole) : FnOk P w K mg base CX0 2 f fd ["_law_hall", "_law_standing"] (spShown K C) := by
  refine F.ok sc_l_shown (fun vs H Q E h => ?_) (fun cdv A outer s H vs Q E hr h => ?_)
  · obtain ⟨_, _, _, _, _, _, _, _, rfl, _⟩ := h; rfl
  obtain ⟨x, dx, st, ls, m, as, bs, ts, rfl, hx, hst, has, hls, hbs, t100, t10, q⟩ := h
  refine ⟨_, (pss_cons (ps_set (i := 2) sc_l_shown.nd rfl (Or.inl rfl) (pe_meth0 (pv 0) hl.cl hl.mwalls Fwalls hr bwalls .nil pass0))
    (pss_cons (ps_if (PW.pt (pw_or (pt_not (pt_val (pe_callB call_isinst rfl T.isinstance boot_isinstance (pa_cons (pv 2) (pa_cons (pe_bltn (v := .ty "list") rfl T.list boot_list rfl) pa_nil))))) (pw_or1 (pt_cmpR (op_neDK (K := K) rfl hr.units) (pv 2) (pv 1) (nomark _))))) (pss_one (ps_ret pe_bl)) pss_nil)
    (pss_cons (ps_for PassesOwn.never rfl (pi_listK (K := K) rfl (pv 2)) (pg_name (i := 3) sc_l_shown.nd rfl (Or.inl rfl)) (pss_one (ps_if (PW.pt (pw_or (pt_not (pt_val (pe_callB call_isinst rfl T.isinstance boot_isinstance (pa_cons (pv 3) (pa_cons (pe_bltn (v := .ty "tuple") rfl T.tuple boot_tuple rfl) pa_nil))))) (pw_or1 (pt_cmpR (op_neDK (K := K) rfl hr.units) (pe_comp (Nc := ["_law_part"]) (fr := [none]) rfl (pi_tupK (K := K) rfl (pv 3)) rfl (by decide) rfl (by decide) rfl trivial trivial (fun _ _ _ _ => (pg_name (i := 0) (show List.Nodup (["_law_part"] : List Str) from by decide) rfl (Or.inl rfl))) (fun _ _ _ _ => (pts_one (pt_not (pt_val (pe_cal c_l_whole hr rfl (pa_cons (pv 0) pa_nil)))))) (fun _ _ _ _ => (pv 0))) (pe_lst pa_nil) (nomark _))))) (pss_one (ps_ret pe_bl)) pss_nil)))
    (pss_cons (ps_expr (pe_bm PySem.F.plainAttrs_list PySem.F.slot_list_append PySem.F.type_list_append mt_append (pv 2) (pa_cons pe_int pa_nil)))
    (pss_one (ps_ret (pe_cmpR (op_eqDK (K := K) rfl hr.units) (pe_meth0 (pv 0) hl.cl hl.mwalls Fwalls hr bwalls .nil pass0) (pv 1) (nomark _)))))))), ?_⟩
  refine ⟨_, rfl, x, dx, _, rfl, hx, rfl, x, dx, st, m, as, rfl, hx, hst, fun l hl0 => ?_⟩
  have g1 := same_new hl0 (.lst (as.map V.ref))
  have e1 : upd H l (.lst (as.map V.ref)) l = some (.lst (as.map V.ref)) := upd_same
  generalize upd H l (.lst (as.map V.ref)) = H1 at *
  have has1 := has.same g1
  refine ⟨_, rfl, _, _, _, _, rfl, .lst e1, rfl, _, rfl, ?_⟩
  refine iteF ?_
  refine ⟨_, rfl, _, rfl, l, ls, _, _, rfl, rfl, isD_ts e1 has1, isD_ts (g1 _ _ hls) (hbs.same g1), oks_ts _ _, _, rfl, ?_⟩
  rw [(Dt.eqb_iff _ _).mpr rfl]
  refine iteF ?_
  refine ⟨_, rfl, l, rfl, ⟨_, SqL.of e1⟩, ?_⟩
  refine for_runs (runs_list K l (as.map V.ref)) (fun i σ H' => ∃ (s3 : Option V), σ = [some (.ref x), some (.ref ls), some (.ref l), s3] ∧ Same H1 H') ⟨_, rfl, Same.refl _⟩ (fun i σ H' _ h => let ⟨_, _, g⟩ := h; SqL.of (g _ _ e1)) ?_ ?_
  · rintro i y σ H2 H3 hi ⟨s3, rfl, g⟩ ⟨rfl, hy⟩
    rw [List.length_map, has.1] at hi
    rw [List.getElem?_map] at hy
    obtain ⟨a, ha, rfl⟩ := Option.map_eq_some_iff.mp hy
    have et : ts[i]? = some ts[i] := List.getElem?_eq_getElem hi
    have tl := t10 _ (List.getElem_mem hi)
    generalize ts[i] = t at et tl
    have ht := g _ _ (has1.2 i a t ha et)
    refine ⟨_, rfl, _, _, _, _, rfl, .tup ht, rfl, _, rfl, ?_⟩
    refine iteF ?_
    refine ⟨_, rfl, a, rfl, ⟨_, SqT.of ht⟩, fun D hD => ?_⟩
    refine comp_pure rfl (runs_tup K a (t.map V.int)) hD (fun _ => false) (fun u => u) (fun H' g' => SqT.of (g' _ _ ht)) (line_ge (by rw [List.length_map]; omega)) ?_ ?_ ?_
    · intro x hx _ _ S h
      obtain ⟨n, _, rfl⟩ := List.mem_map.mp hx
      exact ⟨_, rfl, n, rfl, _, rfl, h⟩
    · intro x hx hf _ _ S h
      cases hf
    have ee : ((t.map V.int).filter fun _ => false).map (fun u => u) = ([] : List Int).map V.int := by simp
    rw [ee]
    have g4 := same_new hD (.lst (([] : List Int).map V.int))
    have e4 : upd H3 D (.lst (([] : List Int).map V.int)) D = some (.lst (([] : List Int).map V.int)) := upd_same
    generalize upd H3 D (.lst (([] : List Int).map V.int)) = H4 at *
    refine ⟨Nat.zero_le _, fun e0 he0 => ?_⟩
    have g5 := same_new he0 (.lst [])
    have e5 : upd H4 e0 (.lst []) e0 = some (.lst (([] : List Int).map V.int)) := upd_same
    generalize upd H4 e0 (.lst []) = H5 at *
    refine ⟨D, e0, _, _, rfl, rfl, isD_l (g5 _ _ e4), isD_l e5, oks_ints 8 _ _, _, rfl, ?_⟩
    rw [(Dt.eqb_iff _ _).mpr rfl]
    refine iteF ?_
    exact ⟨_, rfl, g.trans (g4.trans g5)⟩
  rintro σ H2 ⟨s3, rfl, g⟩
  have e2 := g _ _ e1
  refine ⟨_, rfl, .inl ⟨rfl, _, SqL.of e2⟩, l, _, _, rfl, rfl, e2, line_gt (by rw [List.length_map, has.1]; omega), ?_⟩
  have gU : Same H (upd H2 l (.lst (as.map V.ref ++ [V.int 0]))) := fun b o e => by rw [upd_ne (ne_of_none e hl0)]; exact (g1.trans g) _ _ e
  generalize upd H2 l (.lst (as.map V.ref ++ [V.int 0])) = H3 at *
  have hx3 := gU _ _ hx
  refine ⟨_, rfl, x, dx, _, rfl, hx3, rfl, x, dx, st, m, as, rfl, hx3, gU _ _ hst, fun l4 hl4 => ?_⟩
  have g4 := same_new hl4 (.lst (as.map V.ref))
  have e4 : upd H3 l4 (.lst (as.map V.ref)) l4 = some (.lst (as.map V.ref)) := upd_same
  generalize upd H3 l4 (.lst (as.map V.ref)) = H4 at *
  have gH4 := gU.trans g4
  refine ⟨_, rfl, l4, ls, _, _, rfl, rfl, isD_ts e4 (has.same gH4), isD_ts (gH4 _ _ hls) (hbs.same gH4), oks_ts _ _, ?_⟩
  rw [(Dt.eqb_iff _ _).mpr rfl]
  exact q _ gH4
abbrev s_l_done : Stmt := top 26
theorem sc_l_done : FnScope ["_law_hall", "_law_standing", "_law_ways", "_law_cell", "_law_place", "_law_there", "_law_row_here", "_law_due", "_law_handed"] ["_law_hall", "_law_standing", "_law_ways", "_law_cell"] (defScope s_l_done) := ⟨rfl, rfl, rfl, by decide +kernel, rfl, by decide +kernel, by decide +kernel⟩
def spDone (K : PySem.W.Frag) (C : Addr) : Sp := fun vs H Q _ => ∃ (x dx st ls : Addr) (m : Nat) (cell : Int) (as bs : List Addr) (ts : List (List Int)), vs = [.ref x, .ref ls, .int (m : Nat), .int cell] ∧ H x = some (.ins C dx (hFs (m : Nat) st)) ∧ H st = some (.lst (as.map V.ref)) ∧ TsA H as ts ∧ H ls = some (.lst (bs.map V.ref)) ∧ TsA H bs ts ∧ st ≠ ls ∧ ts.length ≤ 9 ∧ m ≤ 4 ∧ (∀ t ∈ ts, t.length = m + 1 ∧ ∀ n ∈ t, intBits n ≤ 100) ∧
  ∀ (as' bs' : List Addr) (ts' : List (List Int)) (H' : Hp), (∀ b o, b ≠ st → b ≠ ls → H b = some o → H' b = some o) → H' st = some (.lst (as'.map V.ref)) → TsA H' as' ts' → H' ls = some (.lst (bs'.map V.ref)) → TsA H' bs' ts' → ts'.length ≤ 9 → (∀ t ∈ ts', t.length = m + 1 ∧ ∀ n ∈ t, intBits n ≤ 100) → Q (.bl true) H'
theorem ok_l_done (T : Txt mg) (F : Fun K "_law_done" "_law_done" s_l_done f fd) (c_l_took : Cal P w K mg base 5 "_law_took" ["_law_hall", "_law_place"] (spLTook K C)) (c_l_row : Cal P w K mg base 5 "_law_row" ["_law_standing", "_law_ways", "_law_cell"] (spRow K)) (c_l_plain : Cal P w K mg base 5 "_law_plain" ["_law_row_here"] (spPlain K)) (c_l_put : Cal P w K mg base 5 "_law_put" ["_law_hall", "_law_row_here"] (spLPut K C)) : FnOk P w K mg base CX0 6 f fd ["_law_hall", "_law_standing", "_law_ways", "_law_cell"] (spDone K C) := by
  refine F.ok sc_l_done (fun vs H Q E h => ?_) (fun cdv A outer s H vs Q E hr h => ?_)
  · obtain ⟨_, _, _, _, _, _, _, _, _, rfl, _⟩ := h; rfl
  obtain ⟨x, dx, st, ls, m, cell, as, bs, ts, rfl, hx, hst, has, hls, hbs, hne, t9, m4, zt, q⟩ := h
  refine ⟨_, (pss_cons (ps_if (PW.pt (pw_or (pt_cmpR op_eq (pe_op op_modP (pv 3) pe_int) pe_int (nomark _)) (pw_or1 (pt_cmpR op_gt (pe_callB (call_lenK (K := K) rfl) rfl T.len PySem.boot_len (pa_cons (pv 1) pa_nil)) pe_int (nomark _))))) (pss_cons (ps_set (i := 4) sc_l_done.nd rfl (Or.inl rfl) (pe_op op_modP (pe_op op_fdivB (pv 3) pe_int) (pe_callB (call_max2 rfl) rfl T.max boot_max (pa_cons pe_int (pa_cons (pe_callB (call_lenK (K := K) rfl) rfl T.len PySem.boot_len (pa_cons (pv 1) pa_nil)) pa_nil)))))
    (pss_cons (ps_if (pt_cmpR op_eq (pe_op op_modP (pe_op op_fdivB (pv 3) pe_int) pe_int) pe_int (nomark _)) (pss_one (ps_set (i := 4) sc_l_done.nd rfl (Or.inl rfl) (pe_ix (ix_listK (K := K) rfl) (pe_lst (pa_cons (pe_un un_neg pe_int) (pa_cons (pe_callB (call_lenK (K := K) rfl) rfl T.len PySem.boot_len (pa_cons (pv 1) pa_nil)) (pa_cons (pe_op op_add (pe_callB (call_lenK (K := K) rfl) rfl T.len PySem.boot_len (pa_cons (pv 1) pa_nil)) (pe_op op_modP (pv 3) (pe_powC (v := 100000000000000000000) (by decide +kernel) pe_int pe_int))) pa_nil)))) (pe_op op_modP (pe_op op_fdivB (pv 3) pe_int) pe_int) (fun _ _ => rfl)))) pss_nil)
    (pss_cons (ps_set (i := 5) sc_l_done.nd rfl (Or.inl rfl) (pe_and (pe_cmpR op_le pe_int (pv 4) (nomark _)) (pe_one (pe_cmpR op_lt (pv 4) (pe_callB (call_lenK (K := K) rfl) rfl T.len PySem.boot_len (pa_cons (pv 1) pa_nil)) (nomark _)))))
    (pss_cons (ps_if (pt_cmpR (op_neSame (K := K) rfl hr.units) (pe_cal c_l_took hr rfl (pa_cons (pv 0) (pa_cons (pv 4) pa_nil))) (pe_ix (ix_listK (K := K) rfl) (pe_lst (pa_cons (pe_lst (pa_cons pe_str pa_nil)) (pa_cons (pe_lst pa_nil) pa_nil))) (pe_callTy call_int1 rfl T.int boot_int (pa_cons (pv 5) pa_nil)) (fun _ _ => rfl)) (nomark _)) (pss_one (ps_ret pe_bl)) pss_nil)
    (pss_cons (ps_if (pt_val (pv 5)) (pss_one (ps_expr (pe_bm PySem.F.plainAttrs_list PySem.F.slot_list_pop PySem.F.type_list_pop mt_popAt (pv 1) (pa_cons (pv 4) pa_nil)))) pss_nil)
    (pss_one (ps_ret pe_bl))))))) pss_nil)
    (pss_cons (ps_set (i := 6) sc_l_done.nd rfl (Or.inl rfl) (pe_cal c_l_row hr rfl (pa_cons (pv 1) (pa_cons (pv 2) (pa_cons (pe_op op_fdivB (pv 3) pe_int) pa_nil)))))
    (pss_cons (ps_set (i := 7) sc_l_done.nd rfl (Or.inl rfl) (pe_lst pa_nil))
    (pss_cons (ps_if (pt_not (pt_val (pe_callB (call_anyK (K := K) rfl rfl) rfl T.any boot_any (pa_cons (pe_slice (sl_anyK (K := K) rfl) (pv 6) po_none (po_some (pe_un un_neg pe_int))) pa_nil)))) (pss_one (ps_set (i := 7) sc_l_done.nd rfl (Or.inl rfl) (pe_lst (pa_cons (pe_tup (pa_cons pe_str (pa_cons pe_int pa_nil))) pa_nil)))) (pss_one (ps_if (pt_cmpR (op_inDK (K := K) rfl hr.units) (pe_cal c_l_plain hr rfl (pa_cons (pv 6) pa_nil)) (pv 1) (by with_unfolding_all rfl)) (pss_one (ps_set (i := 7) sc_l_done.nd rfl (Or.inl rfl) (pe_lst (pa_cons (pe_tup (pa_cons pe_str (pa_cons (pe_bm PySem.F.plainAttrs_list PySem.F.slot_list_index PySem.F.type_list_index (mt_indexT (K := K) rfl hr.units) (pv 1) (pa_cons (pe_cal c_l_plain hr rfl (pa_cons (pv 6) pa_nil)) pa_nil)) pa_nil))) pa_nil)))) pss_nil)))
    (pss_cons (ps_set (i := 8) sc_l_done.nd rfl (Or.inl rfl) (pe_callTy (call_listK (K := K) rfl) rfl T.list boot_list (pa_cons (pv 6) pa_nil)))
    (pss_cons (ps_if (PW.pt (pw_or (pt_cmpR (op_neSame (K := K) rfl hr.units) (pe_cal c_l_put hr rfl (pa_cons (pv 0) (pa_cons (pv 8) pa_nil))) (pv 7) (nomark _)) (pw_or1 (pt_cmpR (op_neDK (K := K) rfl hr.units) (pv 8) (pv 6) (nomark _))))) (pss_one (ps_ret pe_bl)) pss_nil)
    (pss_cons (ps_expr (pe_bm0 PySem.F.plainAttrs_list PySem.F.slot_list_clear PySem.F.type_list_clear mt_clear (pv 8)))
    (pss_cons (ps_if (pt_cmpR (op_eqNil (K := K) rfl hr.units) (pv 7) (pe_lst pa_nil) (nomark _)) (pss_one (ps_expr (pe_bm PySem.F.plainAttrs_list PySem.F.slot_list_append PySem.F.type_list_append mt_append (pv 1) (pa_cons (pe_cal c_l_plain hr rfl (pa_cons (pv 6) pa_nil)) pa_nil)))) pss_nil)
    (pss_one (ps_ret pe_bl)))))))))), ?_⟩
  have lb : (((bs.map V.ref).length : Nat) : Int) = (ts.length : Int) := by rw [List.length_map, hbs.1]
  refine ⟨_, rfl, _, _, rfl, rfl, cm, rfl, _, rfl, ?_⟩
  refine ite2 (fun c => ?_) (fun c => ?_)
  · refine iteT ?_
    refine ⟨_, rfl, _, _, rfl, rfl, cf, _, rfl, ls, _, rfl, .inl (SqL.of hls), _, _, rfl, _, _, rfl, rfl, ?_, ?_⟩
    · show (0 : Int) < _
      split <;> omega
    dsimp only
    generalize cell / 3 % (if (((bs.map V.ref).length : Nat) : Int) > 1 then (((bs.map V.ref).length : Nat) : Int) else 1) = k0
    refine ⟨_, rfl, _, _, rfl, rfl, cf, _, _, rfl, rfl, cm, rfl, _, rfl, ?_⟩
    refine ite2 (fun c3 => ?_) (fun c3 => ?_)
    · refine ⟨_, rfl, _, rfl, ls, _, rfl, .inl (SqL.of hls), _, rfl, ls, _, rfl, .inl (SqL.of hls), _, rfl, _, _, rfl, rfl, cm, _, _, rfl, rfl, line_ge (by show 3 ≤ _; decide), fun z hz => ?_⟩
      obtain ⟨k1, hk1⟩ := pick3 (a := -1) (b := (((bs.map V.ref).length : Nat) : Int)) (c := (((bs.map V.ref).length : Nat) : Int) + cell % 100000000000000000000) (z := cell / 3000 % 3) (by omega) (by omega)
      refine ⟨_, rfl, _, _, rfl, rfl, cf, _, _, rfl, rfl, cm, z, _, _, _, rfl, rfl, SqL.of upd_same, hk1, ?_⟩
      have gz := same_new hz (.lst [V.int (-1), V.int (((bs.map V.ref).length : Nat) : Int), V.int ((((bs.map V.ref).length : Nat) : Int) + cell % 100000000000000000000)])
      dsimp only
      generalize upd H z (.lst [V.int (-1), V.int (((bs.map V.ref).length : Nat) : Int), V.int ((((bs.map V.ref).length : Nat) : Int) + cell % 100000000000000000000)]) = Hz at *
      have hlsx := gz _ _ hls
      have hbsx := hbs.same gz
      have hxx := gz _ _ hx
      have hstx := gz _ _ hst
      have hasx := has.same gz
      refine ⟨_, rfl, _, _, rfl, rfl, _, rfl, ?_⟩
      by_cases hk : 0 ≤ k1 ∧ k1 < (ts.length : Int)
      · rw [decide_eq_true hk.1]
        refine iteT ?_
        refine ⟨_, rfl, _, rfl, ls, _, rfl, .inl (SqL.of hlsx), _, _, rfl, rfl, ?_⟩
        rw [lb]
        dsimp only
        rw [decide_eq_true hk.2]
        have hka : k1 < (as.length : Int) := by rw [has.1]; exact hk.2
        refine ⟨_, rfl, _, rfl, x, dx, st, m, k1, as, rfl, hxx, hstx, by rw [has.1]; omega, .inl ⟨hk.1, hka, fun r H4 g4 est tl => ?_⟩⟩
        refine ⟨line_ge (by show 1 ≤ _; decide), fun z1 hz1 => ⟨Nat.zero_le _, fun z2 hz2 => ⟨line_ge (by show 2 ≤ _; decide), fun z3 hz3 => ?_⟩⟩⟩
        have g5 := same_new hz1 (.lst [V.str "place"])
        have g6 := same_new hz2 (.lst [])
        have g7 := same_new hz3 (.lst [V.ref z1, V.ref z2])
        have e6 : upd (upd H4 z1 (.lst [V.str "place"])) z2 (.lst []) z2 = some (.lst []) := upd_same
        have e7 : upd (upd (upd H4 z1 (.lst [V.str "place"])) z2 (.lst [])) z3 (.lst [V.ref z1, V.ref z2]) z3 = some (.lst [V.ref z1, V.ref z2]) := upd_same
        have g47 := g5.trans (g6.trans g7)
        have e67 := g7 _ _ e6
        generalize upd (upd (upd H4 z1 (.lst [V.str "place"])) z2 (.lst [])) z3 (.lst [V.ref z1, V.ref z2]) = H7 at *
        obtain ⟨xs, er, hsd⟩ := tl
        cases hsd
        refine ⟨_, rfl, .inr ⟨_, rfl, z3, _, _, _, rfl, rfl, SqL.of e7, (show atI [V.ref z1, V.ref z2] 1 = some (.ref z2) from rfl), ?_⟩⟩
        refine ⟨r, z2, _, _, [], rfl, rfl, SqL.of (g47 _ _ er), SqL.of e67, .nil, .nil, _, rfl, ?_⟩
        refine iteF ?_
        refine ⟨_, rfl, _, rfl, ?_⟩
        refine iteT ?_
        obtain ⟨n, rfl⟩ : ∃ n : Nat, k1 = (n : Int) := ⟨(k1).toNat, by omega⟩
        have hn : n < bs.length := by rw [hbs.1]; omega
        have hls7 := g47 _ _ (g4 _ _ hne.symm hlsx)
        have hst7 := g47 _ _ est
        refine ⟨_, rfl, .inl ⟨rfl, _, SqL.of hls7⟩, _, rfl, ls, _, _, n, .ref bs[n], rfl, rfl, hls7, by omega, by omega, seq_at (by rw [List.length_map]; exact hn), by rw [List.getElem?_map, List.getElem?_eq_getElem hn]; rfl, ?_⟩
        rw [map_erase, Int.toNat_natCast] at *
        have tone : ∀ (b : Addr) (t : List Int), Hz b = some (.tup (t.map V.int)) → upd H7 ls (.lst ((bs.eraseIdx n).map V.ref)) b = some (.tup (t.map V.int)) := fun b t e => by
          have n1 : b ≠ st := fun z => by rw [z, hstx] at e; cases e
          have n2 : b ≠ ls := fun z => by rw [z, hlsx] at e; cases e
          rw [upd_ne n2]; exact g47 _ _ (g4 _ _ n1 e)
        refine q (as.eraseIdx n) (bs.eraseIdx n) (ts.eraseIdx n) _ (fun b o h1 h2 e => by rw [upd_ne h2]; exact g47 _ _ (g4 _ _ h1 (gz _ _ e))) (by rw [upd_ne hne]; exact hst7) (TsA.era n hasx tone) upd_same (TsA.era n hbsx tone) (Nat.le_trans (len_era _ _) t9) fun t ht => zt t (List.mem_of_mem_eraseIdx ht)
      · have kk : k1 < 0 ∨ (as.length : Int) ≤ k1 := by rw [has.1]; omega
        refine ite2 (fun c => ?_) (fun c => ?_)
        case' _ =>
          refine ⟨_, rfl, _, rfl, ls, _, rfl, .inl (SqL.of hlsx), _, _, rfl, rfl, ?_⟩
          rw [lb]
          dsimp only
          rw [decide_eq_false (fun z => hk ⟨of_decide_eq_true c, z⟩)]
        all_goals
          refine ⟨_, rfl, _, rfl, x, dx, st, m, k1, as, rfl, hxx, hstx, by rw [has.1]; omega, .inr ⟨kk, fun r H4 g4 tl => ?_⟩⟩
          refine ⟨line_ge (by show 1 ≤ _; decide), fun z1 hz1 => ⟨Nat.zero_le _, fun z2 hz2 => ⟨line_ge (by show 2 ≤ _; decide), fun z3 hz3 => ?_⟩⟩⟩
          have g5 := same_new hz1 (.lst [V.str "place"])
          have e5 : upd H4 z1 (.lst [V.str "place"]) z1 = some (.lst [V.str "place"]) := upd_same
          have g6 := same_new hz2 (.lst [])
          have g7 := same_new hz3 (.lst [V.ref z1, V.ref z2])
          have e7 : upd (upd (upd H4 z1 (.lst [V.str "place"])) z2 (.lst [])) z3 (.lst [V.ref z1, V.ref z2]) z3 = some (.lst [V.ref z1, V.ref z2]) := upd_same
          have g47 := g5.trans (g6.trans g7)
          have e57 := (g6.trans g7) _ _ e5
          generalize upd (upd (upd H4 z1 (.lst [V.str "place"])) z2 (.lst [])) z3 (.lst [V.ref z1, V.ref z2]) = H7 at *
          obtain ⟨xs, er, hsd⟩ := tl
          refine ⟨_, rfl, .inr ⟨_, rfl, z3, _, _, _, rfl, rfl, SqL.of e7, (show atI [V.ref z1, V.ref z2] 0 = some (.ref z1) from rfl), ?_⟩⟩
          refine ⟨r, z1, _, _, [.s "place"], rfl, rfl, SqL.of (g47 _ _ er), SqL.of e57, sds_same g47 hsd, .cons rfl .nil, _, rfl, ?_⟩
          refine iteF ?_
          refine ⟨_, rfl, _, rfl, ?_⟩
          refine iteF ?_
          have gg := gz.trans (g4.trans g47)
          exact q as bs ts _ (fun b o _ _ e => gg _ _ e) (gg _ _ hst) (has.same gg) (gg _ _ hls) (hbs.same gg) t9 zt

    · have gr := Same.refl H
      have hlsx := gr _ _ hls
      have hbsx := hbs.same gr
      have hxx := gr _ _ hx
      have hstx := gr _ _ hst
      have hasx := has.same gr
      refine ⟨_, rfl, _, _, rfl, rfl, _, rfl, ?_⟩
      by_cases hk : 0 ≤ k0 ∧ k0 < (ts.length : Int)
      · rw [decide_eq_true hk.1]
        refine iteT ?_
        refine ⟨_, rfl, _, rfl, ls, _, rfl, .inl (SqL.of hlsx), _, _, rfl, rfl, ?_⟩
        rw [lb]
        dsimp only
        rw [decide_eq_true hk.2]
        have hka : k0 < (as.length : Int) := by rw [has.1]; exact hk.2
        refine ⟨_, rfl, _, rfl, x, dx, st, m, k0, as, rfl, hxx, hstx, by rw [has.1]; omega, .inl ⟨hk.1, hka, fun r H4 g4 est tl => ?_⟩⟩
        refine ⟨line_ge (by show 1 ≤ _; decide), fun z1 hz1 => ⟨Nat.zero_le _, fun z2 hz2 => ⟨line_ge (by show 2 ≤ _; decide), fun z3 hz3 => ?_⟩⟩⟩
        have g5 := same_new hz1 (.lst [V.str "place"])
        have g6 := same_new hz2 (.lst [])
        have g7 := same_new hz3 (.lst [V.ref z1, V.ref z2])
        have e6 : upd (upd H4 z1 (.lst [V.str "place"])) z2 (.lst []) z2 = some (.lst []) := upd_same
        have e7 : upd (upd (upd H4 z1 (.lst [V.str "place"])) z2 (.lst [])) z3 (.lst [V.ref z1, V.ref z2]) z3 = some (.lst [V.ref z1, V.ref z2]) := upd_same
        have g47 := g5.trans (g6.trans g7)
        have e67 := g7 _ _ e6
        generalize upd (upd (upd H4 z1 (.lst [V.str "place"])) z2 (.lst [])) z3 (.lst [V.ref z1, V.ref z2]) = H7 at *
        obtain ⟨xs, er, hsd⟩ := tl
        cases hsd
        refine ⟨_, rfl, .inr ⟨_, rfl, z3, _, _, _, rfl, rfl, SqL.of e7, (show atI [V.ref z1, V.ref z2] 1 = some (.ref z2) from rfl), ?_⟩⟩
        refine ⟨r, z2, _, _, [], rfl, rfl, SqL.of (g47 _ _ er), SqL.of e67, .nil, .nil, _, rfl, ?_⟩
        refine iteF ?_
        refine ⟨_, rfl, _, rfl, ?_⟩
        refine iteT ?_
        obtain ⟨n, rfl⟩ : ∃ n : Nat, k0 = (n : Int) := ⟨(k0).toNat, by omega⟩
        have hn : n < bs.length := by rw [hbs.1]; omega
        have hls7 := g47 _ _ (g4 _ _ hne.symm hlsx)
        have hst7 := g47 _ _ est
        refine ⟨_, rfl, .inl ⟨rfl, _, SqL.of hls7⟩, _, rfl, ls, _, _, n, .ref bs[n], rfl, rfl, hls7, by omega, by omega, seq_at (by rw [List.length_map]; exact hn), by rw [List.getElem?_map, List.getElem?_eq_getElem hn]; rfl, ?_⟩
        rw [map_erase, Int.toNat_natCast] at *
        have tone : ∀ (b : Addr) (t : List Int), H b = some (.tup (t.map V.int)) → upd H7 ls (.lst ((bs.eraseIdx n).map V.ref)) b = some (.tup (t.map V.int)) := fun b t e => by
          have n1 : b ≠ st := fun z => by rw [z, hstx] at e; cases e
          have n2 : b ≠ ls := fun z => by rw [z, hlsx] at e; cases e
          rw [upd_ne n2]; exact g47 _ _ (g4 _ _ n1 e)
        refine q (as.eraseIdx n) (bs.eraseIdx n) (ts.eraseIdx n) _ (fun b o h1 h2 e => by rw [upd_ne h2]; exact g47 _ _ (g4 _ _ h1 (gr _ _ e))) (by rw [upd_ne hne]; exact hst7) (TsA.era n hasx tone) upd_same (TsA.era n hbsx tone) (Nat.le_trans (len_era _ _) t9) fun t ht => zt t (List.mem_of_mem_eraseIdx ht)
      · have kk : k0 < 0 ∨ (as.length : Int) ≤ k0 := by rw [has.1]; omega
        refine ite2 (fun c => ?_) (fun c => ?_)
        case' _ =>
          refine ⟨_, rfl, _, rfl, ls, _, rfl, .inl (SqL.of hlsx), _, _, rfl, rfl, ?_⟩
          rw [lb]
          dsimp only
          rw [decide_eq_false (fun z => hk ⟨of_decide_eq_true c, z⟩)]
        all_goals
          refine ⟨_, rfl, _, rfl, x, dx, st, m, k0, as, rfl, hxx, hstx, by rw [has.1]; omega, .inr ⟨kk, fun r H4 g4 tl => ?_⟩⟩
          refine ⟨line_ge (by show 1 ≤ _; decide), fun z1 hz1 => ⟨Nat.zero_le _, fun z2 hz2 => ⟨line_ge (by show 2 ≤ _; decide), fun z3 hz3 => ?_⟩⟩⟩
          have g5 := same_new hz1 (.lst [V.str "place"])
          have e5 : upd H4 z1 (.lst [V.str "place"]) z1 = some (.lst [V.str "place"]) := upd_same
          have g6 := same_new hz2 (.lst [])
          have g7 := same_new hz3 (.lst [V.ref z1, V.ref z2])
          have e7 : upd (upd (upd H4 z1 (.lst [V.str "place"])) z2 (.lst [])) z3 (.lst [V.ref z1, V.ref z2]) z3 = some (.lst [V.ref z1, V.ref z2]) := upd_same
          have g47 := g5.trans (g6.trans g7)
          have e57 := (g6.trans g7) _ _ e5
          generalize upd (upd (upd H4 z1 (.lst [V.str "place"])) z2 (.lst [])) z3 (.lst [V.ref z1, V.ref z2]) = H7 at *
          obtain ⟨xs, er, hsd⟩ := tl
          refine ⟨_, rfl, .inr ⟨_, rfl, z3, _, _, _, rfl, rfl, SqL.of e7, (show atI [V.ref z1, V.ref z2] 0 = some (.ref z1) from rfl), ?_⟩⟩
          refine ⟨r, z1, _, _, [.s "place"], rfl, rfl, SqL.of (g47 _ _ er), SqL.of e57, sds_same g47 hsd, .cons rfl .nil, _, rfl, ?_⟩
          refine iteF ?_
          refine ⟨_, rfl, _, rfl, ?_⟩
          refine iteF ?_
          have gg := gr.trans (g4.trans g47)
          exact q as bs ts _ (fun b o _ _ e => gg _ _ e) (gg _ _ hst) (has.same gg) (gg _ _ hls) (hbs.same gg) t9 zt

  refine ⟨_, rfl, ls, _, rfl, .inl (SqL.of hls), _, _, rfl, rfl, _, rfl, ?_⟩
  refine ite2 (fun c2 => ?_) (fun c2 => ?_)
  · skip
    refine ⟨_, rfl, _, _, rfl, rfl, cf, _, rfl, ls, _, rfl, .inl (SqL.of hls), _, _, rfl, _, _, rfl, rfl, ?_, ?_⟩
    · show (0 : Int) < _
      split <;> omega
    dsimp only
    generalize cell / 3 % (if (((bs.map V.ref).length : Nat) : Int) > 1 then (((bs.map V.ref).length : Nat) : Int) else 1) = k0
    refine ⟨_, rfl, _, _, rfl, rfl, cf, _, _, rfl, rfl, cm, rfl, _, rfl, ?_⟩
    refine ite2 (fun c3 => ?_) (fun c3 => ?_)
    · refine ⟨_, rfl, _, rfl, ls, _, rfl, .inl (SqL.of hls), _, rfl, ls, _, rfl, .inl (SqL.of hls), _, rfl, _, _, rfl, rfl, cm, _, _, rfl, rfl, line_ge (by show 3 ≤ _; decide), fun z hz => ?_⟩
      obtain ⟨k1, hk1⟩ := pick3 (a := -1) (b := (((bs.map V.ref).length : Nat) : Int)) (c := (((bs.map V.ref).length : Nat) : Int) + cell % 100000000000000000000) (z := cell / 3000 % 3) (by omega) (by omega)
      refine ⟨_, rfl, _, _, rfl, rfl, cf, _, _, rfl, rfl, cm, z, _, _, _, rfl, rfl, SqL.of upd_same, hk1, ?_⟩
      have gz := same_new hz (.lst [V.int (-1), V.int (((bs.map V.ref).length : Nat) : Int), V.int ((((bs.map V.ref).length : Nat) : Int) + cell % 100000000000000000000)])
      dsimp only
      generalize upd H z (.lst [V.int (-1), V.int (((bs.map V.ref).length : Nat) : Int), V.int ((((bs.map V.ref).length : Nat) : Int) + cell % 100000000000000000000)]) = Hz at *
      have hlsx := gz _ _ hls
      have hbsx := hbs.same gz
      have hxx := gz _ _ hx
      have hstx := gz _ _ hst
      have hasx := has.same gz
      refine ⟨_, rfl, _, _, rfl, rfl, _, rfl, ?_⟩
      by_cases hk : 0 ≤ k1 ∧ k1 < (ts.length : Int)
      · rw [decide_eq_true hk.1]
        refine iteT ?_
        refine ⟨_, rfl, _, rfl, ls, _, rfl, .inl (SqL.of hlsx), _, _, rfl, rfl, ?_⟩
        rw [lb]
        dsimp only
        rw [decide_eq_true hk.2]
        have hka : k1 < (as.length : Int) := by rw [has.1]; exact hk.2
        refine ⟨_, rfl, _, rfl, x, dx, st, m, k1, as, rfl, hxx, hstx, by rw [has.1]; omega, .inl ⟨hk.1, hka, fun r H4 g4 est tl => ?_⟩⟩
        refine ⟨line_ge (by show 1 ≤ _; decide), fun z1 hz1 => ⟨Nat.zero_le _, fun z2 hz2 => ⟨line_ge (by show 2 ≤ _; decide), fun z3 hz3 => ?_⟩⟩⟩
        have g5 := same_new hz1 (.lst [V.str "place"])
        have g6 := same_new hz2 (.lst [])
        have g7 := same_new hz3 (.lst [V.ref z1, V.ref z2])
        have e6 : upd (upd H4 z1 (.lst [V.str "place"])) z2 (.lst []) z2 = some (.lst []) := upd_same
        have e7 : upd (upd (upd H4 z1 (.lst [V.str "place"])) z2 (.lst [])) z3 (.lst [V.ref z1, V.ref z2]) z3 = some (.lst [V.ref z1, V.ref z2]) := upd_same
        have g47 := g5.trans (g6.trans g7)
        have e67 := g7 _ _ e6
        generalize upd (upd (upd H4 z1 (.lst [V.str "place"])) z2 (.lst [])) z3 (.lst [V.ref z1, V.ref z2]) = H7 at *
        obtain ⟨xs, er, hsd⟩ := tl
        cases hsd
        refine ⟨_, rfl, .inr ⟨_, rfl, z3, _, _, _, rfl, rfl, SqL.of e7, (show atI [V.ref z1, V.ref z2] 1 = some (.ref z2) from rfl), ?_⟩⟩
        refine ⟨r, z2, _, _, [], rfl, rfl, SqL.of (g47 _ _ er), SqL.of e67, .nil, .nil, _, rfl, ?_⟩
        refine iteF ?_
        refine ⟨_, rfl, _, rfl, ?_⟩
        refine iteT ?_
        obtain ⟨n, rfl⟩ : ∃ n : Nat, k1 = (n : Int) := ⟨(k1).toNat, by omega⟩
        have hn : n < bs.length := by rw [hbs.1]; omega
        have hls7 := g47 _ _ (g4 _ _ hne.symm hlsx)
        have hst7 := g47 _ _ est
        refine ⟨_, rfl, .inl ⟨rfl, _, SqL.of hls7⟩, _, rfl, ls, _, _, n, .ref bs[n], rfl, rfl, hls7, by omega, by omega, seq_at (by rw [List.length_map]; exact hn), by rw [List.getElem?_map, List.getElem?_eq_getElem hn]; rfl, ?_⟩
        rw [map_erase, Int.toNat_natCast] at *
        have tone : ∀ (b : Addr) (t : List Int), Hz b = some (.tup (t.map V.int)) → upd H7 ls (.lst ((bs.eraseIdx n).map V.ref)) b = some (.tup (t.map V.int)) := fun b t e => by
          have n1 : b ≠ st := fun z => by rw [z, hstx] at e; cases e
          have n2 : b ≠ ls := fun z => by rw [z, hlsx] at e; cases e
          rw [upd_ne n2]; exact g47 _ _ (g4 _ _ n1 e)
        refine q (as.eraseIdx n) (bs.eraseIdx n) (ts.eraseIdx n) _ (fun b o h1 h2 e => by rw [upd_ne h2]; exact g47 _ _ (g4 _ _ h1 (gz _ _ e))) (by rw [upd_ne hne]; exact hst7) (TsA.era n hasx tone) upd_same (TsA.era n hbsx tone) (Nat.le_trans (len_era _ _) t9) fun t ht => zt t (List.mem_of_mem_eraseIdx ht)
      · have kk : k1 < 0 ∨ (as.length : Int) ≤ k1 := by rw [has.1]; omega
        refine ite2 (fun c => ?_) (fun c => ?_)
        case' _ =>
          refine ⟨_, rfl, _, rfl, ls, _, rfl, .inl (SqL.of hlsx), _, _, rfl, rfl, ?_⟩
          rw [lb]
          dsimp only
          rw [decide_eq_false (fun z => hk ⟨of_decide_eq_true c, z⟩)]
        all_goals
          refine ⟨_, rfl, _, rfl, x, dx, st, m, k1, as, rfl, hxx, hstx, by rw [has.1]; omega, .inr ⟨kk, fun r H4 g4 tl => ?_⟩⟩
          refine ⟨line_ge (by show 1 ≤ _; decide), fun z1 hz1 => ⟨Nat.zero_le _, fun z2 hz2 => ⟨line_ge (by show 2 ≤ _; decide), fun z3 hz3 => ?_⟩⟩⟩
          have g5 := same_new hz1 (.lst [V.str "place"])
          have e5 : upd H4 z1 (.lst [V.str "place"]) z1 = some (.lst [V.str "place"]) := upd_same
          have g6 := same_new hz2 (.lst [])
          have g7 := same_new hz3 (.lst [V.ref z1, V.ref z2])
          have e7 : upd (upd (upd H4 z1 (.lst [V.str "place"])) z2 (.lst [])) z3 (.lst [V.ref z1, V.ref z2]) z3 = some (.lst [V.ref z1, V.ref z2]) := upd_same
          have g47 := g5.trans (g6.trans g7)
          have e57 := (g6.trans g7) _ _ e5
          generalize upd (upd (upd H4 z1 (.lst [V.str "place"])) z2 (.lst [])) z3 (.lst [V.ref z1, V.ref z2]) = H7 at *
          obtain ⟨xs, er, hsd⟩ := tl
          refine ⟨_, rfl, .inr ⟨_, rfl, z3, _, _, _, rfl, rfl, SqL.of e7, (show atI [V.ref z1, V.ref z2] 0 = some (.ref z1) from rfl), ?_⟩⟩
          refine ⟨r, z1, _, _, [.s "place"], rfl, rfl, SqL.of (g47 _ _ er), SqL.of e57, sds_same g47 hsd, .cons rfl .nil, _, rfl, ?_⟩
          refine iteF ?_
          refine ⟨_, rfl, _, rfl, ?_⟩
          refine iteF ?_
          have gg := gz.trans (g4.trans g47)
          exact q as bs ts _ (fun b o _ _ e => gg _ _ e) (gg _ _ hst) (has.same gg) (gg _ _ hls) (hbs.same gg) t9 zt

    · have gr := Same.refl H
      have hlsx := gr _ _ hls
      have hbsx := hbs.same gr
      have hxx := gr _ _ hx
      have hstx := gr _ _ hst
      have hasx := has.same gr
      refine ⟨_, rfl, _, _, rfl, rfl, _, rfl, ?_⟩
      by_cases hk : 0 ≤ k0 ∧ k0 < (ts.length : Int)
      · rw [decide_eq_true hk.1]
        refine iteT ?_
        refine ⟨_, rfl, _, rfl, ls, _, rfl, .inl (SqL.of hlsx), _, _, rfl, rfl, ?_⟩
        rw [lb]
        dsimp only
        rw [decide_eq_true hk.2]
        have hka : k0 < (as.length : Int) := by rw [has.1]; exact hk.2
        refine ⟨_, rfl, _, rfl, x, dx, st, m, k0, as, rfl, hxx, hstx, by rw [has.1]; omega, .inl ⟨hk.1, hka, fun r H4 g4 est tl => ?_⟩⟩
        refine ⟨line_ge (by show 1 ≤ _; decide), fun z1 hz1 => ⟨Nat.zero_le _, fun z2 hz2 => ⟨line_ge (by show 2 ≤ _; decide), fun z3 hz3 => ?_⟩⟩⟩
        have g5 := same_new hz1 (.lst [V.str "place"])
        have g6 := same_new hz2 (.lst [])
        have g7 := same_new hz3 (.lst [V.ref z1, V.ref z2])
        have e6 : upd (upd H4 z1 (.lst [V.str "place"])) z2 (.lst []) z2 = some (.lst []) := upd_same
        have e7 : upd (upd (upd H4 z1 (.lst [V.str "place"])) z2 (.lst [])) z3 (.lst [V.ref z1, V.ref z2]) z3 = some (.lst [V.ref z1, V.ref z2]) := upd_same
        have g47 := g5.trans (g6.trans g7)
        have e67 := g7 _ _ e6
        generalize upd (upd (upd H4 z1 (.lst [V.str "place"])) z2 (.lst [])) z3 (.lst [V.ref z1, V.ref z2]) = H7 at *
        obtain ⟨xs, er, hsd⟩ := tl
        cases hsd
        refine ⟨_, rfl, .inr ⟨_, rfl, z3, _, _, _, rfl, rfl, SqL.of e7, (show atI [V.ref z1, V.ref z2] 1 = some (.ref z2) from rfl), ?_⟩⟩
        refine ⟨r, z2, _, _, [], rfl, rfl, SqL.of (g47 _ _ er), SqL.of e67, .nil, .nil, _, rfl, ?_⟩
        refine iteF ?_
        refine ⟨_, rfl, _, rfl, ?_⟩
        refine iteT ?_
        obtain ⟨n, rfl⟩ : ∃ n : Nat, k0 = (n : Int) := ⟨(k0).toNat, by omega⟩
        have hn : n < bs.length := by rw [hbs.1]; omega
        have hls7 := g47 _ _ (g4 _ _ hne.symm hlsx)
        have hst7 := g47 _ _ est
        refine ⟨_, rfl, .inl ⟨rfl, _, SqL.of hls7⟩, _, rfl, ls, _, _, n, .ref bs[n], rfl, rfl, hls7, by omega, by omega, seq_at (by rw [List.length_map]; exact hn), by rw [List.getElem?_map, List.getElem?_eq_getElem hn]; rfl, ?_⟩
        rw [map_erase, Int.toNat_natCast] at *
        have tone : ∀ (b : Addr) (t : List Int), H b = some (.tup (t.map V.int)) → upd H7 ls (.lst ((bs.eraseIdx n).map V.ref)) b = some (.tup (t.map V.int)) := fun b t e => by
          have n1 : b ≠ st := fun z => by rw [z, hstx] at e; cases e
          have n2 : b ≠ ls := fun z => by rw [z, hlsx] at e; cases e
          rw [upd_ne n2]; exact g47 _ _ (g4 _ _ n1 e)
        refine q (as.eraseIdx n) (bs.eraseIdx n) (ts.eraseIdx n) _ (fun b o h1 h2 e => by rw [upd_ne h2]; exact g47 _ _ (g4 _ _ h1 (gr _ _ e))) (by rw [upd_ne hne]; exact hst7) (TsA.era n hasx tone) upd_same (TsA.era n hbsx tone) (Nat.le_trans (len_era _ _) t9) fun t ht => zt t (List.mem_of_mem_eraseIdx ht)
      · have kk : k0 < 0 ∨ (as.length : Int) ≤ k0 := by rw [has.1]; omega
        refine ite2 (fun c => ?_) (fun c => ?_)
        case' _ =>
          refine ⟨_, rfl, _, rfl, ls, _, rfl, .inl (SqL.of hlsx), _, _, rfl, rfl, ?_⟩
          rw [lb]
          dsimp only
          rw [decide_eq_false (fun z => hk ⟨of_decide_eq_true c, z⟩)]
        all_goals
          refine ⟨_, rfl, _, rfl, x, dx, st, m, k0, as, rfl, hxx, hstx, by rw [has.1]; omega, .inr ⟨kk, fun r H4 g4 tl => ?_⟩⟩
          refine ⟨line_ge (by show 1 ≤ _; decide), fun z1 hz1 => ⟨Nat.zero_le _, fun z2 hz2 => ⟨line_ge (by show 2 ≤ _; decide), fun z3 hz3 => ?_⟩⟩⟩
          have g5 := same_new hz1 (.lst [V.str "place"])
          have e5 : upd H4 z1 (.lst [V.str "place"]) z1 = some (.lst [V.str "place"]) := upd_same
          have g6 := same_new hz2 (.lst [])
          have g7 := same_new hz3 (.lst [V.ref z1, V.ref z2])
          have e7 : upd (upd (upd H4 z1 (.lst [V.str "place"])) z2 (.lst [])) z3 (.lst [V.ref z1, V.ref z2]) z3 = some (.lst [V.ref z1, V.ref z2]) := upd_same
          have g47 := g5.trans (g6.trans g7)
          have e57 := (g6.trans g7) _ _ e5
          generalize upd (upd (upd H4 z1 (.lst [V.str "place"])) z2 (.lst [])) z3 (.lst [V.ref z1, V.ref z2]) = H7 at *
          obtain ⟨xs, er, hsd⟩ := tl
          refine ⟨_, rfl, .inr ⟨_, rfl, z3, _, _, _, rfl, rfl, SqL.of e7, (show atI [V.ref z1, V.ref z2] 0 = some (.ref z1) from rfl), ?_⟩⟩
          refine ⟨r, z1, _, _, [.s "place"], rfl, rfl, SqL.of (g47 _ _ er), SqL.of e57, sds_same g47 hsd, .cons rfl .nil, _, rfl, ?_⟩
          refine iteF ?_
          refine ⟨_, rfl, _, rfl, ?_⟩
          refine iteF ?_
          have gg := gr.trans (g4.trans g47)
          exact q as bs ts _ (fun b o _ _ e => gg _ _ e) (gg _ _ hst) (has.same gg) (gg _ _ hls) (hbs.same gg) t9 zt

  have t8 : ts.length ≤ 8 := by
    have z : ¬ (9 : Int) ≤ (((bs.map V.ref).length : Nat) : Int) := fun z => c2 (decide_eq_true z)
    omega
  refine ⟨_, rfl, _, rfl, _, rfl, _, _, rfl, rfl, cf, ls, bs, ts, m, _, rfl, hls, hbs, by omega, m4, zt, fun R rs H1 hR g1 eR rl rb => ?_⟩
  refine ⟨Nat.zero_le _, fun du hdu => ?_⟩
  have g2 := same_new hdu (.lst [])
  have e2 : upd H1 du (.lst []) du = some (.lst []) := upd_same
  have hduH : H du = none := g1.free hdu
  generalize upd H1 du (.lst []) = H2 at *
  obtain ⟨ns, last, ers⟩ : ∃ ns last, rs = ns ++ [last] := ⟨rs.dropLast, rs.getLast (fun z => by rw [z] at rl; simp at rl), (List.dropLast_concat_getLast _).symm⟩
  have eR2 := g2 _ _ eR
  have eR2' : H2 R = some (.lst (ns.map V.int ++ [V.int last])) := by have z := eR2; rw [ers, List.map_append] at z; exact z
  refine ⟨_, rfl, _, rfl, _, rfl, sl_last (b := true) (xs := ns.map V.int) (v := .int last) (SqL.of eR2') fun q0 H3 g3 hq0 => ?_⟩
  refine ⟨q0, _, rfl, hq0, plain_ints ns, _, rfl, ?_⟩
  have g13 := g2.trans g3
  have gH3 := g1.trans g13
  have eR3 := g13 _ _ eR
  have e23 := g3 _ _ e2
  have rlen : rs.length ≤ 1000 := by omega
  have rbits : ∀ n ∈ rs, intBits n ≤ 9000 := fun n hn => Nat.le_trans (rb n hn) (by decide)
  by_cases hnz : ∃ n ∈ ns, n ≠ 0
  rotate_left
  · have hz : ∀ n ∈ ns, n = 0 := fun n hn => Decidable.byContradiction fun z => hnz ⟨n, hn, z⟩
    have h0 : (ns.map V.int).any trV = false := by
      cases z : (ns.map V.int).any trV with
      | false => rfl
      | true => exact absurd ((any_ints ns).mp z) hnz
    rw [h0]
    refine iteT ?_
    refine ⟨by show 2 ≤ sizeLine; decide, fun tp htp => ?_⟩
    have g4 := same_new htp (.tup [V.str "wall", V.int 0])
    have e4 : upd H3 tp (.tup [V.str "wall", V.int 0]) tp = some (.tup [V.str "wall", V.int 0]) := upd_same
    generalize upd H3 tp (.tup [V.str "wall", V.int 0]) = H4 at *
    refine ⟨line_ge (by show 1 ≤ _; decide), fun d2 hd2 => ?_⟩
    have g5 := same_new hd2 (.lst [V.ref tp])
    have e5 : upd H4 d2 (.lst [V.ref tp]) d2 = some (.lst [V.ref tp]) := upd_same
    generalize upd H4 d2 (.lst [V.ref tp]) = H5 at *
    have eR5 := (g4.trans g5) _ _ eR3
    refine ⟨_, rfl, R, _, rfl, .inl (SqL.of eR5), fun hd hhd => ?_⟩
    have g6 := same_new hhd (.lst (rs.map V.int))
    have e6 : upd H5 hd (.lst (rs.map V.int)) hd = some (.lst (rs.map V.int)) := upd_same
    have hhdH : H hd = none := (gH3.trans (g4.trans g5)).free hhd
    have hdd2 : d2 ≠ hd := fun z => by rw [z] at e5; rw [e5] at hhd; cases hhd
    generalize upd H5 hd (.lst (rs.map V.int)) = H6 at *
    have g36 := g4.trans (g5.trans g6)
    have gH6 := gH3.trans g36
    refine ⟨_, rfl, _, rfl, x, dx, st, hd, (m : Nat), as, ts, ns, last, rfl, gH6 _ _ hx, gH6 _ _ hst, has.same gH6, by omega, by rw [← ers]; exact e6, by rw [← ers]; exact rlen, by rw [← ers]; exact rbits, .inr (.inl ⟨hz, fun r H7 g7 tl => ?_⟩)⟩
    obtain ⟨xs, er, hsd⟩ := tl
    have g47 := g5.trans (g6.trans g7)
    refine ⟨_, rfl, r, d2, _, _, [.p "wall" 0], rfl, rfl, SqL.of er, SqL.of ((g6.trans g7) _ _ e5), hsd, .cons ⟨tp, rfl, SqT.of (g47 _ _ e4)⟩ .nil, _, rfl, ?_⟩
    refine iteF ?_
    have e67 := g7 _ _ e6
    refine ⟨_, rfl, _, rfl, hd, R, _, _, rfl, rfl, isD_l e67, isD_l ((g6.trans g7) _ _ eR5), oks_ints 8 _ _, _, rfl, ?_⟩
    rw [(Dt.eqb_iff _ _).mpr rfl]
    refine iteF ?_
    refine ⟨_, rfl, .inl ⟨rfl, _, SqL.of e67⟩, hd, _, rfl, rfl, e67, ?_⟩
    have gU : Same H (upd H7 hd (.lst [])) := fun b o e => by rw [upd_ne (ne_of_none e hhdH)]; exact (gH6.trans g7) _ _ e
    have eD : upd H7 hd (.lst []) d2 = some (.lst [V.ref tp]) := by rw [upd_ne hdd2]; exact (g6.trans g7) _ _ e5
    generalize upd H7 hd (.lst []) = H8 at *
    refine ⟨_, rfl, Nat.zero_le _, fun e1 he1 => ?_⟩
    have g9 := same_new he1 (.lst [])
    refine ⟨d2, e1, _, rfl, rfl, SqL.of (g9 _ _ eD), SqL.of upd_same, _, rfl, ?_⟩
    refine iteF ?_
    have gg := gU.trans g9
    exact q as bs ts _ (fun b o _ _ e => gg _ _ e) (gg _ _ hst) (has.same gg) (gg _ _ hls) (hbs.same gg) t9 zt
  rw [(any_ints ns).mpr hnz]
  refine iteF ?_
  have hnz2 : ∃ n ∈ rs, n ≠ 0 := let ⟨n, a, b⟩ := hnz; ⟨n, by rw [ers]; exact List.mem_append_left _ a, b⟩
  refine ⟨_, rfl, R, rs, rfl, .inl (SqL.of eR3), rlen, rbits, hnz2, fun t3 H4 g4 e4 => ?_⟩
  have gH4 := gH3.trans g4
  have hls4 := gH4 _ _ hls
  have hbs4 := hbs.same gH4
  refine ⟨_, rfl, ls, _, _, _, rfl, .inl (SqL.of hls4), hbs4.isDs, isD_t e4, ok_ts, _, rfl, ?_⟩
  rw [any_t]
  by_cases hin : plainL rs ∈ ts
  · rw [decide_eq_true hin]
    refine iteT ?_
    obtain ⟨j, hj, hno⟩ := first_at hin
    refine ⟨_, rfl, .inl ⟨rfl, _, SqL.of hls4⟩, _, rfl, R, rs, rfl, .inl (SqL.of (g4 _ _ eR3)), rlen, rbits, hnz2, fun t5 H5 g5 e5 => ?_⟩
    refine ⟨ls, t5, bs, ts, _, j, rfl, rfl, g5 _ _ hls4, hbs4.same g5, e5, hj, hno, by omega, by show 2 ≤ sizeLine; decide, fun tp htp => ?_⟩
    have g6 := same_new htp (.tup [V.str "wall", V.int (j : Nat)])
    have e6 : upd H5 tp (.tup [V.str "wall", V.int (j : Nat)]) tp = some (.tup [V.str "wall", V.int (j : Nat)]) := upd_same
    generalize upd H5 tp (.tup [V.str "wall", V.int (j : Nat)]) = H6 at *
    refine ⟨line_ge (by show 1 ≤ _; decide), fun d2 hd2 => ?_⟩
    have g7 := same_new hd2 (.lst [V.ref tp])
    have e7 : upd H6 d2 (.lst [V.ref tp]) d2 = some (.lst [V.ref tp]) := upd_same
    generalize upd H6 d2 (.lst [V.ref tp]) = H7 at *
    have g37 := g4.trans (g5.trans (g6.trans g7))
    have eR7 := g37 _ _ eR3
    refine ⟨_, rfl, R, _, rfl, .inl (SqL.of eR7), fun hd hhd => ?_⟩
    have g8 := same_new hhd (.lst (rs.map V.int))
    have e8 : upd H7 hd (.lst (rs.map V.int)) hd = some (.lst (rs.map V.int)) := upd_same
    have hhdH : H hd = none := (gH3.trans g37).free hhd
    have hdd2 : d2 ≠ hd := fun z => by rw [z] at e7; rw [e7] at hhd; cases hhd
    generalize upd H7 hd (.lst (rs.map V.int)) = H8 at *
    have gH8 := gH3.trans (g37.trans g8)
    refine ⟨_, rfl, _, rfl, x, dx, st, hd, (m : Nat), as, ts, ns, last, rfl, gH8 _ _ hx, gH8 _ _ hst, has.same gH8, by omega, by rw [← ers]; exact e8, by rw [← ers]; exact rlen, by rw [← ers]; exact rbits, .inr (.inr ⟨j, hnz, by rw [← ers]; exact hj, by rw [← ers]; exact hno, fun r H9 g9 tl => ?_⟩)⟩
    obtain ⟨xs, er, hsd⟩ := tl
    refine ⟨_, rfl, r, d2, _, _, [.p "wall" (j : Nat)], rfl, rfl, SqL.of er, SqL.of ((g8.trans g9) _ _ e7), hsd, .cons ⟨tp, rfl, SqT.of ((g7.trans (g8.trans g9)) _ _ e6)⟩ .nil, _, rfl, ?_⟩
    refine iteF ?_
    have e89 := g9 _ _ e8
    refine ⟨_, rfl, _, rfl, hd, R, _, _, rfl, rfl, isD_l e89, isD_l ((g8.trans g9) _ _ eR7), oks_ints 8 _ _, _, rfl, ?_⟩
    rw [(Dt.eqb_iff _ _).mpr rfl]
    refine iteF ?_
    refine ⟨_, rfl, .inl ⟨rfl, _, SqL.of e89⟩, hd, _, rfl, rfl, e89, ?_⟩
    have gU : Same H (upd H9 hd (.lst [])) := fun b o e => by rw [upd_ne (ne_of_none e hhdH)]; exact (gH8.trans g9) _ _ e
    have eD : upd H9 hd (.lst []) d2 = some (.lst [V.ref tp]) := by rw [upd_ne hdd2]; exact (g8.trans g9) _ _ e7
    generalize upd H9 hd (.lst []) = HA at *
    refine ⟨_, rfl, Nat.zero_le _, fun e1 he1 => ?_⟩
    have gB := same_new he1 (.lst [])
    refine ⟨d2, e1, _, rfl, rfl, SqL.of (gB _ _ eD), SqL.of upd_same, _, rfl, ?_⟩
    refine iteF ?_
    have gg := gU.trans gB
    exact q as bs ts _ (fun b o _ _ e => gg _ _ e) (gg _ _ hst) (has.same gg) (gg _ _ hls) (hbs.same gg) t9 zt
  · rw [decide_eq_false hin]
    refine iteF ?_
    have eR4 := g4 _ _ eR3
    refine ⟨_, rfl, R, _, rfl, .inl (SqL.of eR4), fun hd hhd => ?_⟩
    have g5 := same_new hhd (.lst (rs.map V.int))
    have e5 : upd H4 hd (.lst (rs.map V.int)) hd = some (.lst (rs.map V.int)) := upd_same
    have hhdH : H hd = none := gH4.free hhd
    have hdud : du ≠ hd := fun z => by rw [z] at e23; rw [g4 _ _ e23] at hhd; cases hhd
    generalize upd H4 hd (.lst (rs.map V.int)) = H5 at *
    have gH5 := gH4.trans g5
    have stR : R ≠ st := fun z => by rw [z, hst] at hR; cases hR
    have sthd : hd ≠ st := fun z => by rw [z, hst] at hhdH; cases hhdH
    have stdu : du ≠ st := fun z => by rw [z, hst] at hduH; cases hduH
    refine ⟨_, rfl, _, rfl, x, dx, st, hd, (m : Nat), as, ts, ns, last, rfl, gH5 _ _ hx, gH5 _ _ hst, has.same gH5, by omega, by rw [← ers]; exact e5, by rw [← ers]; exact rlen, by rw [← ers]; exact rbits, .inl ⟨hnz, by rw [← ers]; exact hin, fun t r H6 g6 est et tl => ?_⟩⟩
    rw [← ers] at et
    obtain ⟨xs, er, hsd⟩ := tl
    cases hsd
    have e2_5 := (g4.trans g5) _ _ e23
    have edu := g6 _ _ stdu e2_5
    refine ⟨_, rfl, r, du, _, _, [], rfl, rfl, SqL.of er, SqL.of edu, .nil, .nil, _, rfl, ?_⟩
    refine iteF ?_
    have ehd := g6 _ _ sthd e5
    have eR6 := g6 _ _ stR (g5 _ _ eR4)
    refine ⟨_, rfl, _, rfl, hd, R, _, _, rfl, rfl, isD_l ehd, isD_l eR6, oks_ints 8 _ _, _, rfl, ?_⟩
    rw [(Dt.eqb_iff _ _).mpr rfl]
    refine iteF ?_
    refine ⟨_, rfl, .inl ⟨rfl, _, SqL.of ehd⟩, hd, _, rfl, rfl, ehd, ?_⟩
    have gU : ∀ b o, b ≠ st → H b = some o → upd H6 hd (.lst []) b = some o := fun b o hb e => by rw [upd_ne (ne_of_none e hhdH)]; exact g6 _ _ hb (gH5 _ _ e)
    have estU : upd H6 hd (.lst []) st = some (.lst ((as ++ [t]).map V.ref)) := by rw [upd_ne sthd.symm]; exact est
    have etU : upd H6 hd (.lst []) t = some (.tup ((plainL rs).map V.int)) := by
      rw [upd_ne (fun z => by rw [z, ehd] at et; cases et)]; exact et
    have edU : upd H6 hd (.lst []) du = some (.lst []) := by rw [upd_ne hdud]; exact edu
    have eRU : upd H6 hd (.lst []) R = some (.lst (rs.map V.int)) := by rw [upd_ne (fun z => by rw [z] at eR4; rw [eR4] at hhd; cases hhd)]; exact eR6
    have tupU : ∀ (b : Addr) (u : List Int), H b = some (.tup (u.map V.int)) → upd H6 hd (.lst []) b = some (.tup (u.map V.int)) := fun b u e => gU b _ (fun z => by rw [z, hst] at e; cases e) e
    generalize upd H6 hd (.lst []) = H7 at *
    refine ⟨_, rfl, Nat.zero_le _, fun e1 he1 => ?_⟩
    have g8 := same_new he1 (.lst [])
    refine ⟨du, e1, _, rfl, rfl, SqL.of (g8 _ _ edU), SqL.of upd_same, _, rfl, ?_⟩
    generalize upd H7 e1 (.lst []) = H8 at *
    refine iteT ?_
    have hls8 := g8 _ _ (gU ls _ hne.symm hls)
    refine ⟨_, rfl, .inl ⟨rfl, _, SqL.of hls8⟩, _, rfl, R, rs, rfl, .inl (SqL.of (g8 _ _ eRU)), rlen, rbits, hnz2, fun t9' H9 g9 e9 => ?_⟩
    have hls9 := g9 _ _ hls8
    have g79 := g8.trans g9
    refine ⟨ls, _, _, rfl, rfl, hls9, line_gt (by rw [List.length_map, hbs.1]; omega), ?_⟩
    have hst9 := g79 _ _ estU
    have tup9 : ∀ (b : Addr) (u : List Int), H b = some (.tup (u.map V.int)) → H9 b = some (.tup (u.map V.int)) := fun b u e => g79 _ _ (tupU b u e)
    have a9 : TsA H9 (as ++ [t]) (ts ++ [plainL rs]) := (has.keep tup9).snoc (g79 _ _ etU)
    have b9 : TsA H9 (bs ++ [t9']) (ts ++ [plainL rs]) := (hbs.keep tup9).snoc e9
    refine q (as ++ [t]) (bs ++ [t9']) (ts ++ [plainL rs]) _ (fun b o h1 h2 e => by rw [upd_ne h2]; exact g79 _ _ (gU b o h1 e)) (by rw [upd_ne hne]; exact hst9) (a9.put_lst hls9) (by rw [upd_same, List.map_append]; rfl) (b9.put_lst hls9) (by simp; omega) fun u hu => ?_
    rcases List.mem_append.mp hu with hu | hu
    · exact zt u hu
    · rw [List.mem_singleton.mp hu]
      refine ⟨by unfold plainL; rw [List.length_map]; exact rl, fun n hn => ?_⟩
      unfold plainL at hn
      obtain ⟨y, hy, rfl⟩ := List.mem_map.mp hn
      exact intBits_le_of_natAbs (fdiv_le (byL_dvd hy) (byL_ne hnz2)) (rb y hy)
end
end L2

set_option Elab.async false
set_option linter.all false
set_option maxRecDepth 100000
set_option maxHeartbeats 4000000
namespace L2
open PySem PySem.Spec PyProof.Rows
section
open Fr Wl
open Builtin.Int (intBits)
variable {P : Program} {w : World} {K : PySem.W.Frag} {mg : Str → Option Value} {base : Heap} {f : Addr} {fd : FuncData} {C W NN F0 L0 NP NW fP fT fW fI fH : Addr} {fdH : FuncData}
/-- a hall and the law's own list beside it, alike -/
def HS (C : Addr) (H : Hp) (x dx st ls : Addr) (m : Nat) : Prop := ∃ (as bs : List Addr) (ts : List (List Int)), H x = some (.ins C dx (hFs (m : Nat) st)) ∧ H st = some (.lst (as.map V.ref)) ∧ TsA H as ts ∧ H ls = some (.lst (bs.map V.ref)) ∧ TsA H bs ts ∧ ts.length ≤ 9 ∧ ∀ t ∈ ts, t.length = m + 1 ∧ ∀ n ∈ t, intBits n ≤ 100
theorem HS.same {H H' : Hp} {x dx st ls : Addr} {m : Nat} (h : HS C H x dx st ls m) (g : Same H H') : HS C H' x dx st ls m :=
  let ⟨as, bs, ts, hx, hst, has, hls, hbs, t9, zt⟩ := h
  ⟨as, bs, ts, g _ _ hx, g _ _ hst, has.same g, g _ _ hls, hbs.same g, t9, zt⟩
theorem HS.keep {H H' : Hp} {x dx st ls s2 l2 : Addr} {m : Nat} {xs ys : List V} (h : HS C H x dx st ls m) (e1 : H s2 = some (.lst xs)) (e2 : H l2 = some (.lst ys)) (n1 : st ≠ s2) (n2 : st ≠ l2) (n3 : ls ≠ s2) (n4 : ls ≠ l2)
    (g : ∀ b o, b ≠ s2 → b ≠ l2 → H b = some o → H' b = some o) : HS C H' x dx st ls m := by
  obtain ⟨as, bs, ts, hx, hst, has, hls, hbs, t9, zt⟩ := h
  have gt : ∀ (b : Addr) (t : List Int), H b = some (.tup (t.map V.int)) → H' b = some (.tup (t.map V.int)) := fun b t e => g b _ (fun z => by rw [z, e1] at e; cases e) (fun z => by rw [z, e2] at e; cases e) e
  exact ⟨as, bs, ts, g _ _ (fun z => by rw [z, e1] at hx; cases hx) (fun z => by rw [z, e2] at hx; cases hx) hx, g _ _ n1 n2 hst, has.keep gt, g _ _ n3 n4 hls, hbs.keep gt, t9, zt⟩
structure Apart (l1 sl sc s0 e0 s1 e1 : Addr) : Prop where
  a : s0 ≠ e0
  b : s0 ≠ s1
  c : s0 ≠ e1
  d : e0 ≠ s1
  e : e0 ≠ e1
  f : s1 ≠ e1
  l : l1 ≠ s0 ∧ l1 ≠ e0 ∧ l1 ≠ s1 ∧ l1 ≠ e1
  s : sl ≠ s0 ∧ sl ≠ e0 ∧ sl ≠ s1 ∧ sl ≠ e1
  k : sc ≠ s0 ∧ sc ≠ e0 ∧ sc ≠ s1 ∧ sc ≠ e1
structure Two (C : Addr) (l1 tp sl sc x0 d0 s0 e0 x1 d1 s1 e1 : Addr) (m0 m1 : Nat) (cs : List V) (H : Hp) : Prop where
  hl : H l1 = some (.lst [V.int (m0 : Nat), V.int (m1 : Nat)])
  ht : H tp = some (.tup [V.ref x0, V.ref x1])
  hs : H sl = some (.lst [V.ref e0, V.ref e1])
  hk : H sc = some (.lst cs)
  h0 : HS C H x0 d0 s0 e0 m0
  h1 : HS C H x1 d1 s1 e1 m1
variable {l1 tp sl sc x0 d0 s0 e0 x1 d1 s1 e1 : Addr} {m0 m1 : Nat} {cs : List V}
theorem Two.same {H H' : Hp} (t : Two C l1 tp sl sc x0 d0 s0 e0 x1 d1 s1 e1 m0 m1 cs H) (g : Same H H') : Two C l1 tp sl sc x0 d0 s0 e0 x1 d1 s1 e1 m0 m1 cs H' :=
  ⟨g _ _ t.hl, g _ _ t.ht, g _ _ t.hs, g _ _ t.hk, t.h0.same g, t.h1.same g⟩
theorem Two.step0 {H H' : Hp} (t : Two C l1 tp sl sc x0 d0 s0 e0 x1 d1 s1 e1 m0 m1 cs H) (p : Apart l1 sl sc s0 e0 s1 e1) (g : ∀ b o, b ≠ s0 → b ≠ e0 → H b = some o → H' b = some o) (h : HS C H' x0 d0 s0 e0 m0) : Two C l1 tp sl sc x0 d0 s0 e0 x1 d1 s1 e1 m0 m1 cs H' := by
  obtain ⟨as, bs, ts, hx, hst, has, hls, hbs, t9, zt⟩ := t.h0
  exact ⟨g _ _ p.l.1 p.l.2.1 t.hl, g _ _ (fun z => by have := t.ht; rw [z, hst] at this; cases this) (fun z => by have := t.ht; rw [z, hls] at this; cases this) t.ht, g _ _ p.s.1 p.s.2.1 t.hs, g _ _ p.k.1 p.k.2.1 t.hk, h, t.h1.keep hst hls p.b.symm p.d.symm p.c.symm p.e.symm g⟩
theorem Two.step1 {H H' : Hp} (t : Two C l1 tp sl sc x0 d0 s0 e0 x1 d1 s1 e1 m0 m1 cs H) (p : Apart l1 sl sc s0 e0 s1 e1) (g : ∀ b o, b ≠ s1 → b ≠ e1 → H b = some o → H' b = some o) (h : HS C H' x1 d1 s1 e1 m1) : Two C l1 tp sl sc x0 d0 s0 e0 x1 d1 s1 e1 m0 m1 cs H' := by
  obtain ⟨as, bs, ts, hx, hst, has, hls, hbs, t9, zt⟩ := t.h1
  exact ⟨g _ _ p.l.2.2.1 p.l.2.2.2 t.hl, g _ _ (fun z => by have := t.ht; rw [z, hst] at this; cases this) (fun z => by have := t.ht; rw [z, hls] at this; cases this) t.ht, g _ _ p.s.2.2.1 p.s.2.2.2 t.hs, g _ _ p.k.2.2.1 p.k.2.2.2 t.hk, t.h0.keep hst hls p.b p.c p.d p.e g, h⟩
theorem Two.pick {H : Hp} (t : Two C l1 tp sl sc x0 d0 s0 e0 x1 d1 s1 e1 m0 m1 cs H) (p : Apart l1 sl sc s0 e0 s1 e1) (q0 : m0 ≤ 4) (q1 : m1 ≤ 4) {z : Int} (z0 : 0 ≤ z) (z1 : z < 2) :
    ∃ (x dx st ls : Addr) (m : Nat), atI [V.ref x0, V.ref x1] z = some (.ref x) ∧ atI [V.ref e0, V.ref e1] z = some (.ref ls) ∧ atI [V.int (m0 : Nat), V.int (m1 : Nat)] z = some (.int (m : Nat)) ∧ m ≤ 4 ∧ st ≠ ls ∧ HS C H x dx st ls m ∧
      ∀ H', (∀ b o, b ≠ st → b ≠ ls → H b = some o → H' b = some o) → HS C H' x dx st ls m → Two C l1 tp sl sc x0 d0 s0 e0 x1 d1 s1 e1 m0 m1 cs H' := by
  rcases (by omega : z = 0 ∨ z = 1) with rfl | rfl
  · exact ⟨x0, d0, s0, e0, m0, rfl, rfl, rfl, q0, p.a, t.h0, fun H' g h => t.step0 p g h⟩
  · exact ⟨x1, d1, s1, e1, m1, rfl, rfl, rfl, q1, p.f, t.h1, fun H' g h => t.step1 p g h⟩
theorem hall_made {H : Hp} {x dx st : Addr} {m : Int} (hx : H x = none) (hd : H dx = none) (hn : dx ≠ x) (hst : upd (upd H dx (.own x)) x (.ins C dx []) st = none) :
    Same H (upd (upd (upd (upd (upd H dx (.own x)) x (.ins C dx [])) x (.ins C dx [("ways", .int m)])) st (.lst [])) x (.ins C dx (hFs m st))) ∧
    upd (upd (upd (upd (upd H dx (.own x)) x (.ins C dx [])) x (.ins C dx [("ways", .int m)])) st (.lst [])) x (.ins C dx (hFs m st)) x = some (.ins C dx (hFs m st)) ∧
    upd (upd (upd (upd (upd H dx (.own x)) x (.ins C dx [])) x (.ins C dx [("ways", .int m)])) st (.lst [])) x (.ins C dx (hFs m st)) st = some (.lst []) ∧ H st = none := by
  have sx : st ≠ x := fun z => by rw [z, upd_same] at hst; cases hst
  have sd : st ≠ dx := fun z => by rw [z, upd_ne hn, upd_same] at hst; cases hst
  have s0 : H st = none := by rw [upd_ne sx, upd_ne sd] at hst; exact hst
  refine ⟨fun b o e => ?_, upd_same, by rw [upd_ne sx, upd_same], s0⟩
  rw [upd_ne (ne_of_none e hx), upd_ne (ne_of_none e s0), upd_ne (ne_of_none e hx), upd_ne (ne_of_none e hx), upd_ne (ne_of_none e hd)]
  exact e
theorem cut_int {ns : List Int} {lo hi : Option Int} {i : Nat} {v : V} (h : (cutV (ns.map V.int) lo hi)[i]? = some v) : ∃ c : Int, v = .int c := by
  have := List.mem_of_mem_drop (List.mem_of_mem_take (List.mem_of_getElem? h))
  obtain ⟨c, _, rfl⟩ := List.mem_map.mp this
  exact ⟨c, rfl⟩
abbrev s_law : Stmt := top 28
theorem sc_law : FnScope ["_law_script", "_law_ways", "_law_halls", "_law_standing", "_law_k", "_law_cell", "_law_number", "_law_which"] ["_law_script"] (defScope s_law) := ⟨rfl, rfl, rfl, by decide +kernel, rfl, by decide +kernel, by decide +kernel⟩
def spLaw (K : PySem.W.Frag) : Sp := fun vs H Q _ => ∃ (a : Addr) (ns : List Int), vs = [.ref a] ∧ SqL K H a (ns.map V.int) ∧ ns.length ≤ 63 ∧ ∀ H', Q (.bl true) H'
theorem ok_law (T : Txt mg) (hl : Hl K mg C W NN F0 L0 NP NW fP fT fW) (hmk : Mk K C fH) (F : Fun K "law" "law" s_law f fd) (Fh : FnOk P w K mg base CX0 5 fH fdH ["self", "ways"] (spHInit C)) (bh : Binds K fdH ["self", "ways"] []) (c_l_cell_at : Cal P w K mg base 6 "_law_cell_at" ["_law_script", "_law_k"] (spCell K)) (c_l_done : Cal P w K mg base 6 "_law_done" ["_law_hall", "_law_standing", "_law_ways", "_law_cell"] (spDone K C)) (c_l_shown : Cal P w K mg base 6 "_law_shown" ["_law_hall", "_law_standing"] (spShown K C)) : FnOk P w K mg base CX0 7 f fd ["_law_script"] (spLaw K) := by
  refine F.ok sc_law (fun vs H Q E h => ?_) (fun cdv A outer s H vs Q E hr h => ?_)
  · obtain ⟨_, _, rfl, _⟩ := h; rfl
  obtain ⟨a, ss, rfl, hS, h63, q⟩ := h
  refine ⟨_, (pss_cons (ps_set (i := 1) sc_law.nd rfl (Or.inl rfl) (pe_lst (pa_cons (pe_op op_modP (pe_cal c_l_cell_at hr rfl (pa_cons (pv 0) (pa_cons pe_int pa_nil))) pe_int) (pa_cons (pe_op op_modP (pe_cal c_l_cell_at hr rfl (pa_cons (pv 0) (pa_cons pe_int pa_nil))) pe_int) pa_nil))))
    (pss_cons (ps_set (i := 2) sc_law.nd rfl (Or.inl rfl) (pe_tup (pa_cons (pe_make hmk Fh hr rfl hl.mg bh .nil pass0 (pa_cons (pe_ix (ix_listK (K := K) rfl) (pv 1) pe_int (fun _ _ => rfl)) pa_nil)) (pa_cons (pe_make hmk Fh hr rfl hl.mg bh .nil pass0 (pa_cons (pe_ix (ix_listK (K := K) rfl) (pv 1) pe_int (fun _ _ => rfl)) pa_nil)) pa_nil))))
    (pss_cons (ps_set (i := 3) sc_law.nd rfl (Or.inl rfl) (pe_lst (pa_cons (pe_lst pa_nil) (pa_cons (pe_lst pa_nil) pa_nil))))
    (pss_cons (ps_for PassesOwn.never rfl (pi_enumK (K := K) rfl rfl T.enumerate (pa_cons (pe_slice (sl_listK (K := K) rfl) (pv 0) (po_some pe_int) (po_some pe_int)) pa_nil)) (pg_tupK (K := K) rfl 2 rfl (pgs_cons (pg_name (i := 4) sc_law.nd rfl (Or.inl rfl)) (pgs_cons (pg_name (i := 5) sc_law.nd rfl (Or.inl rfl)) pgs_nil))) (pss_cons (ps_set (i := 6) sc_law.nd rfl (Or.inl rfl) (pe_op op_add (pe_op op_modP (pv 5) (pe_powC (v := 1000000000000000000) (by decide +kernel) pe_int pe_int)) (pe_op op_mulB pe_int (pe_op op_add (pv 4) pe_int))))
    (pss_cons (ps_set (i := 7) sc_law.nd rfl (Or.inl rfl) (pe_op op_modP (pe_op op_modP (pe_op op_mulB (pv 6) (pv 6)) pe_int) pe_int))
    (pss_cons (ps_if (pt_not (pt_val (pe_cal c_l_done hr rfl (pa_cons (pe_ix (ix_tupK (K := K) rfl) (pv 2) (pv 7) (fun _ _ => rfl)) (pa_cons (pe_ix (ix_listK (K := K) rfl) (pv 3) (pv 7) (fun _ _ => rfl)) (pa_cons (pe_ix (ix_listK (K := K) rfl) (pv 1) (pv 7) (fun _ _ => rfl)) (pa_cons (pv 5) pa_nil))))))) (pss_one (ps_ret pe_bl)) pss_nil)
    (pss_one (ps_if (PW.pt (pw_or (pt_not (pt_val (pe_cal c_l_shown hr rfl (pa_cons (pe_ix (ix_tupK (K := K) rfl) (pv 2) pe_int (fun _ _ => rfl)) (pa_cons (pe_ix (ix_listK (K := K) rfl) (pv 3) pe_int (fun _ _ => rfl)) pa_nil))))) (pw_or1 (pt_not (pt_val (pe_cal c_l_shown hr rfl (pa_cons (pe_ix (ix_tupK (K := K) rfl) (pv 2) pe_int (fun _ _ => rfl)) (pa_cons (pe_ix (ix_listK (K := K) rfl) (pv 3) pe_int (fun _ _ => rfl)) pa_nil)))))))) (pss_one (ps_ret pe_bl)) pss_nil))))))
    (pss_one (ps_ret (pe_cal c_l_shown hr rfl (pa_cons (pe_ix (ix_tupK (K := K) rfl) (pv 2) pe_int (fun _ _ => rfl)) (pa_cons (pe_ix (ix_listK (K := K) rfl) (pv 3) pe_int (fun _ _ => rfl)) pa_nil))))))))), ?_⟩
  refine ⟨_, rfl, a, ss, 0, rfl, hS, by decide, _, _, rfl, rfl, cm, _, rfl, a, ss, 1, rfl, hS, by decide, _, _, rfl, rfl, cm, ?_⟩
  dsimp only
  obtain ⟨m0, w0, q0⟩ : ∃ m : Nat, ss.getD (0 : Int).toNat 0 % 5 = (m : Nat) ∧ m ≤ 4 := ⟨(ss.getD (0 : Int).toNat 0 % 5).toNat, by omega, by omega⟩
  obtain ⟨m1, w1, q1⟩ : ∃ m : Nat, ss.getD (1 : Int).toNat 0 % 5 = (m : Nat) ∧ m ≤ 4 := ⟨(ss.getD (1 : Int).toNat 0 % 5).toNat, by omega, by omega⟩
  rw [w0, w1]
  clear w0 w1
  refine ⟨line_ge (by show 2 ≤ _; decide), fun l1 hl1 => ?_⟩
  have g1 := same_new hl1 (.lst [V.int (m0 : Nat), V.int (m1 : Nat)])
  have e1 : upd H l1 (.lst [V.int (m0 : Nat), V.int (m1 : Nat)]) l1 = some (.lst [V.int (m0 : Nat), V.int (m1 : Nat)]) := upd_same
  generalize upd H l1 (.lst [V.int (m0 : Nat), V.int (m1 : Nat)]) = H1 at *
  refine ⟨_, rfl, l1, _, _, _, rfl, rfl, SqL.of e1, (show atI [V.int (m0 : Nat), V.int (m1 : Nat)] 0 = some (.int (m0 : Nat)) from rfl), fun x0 d0 hx0 hd0 hn0 => ⟨x0, d0, (m0 : Nat), rfl, upd_same, fun s0 hs0 => ⟨rfl, ?_⟩⟩⟩
  obtain ⟨g2, ex0, es0, ns0⟩ := hall_made (C := C) (m := (m0 : Nat)) hx0 hd0 hn0 hs0
  generalize upd (upd (upd (upd (upd H1 d0 (.own x0)) x0 (.ins C d0 [])) x0 (.ins C d0 [("ways", .int (m0 : Nat))])) s0 (.lst [])) x0 (.ins C d0 (hFs (m0 : Nat) s0)) = H2 at *
  have e1_2 := g2 _ _ e1
  refine ⟨_, rfl, l1, _, _, _, rfl, rfl, SqL.of e1_2, (show atI [V.int (m0 : Nat), V.int (m1 : Nat)] 1 = some (.int (m1 : Nat)) from rfl), fun x1 d1 hx1 hd1 hn1 => ⟨x1, d1, (m1 : Nat), rfl, upd_same, fun s1 hs1 => ⟨rfl, ?_⟩⟩⟩
  obtain ⟨g3, ex1, es1, ns1⟩ := hall_made (C := C) (m := (m1 : Nat)) hx1 hd1 hn1 hs1
  generalize upd (upd (upd (upd (upd H2 d1 (.own x1)) x1 (.ins C d1 [])) x1 (.ins C d1 [("ways", .int (m1 : Nat))])) s1 (.lst [])) x1 (.ins C d1 (hFs (m1 : Nat) s1)) = H3 at *
  refine ⟨by show 2 ≤ sizeLine; decide, fun tp htp => ?_⟩
  have g4 := same_new htp (.tup [V.ref x0, V.ref x1])
  have e4 : upd H3 tp (.tup [V.ref x0, V.ref x1]) tp = some (.tup [V.ref x0, V.ref x1]) := upd_same
  generalize upd H3 tp (.tup [V.ref x0, V.ref x1]) = H4 at *
  refine ⟨Nat.zero_le _, fun e0 he0 => ⟨Nat.zero_le _, fun e' he' => ⟨line_ge (by show 2 ≤ _; decide), fun sl hsl => ?_⟩⟩⟩
  have g5 := same_new he0 (.lst [])
  have e5 : upd H4 e0 (.lst []) e0 = some (.lst []) := upd_same
  generalize upd H4 e0 (.lst []) = H5 at *
  have g6 := same_new he' (.lst [])
  have e6 : upd H5 e' (.lst []) e' = some (.lst []) := upd_same
  generalize upd H5 e' (.lst []) = H6 at *
  have g7 := same_new hsl (.lst [V.ref e0, V.ref e'])
  have e7 : upd H6 sl (.lst [V.ref e0, V.ref e']) sl = some (.lst [V.ref e0, V.ref e']) := upd_same
  generalize upd H6 sl (.lst [V.ref e0, V.ref e']) = H7 at *
  have gH7 : Same H H7 := g1.trans (g2.trans (g3.trans (g4.trans (g5.trans (g6.trans g7)))))
  refine ⟨_, rfl, _, rfl, _, rfl, a, _, rfl, SqL.same gH7 hS, fun sc hsc => ?_⟩
  have g8 := same_new hsc (.lst (cutV (ss.map V.int) (some 2) (some 32)))
  have e8 : upd H7 sc (.lst (cutV (ss.map V.int) (some 2) (some 32))) sc = some (.lst (cutV (ss.map V.int) (some 2) (some 32))) := upd_same
  generalize upd H7 sc (.lst (cutV (ss.map V.int) (some 2) (some 32))) = H8 at *
  have g78 := g8
  have g68 := g7.trans g78
  have g58 := g6.trans g68
  have g48 := g5.trans g58
  have g38 := g4.trans g48
  have g28 := g3.trans g38
  have g18 := g2.trans g28
  have a0 : Apart l1 sl sc s0 e0 s1 e' :=
    ⟨ne_of_none ((g3.trans g4) _ _ es0) he0, ne_of_none es0 ns1, ne_of_none ((g3.trans (g4.trans g5)) _ _ es0) he', (ne_of_none (g4 _ _ es1) he0).symm, ne_of_none e5 he', ne_of_none ((g4.trans g5) _ _ es1) he',
     ⟨ne_of_none e1 ns0, ne_of_none ((g2.trans (g3.trans g4)) _ _ e1) he0, ne_of_none e1_2 ns1, ne_of_none ((g2.trans (g3.trans (g4.trans g5))) _ _ e1) he'⟩,
     ⟨(ne_of_none ((g3.trans (g4.trans (g5.trans g6))) _ _ es0) hsl).symm, (ne_of_none (g6 _ _ e5) hsl).symm, (ne_of_none ((g4.trans (g5.trans g6)) _ _ es1) hsl).symm, (ne_of_none e6 hsl).symm⟩,
     ⟨(ne_of_none ((g3.trans (g4.trans (g5.trans (g6.trans g7)))) _ _ es0) hsc).symm, (ne_of_none ((g6.trans g7) _ _ e5) hsc).symm, (ne_of_none ((g4.trans (g5.trans (g6.trans g7))) _ _ es1) hsc).symm, (ne_of_none (g7 _ _ e6) hsc).symm⟩⟩
  have t0 : Two C l1 tp sl sc x0 d0 s0 e0 x1 d1 s1 e' m0 m1 (cutV (ss.map V.int) (some 2) (some 32)) H8 :=
    ⟨g18 _ _ e1, g48 _ _ e4, g78 _ _ e7, e8, ⟨[], [], [], g28 _ _ ex0, g28 _ _ es0, .nil, g58 _ _ e5, .nil, by simp, fun t h => by cases h⟩, ⟨[], [], [], g38 _ _ ex1, g38 _ _ es1, .nil, g68 _ _ e6, .nil, by simp, fun t h => by cases h⟩⟩
  clear g18 g28 g38 g48 g58 g68 g78 e1 e1_2 e4 e5 e6 e7 ex0 es0 ex1 es1 hsl hsc he' he0 htp hs1 hs0 hx0 hd0 hx1 hd1 ns0 ns1 g1 g2 g3 g4 g5 g6 g7 g8 gH7 hl1
  refine ⟨sc, _, rfl, e8, ?_⟩
  have cl : (cutV (ss.map V.int) (some 2) (some 32)).length ≤ 63 := Nat.le_trans (cutV_length _ _ _) (by rw [List.length_map]; exact h63)
  refine for_runs (runs_enum K sc (cutV (ss.map V.int) (some 2) (some 32))) (fun i σ H' => ∃ (s4 s5 s6 s7 : Option V), σ = [some (.ref a), some (.ref l1), some (.ref tp), some (.ref sl), s4, s5, s6, s7] ∧ Two C l1 tp sl sc x0 d0 s0 e0 x1 d1 s1 e' m0 m1 (cutV (ss.map V.int) (some 2) (some 32)) H') ⟨_, _, _, _, rfl, t0⟩ (fun i σ H' _ h => let ⟨_, _, _, _, _, t⟩ := h; SqL.of t.hk) ?_ ?_
  · rintro i x σ HA HB hi ⟨s4, s5, s6, s7, rfl, t⟩ ⟨pr, v, rfl, hpr, hv, rfl⟩
    obtain ⟨cell, rfl⟩ := cut_int hv
    have g2 := same_new hpr (.tup [.int i, .int cell])
    have hp2 : upd HA pr (.tup [.int i, .int cell]) pr = some (.tup [.int i, .int cell]) := upd_same
    generalize upd HA pr (.tup [.int i, .int cell]) = HB at *
    replace t := t.same g2
    refine ⟨pr, _, rfl, SqT.of hp2, rfl, _, _, rfl, _, _, rfl, rfl, ?_⟩
    have b64 : ∀ z : Int, -10000000000000000000 ≤ z → z ≤ 10000000000000000000 → intBits z ≤ 64 := fun z h1 h2 => bits64 (by omega) (by omega)
    refine ⟨_, rfl, _, _, rfl, rfl, cm, _, rfl, _, _, rfl, rfl, _, _, rfl, rfl, mulOk (b64 _ (by omega) (by omega)) (b64 _ (by omega) (by omega)), _, _, rfl, rfl, ?_⟩
    dsimp only
    have n0 : 0 ≤ cell % 1000000000000000000 + 48271 * ((i : Int) + 1) := by omega
    have n1 : cell % 1000000000000000000 + 48271 * ((i : Int) + 1) ≤ 2000000000000000000 := by omega
    generalize cell % 1000000000000000000 + 48271 * ((i : Int) + 1) = num at *
    refine ⟨_, rfl, _, rfl, _, _, rfl, rfl, mulOk (b64 _ (by omega) (by omega)) (b64 _ (by omega) (by omega)), _, _, rfl, rfl, cm, _, _, rfl, rfl, cm, ?_⟩
    dsimp only
    have z0 : 0 ≤ num * num % 2147483629 % 2 := by omega
    have z1 : num * num % 2147483629 % 2 < 2 := by omega
    generalize num * num % 2147483629 % 2 = z at *
    obtain ⟨x, dx, st, ls, m, ix1, ix2, ix3, m4, hne, hs, stp⟩ := t.pick a0 q0 q1 z0 z1
    obtain ⟨as, bs, ts, hx, hst, has, hls, hbs, t9, zt⟩ := hs
    refine ⟨_, rfl, _, rfl, tp, _, _, _, rfl, rfl, SqT.of t.ht, ix1, _, rfl, _, rfl, sl, _, _, _, rfl, rfl, SqL.of t.hs, ix2, _, rfl, _, rfl, l1, _, _, _, rfl, rfl, SqL.of t.hl, ix3, _, rfl, x, dx, st, ls, m, cell, as, bs, ts, rfl, hx, hst, has, hls, hbs, hne, t9, m4, zt, fun as' bs' ts' H' keep est has' els hbs' t9' zt' => ?_⟩
    have t2 := stp H' keep ⟨as', bs', ts', keep _ _ (fun z => by rw [z, hst] at hx; cases hx) (fun z => by rw [z, hls] at hx; cases hx) hx, est, has', els, hbs', t9', zt'⟩
    refine ⟨_, rfl, ?_⟩
    refine iteF ?_
    obtain ⟨as0, bs0, ts0, hx0, hst0, has0, hls0, hbs0, t90, zt0⟩ := t2.h0
    refine ⟨_, rfl, tp, _, _, _, rfl, rfl, SqT.of t2.ht, (show atI [V.ref x0, V.ref x1] 0 = some (.ref x0) from rfl), _, rfl, sl, _, _, _, rfl, rfl, SqL.of t2.hs, (show atI [V.ref e0, V.ref e'] 0 = some (.ref e0) from rfl), x0, d0, s0, e0, (m0 : Nat), as0, bs0, ts0, rfl, hx0, hst0, has0, hls0, hbs0, by omega, (fun t ht => by have := (zt0 t ht).1; omega), fun H3 g3 => ?_⟩
    refine ⟨_, rfl, ?_⟩
    refine iteF ?_
    have t3 := t2.same g3
    obtain ⟨as1, bs1, ts1, hx1, hst1, has1, hls1, hbs1, t91, zt1⟩ := t3.h1
    refine ⟨_, rfl, tp, _, _, _, rfl, rfl, SqT.of t3.ht, (show atI [V.ref x0, V.ref x1] 1 = some (.ref x1) from rfl), _, rfl, sl, _, _, _, rfl, rfl, SqL.of t3.hs, (show atI [V.ref e0, V.ref e'] 1 = some (.ref e') from rfl), x1, d1, s1, e', (m1 : Nat), as1, bs1, ts1, rfl, hx1, hst1, has1, hls1, hbs1, by omega, (fun t ht => by have := (zt1 t ht).1; omega), fun H4 g4 => ?_⟩
    refine ⟨_, rfl, ?_⟩
    refine iteF ?_
    exact ⟨_, _, _, _, rfl, t3.same g4⟩
  · rintro σ HA ⟨s4, s5, s6, s7, rfl, t⟩
    obtain ⟨as0, bs0, ts0, hx0, hst0, has0, hls0, hbs0, t90, zt0⟩ := t.h0
    refine ⟨_, rfl, tp, _, _, _, rfl, rfl, SqT.of t.ht, (show atI [V.ref x0, V.ref x1] 0 = some (.ref x0) from rfl), _, rfl, sl, _, _, _, rfl, rfl, SqL.of t.hs, (show atI [V.ref e0, V.ref e'] 0 = some (.ref e0) from rfl), x0, d0, s0, e0, (m0 : Nat), as0, bs0, ts0, rfl, hx0, hst0, has0, hls0, hbs0, by omega, (fun t ht => by have := (zt0 t ht).1; omega), fun H3 g3 => ?_⟩
    exact q _
end
end L2

set_option Elab.async false
set_option linter.all false
set_option maxRecDepth 100000
set_option maxHeartbeats 4000000
namespace L2
open PySem PySem.Spec PyProof.Rows
theorem all_mk {l : PySem.W.OpenLaw} {w : World} {K : PySem.W.Frag} {h : Heap} {mg : Str → Option Value} {fa : Addr} (X : K.In h) (G : h.Ns mainGlobals mg) (hfa : mg "law" = some (.ref fa))
    {od1 an1 : Option Addr} {sl1 : Array (Option Value)} {oc1 kV1 dc1 pm1 cd1 ct1 : Value} {f1 : Addr}
    (a1 : PySem.W.nsIn K mainGlobals "divisor" = some (some (.ref f1))) (l1 : K.lookup f1 = some ⟨oc1, od1, .func (PySem.W.fnOf "divisor" "divisor" (defArgs s_divisor) (defBody s_divisor) (defScope s_divisor) .none kV1 dc1 pm1 an1 cd1 ct1), sl1⟩) (c1 : PySem.W.codeIn K cd1 "divisor" = true) (k1 : PySem.W.keepIn K (.ref f1) = true)
    {od2 an2 : Option Addr} {sl2 : Array (Option Value)} {oc2 kV2 dc2 pm2 cd2 ct2 : Value} {f2 : Addr}
    (a2 : PySem.W.nsIn K mainGlobals "divisor_of_all" = some (some (.ref f2))) (l2 : K.lookup f2 = some ⟨oc2, od2, .func (PySem.W.fnOf "divisor_of_all" "divisor_of_all" (defArgs s_divisor_of_all) (defBody s_divisor_of_all) (defScope s_divisor_of_all) .none kV2 dc2 pm2 an2 cd2 ct2), sl2⟩) (c2 : PySem.W.codeIn K cd2 "divisor_of_all" = true) (k2 : PySem.W.keepIn K (.ref f2) = true)
    {od3 an3 : Option Addr} {sl3 : Array (Option Value)} {oc3 kV3 dc3 pm3 cd3 ct3 : Value} {f3 : Addr}
    (a3 : PySem.W.nsIn K mainGlobals "wall" = some (some (.ref f3))) (l3 : K.lookup f3 = some ⟨oc3, od3, .func (PySem.W.fnOf "wall" "wall" (defArgs s_wall) (defBody s_wall) (defScope s_wall) .none kV3 dc3 pm3 an3 cd3 ct3), sl3⟩) (c3 : PySem.W.codeIn K cd3 "wall" = true) (k3 : PySem.W.keepIn K (.ref f3) = true)
    {od4 an4 : Option Addr} {sl4 : Array (Option Value)} {oc4 kV4 dc4 pm4 cd4 ct4 : Value} {f4 : Addr}
    (a4 : PySem.W.nsIn K mainGlobals "_law_cell_at" = some (some (.ref f4))) (l4 : K.lookup f4 = some ⟨oc4, od4, .func (PySem.W.fnOf "_law_cell_at" "_law_cell_at" (defArgs s_l_cell_at) (defBody s_l_cell_at) (defScope s_l_cell_at) .none kV4 dc4 pm4 an4 cd4 ct4), sl4⟩) (c4 : PySem.W.codeIn K cd4 "_law_cell_at" = true) (k4 : PySem.W.keepIn K (.ref f4) = true)
    {od5 an5 : Option Addr} {sl5 : Array (Option Value)} {oc5 kV5 dc5 pm5 cd5 ct5 : Value} {f5 : Addr}
    (a5 : PySem.W.nsIn K mainGlobals "_law_whole" = some (some (.ref f5))) (l5 : K.lookup f5 = some ⟨oc5, od5, .func (PySem.W.fnOf "_law_whole" "_law_whole" (defArgs s_l_whole) (defBody s_l_whole) (defScope s_l_whole) .none kV5 dc5 pm5 an5 cd5 ct5), sl5⟩) (c5 : PySem.W.codeIn K cd5 "_law_whole" = true) (k5 : PySem.W.keepIn K (.ref f5) = true)
    {od6 an6 : Option Addr} {sl6 : Array (Option Value)} {oc6 kV6 dc6 pm6 cd6 ct6 : Value} {f6 : Addr}
    (a6 : PySem.W.nsIn K mainGlobals "_law_divisor" = some (some (.ref f6))) (l6 : K.lookup f6 = some ⟨oc6, od6, .func (PySem.W.fnOf "_law_divisor" "_law_divisor" (defArgs s_l_divisor) (defBody s_l_divisor) (defScope s_l_divisor) .none kV6 dc6 pm6 an6 cd6 ct6), sl6⟩) (c6 : PySem.W.codeIn K cd6 "_law_divisor" = true) (k6 : PySem.W.keepIn K (.ref f6) = true)
    {od7 an7 : Option Addr} {sl7 : Array (Option Value)} {oc7 kV7 dc7 pm7 cd7 ct7 : Value} {f7 : Addr}
    (a7 : PySem.W.nsIn K mainGlobals "_law_plain" = some (some (.ref f7))) (l7 : K.lookup f7 = some ⟨oc7, od7, .func (PySem.W.fnOf "_law_plain" "_law_plain" (defArgs s_l_plain) (defBody s_l_plain) (defScope s_l_plain) .none kV7 dc7 pm7 an7 cd7 ct7), sl7⟩) (c7 : PySem.W.codeIn K cd7 "_law_plain" = true) (k7 : PySem.W.keepIn K (.ref f7) = true)
    {od8 an8 : Option Addr} {sl8 : Array (Option Value)} {oc8 kV8 dc8 pm8 cd8 ct8 : Value} {f8 : Addr}
    (a8 : PySem.W.nsIn K mainGlobals "_law_row" = some (some (.ref f8))) (l8 : K.lookup f8 = some ⟨oc8, od8, .func (PySem.W.fnOf "_law_row" "_law_row" (defArgs s_l_row) (defBody s_l_row) (defScope s_l_row) .none kV8 dc8 pm8 an8 cd8 ct8), sl8⟩) (c8 : PySem.W.codeIn K cd8 "_law_row" = true) (k8 : PySem.W.keepIn K (.ref f8) = true)
    {od9 an9 : Option Addr} {sl9 : Array (Option Value)} {oc9 kV9 dc9 pm9 cd9 ct9 : Value} {f9 : Addr}
    (a9 : PySem.W.nsIn K mainGlobals "_law_told" = some (some (.ref f9))) (l9 : K.lookup f9 = some ⟨oc9, od9, .func (PySem.W.fnOf "_law_told" "_law_told" (defArgs s_l_told) (defBody s_l_told) (defScope s_l_told) .none kV9 dc9 pm9 an9 cd9 ct9), sl9⟩) (c9 : PySem.W.codeIn K cd9 "_law_told" = true) (k9 : PySem.W.keepIn K (.ref f9) = true)
    {od10 an10 : Option Addr} {sl10 : Array (Option Value)} {oc10 kV10 dc10 pm10 cd10 ct10 : Value} {f10 : Addr}
    (a10 : PySem.W.nsIn K mainGlobals "_law_put" = some (some (.ref f10))) (l10 : K.lookup f10 = some ⟨oc10, od10, .func (PySem.W.fnOf "_law_put" "_law_put" (defArgs s_l_put) (defBody s_l_put) (defScope s_l_put) .none kV10 dc10 pm10 an10 cd10 ct10), sl10⟩) (c10 : PySem.W.codeIn K cd10 "_law_put" = true) (k10 : PySem.W.keepIn K (.ref f10) = true)
    {od11 an11 : Option Addr} {sl11 : Array (Option Value)} {oc11 kV11 dc11 pm11 cd11 ct11 : Value} {f11 : Addr}
    (a11 : PySem.W.nsIn K mainGlobals "_law_took" = some (some (.ref f11))) (l11 : K.lookup f11 = some ⟨oc11, od11, .func (PySem.W.fnOf "_law_took" "_law_took" (defArgs s_l_took) (defBody s_l_took) (defScope s_l_took) .none kV11 dc11 pm11 an11 cd11 ct11), sl11⟩) (c11 : PySem.W.codeIn K cd11 "_law_took" = true) (k11 : PySem.W.keepIn K (.ref f11) = true)
    {od12 an12 : Option Addr} {sl12 : Array (Option Value)} {oc12 kV12 dc12 pm12 cd12 ct12 : Value} {f12 : Addr}
    (a12 : PySem.W.nsIn K mainGlobals "_law_shown" = some (some (.ref f12))) (l12 : K.lookup f12 = some ⟨oc12, od12, .func (PySem.W.fnOf "_law_shown" "_law_shown" (defArgs s_l_shown) (defBody s_l_shown) (defScope s_l_shown) .none kV12 dc12 pm12 an12 cd12 ct12), sl12⟩) (c12 : PySem.W.codeIn K cd12 "_law_shown" = true) (k12 : PySem.W.keepIn K (.ref f12) = true)
    {od13 an13 : Option Addr} {sl13 : Array (Option Value)} {oc13 kV13 dc13 pm13 cd13 ct13 : Value} {f13 : Addr}
    (a13 : PySem.W.nsIn K mainGlobals "_law_done" = some (some (.ref f13))) (l13 : K.lookup f13 = some ⟨oc13, od13, .func (PySem.W.fnOf "_law_done" "_law_done" (defArgs s_l_done) (defBody s_l_done) (defScope s_l_done) .none kV13 dc13 pm13 an13 cd13 ct13), sl13⟩) (c13 : PySem.W.codeIn K cd13 "_law_done" = true) (k13 : PySem.W.keepIn K (.ref f13) = true)
    {od14 an14 : Option Addr} {sl14 : Array (Option Value)} {oc14 kV14 dc14 pm14 cd14 ct14 : Value} {f14 : Addr}
    (a14 : PySem.W.nsIn K mainGlobals "law" = some (some (.ref f14))) (l14 : K.lookup f14 = some ⟨oc14, od14, .func (PySem.W.fnOf "law" "law" (defArgs s_law) (defBody s_law) (defScope s_law) .none kV14 dc14 pm14 an14 cd14 ct14), sl14⟩) (c14 : PySem.W.codeIn K cd14 "law" = true) (k14 : PySem.W.keepIn K (.ref f14) = true)
    (z1 : PySem.W.nsIn K mainGlobals "abs" = some none)
    (z2 : PySem.W.nsIn K mainGlobals "len" = some none)
    (z3 : PySem.W.nsIn K mainGlobals "isinstance" = some none)
    (z4 : PySem.W.nsIn K mainGlobals "int" = some none)
    (z5 : PySem.W.nsIn K mainGlobals "bool" = some none)
    (z6 : PySem.W.nsIn K mainGlobals "tuple" = some none)
    (z7 : PySem.W.nsIn K mainGlobals "list" = some none)
    (z8 : PySem.W.nsIn K mainGlobals "any" = some none)
    (z9 : PySem.W.nsIn K mainGlobals "min" = some none)
    (z10 : PySem.W.nsIn K mainGlobals "max" = some none)
    (z11 : PySem.W.nsIn K mainGlobals "range" = some none)
    (z12 : PySem.W.nsIn K mainGlobals "enumerate" = some none)
    (z13 : PySem.W.nsIn K mainGlobals "ValueError" = some none)
    {AWallError : Addr} (nWallError : PySem.W.nsIn K mainGlobals "WallError" = some (some (.ref AWallError)))
    {ANoNumber : Addr} (nNoNumber : PySem.W.nsIn K mainGlobals "NoNumber" = some (some (.ref ANoNumber)))
    {ANoFace : Addr} (nNoFace : PySem.W.nsIn K mainGlobals "NoFace" = some (some (.ref ANoFace)))
    {ANoLand : Addr} (nNoLand : PySem.W.nsIn K mainGlobals "NoLand" = some (some (.ref ANoLand)))
    {ANoPlace : Addr} (nNoPlace : PySem.W.nsIn K mainGlobals "NoPlace" = some (some (.ref ANoPlace)))
    {ANoWall : Addr} (nNoWall : PySem.W.nsIn K mainGlobals "NoWall" = some (some (.ref ANoWall)))
    {nm q : Str} {N fI : Addr} {bs bm : List Value} {hdct : Bool} {sn : List Str} {sub : List Value} {ab : Bool} {col : Option Bool} {dd : Option Addr} {q0 q1 q2 q3 q5 : Option Value} {cdx : ClassData} {odI anI : Option Addr} {slI : Array (Option Value)} {ocI kVI dcI pmI cdI ctI : Value}
    {AHall fP fT fW fH : Addr}
    {nm2 qq2 : Str} {N2 : Addr} {bs2 bm2 : List Value} {hdct2 : Bool} {sn2 : List Str} {sub2 : List Value} {ab2 : Bool} {col2 : Option Bool} {dd2 : Option Addr} {r0 r1 r2 r3 r5 : Option Value} {cdy : ClassData}
    {odMH anMH : Option Addr} {slMH : Array (Option Value)} {ocMH kVMH dcMH pmMH cdMH ctMH : Value}
    {odMP anMP : Option Addr} {slMP : Array (Option Value)} {ocMP kVMP dcMP pmMP cdMP ctMP : Value}
    {odMT anMT : Option Addr} {slMT : Array (Option Value)} {ocMT kVMT dcMT pmMT cdMT ctMT : Value}
    {odMW anMW : Option Addr} {slMW : Array (Option Value)} {ocMW kVMW dcMW pmMW cdMW ctMW : Value}
    (x1 : K.lookup ANoWall = some (excClassObj nm q ANoWall N bs bm hdct sn sub ab col dd q0 q1 q2 q3 q5 "ValueError.__new__"))
    (x2 : PySem.W.nsOkIn K N = true)
    (x3 : PySem.W.nsIn K N "__init__" = some (some (.ref fI)))
    (x4 : PySem.W.tailIn K vErr bm = true)
    (x5 : PySem.W.typeIn K (.ref fI) = some (.type "function"))
    (x6 : PySem.W.readsIn K AWallError (.type "type") = true)
    (x7 : PySem.W.specialIn K (.ref AWallError) "__getattribute__" = some (some (.builtin "type.__getattribute__")))
    (x8 : PySem.W.findCls K (.ref AWallError) (.type "type") "__init__" = some (.val (.builtin "ValueError.__init__")))
    (x9 : PySem.W.findIn K (.ref ANoWall) "__setattr__" = some (some (.builtin "object.__setattr__")))
    (x10 : ((PySem.W.clsIn K ANoWall).any fun cd => excMro cd.mro && cd.hasDict) = true)
    (x11 : PySem.W.takerIn K ANoWall "place" = some none)
    (x12 : PySem.W.clsIn K ANoWall = some cdx)
    (x13 : PySem.W.findIn K (.ref ANoWall) "__getattribute__" = some (some (.builtin "BaseException.__getattribute__")))
    (x14 : PySem.W.findIn K (.ref ANoWall) "__getattr__" = some none)
    (x15 : PySem.W.findIn K (.ref ANoWall) "__class__" = some (some (.builtin "object.__class__")))
    (x16 : PySem.W.specialIn K (.builtin "object.__class__") "__get__" = some (some (.builtin "getset_descriptor.__get__")))
    (x17 : PySem.W.takesIn K (.builtin "object.__class__") = some true)
    (x18 : PySem.W.mroIn K ANoWall (.type "object") = some true)
    (x19 : PySem.W.subIn K (.ref ANoWall) (.type "BaseException") = some true)
    (x20 : PySem.W.hasDictIn K ANoWall = true)
    (x21 : PySem.W.findIn K (.ref ANoWall) "place" = some none)
    (x22 : PySem.W.keepIn K (.ref ANoWall) = true)
    (x23 : PySem.W.exmOne K (.ref ANoWall) (.ref AWallError) = some true)
    (x24 : PySem.W.kitAny K (.ref ANoWall) [.ref ANoFace, .ref ANoLand, .ref ANoNumber, .ref ANoPlace] = some false)
    (x25 : PySem.W.kitOne K (.ref ANoWall) (.ref ANoWall) = some true)
    (x26 : PySem.W.kitOne K (.ref ANoWall) (.type "ValueError") = some true)
    (lI : K.lookup fI = some ⟨ocI, odI, .func (PySem.W.fnOf "__init__" "NoWall.__init__" (defArgs s_init) (defBody s_init) (defScope s_init) .none kVI dcI pmI anI cdI ctI), slI⟩)
    (cI : PySem.W.codeIn K cdI "NoWall.__init__" = true)
    (kI : PySem.W.keepIn K (.ref fI) = true)
    (nHall : PySem.W.nsIn K mainGlobals "Hall" = some (some (.ref AHall)))
    (h1 : PySem.W.plainGet K AHall Str.empty = true)
    (h2 : PySem.W.hasDictIn K AHall = true)
    (h3 : PySem.W.plainOver K AHall = true)
    (h4 : PySem.W.findIn K (.ref AHall) "__setattr__" = some (some (.builtin "object.__setattr__")))
    (h5 : PySem.W.findIn K (.ref AHall) "ways" = some none)
    (h6 : PySem.W.findIn K (.ref AHall) "standing" = some none)
    (h7 : PySem.W.makesIn K AHall = true)
    (h8 : PySem.W.keepIn K (.ref AHall) = true)
    (atH : PySem.W.findIn K (.ref AHall) "__init__" = some (some (.ref fH)))
    (fnH : PySem.W.isFn K (.ref fH) = true)
    (lMH : K.lookup fH = some ⟨ocMH, odMH, .func (PySem.W.fnOf "__init__" "Hall.__init__" (defArgs s_hinit) (defBody s_hinit) (defScope s_hinit) .none kVMH dcMH pmMH anMH cdMH ctMH), slMH⟩)
    (cMH : PySem.W.codeIn K cdMH "Hall.__init__" = true)
    (kMH : PySem.W.keepIn K (.ref fH) = true)
    (atP : PySem.W.findIn K (.ref AHall) "put" = some (some (.ref fP)))
    (fnP : PySem.W.isFn K (.ref fP) = true)
    (lMP : K.lookup fP = some ⟨ocMP, odMP, .func (PySem.W.fnOf "put" "Hall.put" (defArgs s_put) (defBody s_put) (defScope s_put) .none kVMP dcMP pmMP anMP cdMP ctMP), slMP⟩)
    (cMP : PySem.W.codeIn K cdMP "Hall.put" = true)
    (kMP : PySem.W.keepIn K (.ref fP) = true)
    (atT : PySem.W.findIn K (.ref AHall) "take" = some (some (.ref fT)))
    (fnT : PySem.W.isFn K (.ref fT) = true)
    (lMT : K.lookup fT = some ⟨ocMT, odMT, .func (PySem.W.fnOf "take" "Hall.take" (defArgs s_take) (defBody s_take) (defScope s_take) .none kVMT dcMT pmMT anMT cdMT ctMT), slMT⟩)
    (cMT : PySem.W.codeIn K cdMT "Hall.take" = true)
    (kMT : PySem.W.keepIn K (.ref fT) = true)
    (atW : PySem.W.findIn K (.ref AHall) "walls" = some (some (.ref fW)))
    (fnW : PySem.W.isFn K (.ref fW) = true)
    (lMW : K.lookup fW = some ⟨ocMW, odMW, .func (PySem.W.fnOf "walls" "Hall.walls" (defArgs s_walls) (defBody s_walls) (defScope s_walls) .none kVMW dcMW pmMW anMW cdMW ctMW), slMW⟩)
    (cMW : PySem.W.codeIn K cdMW "Hall.walls" = true)
    (kMW : PySem.W.keepIn K (.ref fW) = true)
    (y1 : K.lookup ANoPlace = some (excClassObj nm2 qq2 ANoPlace N2 bs2 bm2 hdct2 sn2 sub2 ab2 col2 dd2 r0 r1 r2 r3 r5 "ValueError.__new__"))
    (y2 : PySem.W.nsOkIn K N2 = true)
    (y3 : PySem.W.nsIn K N2 "__init__" = some none)
    (y4 : PySem.W.tailIn K vErr bm2 = true)
    (y5 : PySem.W.clsIn K ANoPlace = some cdy)
    (y6 : PySem.W.findIn K (.ref ANoPlace) "__getattribute__" = some (some (.builtin "BaseException.__getattribute__")))
    (y7 : PySem.W.findIn K (.ref ANoPlace) "__getattr__" = some none)
    (y8 : PySem.W.findIn K (.ref ANoPlace) "__class__" = some (some (.builtin "object.__class__")))
    (y9 : PySem.W.mroIn K ANoPlace (.type "object") = some true)
    (y10 : PySem.W.subIn K (.ref ANoPlace) (.type "BaseException") = some true)
    (y11 : PySem.W.exmOne K (.ref ANoPlace) (.ref AWallError) = some true)
    (y12 : PySem.W.kitAny K (.ref ANoPlace) [.ref ANoFace, .ref ANoLand, .ref ANoNumber] = some false)
    (y13 : PySem.W.kitOne K (.ref ANoPlace) (.type "ValueError") = some true)
    (y14 : PySem.W.kitOne K (.ref ANoPlace) (.ref ANoWall) = some false)
    (y15 : PySem.W.kitOne K (.ref ANoPlace) (.ref ANoPlace) = some true)
    (y16 : PySem.W.kitAny K (.ref ANoWall) [.ref ANoFace, .ref ANoLand, .ref ANoNumber] = some false)
    (y17 : PySem.W.kitOne K (.ref ANoWall) (.ref ANoPlace) = some false)
    : ∃ fd : FuncData, (∀ (s : Shared) (v : Value), BindsTo s fd ⟨[v], []⟩ [("_law_script", v)]) ∧ ∀ base : Heap, K.In base → base.Ns mainGlobals mg → FnOk l.prog w K mg base CX0 7 fa fd ["_law_script"] (spLaw K) := by
  have e := hfa.symm.trans (PySem.W.mg_of X G a14)
  cases e
  have T : Txt mg := ⟨PySem.W.mg_none_of X G z1, PySem.W.mg_none_of X G z2, PySem.W.mg_none_of X G z3, PySem.W.mg_none_of X G z4, PySem.W.mg_none_of X G z5, PySem.W.mg_none_of X G z6, PySem.W.mg_none_of X G z7, PySem.W.mg_none_of X G z8, PySem.W.mg_none_of X G z9, PySem.W.mg_none_of X G z10, PySem.W.mg_none_of X G z11, PySem.W.mg_none_of X G z12, PySem.W.mg_none_of X G z13⟩
  have nw : Nw K mg AWallError ANoNumber ANoFace ANoLand ANoPlace ANoWall fI := ⟨PySem.W.mg_of X G nWallError, PySem.W.mg_of X G nNoNumber, PySem.W.mg_of X G nNoFace, PySem.W.mg_of X G nNoLand, PySem.W.mg_of X G nNoPlace, PySem.W.mg_of X G nNoWall, ⟨⟨_, _, _, _, _, _, _, _, _, _, _, _, _, _, _, _, x1, x2, x3, x4⟩, x5, x6, x7, ⟨_, x8, rfl⟩, x9⟩, ⟨x9, x10, x11⟩, ⟨⟨by rw [x12]; rfl, x13, x14, x15, x16, x17, x18, x19⟩, x20, x21⟩, x22, x23, x24, x25, x26⟩
  have xc := nw
  have hl : Hl K mg AHall AWallError ANoNumber ANoFace ANoLand ANoPlace ANoWall fP fT fW := ⟨PySem.W.mg_of X G nHall, ⟨h1, h2, h3, h4⟩, h5, h6, ⟨atP, fnP, kMP⟩, ⟨atT, fnT, kMT⟩, ⟨atW, fnW, kMW⟩, ⟨_, _, _, _, _, _, _, _, _, _, _, _, _, _, _, _, y1, y2, y3, y4⟩, ⟨by rw [y5]; rfl, y6, y7, y8, x16, x17, y9, y10⟩, y11, y12, y13, y14, y15, y16, y17⟩
  have hmk : Mk K AHall fH := ⟨h7, atH, fnH, h8⟩
  have FMH := fun_mk (st := s_hinit) lMH cMH kMH
  have FMP := fun_mk (st := s_put) lMP cMP kMP
  have FMT := fun_mk (st := s_take) lMT cMT kMT
  have FMW := fun_mk (st := s_walls) lMW cMW kMW
  have bh := FMH.binds (ps := ["self", "ways"]) fun _ _ _ _ _ _ us hl => match us, hl with | [_, _], _ => rfl
  have bput := FMP.binds (ps := ["self", "numbers"]) fun _ _ _ _ _ _ us hl => match us, hl with | [_, _], _ => rfl
  have btake := FMT.binds (ps := ["self", "place"]) fun _ _ _ _ _ _ us hl => match us, hl with | [_, _], _ => rfl
  have bwalls := FMW.binds (ps := ["self"]) fun _ _ _ _ _ _ us hl => match us, hl with | [_], _ => rfl
  have FF := fun_mk (st := s_init) lI cI kI
  have bI := FF.binds (ps := ["self", "place"]) fun _ _ _ _ _ _ us hl => match us, hl with | [_, _], _ => rfl
  have F1 := fun_mk (st := s_divisor) l1 c1 k1
  have b1 := F1.binds (ps := ["one", "other"]) fun _ _ _ _ _ _ us hl => match us, hl with | [_, _], _ => rfl
  have F2 := fun_mk (st := s_divisor_of_all) l2 c2 k2
  have b2 := F2.binds (ps := ["numbers"]) fun _ _ _ _ _ _ us hl => match us, hl with | [_], _ => rfl
  have F3 := fun_mk (st := s_wall) l3 c3 k3
  have b3 := F3.binds (ps := ["numbers"]) fun _ _ _ _ _ _ us hl => match us, hl with | [_], _ => rfl
  have F4 := fun_mk (st := s_l_cell_at) l4 c4 k4
  have b4 := F4.binds (ps := ["_law_script", "_law_k"]) fun _ _ _ _ _ _ us hl => match us, hl with | [_, _], _ => rfl
  have F5 := fun_mk (st := s_l_whole) l5 c5 k5
  have b5 := F5.binds (ps := ["_law_found"]) fun _ _ _ _ _ _ us hl => match us, hl with | [_], _ => rfl
  have F6 := fun_mk (st := s_l_divisor) l6 c6 k6
  have b6 := F6.binds (ps := ["_law_one", "_law_other"]) fun _ _ _ _ _ _ us hl => match us, hl with | [_, _], _ => rfl
  have F7 := fun_mk (st := s_l_plain) l7 c7 k7
  have b7 := F7.binds (ps := ["_law_row_here"]) fun _ _ _ _ _ _ us hl => match us, hl with | [_], _ => rfl
  have F8 := fun_mk (st := s_l_row) l8 c8 k8
  have b8 := F8.binds (ps := ["_law_standing", "_law_ways", "_law_cell"]) fun _ _ _ _ _ _ us hl => match us, hl with | [_, _, _], _ => rfl
  have F9 := fun_mk (st := s_l_told) l9 c9 k9
  have b9 := F9.binds (ps := ["_law_caught"]) fun _ _ _ _ _ _ us hl => match us, hl with | [_], _ => rfl
  have F10 := fun_mk (st := s_l_put) l10 c10 k10
  have b10 := F10.binds (ps := ["_law_hall", "_law_row_here"]) fun _ _ _ _ _ _ us hl => match us, hl with | [_, _], _ => rfl
  have F11 := fun_mk (st := s_l_took) l11 c11 k11
  have b11 := F11.binds (ps := ["_law_hall", "_law_place"]) fun _ _ _ _ _ _ us hl => match us, hl with | [_, _], _ => rfl
  have F12 := fun_mk (st := s_l_shown) l12 c12 k12
  have b12 := F12.binds (ps := ["_law_hall", "_law_standing"]) fun _ _ _ _ _ _ us hl => match us, hl with | [_, _], _ => rfl
  have F13 := fun_mk (st := s_l_done) l13 c13 k13
  have b13 := F13.binds (ps := ["_law_hall", "_law_standing", "_law_ways", "_law_cell"]) fun _ _ _ _ _ _ us hl => match us, hl with | [_, _, _, _], _ => rfl
  have F14 := fun_mk (st := s_law) l14 c14 k14
  refine ⟨PySem.W.fnOf "law" "law" (defArgs s_law) (defBody s_law) (defScope s_law) .none kV14 dc14 pm14 an14 cd14 ct14, fun s v => .of_eq rfl, fun base _ _ => ?_⟩
  have FI := ok_init (P := l.prog) (w := w) (base := base) nw FF
  have C1 : Cal l.prog w K mg base 1 "divisor" _ _ := ⟨_, _, ok_divisor T F1, b1, k1, PySem.W.mg_of X G a1⟩
  have C2 : Cal l.prog w K mg base 2 "divisor_of_all" _ _ := ⟨_, _, ok_divisor_of_all T F2 (C1.mono (by decide)), b2, k2, PySem.W.mg_of X G a2⟩
  have C3 : Cal1 l.prog w K mg base 3 "wall" _ _ := ⟨_, _, ok_wall1 T nw F3 (C2.mono (by decide)) FI bI, b3, k3, PySem.W.mg_of X G a3⟩
  have C4 : Cal l.prog w K mg base 1 "_law_cell_at" _ _ := ⟨_, _, ok_l_cell_at T F4, b4, k4, PySem.W.mg_of X G a4⟩
  have C5 : Cal l.prog w K mg base 1 "_law_whole" _ _ := ⟨_, _, ok_l_whole T F5, b5, k5, PySem.W.mg_of X G a5⟩
  have C6 : Cal l.prog w K mg base 1 "_law_divisor" _ _ := ⟨_, _, ok_l_divisor T F6, b6, k6, PySem.W.mg_of X G a6⟩
  have C7 : Cal l.prog w K mg base 2 "_law_plain" _ _ := ⟨_, _, ok_l_plain T F7 (C6.mono (by decide)), b7, k7, PySem.W.mg_of X G a7⟩
  have C8 : Cal l.prog w K mg base 1 "_law_row" _ _ := ⟨_, _, ok_l_row T F8, b8, k8, PySem.W.mg_of X G a8⟩
  have C9 : Cal l.prog w K mg base 2 "_law_told" _ _ := ⟨_, _, ok_l_told T nw hl F9 (C5.mono (by decide)), b9, k9, PySem.W.mg_of X G a9⟩
  have Fput := ok_put (P := l.prog) (w := w) (base := base) T nw hl FMP (C3.mono (by decide)) (FI.mono (by decide)) bI
  have C10 : Cal l.prog w K mg base 5 "_law_put" _ _ := ⟨_, _, ok_l_put T nw hl F10 Fput bput (C9.mono (by decide)), b10, k10, PySem.W.mg_of X G a10⟩
  have Ftake := ok_htake (P := l.prog) (w := w) (base := base) T nw hl FMT
  have C11 : Cal l.prog w K mg base 5 "_law_took" _ _ := ⟨_, _, ok_l_took T nw hl F11 (Ftake.mono (by decide)) btake (C9.mono (by decide)), b11, k11, PySem.W.mg_of X G a11⟩
  have Fwalls := ok_hwalls (P := l.prog) (w := w) (base := base) T hl FMW
  have C12 : Cal l.prog w K mg base 2 "_law_shown" _ _ := ⟨_, _, ok_l_shown T hl F12 Fwalls bwalls (C5.mono (by decide)), b12, k12, PySem.W.mg_of X G a12⟩
  have C13 : Cal l.prog w K mg base 6 "_law_done" _ _ := ⟨_, _, ok_l_done T F13 (C11.mono (by decide)) (C8.mono (by decide)) (C7.mono (by decide)) (C10.mono (by decide)), b13, k13, PySem.W.mg_of X G a13⟩
  have Fh := ok_hinit (P := l.prog) (w := w) (base := base) hl FMH
  exact ok_law T hl hmk F14 (Fh.mono (by decide)) bh (C4.mono (by decide)) (C13.mono (by decide)) (C12.mono (by decide))
theorem walk {l : PySem.W.OpenLaw} {q : Program} {loose : List Str} {XP : (Str → Option Value) → Heap → Prop} {YP : World → Heap → Prop} {d : DefRec} {K : Params → PySem.W.Frag} (hn : l.most = some 63) (hdf : d.params.defaults = [])
    (hY : ∀ (w : World) (h : Heap), YP w h → (K w.params).In h)
    (F : ∀ (w : World) (mg : Str → Option Value) (fa : Addr) (h : Heap), (K w.params).In h → h.Ns mainGlobals mg → mg d.name = some (.ref fa) →
      ∃ fd : FuncData, (∀ (s : Shared) (u : Value), BindsTo s fd ⟨[u], []⟩ [("_law_script", u)]) ∧ ∀ base : Heap, (K w.params).In base → base.Ns mainGlobals mg → FnOk l.prog w (K w.params) mg base CX0 7 fa fd ["_law_script"] (spLaw (K w.params))) :
    PySem.W.WalkO q loose XP YP l.row.toRowW d [] (fun f vs => PySem.call f vs) :=
  L2.walk_of (n := 63) (k := 7) (x := "_law_script") (CX := fun _ => CX0) (sp := fun w => spLaw (K w.params)) hn (by decide) hdf ⟨rfl, by decide, by decide⟩ hY F (fun _ _ a ns hl _ hS => ⟨a, ns, rfl, hS, hl, fun _ => rfl⟩) fun _ _ _ _ _ z => z
end L2
open PySem PySem.W PyProof.Rows
set_option maxRecDepth 100000 in
set_option maxHeartbeats 0 in
theorem PySem.Challenge.cw_wallspace_k81_whole_hall_holds : PySem.Challenge.rw_wallspace_k81_whole_hall.Holds := by
  w_on; o_law; k_head; (case hw => w_witness2)
  k_fill
  refine L2.walk (l := PySem.Challenge.rw_wallspace_k81_whole_hall) rfl rfl (fun w h Y => PySem.W.kIn_of Y) ?F
  case F =>
    intro w mg fa h KX G hmg
    refine' L2.all_mk KX G hmg ?a1 ?l1 ?c1 ?k1 ?a2 ?l2 ?c2 ?k2 ?a3 ?l3 ?c3 ?k3 ?a4 ?l4 ?c4 ?k4 ?a5 ?l5 ?c5 ?k5 ?a6 ?l6 ?c6 ?k6 ?a7 ?l7 ?c7 ?k7 ?a8 ?l8 ?c8 ?k8 ?a9 ?l9 ?c9 ?k9 ?a10 ?l10 ?c10 ?k10 ?a11 ?l11 ?c11 ?k11 ?a12 ?l12 ?c12 ?k12 ?a13 ?l13 ?c13 ?k13 ?a14 ?l14 ?c14 ?k14 ?z1 ?z2 ?z3 ?z4 ?z5 ?z6 ?z7 ?z8 ?z9 ?z10 ?z11 ?z12 ?z13 ?nWallError ?nNoNumber ?nNoFace ?nNoLand ?nNoPlace ?nNoWall ?x1 ?x2 ?x3 ?x4 ?x5 ?x6 ?x7 ?x8 ?x9 ?x10 ?x11 ?x12 ?x13 ?x14 ?x15 ?x16 ?x17 ?x18 ?x19 ?x20 ?x21 ?x22 ?x23 ?x24 ?x25 ?x26 ?lI ?cI ?kI ?nHall ?h1 ?h2 ?h3 ?h4 ?h5 ?h6 ?h7 ?h8 ?atH ?fnH ?lMH ?cMH ?kMH ?atP ?fnP ?lMP ?cMP ?kMP ?atT ?fnT ?lMT ?cMT ?kMT ?atW ?fnW ?lMW ?cMW ?kMW ?y1 ?y2 ?y3 ?y4 ?y5 ?y6 ?y7 ?y8 ?y9 ?y10 ?y11 ?y12 ?y13 ?y14 ?y15 ?y16 ?y17
    (case a1 => k_is)
    (case l1 => k_is)
    (case c1 => k_is)
    (case k1 => k_is)
    (case a2 => k_is)
    (case l2 => k_is)
    (case c2 => k_is)
    (case k2 => k_is)
    (case a3 => k_is)
    (case l3 => k_is)
    (case c3 => k_is)
    (case k3 => k_is)
    (case a4 => k_is)
    (case l4 => k_is)
    (case c4 => k_is)
    (case k4 => k_is)
    (case a5 => k_is)
    (case l5 => k_is)
    (case c5 => k_is)
    (case k5 => k_is)
    (case a6 => k_is)
    (case l6 => k_is)
    (case c6 => k_is)
    (case k6 => k_is)
    (case a7 => k_is)
    (case l7 => k_is)
    (case c7 => k_is)
    (case k7 => k_is)
    (case a8 => k_is)
    (case l8 => k_is)
    (case c8 => k_is)
    (case k8 => k_is)
    (case a9 => k_is)
    (case l9 => k_is)
    (case c9 => k_is)
    (case k9 => k_is)
    (case a10 => k_is)
    (case l10 => k_is)
    (case c10 => k_is)
    (case k10 => k_is)
    (case a11 => k_is)
    (case l11 => k_is)
    (case c11 => k_is)
    (case k11 => k_is)
    (case a12 => k_is)
    (case l12 => k_is)
    (case c12 => k_is)
    (case k12 => k_is)
    (case a13 => k_is)
    (case l13 => k_is)
    (case c13 => k_is)
    (case k13 => k_is)
    (case a14 => k_is)
    (case l14 => k_is)
    (case c14 => k_is)
    (case k14 => k_is)
    (case z1 => k_is)
    (case z2 => k_is)
    (case z3 => k_is)
    (case z4 => k_is)
    (case z5 => k_is)
    (case z6 => k_is)
    (case z7 => k_is)
    (case z8 => k_is)
    (case z9 => k_is)
    (case z10 => k_is)
    (case z11 => k_is)
    (case z12 => k_is)
    (case z13 => k_is)
    (case nWallError => k_is)
    (case nNoNumber => k_is)
    (case nNoFace => k_is)
    (case nNoLand => k_is)
    (case nNoPlace => k_is)
    (case nNoWall => k_is)
    (case x1 => k_is)
    (case x2 => kernel_rfl)
    (case x3 => k_is)
    (case x4 => kernel_rfl)
    (case x5 => kernel_rfl)
    (case x6 => kernel_rfl)
    (case x7 => k_is)
    (case x8 => kernel_rfl)
    (case x9 => k_is)
    (case x10 => kernel_rfl)
    (case x11 => kernel_rfl)
    (case x12 => k_is)
    (case x13 => k_is)
    (case x14 => k_is)
    (case x15 => k_is)
    (case x16 => k_is)
    (case x17 => k_is)
    (case x18 => k_is)
    (case x19 => k_is)
    (case x20 => kernel_rfl)
    (case x21 => k_is)
    (case x22 => k_is)
    (case x23 => kernel_rfl)
    (case x24 => kernel_rfl)
    (case x25 => kernel_rfl)
    (case x26 => kernel_rfl)
    (case lI => k_is)
    (case cI => k_is)
    (case kI => k_is)
    (case nHall => k_is)
    (case h1 => kernel_rfl)
    (case h2 => kernel_rfl)
    (case h3 => kernel_rfl)
    (case h4 => k_is)
    (case h5 => k_is)
    (case h6 => k_is)
    (case h7 => kernel_rfl)
    (case h8 => k_is)
    (case atH => k_is)
    (case fnH => kernel_rfl)
    (case lMH => k_is)
    (case cMH => k_is)
    (case kMH => k_is)
    (case atP => k_is)
    (case fnP => kernel_rfl)
    (case lMP => k_is)
    (case cMP => k_is)
    (case kMP => k_is)
    (case atT => k_is)
    (case fnT => kernel_rfl)
    (case lMT => k_is)
    (case cMT => k_is)
    (case kMT => k_is)
    (case atW => k_is)
    (case fnW => kernel_rfl)
    (case lMW => k_is)
    (case cMW => k_is)
    (case kMW => k_is)
    (case y1 => k_is)
    (case y2 => kernel_rfl)
    (case y3 => k_is)
    (case y4 => kernel_rfl)
    (case y5 => k_is)
    (case y6 => k_is)
    (case y7 => k_is)
    (case y8 => k_is)
    (case y9 => k_is)
    (case y10 => k_is)
    (case y11 => kernel_rfl)
    (case y12 => kernel_rfl)
    (case y13 => kernel_rfl)
    (case y14 => kernel_rfl)
    (case y15 => kernel_rfl)
    (case y16 => kernel_rfl)
    (case y17 => kernel_rfl)
