import PyProof.Rows.All
import Wide.All
import OpenK.AllK
import Wide.FinOn
import Lean
import PyProof.EqAt
import PyProof.EqKinds
import PyProof.TupleCall
import PyProof.AutoSeq1
import PySem.Challenge.RW_ladderworth_k75_whole_rankings_changed
-- CHANGE: your row's module here, as the last of these rows
set_option Elab.async false
set_option linter.all false
set_option maxRecDepth 100000
/-! THE HAND LAYER, for ints, bools, texts, own classes, LISTS and tuples (index, slices, in, append, pop ..), calls, loops. Paste it whole ahead of your own text; what your proof does not reach may be deleted. -/
namespace L2
open PySem PySem.Spec PyProof.Rows

/-- a key: an int or a str -/
abbrev Key := Sum Int Str
def keyIs : Key → Value → Bool
  | .inl k, v => Value.isInt k v
  | .inr x, v => Value.isStrOf x v
def keyH (w : World) : Key → Int
  | .inl k => hashInt k
  | .inr x => hashStr w x
theorem keyIs_shape : ∀ {k : Key} {v : Value}, keyIs k v = true → (∃ i t, k = Sum.inl i ∧ v = Value.int i t) ∨ (∃ x t, k = Sum.inr x ∧ v = Value.str x t)
  | .inl i, v, h => by
    obtain ⟨t, e⟩ := Value.isInt_shape (k := i) (v := v) h
    exact .inl ⟨i, t, rfl, e⟩
  | .inr x, v, h => by
    obtain ⟨t, e⟩ := Value.isStrOf_shape (x := x) (v := v) h
    exact .inr ⟨x, t, rfl, e⟩
theorem key_ll (a b : Int) : decide ((Sum.inl a : Key) = Sum.inl b) = (a == b) := by
  by_cases e : a = b
  · subst e; simp
  · have h : ¬ (Sum.inl a : Key) = Sum.inl b := fun q => e (Sum.inl.inj q)
    rw [decide_eq_false h]
    exact (beq_eq_false_iff_ne.mpr e).symm
theorem key_rr (a b : Str) : decide ((Sum.inr a : Key) = Sum.inr b) = decide (a = b) := by
  by_cases e : a = b
  · subst e; simp
  · have h : ¬ (Sum.inr a : Key) = Sum.inr b := fun q => e (Sum.inr.inj q)
    rw [decide_eq_false h, decide_eq_false e]
theorem key_lr (a : Int) (b : Str) : decide ((Sum.inl a : Key) = Sum.inr b) = false := decide_eq_false (fun q => nomatch q)
theorem key_rl (a : Str) (b : Int) : decide ((Sum.inr a : Key) = Sum.inl b) = false := decide_eq_false (fun q => nomatch q)

def mixKind (prog : Program) (w : World) : PySem.KeyKind prog w Key where
  is := keyIs
  hash := keyH w
  inj := fun v a b ha hb => by
    rcases keyIs_shape ha with ⟨i, t, rfl, rfl⟩ | ⟨x, t, rfl, rfl⟩
    · rcases keyIs_shape hb with ⟨j, u, rfl, e⟩ | ⟨y, u, rfl, e⟩
      · injection e with e1 _; rw [e1]
      · exact nomatch e
    · rcases keyIs_shape hb with ⟨j, u, rfl, e⟩ | ⟨y, u, rfl, e⟩
      · exact nomatch e
      · injection e with e1 _; rw [e1]
  byValue := fun k v h => by
    rcases keyIs_shape h with ⟨i, t, rfl, rfl⟩ | ⟨x, t, rfl, rfl⟩ <;> rfl
  pyHash := fun hv h => by
    rcases keyIs_shape hv with ⟨i, t, rfl, rfl⟩ | ⟨x, t, rfl, rfl⟩
    · exact wpAny_pyHash_int h
    · exact wpAny_pyHash_str h
  eqBool := fun hu hv h => by
    rcases keyIs_shape hu with ⟨i, t, rfl, rfl⟩ | ⟨x, t, rfl, rfl⟩
    · rcases keyIs_shape hv with ⟨j, u, rfl, rfl⟩ | ⟨y, u, rfl, rfl⟩
      · rw [key_ll] at h; exact wpAny_eqBool_int h
      · rw [key_lr] at h; exact SeqAt.EqAt.int_str i t y u _ _ _ _ h
    · rcases keyIs_shape hv with ⟨j, u, rfl, rfl⟩ | ⟨y, u, rfl, rfl⟩
      · rw [key_rl] at h; exact SeqAt.EqAt.str_int x t j u _ _ _ _ h
      · rw [key_rr] at h; exact wpAny_eqBool_str h
  «strs» := fun k x t v h => by
    rcases keyIs_shape h with ⟨i, u, rfl, e⟩ | ⟨y, u, rfl, e⟩
    · exact nomatch e
    · injection e with e1 _
      subst e1
      cases v <;> rfl

end L2

namespace L2
open PySem PySem.Spec PyProof.Rows

/-- a value, without the heap -/
inductive V where
  | non | bl (b : Bool) | int (i : Int) | str (x : Str) | byt (b : Array UInt8) | flt (b : UInt64) | ref (a : Addr) | ty (n : String)
  deriving DecidableEq

def RelV : V → Value → Prop
  | .non, u => u = Value.none
  | .bl b, u => u = Value.bool b
  | .int i, u => ∃ t, u = Value.int i t
  | .str x, u => ∃ t, u = Value.str x t
  | .byt b, u => ∃ t, u = Value.bytes b t
  | .flt b, u => ∃ t, u = Value.float b t
  | .ref a, u => u = Value.ref a
  | .ty n, u => u = Value.type n

abbrev Vals : List V → List Value → Prop := Paired RelV
theorem Vals.length {xs : List V} {us : List Value} (r : Vals xs us) : xs.length = us.length := Paired.length r
theorem Vals.get : ∀ {xs : List V} {us : List Value} {i : Nat} {x : V}, Vals xs us → xs[i]? = some x → ∃ u, us[i]? = some u ∧ RelV x u
  | _, _, _, _, .nil, e => by simp at e
  | _, _, 0, _, .cons r _, e => by simp at e; subst e; exact ⟨_, rfl, r⟩
  | _, _, i + 1, x, .cons _ t, e => by
    obtain ⟨u, h1, h2⟩ := Vals.get (i := i) (x := x) t (by simpa using e)
    exact ⟨u, by simpa using h1, h2⟩
theorem Vals.append : ∀ {xs ys : List V} {us ws : List Value}, Vals xs us → Vals ys ws → Vals (xs ++ ys) (us ++ ws)
  | _, _, _, _, .nil, s => s
  | _, _, _, _, .cons r t, s => .cons r (Vals.append t s)
theorem Vals.take : ∀ {xs : List V} {us : List Value} (n : Nat), Vals xs us → Vals (xs.take n) (us.take n)
  | _, _, 0, _ => .nil
  | _, _, _ + 1, .nil => .nil
  | _, _, n + 1, .cons r t => .cons r (Vals.take n t)
theorem Vals.drop : ∀ {xs : List V} {us : List Value} (n : Nat), Vals xs us → Vals (xs.drop n) (us.drop n)
  | _, _, 0, r => r
  | _, _, _ + 1, .nil => .nil
  | _, _, n + 1, .cons _ t => Vals.drop n t

def RelO : Option V → Option Value → Prop
  | some v, some u => RelV v u
  | none, none => True
  | _, _ => False
def KV {κ : Type} : List (κ × V) → List (κ × Value) → Prop := Paired fun (p : κ × V) (q : κ × Value) => p.1 = q.1 ∧ RelV p.2 q.2

/-- a key of a dict (00_mix): an int or a text -/
def kV : Key → V
  | .inl i => .int i
  | .inr x => .str x

/-- what stands at a tracked address -/
inductive HO where
  /-- a list -/
  | lst (xs : List V)
  /-- a tuple (never changes) -/
  | tup (xs : List V)
  /-- a dict whose keys are ints and texts; one whose keys are tuples of ints and texts (the empty one is both) -/
  | dK (kvs : List (Key × V)) | dT (kvs : List (List Key × V))
  /-- a set of ints: its members, its size -/
  | set (S : Int → Bool) (n : Nat)
  /-- an instance of the class at C, its dict at dx, its attributes -/
  | ins (C dx : Addr) (fs : List (Str × V))
  /-- the dict of the instance at x -/
  | own (x : Addr)
  /-- the dict of an exception -/
  | xd (fs : List (Str × V))
  /-- a bound method, f of x -/
  | met (f x : Addr)
  /-- a range object lo, lo + 1, .. below hi -/
  | rng (lo hi : Int)
  /-- a thing that is known to the object (the script; a dict while a loop walks it): read, never written while it is so -/
  | frz (o : Obj) (u : HO)
  /-- a code object's table -/
  | tbl (ps : Array Value)
  /-- any other thing, by what is true of its one object (a def of one's own: SetO a S n := HO.ext fun h => ..) -/
  | ext (φ : Heap → Prop)

abbrev Hp := Addr → Option HO
def upd (H : Hp) (a : Addr) (o : HO) : Hp := fun b => if b = a then some o else H b
theorem upd_same {H : Hp} {a : Addr} {o : HO} : upd H a o a = some o := by unfold upd; rw [if_pos rfl]
theorem upd_ne {H : Hp} {a b : Addr} {o : HO} (h : b ≠ a) : upd H a o b = H b := by unfold upd; rw [if_neg h]
theorem ne_of_none {H : Hp} {a b : Addr} {o : HO} (h : H a = some o) (h' : H b = none) : a ≠ b := by
  intro e; subst e; rw [h] at h'; cases h'

section
variable (P : Program) (w : World)
def ObjOk (H : Hp) (h : Heap) (a : Addr) : HO → Prop
  | .lst xs => xs.length ≤ sizeLine ∧ ∃ (its : List Value) (n : Nat), Vals xs its ∧ h.get? a = some { cls := .type "list", data := .seq its.toArray n }
  | .tup xs => xs.length ≤ sizeLine ∧ ∃ its : List Value, Vals xs its ∧ IsTup h a its.toArray
  | .dK kvs => kvs.length ≤ sizeLine ∧ (a == sysModules) = false ∧ ∃ vs, KV kvs vs ∧ h.DictOf (mixKind P w) a vs
  | .dT kvs => kvs.length ≤ sizeLine ∧ (a == sysModules) = false ∧ ∃ xs : List (List Key × Addr × Value),
      Paired (fun (p : List Key × V) (q : List Key × Addr × Value) => p.1 = q.1 ∧ H q.2.1 = some (.tup (p.1.map kV)) ∧ RelV p.2 q.2.2) kvs xs ∧
      ∃ o es ep, h.get? a = some o ∧ o.ExactDict ∧ o.data = .dict es ep ∧ es.toList = xs.map (entryOfKey (tupleKind (mixKind P w))) ∧ (xs.map (·.1)).Nodup
  | .set S n => h.SetOf (intKind P w) a S n
  | .ins C dx fs => H dx = some (.own a) ∧ fs.length ≤ 1000 ∧ dx ≠ a ∧ h.get? a = some (PySem.W.instObj C dx) ∧
      ∃ mA, h.Ns1 dx mA ∧ (∀ f, RelO (fs.lookup f) (mA f)) ∧ PySem.Within mA (fs.map (·.1))
  | .own _ => ∃ o, h.get? a = some o
  | .xd fs => ∃ mA, h.Ns1 a mA ∧ ∀ f, RelO (fs.lookup f) (mA f)
  | .rng lo hi => ∃ t u v, h.get? a = some { cls := .type "range", data := .fields #[.int lo t, .int hi u, .int 1 v] }
  | .frz o u => h.get? a = some o ∧ ObjOk H h a u
  | .tbl ps => h.get? a = some { cls := .none, data := .fields ps }
  | .met f x => h.get? a = some (PySem.W.methodObj (.ref f) (.ref x))
  | .ext φ => φ h ∧ (∃ o, h.get? a = some o) ∧ ∀ h1 h2 : Heap, φ h1 → (∀ o, h1.get? a = some o → h2.get? a = some o) → φ h2
/-- the abstract heap is held -/
def HOk (H : Hp) (h : Heap) : Prop := ∀ a o, H a = some o → ObjOk P w H h a o
end

section
variable {P : Program} {w : World} {H H' : Hp} {h h' : Heap} {a : Addr} {o : HO}
theorem ObjOk.lt (x : ObjOk P w H h a o) : a < h.objs.size := by
  cases o with
  | lst xs => obtain ⟨_, _, _, _, e⟩ := x; exact Heap.lt_size e
  | tup xs => obtain ⟨_, _, _, p⟩ := x; exact p.lt
  | dK kvs => obtain ⟨_, _, _, _, o, _, _, e, _⟩ := x; exact Heap.lt_size e
  | dT kvs => obtain ⟨_, _, _, _, o, _, _, e, _⟩ := x; exact Heap.lt_size e
  | set S n => obtain ⟨o, _, _, _, e, _⟩ := x; exact Heap.lt_size e
  | ins C dx fs => obtain ⟨_, _, _, e, _⟩ := x; exact Heap.lt_size e
  | own y => obtain ⟨_, e⟩ := x; exact Heap.lt_size e
  | xd fs => obtain ⟨_, ⟨_, _, _, e, _⟩, _⟩ := x; exact Heap.lt_size e
  | rng lo hi => obtain ⟨_, _, _, e⟩ := x; exact Heap.lt_size e
  | frz ob u => obtain ⟨e, _⟩ := x; exact Heap.lt_size e
  | tbl ps => exact Heap.lt_size (show h.get? a = some _ from x)
  | met f y => exact Heap.lt_size (show h.get? a = some _ from x)
  | ext φ => obtain ⟨_, ⟨_, e⟩, _⟩ := x; exact Heap.lt_size e
theorem Paired.mapP {α β : Type} {F G : α → β → Prop} : ∀ {l₁ : List α} {l₂ : List β}, Paired F l₁ l₂ → (∀ a b, F a b → G a b) → Paired G l₁ l₂
  | _, _, .nil, _ => .nil
  | _, _, .cons r t, f => .cons (f _ _ r) (Paired.mapP t f)
/-- what an object's description leans on: its own object, its own dict, the tuples -/
theorem ObjOk.stay (x : ObjOk P w H h a o) (k : ∀ b u, (b = a ∨ H b = some (.own a)) → h.get? b = some u → h'.get? b = some u)
    (ho : ∀ b, H b = some (.own a) → H' b = some (.own a)) (ht : ∀ b xs, H b = some (.tup xs) → H' b = some (.tup xs)) : ObjOk P w H' h' a o := by
  induction o with
  | lst xs => obtain ⟨z, its, n, r, e⟩ := x; exact ⟨z, its, n, r, k _ _ (.inl rfl) e⟩
  | tup xs => obtain ⟨z, its, r, ob, e, c⟩ := x; exact ⟨z, its, r, ob, k _ _ (.inl rfl) e, c⟩
  | dK kvs => obtain ⟨z, y, vs, r, ob, es, ep, e, c⟩ := x; exact ⟨z, y, vs, r, ob, es, ep, k _ _ (.inl rfl) e, c⟩
  | dT kvs =>
    obtain ⟨z, y, xs, r, ob, es, ep, e, c⟩ := x
    exact ⟨z, y, xs, Paired.mapP r fun p q z => ⟨z.1, ht _ _ z.2.1, z.2.2⟩, ob, es, ep, k _ _ (.inl rfl) e, c⟩
  | set S n => obtain ⟨ob, es, ep, t, e, c⟩ := x; exact ⟨ob, es, ep, t, k _ _ (.inl rfl) e, c⟩
  | ins C dx fs =>
    obtain ⟨d, z, ne, e, mA, ⟨od, es, ep, e2, c⟩, r⟩ := x
    exact ⟨ho _ d, z, ne, k _ _ (.inl rfl) e, mA, ⟨od, es, ep, k _ _ (.inr d) e2, c⟩, r⟩
  | own y => obtain ⟨ob, e⟩ := x; exact ⟨ob, k _ _ (.inl rfl) e⟩
  | xd fs => obtain ⟨mA, ⟨od, es, ep, e, c⟩, r⟩ := x; exact ⟨mA, ⟨od, es, ep, k _ _ (.inl rfl) e, c⟩, r⟩
  | rng lo hi => obtain ⟨t, u, v, e⟩ := x; exact ⟨t, u, v, k _ _ (.inl rfl) e⟩
  | frz ob u ih => obtain ⟨e, q⟩ := x; exact ⟨k _ _ (.inl rfl) e, ih q⟩
  | tbl ps =>
    have e : h.get? a = some { cls := .none, data := .fields ps } := x
    show h'.get? a = some { cls := .none, data := .fields ps }
    exact k a _ (.inl rfl) e
  | met f y =>
    have e : h.get? a = some (PySem.W.methodObj (.ref f) (.ref y)) := x
    show h'.get? a = some (PySem.W.methodObj (.ref f) (.ref y))
    exact k a _ (.inl rfl) e
  | ext φ => obtain ⟨p, ⟨o, e⟩, st⟩ := x; exact ⟨st _ _ p fun o q => k _ _ (.inl rfl) q, ⟨o, k _ _ (.inl rfl) e⟩, st⟩
theorem HOk.lt (x : HOk P w H h) (e : H a = some o) : a < h.objs.size := (x a o e).lt
theorem HOk.fresh (x : HOk P w H h) (e : h.objs.size ≤ a) : H a = none := by
  cases q : H a with
  | none => rfl
  | some u => exact absurd (Nat.lt_of_lt_of_le (x.lt q) e) (Nat.lt_irrefl _)
/-- every object of the heap is kept -/
theorem HOk.kept (x : HOk P w H h) (k : ∀ b u, h.get? b = some u → h'.get? b = some u) : HOk P w H h' := fun a o e =>
  (x a o e).stay (fun b u _ q => k b u q) (fun _ q => q) fun _ _ q => q
/-- a new object is laid and tracked -/
theorem HOk.laid (x : HOk P w H h) (k : ∀ b u, h.get? b = some u → h'.get? b = some u) (hp : h.objs.size ≤ a) (new : ObjOk P w (upd H a o) h' a o) : HOk P w (upd H a o) h' := fun b u e => by
  have hn := x.fresh hp
  by_cases hb : b = a
  · subst hb; rw [upd_same] at e; cases e; exact new
  · rw [upd_ne hb] at e
    exact (x b u e).stay (fun c v _ q => k c v q) (fun c q => by rw [upd_ne (ne_of_none q hn)]; exact q) fun c xs q => by rw [upd_ne (ne_of_none q hn)]; exact q
end

/-- what may be read as u: it is u, or a known u -/
def Rd (H : Hp) (a : Addr) (u : HO) : Prop := H a = some u ∨ ∃ o, H a = some (.frz o u)
theorem Rd.ok {P : Program} {w : World} {H : Hp} {h : Heap} {a : Addr} {u : HO} (r : Rd H a u) (x : HOk P w H h) : ObjOk P w H h a u := by
  rcases r with r | ⟨o, r⟩
  · exact x a u r
  · obtain ⟨_, q⟩ := x a _ r
    exact q
/-- what may be written -/
def Mut : Option HO → Prop
  | some (.lst _) => True
  | some (.dK _) => True
  | some (.dT _) => True
  | some (.set _ _) => True
  | some (.ins _ _ _) => True
  | some (.ext _) => True
  | _ => False
section
variable {P : Program} {w : World} {H : Hp} {h h' : Heap} {x e : Addr} {o' : HO}
/-- the object at e is changed: x itself, or the dict of the instance x -/
theorem HOk.write (ok : HOk P w H h) (mu : Mut (H x)) (he : e = x ∨ H e = some (.own x)) (k : ∀ b u, b ≠ e → h.get? b = some u → h'.get? b = some u) (heo : ∃ u, h'.get? e = some u)
    (new : ObjOk P w (upd H x o') h' x o') : HOk P w (upd H x o') h' := fun b u q => by
  have nown : ∀ c y, H c = some (.own y) → c ≠ x := fun c y r z => by subst z; rw [r] at mu; exact mu
  have ntup : ∀ c xs, H c = some (.tup xs) → c ≠ x := fun c xs r z => by subst z; rw [r] at mu; exact mu
  by_cases hb : b = x
  · subst hb; rw [upd_same] at q; cases q; exact new
  · rw [upd_ne hb] at q
    by_cases hbe : b = e
    · have q' : H b = some (.own x) := by
        rcases he with z | z
        · exact absurd (hbe.trans z) hb
        · rw [hbe]; exact z
      rw [q] at q'; cases q'
      obtain ⟨v, hv⟩ := heo
      exact ⟨v, by rw [hbe]; exact hv⟩
    · refine (ok b u q).stay (fun c v hc r => k c v ?_ r) (fun c r => by rw [upd_ne (nown c b r)]; exact r) fun c xs r => by rw [upd_ne (ntup c xs r)]; exact r
      rcases hc with rfl | hc
      · exact hbe
      · rintro rfl
        rcases he with z | z
        · exact nown c b hc z
        · rw [hc] at z; cases z; exact hb rfl
end

/-! ### kept unless tracked; of the frames at fs (the callers') the slots may change (an exception that passes writes there); of the records at ex (iterators) nothing is said -/
structure Un (fs ex : List Addr) (H H' : Hp) (h h' : Heap) : Prop where
  keep : ∀ b o, h.get? b = some o → H b = none → b ∉ fs → b ∉ ex → h'.get? b = some o
  slot : ∀ b o, h.get? b = some o → H b = none → b ∈ fs → b ∉ ex → ∃ sl, h'.get? b = some { o with slots := sl }
  free : ∀ b o, h.get? b = some o → H b = none → b ∉ ex → H' b = none
  there : ∀ b o, h.get? b = some o → b ∉ ex → ∃ o', h'.get? b = some o'
  tups : ∀ b xs, H b = some (.tup xs) → H' b = some (.tup xs)
  frzs : ∀ b o u, H b = some (.frz o u) → H' b = some (.frz o u)
  tbls : ∀ b ps, H b = some (.tbl ps) → ∃ more, H' b = some (.tbl (ps ++ more))
section
variable {fs fs' ex ex' : List Addr} {H H1 H2 : Hp} {h h1 h2 h' : Heap} {a x e : Addr} {o : HO}
theorem Un.any (u : Un fs ex H H1 h h1) {b : Addr} {ob : Obj} (q : h.get? b = some ob) (n : H b = none) (hx : b ∉ ex) : ∃ sl, h1.get? b = some { ob with slots := sl } := by
  by_cases hb : b ∈ fs
  · exact u.slot b ob q n hb hx
  · exact ⟨ob.slots, u.keep b ob q n hb hx⟩
theorem Un.kept (k : ∀ b u, h.get? b = some u → h'.get? b = some u) : Un fs ex H H h h' :=
  ⟨fun b ob q _ _ _ => k b ob q, fun b ob q _ _ _ => ⟨ob.slots, k b ob q⟩, fun _ _ _ n _ => n, fun b ob q _ => ⟨ob, k b ob q⟩, fun _ _ q => q, fun _ _ _ q => q, fun _ ps q => ⟨#[], by rw [q]; simp⟩⟩
theorem Un.refl : Un fs ex H H h h := Un.kept fun _ _ q => q
theorem Un.laid (k : ∀ b u, h.get? b = some u → h'.get? b = some u) (hp : h.objs.size ≤ a) (hn : H a = none) : Un fs ex H (upd H a o) h h' where
  keep := fun b u q _ _ _ => k b u q
  slot := fun b u q _ _ _ => ⟨u.slots, k b u q⟩
  free := fun b u q n _ => by rw [upd_ne (Nat.ne_of_lt (Nat.lt_of_lt_of_le (Heap.lt_size q) hp))]; exact n
  there := fun b u q _ => ⟨u, k b u q⟩
  tups := fun b xs q => by rw [upd_ne (ne_of_none q hn)]; exact q
  frzs := fun b u xs q => by rw [upd_ne (ne_of_none q hn)]; exact q
  tbls := fun b ps q => ⟨#[], by rw [upd_ne (ne_of_none q hn), q]; simp⟩
theorem Un.write (mu : Mut (H x)) (he : e = x ∨ H e = some (.own x)) (k : ∀ b u, b ≠ e → h.get? b = some u → h'.get? b = some u) (heo : ∃ u, h'.get? e = some u) : Un fs ex H (upd H x o) h h' := by
  have hx : ∀ b, H b = none → b ≠ x := fun b n z => by subst z; rw [n] at mu; exact mu
  have hb : ∀ b, H b = none → b ≠ e := fun b n z => by
    subst z
    rcases he with r | r
    · exact hx b n r
    · rw [n] at r; cases r
  have hm : ∀ b u, H b = some u → ¬ Mut (some u) → b ≠ x := fun b u q nm z => by subst z; rw [q] at mu; exact nm mu
  refine ⟨fun b u q n _ _ => k b u (hb b n) q, fun b u q n _ _ => ⟨u.slots, k b u (hb b n) q⟩, fun b u q n _ => by rw [upd_ne (hx b n)]; exact n, fun b u q _ => ?_,
    fun b xs q => by rw [upd_ne (hm b _ q fun z => z)]; exact q, fun b u xs q => by rw [upd_ne (hm b _ q fun z => z)]; exact q, fun b ps q => ⟨#[], by rw [upd_ne (hm b _ q fun z => z), q]; simp⟩⟩
  by_cases hbe : b = e
  · subst hbe; exact heo
  · exact ⟨u, k b u hbe q⟩
end

/-! ### the heap without what is tracked -/
def trk (h : Heap) (H : Hp) : List Addr := (List.range h.objs.size).filter fun a => (H a).isSome
def hidT (h : Heap) (H : Hp) : Heap := PySem.W.hideAll h (trk h H)
theorem hidT_size (h : Heap) (H : Hp) : (hidT h H).objs.size = h.objs.size := PySem.W.hideAll_size _ _
theorem hidT_get {h : Heap} {H : Hp} {b : Addr} {o : Obj} (e : h.get? b = some o) (n : H b = none) : (hidT h H).get? b = some o :=
  PySem.W.hideAll_get _ e fun hm => by
    have q : (H b).isSome = true := (List.mem_filter.mp hm).2
    rw [n] at q; simp at q
theorem of_hidT {h : Heap} {H : Hp} {b : Addr} {o : Obj} (e : (hidT h H).get? b = some o) : h.get? b = some o ∧ H b = none := by
  have e' : h.get? b = some o := PySem.W.of_hideAll (trk h H) e
  refine ⟨e', ?_⟩
  cases q : H b with
  | none => rfl
  | some x =>
    have hm : b ∈ trk h H := List.mem_filter.mpr ⟨List.mem_range.mpr (Heap.lt_size e'), by simp [q]⟩
    have z : (hidT h H).get? b = none := PySem.W.hideAll_none (trk h H) hm
    rw [z] at e; cases e

/-! ### OpenK's ledger, filled with every new object but one -/
def allNews (g h : Heap) (L : Addr) : List (Addr × Obj) := (List.range h.objs.size).filterMap fun a => if a = L ∨ (g.get? a).isSome = true then none else (h.get? a).map fun o => (a, o)
def rest (g h : Heap) (L d : Addr) : List (Addr × Obj) := (allNews g h L).filter fun p => decide (p.1 ≠ d)
end L2

namespace L2
open PySem PySem.Spec PyProof.Rows

/-- the module's facts, over the base: the heap at the law's entry without what is tracked there -/
structure Mod (K : PySem.W.Frag) (mg : Str → Option Value) (base : Heap) : Prop where
  kin : K.In base
  glob : base.Ns mainGlobals mg
  blt : ∃ mb, base.Ns builtinsNs mb ∧ ∀ x : Str, x ≠ "__name__" → mb x = bootBuiltins x
  nolimit : base.NoLimit

/-- the context: a def's body (or a comprehension's block) running. base: fixed through the whole law; s₀, H₀: the entry; outer: the frames whose slots others may change (a def's callers); stack: all frames that run;
   ex: iterators that were made ahead of the entry and are walked here (a comprehension's); fn: the names whose cells were made at the entry (a def: all; a comprehension's block: its own); calm: not within an except suite; pn: pins that every state bears; xe: what is wanted of an exception that leaves the code -/
structure Cx where
  prog : Program
  w : World
  K : PySem.W.Frag
  mg : Str → Option Value
  base : Heap
  A : Around
  N : List Str
  s₀ : Shared
  H₀ : Hp
  env : Env
  outer : List Env
  stack : List Env
  ex : List Addr
  fn : Str → Bool
  calm : Bool
  pn : List (Addr × Obj)
  xe : Value → Shared → Prop
/-- the callers' frames -/
def frs (l : List Env) : List Addr := l.filterMap (·.frame)
abbrev Cx.fs (X : Cx) : List Addr := frs X.outer

def Vis (sc : Scope) (x : Str) : Prop := sc.names.lookup x = some .local ∨ sc.names.lookup x = some .cell ∨ sc.names.lookup x = some .free
def Loc (sc : Scope) (x : Str) : Prop := sc.names.lookup x = some .local ∨ sc.names.lookup x = some .cell
def Look (env : Env) (h : Heap) (m : Str → Option Value) (x : Str) (u : Value) : Prop :=
  (env.kindOf x = some .local ∧ m x = some u) ∨ ((env.kindOf x = some .cell ∨ env.kindOf x = some .free) ∧ ∃ c, env.cells.lookup x = some c ∧ h.IsCell c (some u))

structure Cx.Ok (X : Cx) : Prop where
  mod : Mod X.K X.mg X.base
  kind : X.env.scope.kind = .function
  glob : X.env.globals = mainGlobals
  blt : X.env.builtins = builtinsNs
  above : X.s₀.heap.objs.size ≤ X.env.locals
  inj : ∀ x y c, X.env.cells.lookup x = some c → X.env.cells.lookup y = some c → x = y
  has : ∀ x, (X.env.kindOf x = some .cell ∨ X.env.kindOf x = some .free) → ∃ c, X.env.cells.lookup x = some c
  cab : ∀ x c, X.fn x = true → X.env.cells.lookup x = some c → X.s₀.heap.objs.size ≤ c
  hd : X.calm = true → X.A.handled = none
  frames : X.A.frames = some X.stack
  stk : X.stack = X.outer ∨ (X.stack = X.env :: X.outer ∧ X.env.frame = some X.env.locals)
  exf : ∀ b ∈ X.ex, b ≠ X.env.locals ∧ ∀ x c, X.env.cells.lookup x = some c → c ≠ b
  bs : ∀ b o, X.base.get? b = some o → X.s₀.heap.get? b = some o ∧ X.H₀ b = none
  bsz : X.base.objs.size ≤ X.s₀.heap.objs.size
  noex : ∀ b o, X.base.get? b = some o → b ∉ X.ex
  exfs : ∀ b ∈ X.ex, b ∉ X.fs
  funs : X.s₀.heap.FunFrames X.base X.outer
  frf : ∀ b ∈ X.fs, X.H₀ b = none

structure Inv (X : Cx) (pins : List (Addr × Obj)) (σ : List (Option V)) (H : Hp) (s : Shared) : Prop where
  ok : X.Ok
  os : s.os = X.s₀.os
  bare : AllBare s.gens
  base : Un X.fs X.ex X.H₀ H X.s₀.heap s.heap
  loc : ∃ m, s.heap.Ns X.env.locals m ∧ ∀ (i : Nat) (x : Str) (v : V), X.N[i]? = some x → σ[i]? = some (some v) → Vis X.env.scope x → ∃ u, RelV v u ∧ Look X.env s.heap m x u
  cell : ∀ x c, X.env.cells.lookup x = some c → ∃ v, s.heap.IsCell c v
  free : H X.env.locals = none
  freeC : ∀ x c, X.env.cells.lookup x = some c → H c = none
  pin : ∀ p ∈ X.pn ++ pins, s.heap.get? p.1 = some p.2 ∧ H p.1 = none ∧ p.1 ≠ X.env.locals ∧ p.1 ∉ X.fs ∧ ∀ v, p.2.data ≠ .cell v
  hok : HOk X.prog X.w H s.heap
  len : σ.length = X.N.length

section
variable {X : Cx} {pins : List (Addr × Obj)} {σ : List (Option V)} {H H' : Hp} {s : Shared} {h' : Heap}

theorem Cx.Ok.nofr (ok : X.Ok) {b : Addr} {o : Obj} (e : X.base.get? b = some o) : b ∉ X.fs := fun hb => by
  have := (ok.funs.mem hb).1
  rw [e] at this; cases this
theorem Inv.bs (I : Inv X pins σ H s) : ∀ b o, X.base.get? b = some o → s.heap.get? b = some o ∧ H b = none := fun b o e =>
  ⟨I.base.keep b o (I.ok.bs b o e).1 (I.ok.bs b o e).2 (I.ok.nofr e) (I.ok.noex b o e), I.base.free b o (I.ok.bs b o e).1 (I.ok.bs b o e).2 (I.ok.noex b o e)⟩
theorem Inv.bk (I : Inv X pins σ H s) : ∀ b o, X.base.get? b = some o → s.heap.get? b = some o := fun b o e => (I.bs b o e).1
theorem Inv.mod (I : Inv X pins σ H s) : Mod X.K X.mg X.base := I.ok.mod
theorem Inv.kIn (I : Inv X pins σ H s) : X.K.In s.heap := I.ok.mod.kin.keeps I.bk
theorem Inv.lt (I : Inv X pins σ H s) : X.env.locals < s.heap.objs.size := let ⟨_, hn, _⟩ := I.loc; hn.lt
theorem Inv.sz (I : Inv X pins σ H s) : X.s₀.heap.objs.size ≤ s.heap.objs.size := Nat.le_trans I.ok.above (Nat.le_of_lt I.lt)
theorem Inv.nofs (I : Inv X pins σ H s) {a : Addr} (h : s.heap.objs.size ≤ a) : a ∉ X.fs := fun hb => by
  obtain ⟨_, o, ho, _⟩ := I.ok.funs.mem hb
  exact absurd (Nat.lt_of_lt_of_le (Heap.lt_size ho) (Nat.le_trans I.sz h)) (Nat.lt_irrefl _)
theorem Inv.cne (I : Inv X pins σ H s) : ∀ x c, X.env.cells.lookup x = some c → c ≠ X.env.locals := fun x c e z => by
  obtain ⟨v, o, ho, hd⟩ := I.cell x c e
  obtain ⟨m, ⟨o', es, ep, ho', hd', _⟩, _⟩ := I.loc
  rw [z, ho'] at ho; cases ho; rw [hd'] at hd; cases hd
theorem Inv.funs (I : Inv X pins σ H s) : s.heap.FunFrames X.base X.outer := by
  have all : ∀ (l : List Env), (∀ b ∈ frs l, b ∈ X.fs) → X.s₀.heap.FunFrames X.base l → s.heap.FunFrames X.base l := by
    intro l
    induction l with
    | nil => intro _ _; trivial
    | cons env r ih =>
      intro hs hl
      obtain ⟨hk, ⟨L, o, hf, hn, ho, hd⟩, hr⟩ := hl
      have hL : L ∈ X.fs := hs L (by unfold frs; rw [List.filterMap_cons, hf]; exact List.mem_cons_self)
      obtain ⟨sl, e⟩ := I.base.slot L o ho (I.ok.frf L hL) hL fun z => I.ok.exfs L z hL
      exact ⟨hk, ⟨L, _, hf, hn, e, hd⟩, ih (fun b hb => hs b (by unfold frs; rw [List.filterMap_cons, hf]; exact List.mem_cons_of_mem _ hb)) hr⟩
  exact all X.outer (fun _ hb => hb) I.ok.funs

/-- the frames that run, for a call -/
theorem Inv.stack (I : Inv X pins σ H s) : s.heap.FunFrames X.base X.stack := by
  rcases I.ok.stk with e | ⟨e, hf⟩
  · rw [e]; exact I.funs
  · rw [e]
    obtain ⟨m, hn, _⟩ := I.loc
    refine .cons (by rw [I.ok.kind]; decide) hf hn ?_ I.funs
    exact Heap.get?_none_of_le (Nat.le_trans I.ok.bsz I.ok.above)
theorem Inv.stkSub (I : Inv X pins σ H s) : ∀ b ∈ frs X.stack, b ∈ X.env.locals :: X.fs := fun b hb => by
  rcases I.ok.stk with e | ⟨e, hf⟩
  · rw [e] at hb; exact List.mem_cons_of_mem _ hb
  · rw [e] at hb
    unfold frs at hb
    rw [List.filterMap_cons, hf] at hb
    exact hb
theorem Inv.stkFree (I : Inv X pins σ H s) : ∀ b ∈ frs X.stack, H b = none := fun b hb => by
  rcases List.mem_cons.mp (I.stkSub b hb) with e | hb
  · rw [e]; exact I.free
  · obtain ⟨_, o, ho, _⟩ := I.ok.funs.mem hb
    exact I.base.free b o ho (I.ok.frf b hb) fun z => I.ok.exfs b z hb

/-- THE STEP: the untracked objects but the frame and the records at ch are kept (the callers' frames up to slots), the frame's map is kept, the new abstract heap is held -/
theorem Inv.step {g' : Array GenState} {t' : Nat} {d' : Drawn} {ch : List Addr} (I : Inv X pins σ H s)
    (hch : ∀ b ∈ ch, (b ∈ X.ex ∨ X.s₀.heap.objs.size ≤ b) ∧ b ≠ X.env.locals ∧ (∀ x c, X.env.cells.lookup x = some c → c ≠ b) ∧ ∀ p ∈ X.pn ++ pins, p.1 ≠ b)
    (keep : ∀ b o, b ≠ X.env.locals → b ∉ X.fs → b ∉ ch → s.heap.get? b = some o → H b = none → h'.get? b = some o)
    (slot : ∀ b o, b ≠ X.env.locals → b ∈ X.fs → b ∉ ch → s.heap.get? b = some o → H b = none → ∃ sl, h'.get? b = some { o with slots := sl }) (free : ∀ b o, b ∉ ch → s.heap.get? b = some o → H b = none → H' b = none)
    (there : ∀ b o, b ∉ ch → s.heap.get? b = some o → ∃ o', h'.get? b = some o')
    (tups : ∀ b xs, H b = some (.tup xs) → H' b = some (.tup xs)) (frzs : ∀ b o u, H b = some (.frz o u) → H' b = some (.frz o u)) (tbls : ∀ b ps, H b = some (.tbl ps) → ∃ more, H' b = some (.tbl (ps ++ more)))
    (ns : ∀ m, s.heap.Ns X.env.locals m → h'.Ns X.env.locals m) (hok : HOk X.prog X.w H' h') (hg : AllBare g') :
    Inv X pins σ H' { s with heap := h', gens := g', drawn := d', toks := t' } := by
  have neL : ∀ b o, X.s₀.heap.get? b = some o → b ≠ X.env.locals := fun b o e => Nat.ne_of_lt (Nat.lt_of_lt_of_le (Heap.lt_size e) I.ok.above)
  have neC : ∀ b o, X.s₀.heap.get? b = some o → b ∉ X.ex → b ∉ ch := fun b o e hx hb => by
    rcases (hch b hb).1 with z | z
    · exact hx z
    · exact absurd (Nat.lt_of_lt_of_le (Heap.lt_size e) z) (Nat.lt_irrefl _)
  have cellK : ∀ x c, X.env.cells.lookup x = some c → ∀ v, s.heap.IsCell c v → h'.IsCell c v := fun x c e v ⟨o, ho, hd⟩ => by
    have nch : c ∉ ch := fun z => (hch c z).2.2.1 x c e rfl
    by_cases hc : c ∈ X.fs
    · obtain ⟨sl, q⟩ := slot c o (I.cne x c e) hc nch ho (I.freeC x c e)
      exact ⟨_, q, hd⟩
    · exact ⟨o, keep c o (I.cne x c e) hc nch ho (I.freeC x c e), hd⟩
  refine ⟨I.ok, I.os, hg, ⟨fun b o e n hb hx => ?_, fun b o e n hb hx => ?_, fun b o e n hx => ?_, fun b o e hx => ?_, fun b xs e => tups b xs (I.base.tups b xs e), fun b o xs e => frzs b o xs (I.base.frzs b o xs e), fun b ps e => ?_⟩, ?_, fun x c e => ?_, ?_, fun x c e => ?_, fun p hp => ?_, hok, I.len⟩
  · exact keep b o (neL b o e) hb (neC b o e hx) (I.base.keep b o e n hb hx) (I.base.free b o e n hx)
  · obtain ⟨sl, e1⟩ := I.base.slot b o e n hb hx
    obtain ⟨sl', e2⟩ := slot b _ (neL b o e) hb (neC b o e hx) e1 (I.base.free b o e n hx)
    exact ⟨sl', e2⟩
  · obtain ⟨o', e1⟩ := I.base.there b o e hx
    exact free b o' (neC b o e hx) e1 (I.base.free b o e n hx)
  · obtain ⟨o', e1⟩ := I.base.there b o e hx
    exact there b o' (neC b o e hx) e1
  · obtain ⟨m1, e1⟩ := I.base.tbls b ps e
    obtain ⟨m2, e2⟩ := tbls b _ e1
    exact ⟨m1 ++ m2, by rw [e2, Array.append_assoc]⟩
  · obtain ⟨m, hn, hl⟩ := I.loc
    refine ⟨m, ns m hn, fun i x v e1 e2 e3 => ?_⟩
    obtain ⟨u, r, l⟩ := hl i x v e1 e2 e3
    refine ⟨u, r, ?_⟩
    rcases l with l | ⟨k, c, e, z⟩
    · exact .inl l
    · exact .inr ⟨k, c, e, cellK x c e _ z⟩
  · obtain ⟨v, z⟩ := I.cell x c e
    exact ⟨v, cellK x c e v z⟩
  · obtain ⟨m, ⟨o, _, _, ho, _⟩, _⟩ := I.loc
    exact free _ o (fun z => (hch _ z).2.1 rfl) ho I.free
  · obtain ⟨v, o, ho, hd⟩ := I.cell x c e
    exact free c o (fun z => (hch c z).2.2.1 x c e rfl) ho (I.freeC x c e)
  · obtain ⟨e, n, ne, nf, d⟩ := I.pin p hp
    have nch : p.1 ∉ ch := fun z => (hch p.1 z).2.2.2 p hp rfl
    exact ⟨keep p.1 p.2 ne nf nch e n, free p.1 p.2 nch e n, ne, nf, d⟩
/-- .. where the frame's own object is kept too -/
theorem Inv.un {t' : Nat} (I : Inv X pins σ H s) (u : Un X.fs [] H H' s.heap h') (hok : HOk X.prog X.w H' h') : Inv X pins σ H' { s with heap := h', toks := t' } := by
  obtain ⟨m, ⟨o, es, ep, ho, r⟩, _⟩ := id I.loc
  obtain ⟨sl, hL⟩ := u.any ho I.free (by simp)
  exact I.step (g' := s.gens) (d' := s.drawn) (ch := []) (fun _ z => nomatch z) (fun b o _ hb _ e n => u.keep b o e n hb (by simp)) (fun b o _ hb _ e n => u.slot b o e n hb (by simp)) (fun b o _ e n => u.free b o e n (by simp)) (fun b o _ e => u.there b o e (by simp)) u.tups u.frzs u.tbls (fun m' hm => by
    obtain ⟨o', es', ep', ho', r'⟩ := hm
    rw [ho] at ho'; cases ho'
    exact ⟨_, es', ep', hL, r'⟩) hok I.bare
/-- behind a call (or a comprehension's block): the slots of this frame may have changed too, the records at ch may have turned -/
theorem Inv.call {g' : Array GenState} {t' : Nat} {d' : Drawn} {ch : List Addr} (I : Inv X pins σ H s) (u : Un (frs X.stack) ch H H' s.heap h') (hok : HOk X.prog X.w H' h') (hg : AllBare g')
    (hch : ∀ b ∈ ch, (b ∈ X.ex ∨ X.s₀.heap.objs.size ≤ b) ∧ b ≠ X.env.locals ∧ (∀ x c, X.env.cells.lookup x = some c → c ≠ b) ∧ ∀ p ∈ X.pn ++ pins, p.1 ≠ b) :
    Inv X pins σ H' { s with heap := h', gens := g', drawn := d', toks := t' } := by
  obtain ⟨m, ⟨o, es, ep, ho, r⟩, _⟩ := id I.loc
  obtain ⟨sl, hL⟩ := u.any ho I.free fun z => (hch _ z).2.1 rfl
  exact I.step (ch := ch) hch (fun b o hL hb hc e n => u.keep b o e n (fun z => (List.mem_cons.mp (I.stkSub b z)).elim hL hb) hc) (fun b o _ _ hc e n => u.any e n hc) (fun b o hc e n => u.free b o e n hc) (fun b o hc e => u.there b o e hc) u.tups u.frzs u.tbls (fun m' hm => by
    obtain ⟨o', es', ep', ho', r'⟩ := hm
    rw [ho] at ho'; cases ho'
    exact ⟨_, es', ep', hL, r'⟩) hok hg
/-- an untracked record of ours (an iterator) has turned -/
theorem Inv.turned {t' : Nat} {it : Addr} (I : Inv X pins σ H s) (k : ∀ b o, b ≠ it → s.heap.get? b = some o → h'.get? b = some o) (hn : H it = none) (hL : it ≠ X.env.locals)
    (h1 : it ∈ X.ex ∨ X.s₀.heap.objs.size ≤ it) (h2 : ∀ x c, X.env.cells.lookup x = some c → c ≠ it) (h3 : ∀ p ∈ X.pn ++ pins, p.1 ≠ it) : Inv X pins σ H { s with heap := h', toks := t' } := by
  have nit : ∀ b u, H b = some u → b ≠ it := fun b u e z => by rw [z, hn] at e; cases e
  refine I.step (g' := s.gens) (d' := s.drawn) (ch := [it]) (fun b hb => ?_) (fun b o _ _ hc e _ => k b o (fun z => hc (by simp [z])) e) (fun b o _ _ hc e _ => ⟨o.slots, k b o (fun z => hc (by simp [z])) e⟩) (fun _ _ _ _ n => n)
    (fun b o hc e => ⟨o, k b o (fun z => hc (by simp [z])) e⟩) (fun _ _ e => e) (fun _ _ _ e => e) (fun b ps e => ⟨#[], by rw [e]; simp⟩) (fun m hm => ?_) (fun b u e => ?_) I.bare
  · have e : b = it := by simpa using hb
    subst e
    exact ⟨h1, hL, h2, h3⟩
  · obtain ⟨o, es, ep, ho, r⟩ := hm
    exact ⟨o, es, ep, k _ o (Ne.symm hL) ho, r⟩
  · refine (I.hok b u e).stay (fun c v hc q => k c v ?_ q) (fun _ q => q) fun _ _ q => q
    rcases hc with z | z
    · rw [z]; exact nit b u e
    · exact nit c _ z
theorem Inv.tok (I : Inv X pins σ H s) (t : Nat) : Inv X pins σ H { s with toks := t } := I.un (h' := s.heap) (t' := t) Un.refl I.hok
/-- all objects kept -/
theorem Inv.kept {t' : Nat} (I : Inv X pins σ H s) (k : ∀ b u, s.heap.get? b = some u → h'.get? b = some u) : Inv X pins σ H { s with heap := h', toks := t' } := I.un (Un.kept k) (I.hok.kept k)
/-- a new object laid and tracked -/
theorem Inv.laid {a : Addr} {o : HO} {t' : Nat} (I : Inv X pins σ H s) (k : ∀ b u, s.heap.get? b = some u → h'.get? b = some u) (hp : s.heap.objs.size ≤ a) (new : ObjOk X.prog X.w (upd H a o) h' a o) :
    Inv X pins σ (upd H a o) { s with heap := h', toks := t' } := I.un (Un.laid k hp (I.hok.fresh hp)) (I.hok.laid k hp new)
/-- an object written -/
theorem Inv.write {x e : Addr} {o : HO} {t' : Nat} (I : Inv X pins σ H s) (mu : Mut (H x)) (he : e = x ∨ H e = some (.own x)) (k : ∀ b u, b ≠ e → s.heap.get? b = some u → h'.get? b = some u) (heo : ∃ u, h'.get? e = some u)
    (new : ObjOk X.prog X.w (upd H x o) h' x o) : Inv X pins σ (upd H x o) { s with heap := h', toks := t' } := I.un (Un.write mu he k heo) (I.hok.write mu he k heo new)
/-- forgetting slots, pins -/
theorem Inv.weak {σ' : List (Option V)} (I : Inv X pins σ H s) (hl : σ'.length = σ.length) (w : ∀ (i : Nat) v, σ'[i]? = some (some v) → σ[i]? = some (some v)) : Inv X pins σ' H s :=
  ⟨I.ok, I.os, I.bare, I.base, let ⟨m, hn, hl'⟩ := I.loc; ⟨m, hn, fun i x v e1 e2 e3 => hl' i x v e1 (w i v e2) e3⟩, I.cell, I.free, I.freeC, I.pin, I.hok, hl.trans I.len⟩
theorem Inv.pins_of {pins' : List (Addr × Obj)} (I : Inv X pins σ H s) (h : ∀ p ∈ pins', s.heap.get? p.1 = some p.2 ∧ H p.1 = none ∧ p.1 ≠ X.env.locals ∧ p.1 ∉ X.fs ∧ ∀ v, p.2.data ≠ .cell v) : Inv X pins' σ H s :=
  ⟨I.ok, I.os, I.bare, I.base, I.loc, I.cell, I.free, I.freeC, fun p hp => (List.mem_append.mp hp).elim (fun z => I.pin p (List.mem_append_left _ z)) (h p), I.hok, I.len⟩

theorem nodup_ix {N : List Str} (hN : N.Nodup) {i j : Nat} {x : Str} (a : N[i]? = some x) (b : N[j]? = some x) : i = j := by
  obtain ⟨h1, e1⟩ := List.getElem?_eq_some_iff.mp a
  obtain ⟨h2, e2⟩ := List.getElem?_eq_some_iff.mp b
  exact (List.getElem_inj hN).mp (e1.trans e2.symm)

/-- a name is stored; what changed -/
theorem store_ok2 {M : Model} {A : Around} {E : Value → Shared → Prop} {i : Nat} {x : Str} {v : V} {u : Value} {Q : Unit → Shared → Prop} (I : Inv X pins σ H s) (hN : X.N.Nodup) (hi : X.N[i]? = some x) (hx : Loc X.env.scope x) (r : RelV v u)
    (h : ∀ s', Inv X pins (σ.set i (some v)) H s' → (∃ a, Heap.SameBut a s.heap s'.heap ∧ (a = X.env.locals ∨ X.env.cells.lookup x = some a)) → Q () s') (hf : X.fn x = true ∨ X.env.scope.names.lookup x = some .local := by first | exact .inl rfl | exact .inr rfl | assumption) : wpAny M A (storeName X.env x u) Q E s := by
  obtain ⟨m, hn, hl⟩ := id I.loc
  have hcls : (X.env.scope.kind == .class || (X.env.scope.kind == .module && X.env.locals != X.env.globals)) = false := by rw [I.ok.kind]; rfl
  have hiσ : i < σ.length := by rw [I.len]; exact (List.getElem?_eq_some_iff.mp hi).1
  have cne := I.cne
  have tracked : ∀ {a : Addr} {h' : Heap}, (∃ o, s.heap.get? a = some o ∧ H a = none) → Heap.SameBut a s.heap h' → HOk X.prog X.w H h' := fun {a h'} ha hs b ob e => by
    obtain ⟨_, _, hfree⟩ := ha
    refine (I.hok b ob e).stay (fun c w' hc q => (hs.2 c ?_).trans q) (fun _ q => q) fun _ _ q => q
    rintro rfl
    rcases hc with rfl | hc
    · rw [hfree] at e; cases e
    · rw [hfree] at hc; cases hc
  rcases hx with hk | hk
  · refine wpAny_storeName_local hk hn (fun h' hn' hs => ?_) hcls
    obtain ⟨oL, _, _, hoL, _⟩ := id hn
    refine h _ ⟨I.ok, I.os, I.bare, ⟨fun b o e n hb hx => ?_, fun b o e n hb hx => ?_, I.base.free, fun b o e hx => ?_, I.base.tups, I.base.frzs, I.base.tbls⟩, ⟨_, hn', fun j y v' e1 e2 e3 => ?_⟩, fun y c e => ?_, I.free, I.freeC, fun p hp => ?_, tracked ⟨oL, hoL, I.free⟩ hs, by simpa using I.len⟩ ⟨_, hs, .inl rfl⟩
    · exact (hs.2 b (Nat.ne_of_lt (Nat.lt_of_lt_of_le (Heap.lt_size e) I.ok.above))).trans (I.base.keep b o e n hb hx)
    · obtain ⟨sl, e1⟩ := I.base.slot b o e n hb hx
      exact ⟨sl, (hs.2 b (Nat.ne_of_lt (Nat.lt_of_lt_of_le (Heap.lt_size e) I.ok.above))).trans e1⟩
    · obtain ⟨o', e1⟩ := I.base.there b o e hx
      exact ⟨o', (hs.2 b (Nat.ne_of_lt (Nat.lt_of_lt_of_le (Heap.lt_size e) I.ok.above))).trans e1⟩
    · by_cases hj : j = i
      · subst hj
        rw [hi] at e1; cases e1
        rw [List.getElem?_set_self hiσ] at e2
        cases e2
        exact ⟨u, r, .inl ⟨hk, by simp⟩⟩
      · rw [List.getElem?_set_ne (Ne.symm hj)] at e2
        obtain ⟨u', r', q⟩ := hl j y v' e1 e2 e3
        refine ⟨u', r', ?_⟩
        rcases q with ⟨k, e⟩ | ⟨k, c, e, z⟩
        · refine .inl ⟨k, ?_⟩
          have : y ≠ x := fun e => hj (nodup_ix hN e1 (e ▸ hi))
          simp [this, e]
        · exact .inr ⟨k, c, e, z.sameBut hs (cne y c e)⟩
    · obtain ⟨w', z⟩ := I.cell y c e
      exact ⟨w', z.sameBut hs (cne y c e)⟩
    · obtain ⟨e, n, ne, nf, d⟩ := I.pin p hp
      exact ⟨(hs.2 p.1 ne).trans e, n, ne, nf, d⟩
  · have hfn : X.fn x = true := by
      rcases hf with z | z
      · exact z
      · rw [z] at hk; cases hk
    obtain ⟨c, hc⟩ := I.ok.has x (.inl hk)
    obtain ⟨w', z⟩ := I.cell x c hc
    refine wpAny_storeName_cell I.ok.kind hk hc z (fun h' hc' hs => ?_)
    obtain ⟨oc, hoc, hocd⟩ := id z
    refine h { s with heap := h' } ⟨I.ok, I.os, I.bare, ⟨fun b o e n hb hx => ?_, fun b o e n hb hx => ?_, I.base.free, fun b o e hx => ?_, I.base.tups, I.base.frzs, I.base.tbls⟩, ⟨m, hn.sameBut hs (Ne.symm (cne x c hc)), fun j y v' e1 e2 e3 => ?_⟩, fun y c' e => ?_, I.free, I.freeC, fun p hp => ?_, tracked ⟨oc, hoc, I.freeC x c hc⟩ hs, by simpa using I.len⟩ ⟨c, hs, .inr hc⟩
    · exact (hs.2 b (Nat.ne_of_lt (Nat.lt_of_lt_of_le (Heap.lt_size e) (I.ok.cab x c hfn hc)))).trans (I.base.keep b o e n hb hx)
    · obtain ⟨sl, e1⟩ := I.base.slot b o e n hb hx
      exact ⟨sl, (hs.2 b (Nat.ne_of_lt (Nat.lt_of_lt_of_le (Heap.lt_size e) (I.ok.cab x c hfn hc)))).trans e1⟩
    · obtain ⟨o', e1⟩ := I.base.there b o e hx
      exact ⟨o', (hs.2 b (Nat.ne_of_lt (Nat.lt_of_lt_of_le (Heap.lt_size e) (I.ok.cab x c hfn hc)))).trans e1⟩
    · by_cases hj : j = i
      · subst hj
        rw [hi] at e1; cases e1
        rw [List.getElem?_set_self hiσ] at e2
        cases e2
        exact ⟨u, r, .inr ⟨.inl hk, c, hc, hc'⟩⟩
      · rw [List.getElem?_set_ne (Ne.symm hj)] at e2
        obtain ⟨u', r', q⟩ := hl j y v' e1 e2 e3
        refine ⟨u', r', ?_⟩
        rcases q with q | ⟨k, c', e, z'⟩
        · exact .inl q
        · refine .inr ⟨k, c', e, z'.sameBut hs ?_⟩
          rintro rfl
          exact hj (nodup_ix hN e1 (I.ok.inj _ _ _ e hc ▸ hi))
    · by_cases hcc : c' = c
      · subst hcc; exact ⟨_, hc'⟩
      · obtain ⟨w2, z2⟩ := I.cell y c' e
        exact ⟨w2, z2.sameBut hs hcc⟩
    · obtain ⟨e, n, ne, nf, d⟩ := I.pin p hp
      refine ⟨(hs.2 p.1 ?_).trans e, n, ne, nf, d⟩
      intro q
      rw [q, hoc] at e
      have q' : oc = p.2 := Option.some.inj e
      exact d w' (by rw [← q']; exact hocd)
theorem store_ok {M : Model} {A : Around} {E : Value → Shared → Prop} {i : Nat} {x : Str} {v : V} {u : Value} {Q : Unit → Shared → Prop} (I : Inv X pins σ H s) (hN : X.N.Nodup) (hi : X.N[i]? = some x) (hx : Loc X.env.scope x) (r : RelV v u)
    (h : ∀ s', Inv X pins (σ.set i (some v)) H s' → Q () s') (hf : X.fn x = true ∨ X.env.scope.names.lookup x = some .local := by first | exact .inl rfl | exact .inr rfl | assumption) : wpAny M A (storeName X.env x u) Q E s :=
  store_ok2 I hN hi hx r (fun s' I' _ => h s' I') hf
/-- behind a call or a block, the state as it is -/
theorem Inv.call' {s' : Shared} {ch : List Addr} (I : Inv X pins σ H s) (ho : s'.os = s.os) (u : Un (frs X.stack) ch H H' s.heap s'.heap) (hok : HOk X.prog X.w H' s'.heap) (hg : AllBare s'.gens)
    (hch : ∀ b ∈ ch, (b ∈ X.ex ∨ X.s₀.heap.objs.size ≤ b) ∧ b ≠ X.env.locals ∧ (∀ x c, X.env.cells.lookup x = some c → c ≠ b) ∧ ∀ p ∈ X.pn ++ pins, p.1 ≠ b) : Inv X pins σ H' s' := by
  obtain ⟨h', g', d', t', o'⟩ := s'
  have e : o' = s.os := ho
  subst e
  exact I.call (g' := g') (t' := t') (d' := d') u hok hg hch
end

/-! ### the judgements -/
/-- an exception: its class, its own dict's address (where it has one), the abstract heap behind it -/
abbrev XK := Value → Option Addr → Hp → Prop
abbrev St := List (Option V)
abbrev VK := V → Hp → Prop
/-- an expression's reading; a test's; an argument list's -/
abbrev TE := St → Hp → VK → Prop
abbrev TT := St → Hp → (Bool → Hp → Prop) → Prop
abbrev TA := St → Hp → (List V → Hp → Prop) → Prop
/-- what is wanted behind a statement -/
structure Ends where
  nx : St → Hp → Prop
  rt : VK
  bk : St → Hp → Prop := fun _ _ => False
  ct : St → Hp → Prop := fun _ _ => False
abbrev TS := Ends → St → Hp → Prop

def EP (X : Cx) (pins : List (Addr × Obj)) (σ : St) (Q : VK) (u : Value) (s' : Shared) : Prop := ∃ v H', Inv X pins σ H' s' ∧ RelV v u ∧ Q v H'
def TP (X : Cx) (pins : List (Addr × Obj)) (σ : St) (Q : Bool → Hp → Prop) (b : Bool) (s' : Shared) : Prop := ∃ H', Inv X pins σ H' s' ∧ Q b H'
def AP (X : Cx) (pins : List (Addr × Obj)) (σ : St) (Q : List V → Hp → Prop) (us : List Value) (s' : Shared) : Prop := ∃ vs H', Inv X pins σ H' s' ∧ Vals vs us ∧ Q vs H'
def SP (X : Cx) (pins : List (Addr × Obj)) (D : Ends) (f : Flow) (s' : Shared) : Prop :=
  match f with
  | .next => ∃ σ' H', Inv X pins σ' H' s' ∧ D.nx σ' H'
  | .brk => ∃ σ' H', Inv X pins σ' H' s' ∧ D.bk σ' H'
  | .cont => ∃ σ' H', Inv X pins σ' H' s' ∧ D.ct σ' H'
  | .ret u => ∃ v σ' H', Inv X pins σ' H' s' ∧ RelV v u ∧ D.rt v H'

def PE (X : Cx) (e : Expr) (t : TE) : Prop :=
  ∀ (pins : List (Addr × Obj)) (s : Shared) (σ : St) (H : Hp) (Q : VK), Inv X pins σ H s → t σ H Q → wpAny (model X.prog X.w) X.A (eval e X.env) (EP X pins σ Q) X.xe s
def PT (X : Cx) (e : Expr) (t : TT) : Prop :=
  ∀ (pins : List (Addr × Obj)) (s : Shared) (σ : St) (H : Hp) (Q : Bool → Hp → Prop), Inv X pins σ H s → t σ H Q → wpAny (model X.prog X.w) X.A (isTrue e X.env (eval e X.env)) (TP X pins σ Q) X.xe s
/-- a test whatever its 'whole' is (and, or) -/
def PW (X : Cx) (e : Expr) (t : TT) : Prop :=
  ∀ (whole : Sem Value) (pins : List (Addr × Obj)) (s : Shared) (σ : St) (H : Hp) (Q : Bool → Hp → Prop), Inv X pins σ H s → t σ H Q → wpAny (model X.prog X.w) X.A (isTrue e X.env whole) (TP X pins σ Q) X.xe s
theorem PW.pt {X : Cx} {e : Expr} {t : TT} (h : PW X e t) : PT X e t := h _
/-- an argument list (no star), from the left -/
def PA (X : Cx) (es : List Expr) (t : TA) : Prop :=
  ∀ (pos : Pos) (pins : List (Addr × Obj)) (s : Shared) (σ : St) (H : Hp) (Q : List V → Hp → Prop), Inv X pins σ H s → t σ H Q → wpAny (model X.prog X.w) X.A (spliced (backTo pos (starEach es X.env))) (AP X pins σ Q) X.xe s
def PS (X : Cx) (st : Stmt) (t : TS) : Prop :=
  ∀ (pins : List (Addr × Obj)) (s : Shared) (σ : St) (H : Hp) (D : Ends), Inv X pins σ H s → t D σ H → wpAny (model X.prog X.w) X.A (exec st X.env) (SP X pins D) X.xe s
def PSs (X : Cx) (st : List Stmt) (t : TS) : Prop :=
  ∀ (pins : List (Addr × Obj)) (s : Shared) (σ : St) (H : Hp) (D : Ends), Inv X pins σ H s → t D σ H → wpAny (model X.prog X.w) X.A (execs st X.env) (SP X pins D) X.xe s
/-- weaken the end -/
theorem thn {α : Type} {t : Sem α} {Q Q' : α → Shared → Prop} {M : Model} {A : Around} {E : Value → Shared → Prop} {s : Shared} (h : wpAny M A t Q E s) (hQ : ∀ a s, Q a s → Q' a s) : wpAny M A t Q' E s := wpAny_mono h hQ fun _ _ x => x
end L2

namespace L2
open PySem PySem.Spec PyProof.Rows
section
variable {X : Cx}


/-! ### names and constants -/
def tVar (i : Nat) : TE := fun σ H Q => ∃ v, σ[i]? = some (some v) ∧ Q v H
def tC (v : V) : TE := fun _ H Q => Q v H
theorem pe_var {i : Nat} {x : Str} {pos : Pos} (hN : X.N[i]? = some x) (hv : Vis X.env.scope x) (hd : (x == ("__debug__" : Str)) = false := by decide) (hcd : (x == ("__classdict__" : Str)) = false := by decide) : PE X (.Name x pos) (tVar i) := by
  intro pins s σ H Q I h
  obtain ⟨v, e, h⟩ := h
  obtain ⟨m, hn, hl⟩ := I.loc
  obtain ⟨u, r, l⟩ := hl i x v hN e hv
  have fin : EP X pins σ Q u s := ⟨v, H, I, r, h⟩
  rcases l with ⟨hk, hm⟩ | ⟨hk, c, hc, hcell⟩
  · exact wpAny_Name (wpAny_loadName_local I.ok.kind hk hn hm fin) hd
  · rcases hk with hk | hk
    · exact wpAny_Name (wpAny_loadName_cell I.ok.kind hk hc hcell fin) hd
    · exact wpAny_Name (wpAny_loadName_free I.ok.kind hk hc hcell fin hcd) hd
theorem pe_int {i j pos} : PE X (.Constant (.int i) j pos) (tC (.int i)) := fun _ _ _ H _ I h => wpAny_Constant_int ⟨.int i, H, I.tok _, ⟨_, rfl⟩, h⟩
theorem pe_bl {b j pos} : PE X (.Constant (.bool b) j pos) (tC (.bl b)) := fun _ _ _ H _ I h => Constant_bool ⟨.bl b, H, I, rfl, h⟩
theorem pe_non {j pos} : PE X (.Constant .none j pos) (tC .non) := fun _ _ _ H _ I h => Constant_none ⟨.non, H, I, rfl, h⟩

/-- a global name of the def -/
def Gl (X : Cx) (x : Str) : Prop := X.env.kindOf x = some .globalImplicit
theorem ld_glob {E : Value → Shared → Prop} {pins : List (Addr × Obj)} {s : Shared} {σ : St} {H : Hp} {x : Str} {u : Value} {pos : Pos} {Q : Value → Shared → Prop} (I : Inv X pins σ H s) (hg : Gl X x) (hm : X.mg x = some u) (h : Q u s)
    (hd : (x == ("__debug__" : Str)) = false := by decide) : wpAny (model X.prog X.w) X.A (eval (.Name x pos) X.env) Q E s :=
  Calls.Name_function_global I.ok.kind hg (Calls.loadGlobal_global (by rw [I.ok.glob]; exact I.mod.glob.keeps I.bk) hm h) hd
theorem ld_blt {E : Value → Shared → Prop} {pins : List (Addr × Obj)} {s : Shared} {σ : St} {H : Hp} {x : Str} {u : Value} {pos : Pos} {Q : Value → Shared → Prop} (I : Inv X pins σ H s) (hg : Gl X x) (hm : X.mg x = none) (hv : bootBuiltins x = some u) (h : Q u s)
    (hn : x ≠ "__name__" := by decide) (hd : (x == ("__debug__" : Str)) = false := by decide) : wpAny (model X.prog X.w) X.A (eval (.Name x pos) X.env) Q E s := by
  obtain ⟨mb, h1, h2⟩ := I.mod.blt
  exact Calls.Name_function_global I.ok.kind hg (Calls.loadGlobal_builtin (by rw [I.ok.glob]; exact I.mod.glob.keeps I.bk) hm (by rw [I.ok.blt]; exact h1.keeps I.bk) ((h2 x hn).trans hv) h) hd

/-! ### arithmetic -/
/-- two ints -/
def t2I (ta tb : TE) (k : Int → Int → Hp → Prop) : St → Hp → Prop := fun σ H => ta σ H fun x H1 => tb σ H1 fun y H2 => ∃ i j, x = .int i ∧ y = .int j ∧ k i j H2
def tAdd (ta tb : TE) : TE := fun σ H Q => t2I ta tb (fun i j H2 => Q (.int (i + j)) H2) σ H
def tSub (ta tb : TE) : TE := fun σ H Q => t2I ta tb (fun i j H2 => Q (.int (i - j)) H2) σ H
/-- the left factor below 2^64 -/
def tMul (ta tb : TE) : TE := fun σ H Q => t2I ta tb (fun i j H2 => (-(2 ^ 64) < i ∧ i < 2 ^ 64) ∧ Q (.int (i * j)) H2) σ H
variable {a b : Expr} {ta tb : TE} {pos : Pos}

/-! ### comparisons -/
def PC (X : Cx) (op : CmpOp) (a b : Expr) (t : TE) : Prop :=
  ∀ (pins : List (Addr × Obj)) (s : Shared) (σ : St) (H : Hp) (Q : VK), Inv X pins σ H s → t σ H Q →
    wpAny (model X.prog X.w) X.A (eval a X.env) (fun v s₁ => wpAny (model X.prog X.w) X.A (eval b X.env) (fun u s₂ => wpAny (model X.prog X.w) X.A (compareOp op v u) (EP X pins σ Q) X.xe s₂) X.xe s₁) X.xe s
theorem nobehind (b : Expr) {op : CmpOp} (h : op ≠ .In) (h2 : op ≠ .NotIn) : behindInMarks op b = false := by
  have e1 : (op == CmpOp.In) = false := by cases op <;> first | rfl | exact absurd rfl h
  have e2 : (op == CmpOp.NotIn) = false := by cases op <;> first | rfl | exact absurd rfl h2
  cases b <;> simp [behindInMarks, e1, e2]
def tCmp (p : Int → Int → Bool) (ta tb : TE) : TE := fun σ H Q => t2I ta tb (fun i j H2 => Q (.bl (p i j)) H2) σ H
abbrev tLt : TE → TE → TE := tCmp fun i j => decide (i < j)
abbrev tLe : TE → TE → TE := tCmp fun i j => decide (i ≤ j)
abbrev tGt : TE → TE → TE := tCmp fun i j => decide (j < i)
abbrev tGe : TE → TE → TE := tCmp fun i j => decide (j ≤ i)
abbrev tEqI : TE → TE → TE := tCmp fun i j => decide (i = j)
abbrev tNeI : TE → TE → TE := tCmp fun i j => !decide (i = j)
/-- is None -/
def tIsN (ta : TE) : TE := fun σ H Q => ta σ H fun x H1 => Q (.bl (decide (x = .non))) H1
def tNotN (ta : TE) : TE := fun σ H Q => ta σ H fun x H1 => Q (.bl (!decide (x = .non))) H1
theorem RelV.none_iff {x : V} {v : Value} (r : RelV x v) : (v == Value.none) = decide (x = .non) := by
  cases x with
  | non => cases r; rfl
  | bl _ => cases r; rfl
  | int _ => obtain ⟨t, rfl⟩ := r; rfl
  | str _ => obtain ⟨t, rfl⟩ := r; rfl
  | byt _ => obtain ⟨t, rfl⟩ := r; rfl
  | flt _ => obtain ⟨t, rfl⟩ := r; rfl
  | ref _ => cases r; rfl
  | ty _ => cases r; rfl
theorem pc_isN {j pos'} (ha : PE X a ta) : PC X .Is a (.Constant .none j pos') (tIsN ta) := by
  intro pins s σ H Q I h
  refine thn (ha pins s σ H _ I h) fun v s1 ⟨x, H1, I1, r1, q1⟩ => ?_
  exact Constant_none (is_none_gen ⟨.bl _, H1, I1, by rw [r1.none_iff]; rfl, q1⟩)
theorem pc_notN {j pos'} (ha : PE X a ta) : PC X .IsNot a (.Constant .none j pos') (tNotN ta) := by
  intro pins s σ H Q I h
  refine thn (ha pins s σ H _ I h) fun v s1 ⟨x, H1, I1, r1, q1⟩ => ?_
  exact Constant_none (isnot_none_gen ⟨.bl _, H1, I1, by rw [r1.none_iff]; rfl, q1⟩)
/-- a comparison as a value, as a test -/
def tB (t : TE) : TT := fun σ H Q => t σ H fun x H1 => ∃ c, x = .bl c ∧ Q c H1
theorem pe_cmp {op : CmpOp} {t : TE} (h : PC X op a b t) (h1 : behindInMarks op b = false := by first | exact nobehind _ (by decide) (by decide) | rfl) : PE X (.Compare a [op] [b] pos) t := fun pins s σ H Q I hw => wpAny_Compare1 (h pins s σ H Q I hw) h1
theorem pt_cmp {op : CmpOp} {t : TE} (h : PC X op a b t) (h1 : behindInMarks op b = false := by first | exact nobehind _ (by decide) (by decide) | rfl) : PT X (.Compare a [op] [b] pos) (tB t) := by
  intro pins s σ H Q I hw
  refine wpAny_isTrue_Compare1 (thn (h pins s σ H _ I hw) fun v s1 h1 => thn h1 fun u s2 h2 => thn h2 fun c s3 ⟨x, H1, I1, r1, q1⟩ => ?_) h1
  obtain ⟨d, rfl, q⟩ := q1
  cases r1
  exact wpAny_truthy_bool ⟨H1, I1, q⟩
/-- an expression whose value is a bool, as a test -/
theorem pt_val {e : Expr} {t : TE} (h : PE X e t) (he : ∀ whole, isTrue e X.env whole = (do let v ← whole; standAt e.pos; holding [v] (truthy v)) := by intro _; rfl) : PT X e (tB t) := by
  intro pins s σ H Q I hw
  refine isTrue_plain (thn (h pins s σ H _ I hw) fun v s1 ⟨x, H1, I1, r1, q1⟩ => ?_) (he _)
  obtain ⟨d, rfl, q⟩ := q1
  cases r1
  exact wpAny_truthy_bool ⟨H1, I1, q⟩

/-! ### and, or, not -/
variable {tA tB' : TT} {rest : List Expr}
def tAnd (t u : TT) : TT := fun σ H Q => t σ H fun c H1 => if c = true then u σ H1 Q else Q false H1
def tOr (t u : TT) : TT := fun σ H Q => t σ H fun c H1 => if c = true then Q true H1 else u σ H1 Q
def tNot (t : TT) : TT := fun σ H Q => t σ H fun c H1 => Q (!c) H1
theorem pw_or1 (ha : PT X a tA) : PW X (.BoolOp .Or [a] pos) tA := by
  intro wh pins s σ H Q I h
  refine isTrue_or (thn (ha pins s σ H Q I h) fun c s1 e => ?_)
  cases c with
  | false => exact isTrue_or_nil e
  | true => exact e
theorem pw_or (ha : PT X a tA) (hb : PW X (.BoolOp .Or (b :: rest) pos) tB') : PW X (.BoolOp .Or (a :: b :: rest) pos) (tOr tA tB') := by
  intro wh pins s σ H Q I h
  refine isTrue_or (thn (ha pins s σ H _ I h) fun c s1 ⟨H1, I1, q1⟩ => ?_)
  cases c with
  | true => exact ⟨H1, I1, q1⟩
  | false => exact hb wh pins s1 σ H1 Q I1 q1
theorem pt_not (ha : PT X a tA) : PT X (.UnaryOp .Not a pos) (tNot tA) := by
  intro pins s σ H Q I h
  exact isTrue_not (ha pins s σ H (fun c H1 => Q (!c) H1) I h)
/-- .. as values (bools) -/
def tAndV (ta tb : TE) : TE := fun σ H Q => ta σ H fun x H1 => ∃ c, x = .bl c ∧ if c = true then tb σ H1 Q else Q (.bl false) H1
def tOrV (ta tb : TE) : TE := fun σ H Q => ta σ H fun x H1 => ∃ c, x = .bl c ∧ if c = true then Q (.bl true) H1 else tb σ H1 Q
def tNotV (ta : TE) : TE := fun σ H Q => ta σ H fun x H1 => ∃ c, x = .bl c ∧ Q (.bl (!c)) H1
theorem pe_one {op} {t : TE} (h : PE X a t) : PE X (.BoolOp op [a] pos) t := fun pins s σ H Q I hw => BoolOp_one (h pins s σ H Q I hw)
theorem pe_and (ha : PE X a ta) (hb : PE X (.BoolOp .And (b :: rest) pos) tb) : PE X (.BoolOp .And (a :: b :: rest) pos) (tAndV ta tb) := by
  intro pins s σ H Q I h
  refine BoolOp_and (thn (ha pins s σ H _ I h) fun v s1 ⟨x, H1, I1, r1, q1⟩ => ?_)
  obtain ⟨c, rfl, q1⟩ := q1
  cases r1
  refine wpAny_truthy_bool ?_
  cases c with
  | true => exact hb pins s1 σ H1 Q I1 q1
  | false => exact ⟨.bl false, H1, I1, rfl, q1⟩
theorem pe_not (ha : PE X a ta) : PE X (.UnaryOp .Not a pos) (tNotV ta) := by
  intro pins s σ H Q I h
  refine UnaryOp_ (thn (ha pins s σ H _ I h) fun v s1 ⟨x, H1, I1, r1, q1⟩ => ?_)
  obtain ⟨c, rfl, q1⟩ := q1
  cases r1
  exact not_of (wpAny_truthy_bool ⟨.bl (!c), H1, I1, rfl, q1⟩)
/-- a if t else b -/
def tIf (t : TT) (ta tb : TE) : TE := fun σ H Q => t σ H fun c H1 => if c = true then ta σ H1 Q else tb σ H1 Q
end
end L2

namespace L2
open PySem PySem.Spec PyProof.Rows

/-! ### a list, a tuple that is read: tracked, frozen, or an object of the module -/
def SqL (K : PySem.W.Frag) (H : Hp) (a : Addr) (xs : List V) : Prop :=
  Rd H a (.lst xs) ∨
    ∃ (o : Obj) (its : Array Value) (n : Nat), K.lookup a = some o ∧ o.cls = .type "list" ∧ o.dict = none ∧ o.data = .seq its n ∧ its.size ≤ sizeLine ∧ Vals xs its.toList
def SqT (K : PySem.W.Frag) (H : Hp) (a : Addr) (xs : List V) : Prop :=
  Rd H a (.tup xs) ∨
    ∃ (o : Obj) (its : Array Value) (n : Nat), K.lookup a = some o ∧ o.cls = .type "tuple" ∧ o.data = .seq its n ∧ its.size ≤ sizeLine ∧ Vals xs its.toList
def absV : Value → Option V
  | .none => some .non
  | .bool b => some (.bl b)
  | .int i _ => some (.int i)
  | .str x _ => some (.str x)
  | .bytes b _ => some (.byt b)
  | .float b _ => some (.flt b)
  | .ref a => some (.ref a)
  | .type n => some (.ty n)
  | _ => none
theorem RelV.abs {x : V} {u : Value} (r : RelV x u) : absV u = some x := by
  cases x with
  | non => cases r; rfl
  | bl _ => cases r; rfl
  | int _ => obtain ⟨t, rfl⟩ := r; rfl
  | str _ => obtain ⟨t, rfl⟩ := r; rfl
  | byt _ => obtain ⟨t, rfl⟩ := r; rfl
  | flt _ => obtain ⟨t, rfl⟩ := r; rfl
  | ref _ => cases r; rfl
  | ty _ => cases r; rfl
theorem RelV.inj {x y : V} {u : Value} (r : RelV x u) (q : RelV y u) : x = y := Option.some.inj (r.abs.symm.trans q.abs)
theorem Vals.inj : ∀ {xs ys : List V} {us : List Value}, Vals xs us → Vals ys us → xs = ys
  | _, _, _, .nil, .nil => rfl
  | _, _, _, .cons r t, .cons r' t' => by rw [r.inj r', Vals.inj t t']
section
variable {X : Cx} {pins : List (Addr × Obj)} {σ : St} {H : Hp} {s : Shared} {a : Addr} {xs ys : List V}
theorem SqL.of {K : PySem.W.Frag} (h : H a = some (.lst xs)) : SqL K H a xs := .inl (.inl h)
theorem SqT.of {K : PySem.W.Frag} (h : H a = some (.tup xs)) : SqT K H a xs := .inl (.inl h)
theorem Inv.list (I : Inv X pins σ H s) (h : SqL X.K H a xs) : ∃ its : List Value, Vals xs its ∧ PlainL s.heap a its.toArray ∧ xs.length ≤ sizeLine := by
  rcases h with h | ⟨o, its, n, hk, hc, hd, hs, hz, r⟩
  · obtain ⟨z, its, n, r, e⟩ := h.ok I.hok
    exact ⟨its, r, ⟨_, n, e, rfl, rfl, rfl⟩, z⟩
  · refine ⟨its.toList, r, ⟨o, n, I.kIn a o hk, hc, hd, by simpa using hs⟩, ?_⟩
    have e := r.length
    simp only [Array.length_toList] at e
    omega
theorem Inv.tuple (I : Inv X pins σ H s) (h : SqT X.K H a xs) : ∃ its : List Value, Vals xs its ∧ IsTup s.heap a its.toArray ∧ xs.length ≤ sizeLine := by
  rcases h with h | ⟨o, its, n, hk, hc, hs, hz, r⟩
  · obtain ⟨z, its, r, p⟩ := h.ok I.hok
    exact ⟨its, r, p, z⟩
  · refine ⟨its.toList, r, ⟨o, I.kIn a o hk, hc, n, by simpa using hs⟩, ?_⟩
    have e := r.length
    simp only [Array.length_toList] at e
    omega
theorem Inv.list_inj (I : Inv X pins σ H s) (h : SqL X.K H a xs) (h' : SqL X.K H a ys) : xs = ys := by
  obtain ⟨its, r, ⟨o, n, e, _, _, d⟩, _⟩ := I.list h
  obtain ⟨its', r', ⟨o', n', e', _, _, d'⟩, _⟩ := I.list h'
  rw [e] at e'; cases e'
  rw [d] at d'
  injection d' with d1 _
  have : its = its' := by simpa using congrArg Array.toList d1
  subst this
  exact r.inj r'
theorem Inv.tuple_inj (I : Inv X pins σ H s) (h : SqT X.K H a xs) (h' : SqT X.K H a ys) : xs = ys := by
  obtain ⟨its, r, ⟨o, e, _, n, d⟩, _⟩ := I.tuple h
  obtain ⟨its', r', ⟨o', e', _, n', d'⟩, _⟩ := I.tuple h'
  rw [e] at e'; cases e'
  rw [d] at d'
  injection d' with d1 _
  have : its = its' := by simpa using congrArg Array.toList d1
  subst this
  exact r.inj r'
end

/-! ### another wish about exceptions -/
abbrev Cx.wish (X : Cx) (E : Value → Shared → Prop) : Cx := { X with xe := E }
/-- no exception leaves -/
abbrev Cx.nox (X : Cx) : Cx := X.wish fun _ _ => False
theorem Cx.Ok.wish {X : Cx} (ok : X.Ok) (E : Value → Shared → Prop) : (X.wish E).Ok :=
  ⟨ok.mod, ok.kind, ok.glob, ok.blt, ok.above, ok.inj, ok.has, ok.cab, ok.hd, ok.frames, ok.stk, ok.exf, ok.bs, ok.bsz, ok.noex, ok.exfs, ok.funs, ok.frf⟩
theorem Cx.Ok.unwish {X : Cx} {E : Value → Shared → Prop} (ok : (X.wish E).Ok) : X.Ok :=
  ⟨ok.mod, ok.kind, ok.glob, ok.blt, ok.above, ok.inj, ok.has, ok.cab, ok.hd, ok.frames, ok.stk, ok.exf, ok.bs, ok.bsz, ok.noex, ok.exfs, ok.funs, ok.frf⟩
section
variable {X : Cx} {pins : List (Addr × Obj)} {σ : St} {H : Hp} {s : Shared} {E : Value → Shared → Prop}
theorem Inv.wish (I : Inv X pins σ H s) (E : Value → Shared → Prop) : Inv (X.wish E) pins σ H s := ⟨I.ok.wish E, I.os, I.bare, I.base, I.loc, I.cell, I.free, I.freeC, I.pin, I.hok, I.len⟩
theorem Inv.unwish (I : Inv (X.wish E) pins σ H s) : Inv X pins σ H s := ⟨I.ok.unwish, I.os, I.bare, I.base, I.loc, I.cell, I.free, I.freeC, I.pin, I.hok, I.len⟩
theorem SP.unwish {D : Ends} {f : Flow} {s' : Shared} (h : SP (X.wish E) pins D f s') : SP X pins D f s' := by
  cases f with
  | next => obtain ⟨σ', H', I, q⟩ := h; exact ⟨σ', H', I.unwish, q⟩
  | brk => obtain ⟨σ', H', I, q⟩ := h; exact ⟨σ', H', I.unwish, q⟩
  | cont => obtain ⟨σ', H', I, q⟩ := h; exact ⟨σ', H', I.unwish, q⟩
  | ret u => obtain ⟨v, σ', H', I, r, q⟩ := h; exact ⟨v, σ', H', I.unwish, r, q⟩
theorem PSs.nox {st : List Stmt} {t : TS} (h : PSs X.nox st t) : PSs X st t := fun pins s σ H D I hw =>
  wpAny_mono (h pins s σ H D (I.wish _) hw) (fun _ _ q => q.unwish) fun _ _ z => False.elim z
end

/-! ### blocks and small statements -/
section
variable {X : Cx} {st : Stmt} {rest : List Stmt} {t u : TS} {e : Expr} {te : TE} {pos : Pos}
def tNext : TS := fun D σ H => D.nx σ H
def tSeq (t u : TS) : TS := fun D σ H => t { D with nx := u D } σ H
theorem pss_nil : PSs X [] tNext := fun _ _ σ H _ I h => wpAny_execs_nil ⟨σ, H, I, h⟩
theorem pss_cons (h1 : PS X st t) (h2 : PSs X rest u) : PSs X (st :: rest) (tSeq t u) := by
  intro pins s σ H D I h
  refine wpAny_execs_cons (thn (h1 pins s σ H { D with nx := u D } I h) fun f s1 q => ?_)
  cases f with
  | next =>
    obtain ⟨σ', H', I', q⟩ := q
    exact h2 pins s1 σ' H' D I' q
  | ret v => exact q
  | brk => exact q
  | cont => exact q
theorem pss_one (h1 : PS X st t) : PSs X [st] t := by
  intro pins s σ H D I h
  refine wpAny_execs_cons (thn (h1 pins s σ H D I h) fun f s1 q => ?_)
  cases f with
  | next => exact wpAny_execs_nil q
  | ret v => exact q
  | brk => exact q
  | cont => exact q
def tBreak : TS := fun D σ H => D.bk σ H
def tCont : TS := fun D σ H => D.ct σ H
/-- in a def's body nothing is shown -/
theorem Inv.quiet {pins : List (Addr × Obj)} {σ : St} {H : Hp} {s : Shared} (I : Inv X pins σ H s) : interactive X.env = false := by simp [interactive, I.ok.kind]
/-- an expression whose value is dropped -/
def tDrop (te : TE) : TS := fun D σ H => te σ H fun _ H1 => D.nx σ H1
theorem ps_expr (he : PE X e te) (hs : swapsWith e none pos.line X.env = pure false := by rfl) : PS X (.Expr e pos) (tDrop te) := by
  intro pins s σ H D I h
  exact wpAny_Expr_any (thn (he pins s σ H _ I h) fun v s1 ⟨x, H1, I1, r1, q1⟩ => ⟨σ, H1, I1, q1⟩) I.quiet hs
def tRet (te : TE) : TS := fun D σ H => te σ H D.rt
theorem ps_ret (he : PE X e te) : PS X (.Return (some e) pos) (tRet te) := by
  intro pins s σ H D I h
  exact wpAny_Return_some (thn (he pins s σ H _ I h) fun v s1 ⟨x, H1, I1, r1, q1⟩ => ⟨x, σ, H1, I1, r1, q1⟩)
def tRetN : TS := fun D _ H => D.rt .non H
def tIfS (c : TT) (t u : TS) : TS := fun D σ H => c σ H fun b H1 => if b = true then t D σ H1 else u D σ H1
theorem ps_if {c : Expr} {a b : List Stmt} {tc : TT} (hc : PT X c tc) (ha : PSs X a t) (hb : PSs X b u) : PS X (.If c a b pos) (tIfS tc t u) := by
  intro pins s σ H D I h
  refine wpAny_If (thn (hc pins s σ H _ I h) fun d s1 ⟨H1, I1, q1⟩ => ?_)
  cases d with
  | true => exact ha pins s1 σ H1 D I1 q1
  | false => exact hb pins s1 σ H1 D I1 q1
/-- code that the proof never comes to -/
def tNever : TS := fun _ _ _ => False
end

/-! ### targets -/
abbrev TG := V → St → Hp → (St → Hp → Prop) → Prop
abbrev TGs := List V → St → Hp → (St → Hp → Prop) → Prop
def PG (X : Cx) (target : Expr) (t : TG) : Prop :=
  ∀ (pins : List (Addr × Obj)) (s : Shared) (σ : St) (H : Hp) (v : V) (u : Value) (Q : St → Hp → Prop), Inv X pins σ H s → RelV v u → t v σ H Q →
    wpAny (model X.prog X.w) X.A (assign target X.env u) (fun _ s' => ∃ σ' H', Inv X pins σ' H' s' ∧ Q σ' H') X.xe s
/-- several targets, one after another -/
def PGs (X : Cx) (ts : List Expr) (t : TGs) : Prop :=
  ∀ (pins : List (Addr × Obj)) (s : Shared) (σ : St) (H : Hp) (vs : List V) (us : List Value) (Q : St → Hp → Prop), Inv X pins σ H s → Vals vs us → t vs σ H Q →
    wpAny (model X.prog X.w) X.A (assignInOrder ((assignEach ts X.env).map (·.2)) us) (fun _ s' => ∃ σ' H', Inv X pins σ' H' s' ∧ Q σ' H') X.xe s
/-- o[i] = v, by values -/
abbrev TSet := V → V → V → Hp → (Hp → Prop) → Prop
def PSet (X : Cx) (t : TSet) : Prop :=
  ∀ (pins : List (Addr × Obj)) (s : Shared) (σ : St) (H : Hp) (o i v : V) (ov iv u : Value) (Q : Hp → Prop), Inv X pins σ H s → RelV o ov → RelV i iv → RelV v u → t o i v H Q →
    wpAny (model X.prog X.w) X.A (setItem ov iv u) (fun _ s' => ∃ H', Inv X pins σ H' s' ∧ Q H') X.xe s
/-- a op= b, by values -/
abbrev TIp := V → V → Hp → VK → Prop
def PIp (X : Cx) (op : Operator) (t : TIp) : Prop :=
  ∀ (pins : List (Addr × Obj)) (s : Shared) (σ : St) (H : Hp) (x y : V) (v u : Value) (Q : VK), Inv X pins σ H s → RelV x v → RelV y u → t x y H Q →
    wpAny (model X.prog X.w) X.A (inplaceOp op v u) (EP X pins σ Q) X.xe s
section
variable {X : Cx} {pos : Pos}
def gName (i : Nat) : TG := fun v σ H Q => Q (σ.set i (some v)) H
theorem pg_name {i : Nat} {x : Str} (hN : X.N.Nodup) (hi : X.N[i]? = some x) (hx : Loc X.env.scope x) (hf : X.fn x = true ∨ X.env.scope.names.lookup x = some .local := by first | exact .inl rfl | exact .inr rfl | assumption) : PG X (.Name x pos) (gName i) := by
  intro pins s σ H v u Q I r h
  exact wpAny_assign_Name (store_ok I hN hi hx r (fun s' I' => ⟨_, H, I', h⟩) hf)
def gNil : TGs := fun vs σ H Q => vs = [] ∧ Q σ H
def gCons (t : TG) (u : TGs) : TGs := fun vs σ H Q => ∃ v r, vs = v :: r ∧ t v σ H fun σ' H' => u r σ' H' Q
theorem pgs_nil : PGs X [] gNil := by
  intro pins s σ H vs us Q I r h
  obtain ⟨e, h⟩ := h
  subst e
  cases r
  exact assignInOrder_nil ⟨σ, H, I, h⟩
theorem pgs_cons {e : Expr} {es : List Expr} {t : TG} {u : TGs} (h1 : PG X e t) (h2 : PGs X es u)
    (hs : (assignEach (e :: es) X.env).map (·.2) = assign e X.env :: (assignEach es X.env).map (·.2) := by rfl) : PGs X (e :: es) (gCons t u) := by
  intro pins s σ H vs us Q I r h
  obtain ⟨v, vr, e1, h⟩ := h
  subst e1
  cases r with
  | cons r rr =>
    rw [hs]
    refine assignInOrder_cons (thn (h1 pins s σ H _ _ _ I r h) fun _ s1 ⟨σ1, H1, I1, q1⟩ => ?_)
    exact h2 pins s1 σ1 H1 _ _ Q I1 rr q1
/-- (a, b, ..) = a tuple of that length -/
def gTup (K : PySem.W.Frag) (n : Nat) (t : TGs) : TG := fun v σ H Q => ∃ a xs, v = .ref a ∧ SqT K H a xs ∧ xs.length = n ∧ t xs σ H Q
theorem pg_tup {es : List Expr} {k : Nat} {t : TGs} {n : Nat} (hc : X.calm = true) (h : PGs X es t)
    (hn : (assignEach es X.env).length = n := by rfl) (hst : (assignEach es X.env).findIdx? (·.1) = none := by rfl) : PG X (.Tuple es k pos) (gTup X.K n t) := by
  intro pins s σ H v u Q I r hw
  obtain ⟨a, xs, e1, hq, hl, hw⟩ := hw
  subst e1
  cases r
  obtain ⟨its, rv, ht, hz⟩ := I.tuple hq
  refine assign_Tuple_tuple (I.ok.hd hc) ht (by simp [hn, ← hl, rv.length]) hst fun h' hx => ?_
  have I1 : Inv X pins σ H { s with heap := h' } := I.kept (t' := s.toks) fun b o e => hx b o (Nat.ne_of_lt (Heap.lt_size e)) e
  exact h pins _ σ H xs _ Q I1 (by simpa using rv) hw
/-- o[i] = .. -/
def gSub (to ti : TE) (t : TSet) : TG := fun v σ H Q => to σ H fun o H1 => ti σ H1 fun i H2 => t o i v H2 fun H3 => Q σ H3
/-- target = value -/
def tAsg (te : TE) (g : TG) : TS := fun D σ H => te σ H fun x H1 => g x σ H1 D.nx
theorem ps_asg {tg e : Expr} {te : TE} {g : TG} (he : PE X e te) (hg : PG X tg g) (hs : swapsWithSole [tg] e pos.line X.env = pure false := by rfl) (hw : swappedStores [tg] e X.env = pure none := by rfl)
    (h1 : (assignEach [tg] X.env).map (·.2) = [assign tg X.env] := by rfl) : PS X (.Assign [tg] e pos) (tAsg te g) := by
  intro pins s σ H D I h
  refine wpAny_Assign_stores (thn (he pins s σ H _ I h) fun v s1 ⟨x, H1, I1, r1, q1⟩ => ?_) hs hw
  rw [h1]
  exact thn (hg pins s1 σ H1 x v _ I1 r1 q1) fun _ s2 q => q
/-- name = value -/
theorem ps_set {i : Nat} {x : Str} {e : Expr} {te : TE} {pos' : Pos} (hN : X.N.Nodup) (hi : X.N[i]? = some x) (hx : Loc X.env.scope x) (he : PE X e te) (hs : swapsWith e (some (.Name x pos')) pos.line X.env = pure false := by rfl) (hf : X.fn x = true ∨ X.env.scope.names.lookup x = some .local := by first | exact .inl rfl | exact .inr rfl | assumption) :
    PS X (.Assign [.Name x pos'] e pos) (tAsg te (gName i)) := by
  intro pins s σ H D I h
  refine wpAny_Assign_Name (thn (he pins s σ H _ I h) fun v s1 ⟨y, H1, I1, r1, q1⟩ => ?_) hs
  exact store_ok I1 hN hi hx r1 (fun s2 I2 => ⟨_, H1, I2, q1⟩) hf
/-- a, b = x, y with plain local names: stored from the right; the pair itself is not tracked (the opening rows as in PyProof/Rows/TupAssign.lean:23) -/
def tPar (i j : Nat) (ta : TA) : TS := fun D σ H => ta σ H fun vs H1 => ∃ v w, vs = [v, w] ∧ D.nx ((σ.set i (some v)).set j (some w)) H1
/-- name op= e -/
def tAug (i : Nat) (te : TE) (ti : TIp) : TS := fun D σ H => ∃ x, σ[i]? = some (some x) ∧ te σ H fun y H1 => ti x y H1 fun z H2 => D.nx (σ.set i (some z)) H2
/-- o[i] op= e -/
def tAugS (to ti te : TE) (tget : V → V → Hp → VK → Prop) (tip : TIp) (tset : TSet) : TS := fun D σ H => to σ H fun o H1 => ti σ H1 fun i H2 => tget o i H2 fun x H3 => te σ H3 fun y H4 => tip x y H4 fun z H5 => tset o i z H5 fun H6 => D.nx σ H6
/-- o[i], by values -/
def PGet (X : Cx) (t : V → V → Hp → VK → Prop) : Prop :=
  ∀ (pins : List (Addr × Obj)) (s : Shared) (σ : St) (H : Hp) (o i : V) (ov iv : Value) (Q : VK), Inv X pins σ H s → RelV o ov → RelV i iv → t o i H Q →
    wpAny (model X.prog X.w) X.A (getItem ov iv) (EP X pins σ Q) X.xe s
/-- ints -/
def ipI (f : Int → Int → Int) : TIp := fun x y H Q => ∃ i j, x = .int i ∧ y = .int j ∧ Q (.int (f i j)) H
end

/-! ### while -/
section
variable {X : Cx} {pos : Pos}
/-- the invariant W with its measure -/
def tWhile (c : TT) (tb : TS) : TS := fun D σ H => ∃ W : Nat → St → Hp → Prop, (∃ m, W m σ H) ∧ ∀ m σ H, W m σ H →
  c σ H fun b H1 => if b = true then ∃ N : St → Hp → Prop, (∀ σ' H', N σ' H' → ∃ m', m' < m ∧ W m' σ' H') ∧ tb { D with nx := N, ct := N, bk := D.nx } σ H1 else D.nx σ H1
end

/-! ### what a loop or a comprehension walks -/
/-- at turn i: it yields x (the heap may grow), or it stops -/
structure It where
  go : Nat → Hp → Prop
  yld : Nat → Hp → V → Hp → Prop
  stop : Nat → Hp → Prop
/-- the iterator's own objects may turn: they are not the frame's, not pinned, younger than the entry (or a comprehension's own) -/
def FpOk (X : Cx) (pins : List (Addr × Obj)) (H : Hp) (b : Addr) : Prop :=
  H b = none ∧ b ≠ X.env.locals ∧ b ∉ X.fs ∧ (b ∈ X.ex ∨ X.s₀.heap.objs.size ≤ b) ∧ (∀ x c, X.env.cells.lookup x = some c → c ≠ b) ∧ ∀ p ∈ X.pn ++ pins, p.1 ≠ b
theorem Inv.fpOk {X : Cx} {pins : List (Addr × Obj)} {σ : St} {H H' : Hp} {s : Shared} {b : Addr} (I : Inv X pins σ H s) (hb : s.heap.objs.size ≤ b) (hn : H' b = none) : FpOk X pins H' b := by
  refine ⟨hn, Nat.ne_of_gt (Nat.lt_of_lt_of_le I.lt hb), I.nofs hb, .inr (Nat.le_trans I.sz hb), fun x c e z => ?_, fun p hp z => ?_⟩
  · obtain ⟨v, q⟩ := I.cell x c e
    exact absurd (Nat.lt_of_lt_of_le q.lt (by rw [z]; exact hb)) (Nat.lt_irrefl _)
  · exact absurd (Nat.lt_of_lt_of_le (Heap.lt_size (I.pin p hp).1) (by rw [z]; exact hb)) (Nat.lt_irrefl _)
structure Turn (P : Program) (w : World) (K : PySem.W.Frag) (tg : Expr) (J : It) (fp : List Addr) (it : Addr) (tn : Nat → Heap → Prop) : Prop where
  mem : it ∈ fp
  obj : ∀ i h, tn i h → ∀ b ∈ fp, ∃ o, h.get? b = some o ∧ ∀ v, o.data ≠ .cell v
  keep : ∀ i h h', tn i h → (∀ b ∈ fp, ∀ o, h.get? b = some o → h'.get? b = some o) → tn i h'
  item : ∀ (X : Cx), X.prog = P → X.w = w → X.K = K → X.calm = true → ∀ (i : Nat) (pins : List (Addr × Obj)) (s : Shared) (σ : St) (H : Hp) (E : Value → Shared → Prop), Inv X pins σ H s → (∀ b ∈ fp, FpOk X pins H b) → tn i s.heap → J.go i H →
    wpAny (model P w) X.A (pyNext (.ref it)) (fun r s1 => ∃ u, r = some u ∧
      wpAny (model P w) X.A (letOwnedTupleGo tg (.ref it) u) (fun _ s2 => ∃ x H', Inv X pins σ H' s2 ∧ RelV x u ∧ J.yld i H x H' ∧ tn (i + 1) s2.heap ∧ ∀ b ∈ fp, H' b = none) E s1) E s
  done : ∀ (X : Cx), X.prog = P → X.w = w → X.K = K → X.calm = true → ∀ (i : Nat) (pins : List (Addr × Obj)) (s : Shared) (σ : St) (H : Hp) (E : Value → Shared → Prop), Inv X pins σ H s → (∀ b ∈ fp, FpOk X pins H b) → tn i s.heap → J.stop i H →
    wpAny (model P w) X.A (pyNext (.ref it)) (fun r s1 => r = none ∧ Inv X pins σ H s1) E s
  self : ∀ (A : Around) (i : Nat) (s : Shared) (Q : Value → Shared → Prop) (E : Value → Shared → Prop), tn i s.heap → Q (.ref it) s → wpAny (model P w) A (pyIter (.ref it)) Q E s
abbrev TI := St → Hp → (It → Hp → Prop) → Prop
/-- an iterator has come -/
def PIE (X : Cx) (pins : List (Addr × Obj)) (σ : St) (tg : Expr) (R : It → Hp → Prop) (itv : Value) (s2 : Shared) : Prop :=
  ∃ (it : Addr) (fp : List Addr) (tn : Nat → Heap → Prop) (J : It) (H' : Hp), itv = .ref it ∧ Inv X pins σ H' s2 ∧ Turn X.prog X.w X.K tg J fp it tn ∧ tn 0 s2.heap ∧ (∀ b ∈ fp, FpOk X pins H' b) ∧ R J H'
def PI (X : Cx) (tg iter : Expr) (wi : TI) : Prop :=
  ∀ (pins : List (Addr × Obj)) (s : Shared) (σ : St) (H : Hp) (R : It → Hp → Prop), Inv X pins σ H s → wi σ H R →
    wpAny (model X.prog X.w) X.A (eval iter X.env) (fun v s1 => wpAny (model X.prog X.w) X.A (pyIter v) (PIE X pins σ tg R) X.xe s1) X.xe s

/-- the step ahead of the store is nothing for an iterator that keeps no tuple -/
theorem go_of {M : Model} {A : Around} {E : Value → Shared → Prop} {s : Shared} {tg : Expr} {it : Addr} {u : Value} {o : Obj} {n : String} {vs : Array Value} {Q : Unit → Shared → Prop} (ho : s.heap.get? it = some o) (hc : o.cls = .type n) (hd : o.data = .fields vs)
    (hn : ["enumerate", "zip", "dict_itemiterator", "dict_reverseitemiterator", "odict_iterator", "itertools.zip_longest", "itertools.pairwise"].contains n = false) (hQ : Q () s) : wpAny M A (letOwnedTupleGo tg (.ref it) u) Q E s := by
  unfold letOwnedTupleGo
  cases tg <;> first
    | exact wpAny_pure hQ
    | (cases u <;> first
        | exact wpAny_pure hQ
        | (refine wpAny_bind (wpAny_load ho ?_)
           rw [hc, hd]
           show wpAny M A (if (["enumerate", "zip", "dict_itemiterator", "dict_reverseitemiterator", "odict_iterator", "itertools.zip_longest", "itertools.pairwise"].contains n && vs[0]? == some (rawInt _)) = true then _ else _) Q E s
           rw [if_neg (by intro h; rw [hn, Bool.false_and] at h; cases h)]
           exact wpAny_pure hQ))

/-- the list at a, as it stands at each turn (a loop may append to it) -/
def Itl (K : PySem.W.Frag) (a : Addr) : It :=
  ⟨fun i H => ∃ xs x, SqL K H a xs ∧ xs[i]? = some x, fun i H x H' => H' = H ∧ ∀ xs, SqL K H a xs → xs[i]? = some x, fun i H => ∃ xs, SqL K H a xs ∧ xs.length ≤ i⟩
def Itt (K : PySem.W.Frag) (a : Addr) : It :=
  ⟨fun i H => ∃ xs x, SqT K H a xs ∧ xs[i]? = some x, fun i H x H' => H' = H ∧ ∀ xs, SqT K H a xs → xs[i]? = some x, fun i H => ∃ xs, SqT K H a xs ∧ xs.length ≤ i⟩
/-- lo, lo + 1, .. (n of them) -/
def Itr (lo : Int) (n : Nat) : It := ⟨fun i _ => i < n, fun i H x H' => H' = H ∧ x = .int (lo + i), fun i _ => n ≤ i⟩
theorem turn_list {P : Program} {w : World} {K : PySem.W.Frag} {tg : Expr} (a it : Addr) : Turn P w K tg (Itl K a) [it] it (fun i h => h.IsListIter it a i) where
  mem := by simp
  obj := fun i h st b hb => by
    have e : b = it := by simpa using hb
    subst e
    obtain ⟨o, e, c, d⟩ := st
    exact ⟨o, e, fun v z => by rw [d] at z; cases z⟩
  keep := fun i h h' st k => st.at fun o e => k it (by simp) o e
  item := by
    intro X hP hw hK hc i pins s σ H E I hf st hg
    subst hP hw hK
    obtain ⟨xs, x, hq, hx⟩ := hg
    obtain ⟨its, rv, p, hz⟩ := I.list hq
    obtain ⟨u, hu, ru⟩ := rv.get hx
    obtain ⟨f0, f1, f2, f3, f4, f5⟩ := hf it (by simp)
    refine wpAny_pyNext_list_item st p.isList (x := u) (by simpa using hu) fun h' st' sb => ?_
    have I1 : Inv X pins σ H { s with heap := h' } := I.turned (t' := s.toks) (fun b o hb e => (sb.2 b hb).trans e) f0 f1 f3 f4 f5
    obtain ⟨o, e, c, d⟩ := id st'
    exact ⟨u, rfl, go_of (s := { s with heap := h' }) e c d (by decide) ⟨x, H, I1, ru, ⟨rfl, fun ys hy => by rw [I.list_inj hy hq]; exact hx⟩, st', fun b hb => (hf b hb).1⟩⟩
  done := by
    intro X hP hw hK hc i pins s σ H E I hf st hg
    subst hP hw hK
    obtain ⟨xs, hq, hx⟩ := hg
    obtain ⟨its, rv, p, hz⟩ := I.list hq
    obtain ⟨f0, f1, f2, f3, f4, f5⟩ := hf it (by simp)
    have hl := rv.length
    exact wpAny_pyNext_list_end (I.ok.hd hc) st p.isList (by simp; omega) fun h' eb => ⟨rfl, I.turned (t' := s.toks) (fun b o hb e => eb b o hb e) f0 f1 f3 f4 f5⟩
  self := fun _ _ _ _ _ st h => wpAny_pyIter_listiter st h
theorem turn_range {P : Program} {w : World} {K : PySem.W.Frag} {tg : Expr} (it : Addr) (lo : Int) (n : Nat) : Turn P w K tg (Itr lo n) [it] it (fun i h => IsRangeIter h it (lo + (i : Nat) * 1) ((n : Int) - (i : Nat)) 1) where
  mem := by simp
  obj := fun i h st b hb => by
    have e : b = it := by simpa using hb
    subst e
    exact ⟨_, st, fun v z => by
      have z' : Data.fields _ = Data.cell v := z
      cases z'⟩
  keep := fun i h h' st k => k it (by simp) _ st
  item := by
    intro X hP hw hK hc i pins s σ H E I hf st hg
    subst hP hw hK
    obtain ⟨f0, f1, f2, f3, f4, f5⟩ := hf it (by simp)
    have W := Walks.range (prog := X.prog) (w := X.w) (I.ok.hd hc) it lo 1 n
    refine W.item i s _ _ hg st fun v h' tk hv st' kk => ?_
    obtain ⟨t, rfl⟩ := hv
    have I1 : Inv X pins σ H { s with heap := h', toks := tk } := I.turned (fun b o hb e => kk b o (by simpa using hb) e) f0 f1 f3 f4 f5
    refine ⟨_, rfl, go_of (s := { s with heap := h', toks := tk }) (n := "range_iterator") st' rfl rfl (by decide) ⟨.int (lo + i), H, I1, ⟨t, ?_⟩, ⟨rfl, rfl⟩, st', fun b hb => (hf b hb).1⟩⟩
    rw [Int.mul_one]
  done := by
    intro X hP hw hK hc i pins s σ H E I hf st hg
    subst hP hw hK
    obtain ⟨f0, f1, f2, f3, f4, f5⟩ := hf it (by simp)
    exact wpAny_pyNext_range_end (I.ok.hd hc) st (by have : n ≤ i := hg; omega) fun h' eb => ⟨rfl, I.turned (t' := s.toks) (fun b o hb e => eb b o hb e) f0 f1 f3 f4 f5⟩
  self := fun _ _ _ _ _ st h => wpAny_pyIter_rangeiter st h
end L2

namespace L2
open PySem PySem.Spec PyProof.Rows
section
variable {X : Cx} {tg : Expr}
def iList (K : PySem.W.Frag) (tl : TE) : TI := fun σ H R => tl σ H fun x H1 => ∃ a, x = .ref a ∧ (∃ xs, SqL K H1 a xs) ∧ R (Itl K a) H1
def iTup (K : PySem.W.Frag) (tl : TE) : TI := fun σ H R => tl σ H fun x H1 => ∃ a, x = .ref a ∧ (∃ xs, SqT K H1 a xs) ∧ R (Itt K a) H1
theorem pi_list {l : Expr} {tl : TE} (hl : PE X l tl) : PI X tg l (iList X.K tl) := by
  intro pins s σ H R I h
  refine thn (hl pins s σ H _ I h) fun v s1 ⟨x, H1, I1, r1, q1⟩ => ?_
  obtain ⟨a, e, ⟨xs, hq⟩, q⟩ := q1
  subst e
  cases r1
  obtain ⟨its, rv, p, hz⟩ := I1.list hq
  refine wpAny_pyIter_list p.isList ?_
  refine ⟨s1.heap.objs.size, [s1.heap.objs.size], _, _, H1, rfl, I1.kept (t' := s1.toks) fun b o e => Heap.get?_push_of_some _ e, turn_list a _, ⟨_, Heap.get?_push_size _ rfl, rfl, rfl⟩, fun b hb => ?_, q⟩
  have e : b = s1.heap.objs.size := by simpa using hb
  subst e
  exact I1.fpOk (Nat.le_refl _) (I1.hok.fresh (Nat.le_refl _))
/-- a range object just made, walked -/
theorem range_it {pins : List (Addr × Obj)} {σ : St} {H : Hp} {s : Shared} {R : It → Hp → Prop} {E : Value → Shared → Prop} {lo hi : Int} {t u v : Tok} {tk : Nat} (I : Inv X pins σ H s) (h1 : -(2 ^ 62) ≤ lo) (h2 : lo < 2 ^ 62) (h3 : -(2 ^ 62) ≤ hi) (h4 : hi < 2 ^ 62)
    (q : R (Itr lo (hi - lo).toNat) H) : wpAny (model X.prog X.w) X.A (pyIter (.ref s.heap.objs.size)) (PIE X pins σ tg R) E { s with heap := s.heap.push { cls := .type "range", data := .fields #[.int lo t, .int hi u, .int 1 v] }, toks := tk } := by
  refine wpAny_pyIter_range (IsRange.new ..) (small_one h1 h2 h3 h4) ?_
  have I1 : Inv X pins σ H { s with heap := s.heap.push { cls := .type "range", data := .fields #[.int lo t, .int hi u, .int 1 v] }, toks := tk } := I.kept fun b o e => Heap.get?_push_of_some _ e
  refine ⟨(s.heap.push { cls := .type "range", data := .fields #[.int lo t, .int hi u, .int 1 v] }).objs.size, [(s.heap.push { cls := .type "range", data := .fields #[.int lo t, .int hi u, .int 1 v] }).objs.size], _, _, H, rfl,
    I1.kept (t' := tk) fun b o e => Heap.get?_push_of_some _ e, turn_range _ lo (hi - lo).toNat, ?_, fun b hb => ?_, q⟩
  · have e1 : lo + ((0 : Nat) : Int) * 1 = lo := by simp
    have e2 : (((hi - lo).toNat : Nat) : Int) - ((0 : Nat) : Int) = Builtin.Range.rangeSize lo hi 1 := by rw [rangeSize_one]; split <;> omega
    show IsRangeIter _ _ (lo + ((0 : Nat) : Int) * 1) ((((hi - lo).toNat : Nat) : Int) - ((0 : Nat) : Int)) 1
    rw [e1, e2]
    exact Heap.get?_push_size _ rfl
  · have e : b = (s.heap.push { cls := .type "range", data := .fields #[.int lo t, .int hi u, .int 1 v] }).objs.size := by simpa using hb
    subst e
    exact I1.fpOk (Nat.le_refl _) (I1.hok.fresh (Nat.le_refl _))
def iRng1 (ta : TA) : TI := fun σ H R => ta σ H fun vs H1 => ∃ j : Int, vs = [.int j] ∧ -(2 ^ 62) ≤ j ∧ j < 2 ^ 62 ∧ R (Itr 0 j.toNat) H1
def iRng2 (ta : TA) : TI := fun σ H R => ta σ H fun vs H1 => ∃ i j : Int, vs = [.int i, .int j] ∧ (-(2 ^ 62) ≤ i ∧ i < 2 ^ 62 ∧ -(2 ^ 62) ≤ j ∧ j < 2 ^ 62) ∧ R (Itr i (j - i).toNat) H1
theorem pi_range1 {a : Expr} {ta : TA} {p pos : Pos} (hg : Gl X "range") (hm : X.mg "range" = none) (ha : PA X [a] ta) (hs : starEach [a] X.env = [(false, eval a X.env)] := by rfl) : PI X tg (.Call (.Name "range" p) [a] [] pos) (iRng1 ta) := by
  intro pins s σ H R I h
  refine Call_ (ld_blt I hg hm boot_range (PyProof.Rows.callWith_type1 (thn (ha pos pins s σ H _ I h) fun us s1 ⟨vs, H1, I1, r1, q1⟩ => ?_) hs rfl))
  obtain ⟨j, e, q1, q2, q⟩ := q1
  subst e
  cases r1 with
  | cons r rr =>
    cases rr
    obtain ⟨t, rfl⟩ := r
    exact call_range_1 (range_it I1 (by omega) (by omega) q1 q2 (by simpa using q))

/-! ### for -/
/-- W: the invariant by the turn and a measure; N: what the body is to reach -/
def tFor (wi : TI) (g : TG) (tb : TS) : TS := fun D σ H => wi σ H fun J H1 => ∃ W : Nat → Nat → St → Hp → Prop, (∃ m, W 0 m σ H1) ∧ ∀ i m σ H, W i m σ H →
  (J.stop i H ∧ D.nx σ H) ∨ (J.go i H ∧ ∃ N : St → Hp → Prop, (∀ σ' H', N σ' H' → ∃ m', m' < m ∧ W (i + 1) m' σ' H') ∧ ∀ x H', J.yld i H x H' → g x σ H' fun σ2 H2 => tb { D with nx := N, ct := N, bk := D.nx } σ2 H2)
/-- the records at fp as they stand -/
def pinsAt (fp : List Addr) (h : Heap) : List (Addr × Obj) := fp.filterMap fun b => (h.get? b).map fun o => (b, o)
theorem mem_pinsAt {fp : List Addr} {h : Heap} {b : Addr} {o : Obj} (hb : b ∈ fp) (e : h.get? b = some o) : (b, o) ∈ pinsAt fp h := List.mem_filterMap.mpr ⟨b, hb, by rw [e]; rfl⟩
theorem of_pinsAt {fp : List Addr} {h : Heap} {p : Addr × Obj} (hp : p ∈ pinsAt fp h) : p.1 ∈ fp ∧ h.get? p.1 = some p.2 := by
  obtain ⟨b, hb, e⟩ := List.mem_filterMap.mp hp
  cases q : h.get? b with
  | none => rw [q] at e; cases e
  | some o =>
    rw [q] at e
    have e' : (b, o) = p := Option.some.inj e
    subst e'
    exact ⟨hb, q⟩
theorem Inv.pinned {pins : List (Addr × Obj)} {σ : St} {H : Hp} {s : Shared} {fp : List Addr} (I : Inv X pins σ H s) (hf : ∀ b ∈ fp, FpOk X pins H b) (ho : ∀ b ∈ fp, ∃ o, s.heap.get? b = some o ∧ ∀ v, o.data ≠ .cell v) : Inv X (pins ++ pinsAt fp s.heap) σ H s :=
  I.pins_of fun p hp => (List.mem_append.mp hp).elim (fun z => I.pin p (List.mem_append_right _ z)) fun z => by
    obtain ⟨hb, e⟩ := of_pinsAt z
    obtain ⟨f0, f1, f2, _⟩ := hf p.1 hb
    obtain ⟨o, e', d⟩ := ho p.1 hb
    rw [e] at e'; cases e'
    exact ⟨e, f0, f1, f2, d⟩
theorem Inv.unpinned {pins pl : List (Addr × Obj)} {σ : St} {H : Hp} {s : Shared} (I : Inv X (pins ++ pl) σ H s) : Inv X pins σ H s := I.pins_of fun p hp => I.pin p (List.mem_append_right _ (List.mem_append_left _ hp))
theorem ps_for {iter : Expr} {body : List Stmt} {wi : TI} {g : TG} {tb : TS} {pos : Pos} (hp : PassesOwn (model X.prog X.w) X.A X.env X.xe) (hc : X.calm = true) (hi : PI X tg iter wi) (hg : PG X tg g) (hb : PSs X body tb)
    (hs : ∀ x, foldedSetIterable iter X.env x = pure x := by intro _; rfl) : PS X (.For tg iter body [] pos) (tFor wi g tb) := by
  intro pins s σ H D I h
  refine wpAny_For (thn (hi pins s σ H _ I h) fun v s1 h1 => thn h1 fun itv s2 h2 => ?_) hs
  obtain ⟨it, fp, tn, J, H2, e, I2, T, st2, f2, W, ⟨m0, w0⟩, turn⟩ := h2
  subst e
  -- what stays true of the iterator's objects through the loop
  have stat : ∀ {H' : Hp}, (∀ b ∈ fp, H' b = none) → ∀ b ∈ fp, FpOk X pins H' b := fun hn b hb => ⟨hn b hb, (f2 b hb).2⟩
  refine codeAny_forLoop_any (fun n s' => ∃ i σ' H', Inv X pins σ' H' s' ∧ tn i s'.heap ∧ (∀ b ∈ fp, H' b = none) ∧ W i n σ' H') ?_ m0 ⟨0, σ, H2, I2, st2, fun b hb => (f2 b hb).1, w0⟩
  rintro n s3 ⟨i, σ3, H3, I3, st3, fr3, w3⟩
  rcases turn i n σ3 H3 w3 with ⟨stop, qn⟩ | ⟨go, N, hN, step⟩
  · refine wpAny_passesOwn hp (thn (T.done X rfl rfl rfl hc i pins s3 σ3 H3 X.xe I3 (stat fr3) st3 stop) fun r s4 ⟨hr, I4⟩ => ?_)
    subst hr
    exact wpAny_execs_nil ⟨σ3, H3, I4, qn⟩
  · refine wpAny_passesOwn hp (thn (T.item X rfl rfl rfl hc i pins s3 σ3 H3 X.xe I3 (stat fr3) st3 go) fun r s4 ⟨u, hr, h4⟩ => ?_)
    subst hr
    refine wpAny_passesOwn hp (thn h4 fun _ s5 ⟨x, H5, I5, r5, y5, st5, fr5⟩ => ?_)
    have I5' := I5.pinned (stat fr5) (T.obj _ _ st5)
    refine wpAny_passesOwn hp (thn (hg _ s5 σ3 H5 x u _ I5' r5 (step x H5 y5)) fun _ s6 ⟨σ6, H6, I6, q6⟩ => ?_)
    refine wpAny_passesOwn hp (thn (hb _ s6 σ6 H6 _ I6 q6) fun f s7 q7 => ?_)
    have again : ∀ {σ7 : St} {H7 : Hp}, Inv X (pins ++ pinsAt fp s5.heap) σ7 H7 s7 → N σ7 H7 → ∃ m, m < n ∧ ∃ i σ' H', Inv X pins σ' H' s7 ∧ tn i s7.heap ∧ (∀ b ∈ fp, H' b = none) ∧ W i m σ' H' := fun {σ7 H7} I7 n7 => by
      obtain ⟨m', hm, w7⟩ := hN σ7 H7 n7
      refine ⟨m', hm, i + 1, σ7, H7, I7.unpinned, T.keep _ _ _ st5 fun b hb o e => (I7.pin (b, o) (List.mem_append_right _ (List.mem_append_right _ (mem_pinsAt hb e)))).1, fun b hb => ?_, w7⟩
      obtain ⟨o, e, d⟩ := T.obj _ _ st5 b hb
      exact (I7.pin (b, o) (List.mem_append_right _ (List.mem_append_right _ (mem_pinsAt hb e)))).2.1
    cases f with
    | next => obtain ⟨σ7, H7, I7, n7⟩ := q7; exact again I7 n7
    | cont => obtain ⟨σ7, H7, I7, n7⟩ := q7; exact again I7 n7
    | brk => obtain ⟨σ7, H7, I7, q7⟩ := q7; exact ⟨σ7, H7, I7.unpinned, q7⟩
    | ret v => obtain ⟨x7, σ7, H7, I7, r7, q7⟩ := q7; exact ⟨x7, σ7, H7, I7.unpinned, r7, q7⟩
end

/-! ### the forms one uses -/
/-- over a list that the body leaves as it is -/
theorem for_list {K : PySem.W.Frag} {a : Addr} {xs : List V} {g : TG} {tb : TS} {D : Ends} {σ : St} {H : Hp} (Pv : Nat → St → Hp → Prop) (h0 : Pv 0 σ H) (hl : ∀ i σ H, i ≤ xs.length → Pv i σ H → SqL K H a xs)
    (hs : ∀ i x σ H, xs[i]? = some x → Pv i σ H → g x σ H fun σ2 H2 => tb { D with nx := Pv (i + 1), ct := Pv (i + 1), bk := D.nx } σ2 H2) (hd : ∀ σ H, Pv xs.length σ H → D.nx σ H) :
    ∃ W : Nat → Nat → St → Hp → Prop, (∃ m, W 0 m σ H) ∧ ∀ i m σ H, W i m σ H →
      ((Itl K a).stop i H ∧ D.nx σ H) ∨ ((Itl K a).go i H ∧ ∃ N : St → Hp → Prop, (∀ σ' H', N σ' H' → ∃ m', m' < m ∧ W (i + 1) m' σ' H') ∧ ∀ x H', (Itl K a).yld i H x H' → g x σ H' fun σ2 H2 => tb { D with nx := N, ct := N, bk := D.nx } σ2 H2) := by
  refine ⟨fun i m σ H => m = xs.length - i ∧ i ≤ xs.length ∧ Pv i σ H, ⟨xs.length, by simp, Nat.zero_le _, h0⟩, ?_⟩
  rintro i m σ H ⟨rfl, hi, p⟩
  have q := hl i σ H hi p
  by_cases hlt : i < xs.length
  · refine .inr ⟨⟨xs, xs[i], q, by simp [hlt]⟩, Pv (i + 1), fun σ' H' p' => ⟨xs.length - (i + 1), by omega, rfl, hlt, p'⟩, fun x H' y => ?_⟩
    obtain ⟨e, y⟩ := y
    subst e
    exact hs i x σ _ (y xs q) p
  · have e : i = xs.length := by omega
    subst e
    exact .inl ⟨⟨xs, q, Nat.le_refl _⟩, hd σ H p⟩
theorem for_range {lo : Int} {n : Nat} {g : TG} {tb : TS} {D : Ends} {σ : St} {H : Hp} (Pv : Nat → St → Hp → Prop) (h0 : Pv 0 σ H)
    (hs : ∀ i σ H, i < n → Pv i σ H → g (.int (lo + i)) σ H fun σ2 H2 => tb { D with nx := Pv (i + 1), ct := Pv (i + 1), bk := D.nx } σ2 H2) (hd : ∀ σ H, Pv n σ H → D.nx σ H) :
    ∃ W : Nat → Nat → St → Hp → Prop, (∃ m, W 0 m σ H) ∧ ∀ i m σ H, W i m σ H →
      ((Itr lo n).stop i H ∧ D.nx σ H) ∨ ((Itr lo n).go i H ∧ ∃ N : St → Hp → Prop, (∀ σ' H', N σ' H' → ∃ m', m' < m ∧ W (i + 1) m' σ' H') ∧ ∀ x H', (Itr lo n).yld i H x H' → g x σ H' fun σ2 H2 => tb { D with nx := N, ct := N, bk := D.nx } σ2 H2) := by
  refine ⟨fun i m σ H => m = n - i ∧ i ≤ n ∧ Pv i σ H, ⟨n, by simp, Nat.zero_le _, h0⟩, ?_⟩
  rintro i m σ H ⟨rfl, hi, p⟩
  by_cases hlt : i < n
  · refine .inr ⟨hlt, Pv (i + 1), fun σ' H' p' => ⟨n - (i + 1), by omega, rfl, hlt, p'⟩, fun x H' y => ?_⟩
    obtain ⟨e, y⟩ := y
    subst e y
    exact hs i σ _ hlt p
  · have e : i = n := by omega
    subst e
    exact .inl ⟨Nat.le_refl _, hd σ H p⟩
end L2

namespace L2
open PySem PySem.Spec PyProof.Rows

abbrev R2 := V → V → Hp → VK → Prop
/-- a two-place operation on values: f is binaryOp op, inplaceOp op or compareOp op -/
def OpR (X : Cx) (f : Value → Value → Sem Value) (r : R2) : Prop :=
  ∀ (pins : List (Addr × Obj)) (s : Shared) (σ : St) (H : Hp) (x y : V) (v u : Value) (Q : VK), Inv X pins σ H s → RelV x v → RelV y u → r x y H Q →
    wpAny (model X.prog X.w) X.A (f v u) (EP X pins σ Q) X.xe s
/-- a one-place operation -/
def UnR (X : Cx) (f : Value → Sem Value) (r : V → Hp → VK → Prop) : Prop :=
  ∀ (pins : List (Addr × Obj)) (s : Shared) (σ : St) (H : Hp) (x : V) (v : Value) (Q : VK), Inv X pins σ H s → RelV x v → r x H Q →
    wpAny (model X.prog X.w) X.A (f v) (EP X pins σ Q) X.xe s
/-- a call of a value that is known (a builtin, a type) with values -/
def CallR (X : Cx) (f : Value) (r : List V → Hp → VK → Prop) : Prop :=
  ∀ (pins : List (Addr × Obj)) (s : Shared) (σ : St) (H : Hp) (xs : List V) (us : List Value) (Q : VK), Inv X pins σ H s → Vals xs us → r xs H Q →
    wpAny (model X.prog X.w) X.A (call f us) (EP X pins σ Q) X.xe s
/-- a value's truth -/
def TruR (X : Cx) (r : V → Hp → (Bool → Hp → Prop) → Prop) : Prop :=
  ∀ (pins : List (Addr × Obj)) (s : Shared) (σ : St) (H : Hp) (x : V) (v : Value) (Q : Bool → Hp → Prop), Inv X pins σ H s → RelV x v → r x H Q →
    wpAny (model X.prog X.w) X.A (truthy v) (TP X pins σ Q) X.xe s

def tOp (r : R2) (ta tb : TE) : TE := fun σ H Q => ta σ H fun x H1 => tb σ H1 fun y H2 => r x y H2 Q
def tUn (r : V → Hp → VK → Prop) (ta : TE) : TE := fun σ H Q => ta σ H fun x H1 => r x H1 Q
/-- ints in, under C, and a value out -/
def rI (C : Int → Int → Prop) (g : Int → Int → V) : R2 := fun x y H Q => ∃ i j, x = .int i ∧ y = .int j ∧ C i j ∧ Q (g i j) H
def rI0 (g : Int → Int → V) : R2 := fun x y H Q => ∃ i j, x = .int i ∧ y = .int j ∧ Q (g i j) H
def rU (g : Int → V) : V → Hp → VK → Prop := fun x H Q => ∃ i, x = .int i ∧ Q (g i) H

section
variable {X : Cx} {a b c : Expr} {ta tb tc : TE} {pos : Pos}

theorem binT (ha : PE X a ta) (hb : PE X b tb) {pins : List (Addr × Obj)} {s : Shared} {σ : St} {H : Hp} {R : V → V → Hp → Prop} (I : Inv X pins σ H s)
    (h : ta σ H fun x H1 => tb σ H1 fun y H2 => R x y H2) {Q : Value → Shared → Prop} {f : Value → Value → Sem Value}
    (hf : ∀ v u s2 x y H2, Inv X pins σ H2 s2 → RelV x v → RelV y u → R x y H2 → wpAny (model X.prog X.w) X.A (f v u) Q X.xe s2) :
    wpAny (model X.prog X.w) X.A (eval a X.env) (fun v s₁ => wpAny (model X.prog X.w) X.A (eval b X.env) (fun u s₂ => wpAny (model X.prog X.w) X.A (f v u) Q X.xe s₂) X.xe s₁) X.xe s := by
  refine thn (ha pins s σ H _ I h) fun v s1 ⟨x, H1, I1, r1, q1⟩ => ?_
  refine thn (hb pins s1 σ H1 _ I1 q1) fun u s2 ⟨y, H2, I2, r2, q2⟩ => ?_
  exact hf v u s2 x y H2 I2 r1 r2 q2

theorem pe_op {op : Operator} {r : R2} (ho : OpR X (binaryOp op) r) (ha : PE X a ta) (hb : PE X b tb) : PE X (.BinOp a op b pos) (tOp r ta tb) := by
  intro pins s σ H Q I h
  exact wpAny_BinOp (binT ha hb I h fun v u s2 x y H2 I2 rx ry q => ho pins s2 σ H2 x y v u Q I2 rx ry q)

/-! ### ints -/
theorem opI {f : Value → Value → Sem Value} {C : Int → Int → Prop} {g : Int → Int → Int}
    (rule : ∀ (i j : Int) (t u : Tok) (s : Shared) (Q : Value → Shared → Prop) (E : Value → Shared → Prop), C i j → Q (.int (g i j) s.toks) { s with toks := s.toks + 1 } → wpAny (model X.prog X.w) X.A (f (.int i t) (.int j u)) Q E s) :
    OpR X f (rI C fun i j => .int (g i j)) := by
  intro pins s σ H x y v u Q I rx ry h
  obtain ⟨i, j, rfl, rfl, hc, q⟩ := h
  obtain ⟨t, rfl⟩ := rx
  obtain ⟨t', rfl⟩ := ry
  exact rule i j t t' s _ _ hc ⟨.int (g i j), H, I.tok _, ⟨_, rfl⟩, q⟩
theorem opI0 {f : Value → Value → Sem Value} {g : Int → Int → Int}
    (rule : ∀ (i j : Int) (t u : Tok) (s : Shared) (Q : Value → Shared → Prop) (E : Value → Shared → Prop), Q (.int (g i j) s.toks) { s with toks := s.toks + 1 } → wpAny (model X.prog X.w) X.A (f (.int i t) (.int j u)) Q E s) :
    OpR X f (rI0 fun i j => .int (g i j)) := by
  intro pins s σ H x y v u Q I rx ry h
  obtain ⟨i, j, rfl, rfl, q⟩ := h
  obtain ⟨t, rfl⟩ := rx
  obtain ⟨t', rfl⟩ := ry
  exact rule i j t t' s _ _ ⟨.int (g i j), H, I.tok _, ⟨_, rfl⟩, q⟩
theorem opB0 {f : Value → Value → Sem Value} {g : Int → Int → Bool}
    (rule : ∀ (i j : Int) (t u : Tok) (s : Shared) (Q : Value → Shared → Prop) (E : Value → Shared → Prop), Q (.bool (g i j)) s → wpAny (model X.prog X.w) X.A (f (.int i t) (.int j u)) Q E s) :
    OpR X f (rI0 fun i j => .bl (g i j)) := by
  intro pins s σ H x y v u Q I rx ry h
  obtain ⟨i, j, rfl, rfl, q⟩ := h
  obtain ⟨t, rfl⟩ := rx
  obtain ⟨t', rfl⟩ := ry
  exact rule i j t t' s _ _ ⟨.bl (g i j), H, I, rfl, q⟩

def CDiv (i j : Int) : Prop := 0 < j ∧ j < 1073741824
def CDivN (i j : Int) : Prop := j ≠ 0 ∧ j.natAbs < 1073741824
def CPow (i j : Int) : Prop := 0 ≤ j ∧ j ≤ 1000000 ∧ i.natAbs < 2 ^ 64
def CMul (i j : Int) : Prop := (-(2 ^ 64) < i ∧ i < 2 ^ 64) ∨ (-(2 ^ 64) < j ∧ j < 2 ^ 64)
theorem CMul.ok {i j : Int} (h : CMul i j) : IntMulOk i j := by
  rcases h with ⟨h1, h2⟩ | ⟨h1, h2⟩
  · exact .of_left (intBits_le_64 h1 h2)
  · exact .of_right (intBits_le_64 h1 h2)

theorem op_add : OpR X (binaryOp .Add) (rI0 fun i j => .int (i + j)) := opI0 fun _ _ _ _ _ _ _ q => add_int q
theorem op_sub : OpR X (binaryOp .Sub) (rI0 fun i j => .int (i - j)) := opI0 fun _ _ _ _ _ _ _ q => sub_int q
/-- % by a positive divisor of any size -/
theorem op_mod : OpR X (binaryOp .Mod) (rI (fun _ j => 0 < j) fun i j => .int (i % j)) := opI fun i j _ _ _ _ _ hc q => by
  have h1 : (0 : Int) < j := hc
  exact mod_int' (by omega) (by rw [Int.fmod_eq_emod_of_nonneg i (by omega)]; exact q)
theorem op_pow : OpR X (binaryOp .Pow) (rI CPow fun i j => .int (i ^ j.toNat)) := opI fun _ _ _ _ _ _ _ hc q => pow_int_small hc.1 hc.2.1 hc.2.2 q



/-! ### bools among ints: n += (a < b) -/
end

/-! ### comparisons -/
/-- the scalars that == tells apart as data does -/
def scal : V → V → Bool
  | .non, .non => true | .non, .int _ => true | .int _, .non => true | .non, .bl _ => true | .bl _, .non => true | .non, .str _ => true | .str _, .non => true
  | .int _, .int _ => true | .bl _, .bl _ => true | .str _, .str _ => true | .byt _, .byt _ => true
  | .int _, .str _ => true | .str _, .int _ => true | .bl _, .str _ => true | .str _, .bl _ => true
  | _, _ => false
def rEq : R2 := fun x y H Q => scal x y = true ∧ Q (.bl (decide (x = y))) H
def rNe : R2 := fun x y H Q => scal x y = true ∧ Q (.bl (!decide (x = y))) H

theorem dec_int {i j : Int} : decide (V.int i = V.int j) = (i == j) := by
  rw [Bool.eq_iff_iff]
  simp
theorem dec_bl {i j : Bool} : decide (V.bl i = V.bl j) = (i == j) := by
  rw [Bool.eq_iff_iff]
  simp
theorem dec_str {i j : Str} : decide (V.str i = V.str j) = (i == j) := by
  rw [Bool.eq_iff_iff]
  simp
theorem dec_byt {i j : Array UInt8} : decide (V.byt i = V.byt j) = (i.toList == j.toList) := by
  rw [Bool.eq_iff_iff]
  cases i
  cases j
  simp

section
variable {X : Cx} {a b c : Expr} {ta tb tc : TE} {pos : Pos}
theorem fin_bl {pins : List (Addr × Obj)} {σ : St} {H : Hp} {s : Shared} {Q : VK} {k k' : Bool} (I : Inv X pins σ H s) (q : Q (.bl k) H) (e : k = k') : EP X pins σ Q (.bool k') s := by
  subst e
  exact ⟨.bl k, H, I, rfl, q⟩
theorem op_eq : OpR X (compareOp .Eq) rEq := by
  intro pins s σ H x y v u Q I rx ry h
  obtain ⟨hs, q⟩ := h
  cases x with
  | non =>
    cases rx
    cases y with
    | non => cases ry; exact PySem.EqNone.eq_none_none (fin_bl I q (by simp))
    | bl j => cases ry; exact PySem.EqNone.eq_none_bool (fin_bl I q (by simp))
    | int j => obtain ⟨t', rfl⟩ := ry; exact PySem.EqNone.eq_none_int (fin_bl I q (by simp))
    | str j => obtain ⟨t', rfl⟩ := ry; exact PySem.EqNone.eq_none_str (fin_bl I q (by simp))
    | _ => exact absurd (show false = true from hs) Bool.false_ne_true
  | bl i =>
    cases rx
    cases y with
    | non => cases ry; exact PySem.EqNone.eq_bool_none (fin_bl I q (by simp))
    | bl j => cases ry; exact eq_bool (fin_bl I q dec_bl)
    | str j => obtain ⟨t', rfl⟩ := ry; exact PySem.EqMixed.eq_bool_str (fin_bl I q (by simp))
    | _ => exact absurd (show false = true from hs) Bool.false_ne_true
  | int i =>
    obtain ⟨t, rfl⟩ := rx
    cases y with
    | non => cases ry; exact PySem.EqNone.eq_int_none (fin_bl I q (by simp))
    | int j => obtain ⟨t', rfl⟩ := ry; exact eq_int (fin_bl I q dec_int)
    | str j => obtain ⟨t', rfl⟩ := ry; exact PySem.EqMixed.eq_int_str (fin_bl I q (by simp))
    | _ => exact absurd (show false = true from hs) Bool.false_ne_true
  | str i =>
    obtain ⟨t, rfl⟩ := rx
    cases y with
    | non => cases ry; exact PySem.EqNone.eq_str_none (fin_bl I q (by simp))
    | bl j => cases ry; exact PySem.EqMixed.eq_str_bool (fin_bl I q (by simp))
    | int j => obtain ⟨t', rfl⟩ := ry; exact PySem.EqMixed.eq_str_int (fin_bl I q (by simp))
    | str j => obtain ⟨t', rfl⟩ := ry; exact eq_str (fin_bl I q dec_str)
    | _ => exact absurd (show false = true from hs) Bool.false_ne_true
  | byt i =>
    obtain ⟨t, rfl⟩ := rx
    cases y with
    | byt j => obtain ⟨t', rfl⟩ := ry; exact PySem.W.eq_bytes (fin_bl I q dec_byt)
    | _ => exact absurd (show false = true from hs) Bool.false_ne_true
  | _ => cases y <;> exact absurd (show false = true from hs) Bool.false_ne_true
theorem op_ne : OpR X (compareOp .NotEq) rNe := by
  intro pins s σ H x y v u Q I rx ry h
  obtain ⟨hs, q⟩ := h
  cases x with
  | non =>
    cases rx
    cases y with
    | non => cases ry; exact PySem.EqNone.ne_none_none (fin_bl I q (by simp))
    | bl j => cases ry; exact PySem.EqNone.ne_none_bool (fin_bl I q (by simp))
    | int j => obtain ⟨t', rfl⟩ := ry; exact PySem.EqNone.ne_none_int (fin_bl I q (by simp))
    | str j => obtain ⟨t', rfl⟩ := ry; exact PySem.EqNone.ne_none_str (fin_bl I q (by simp))
    | _ => exact absurd (show false = true from hs) Bool.false_ne_true
  | bl i =>
    cases rx
    cases y with
    | non => cases ry; exact PySem.EqNone.ne_bool_none (fin_bl I q (by simp))
    | bl j => cases ry; exact ne_bool (fin_bl I q (congrArg not dec_bl))
    | str j => obtain ⟨t', rfl⟩ := ry; exact PySem.EqMixed.ne_bool_str (fin_bl I q (by simp))
    | _ => exact absurd (show false = true from hs) Bool.false_ne_true
  | int i =>
    obtain ⟨t, rfl⟩ := rx
    cases y with
    | non => cases ry; exact PySem.EqNone.ne_int_none (fin_bl I q (by simp))
    | int j => obtain ⟨t', rfl⟩ := ry; exact ne_int (fin_bl I q (congrArg not dec_int))
    | str j => obtain ⟨t', rfl⟩ := ry; exact PySem.EqMixed.ne_int_str (fin_bl I q (by simp))
    | _ => exact absurd (show false = true from hs) Bool.false_ne_true
  | str i =>
    obtain ⟨t, rfl⟩ := rx
    cases y with
    | non => cases ry; exact PySem.EqNone.ne_str_none (fin_bl I q (by simp))
    | bl j => cases ry; exact PySem.EqMixed.ne_str_bool (fin_bl I q (by simp))
    | int j => obtain ⟨t', rfl⟩ := ry; exact PySem.EqMixed.ne_str_int (fin_bl I q (by simp))
    | str j => obtain ⟨t', rfl⟩ := ry; exact ne_str (fin_bl I q (congrArg not dec_str))
    | _ => exact absurd (show false = true from hs) Bool.false_ne_true
  | byt i =>
    obtain ⟨t, rfl⟩ := rx
    cases y with
    | byt j => obtain ⟨t', rfl⟩ := ry; exact PySem.W.ne_bytes (fin_bl I q (congrArg not dec_byt))
    | _ => exact absurd (show false = true from hs) Bool.false_ne_true
  | _ => cases y <;> exact absurd (show false = true from hs) Bool.false_ne_true

theorem op_lt : OpR X (compareOp .Lt) (rI0 fun i j => .bl (decide (i < j))) := opB0 fun _ _ _ _ _ _ _ q => lt_int q
theorem op_gt : OpR X (compareOp .Gt) (rI0 fun i j => .bl (decide (j < i))) := opB0 fun _ _ _ _ _ _ _ q => gt_int q


/-- is, is not of two objects that are tracked lists or instances -/
def isObj : HO → Bool
  | .lst _ => true
  | .ins _ _ _ => true
  | _ => false


theorem nomark (b : Expr) {op : CmpOp} (h : op ≠ .In := by decide) (h2 : op ≠ .NotIn := by decide) : behindInMarks op b = false := by
  have e1 : (op == CmpOp.In) = false := by cases op <;> first | rfl | exact absurd rfl h
  have e2 : (op == CmpOp.NotIn) = false := by cases op <;> first | rfl | exact absurd rfl h2
  cases b <;> simp [behindInMarks, e1, e2]
/-- a comparison as a value; hm: nomark b, or (for in, not in) by with_unfolding_all rfl -/
theorem pe_cmpR {op : CmpOp} {r : R2} (ho : OpR X (compareOp op) r) (ha : PE X a ta) (hb : PE X b tb) (hm : behindInMarks op b = false) : PE X (.Compare a [op] [b] pos) (tOp r ta tb) := by
  intro pins s σ H Q I h
  exact wpAny_Compare1 (binT ha hb I h fun v u s2 x y H2 I2 rx ry q => ho pins s2 σ H2 x y v u Q I2 rx ry q) hm
/-- a reading of a value as a test -/
def tTest (t : TE) : TT := fun σ H Q => t σ H fun x H' => ∃ k, x = .bl k ∧ Q k H'
theorem pt_cmpR {op : CmpOp} {r : R2} (ho : OpR X (compareOp op) r) (ha : PE X a ta) (hb : PE X b tb) (hm : behindInMarks op b = false) : PT X (.Compare a [op] [b] pos) (tTest (tOp r ta tb)) := by
  intro pins s σ H Q I h
  refine wpAny_isTrue_Compare1 (thn (ha pins s σ H _ I h) fun v s1 ⟨x, H1, I1, r1, q1⟩ => thn (hb pins s1 σ H1 _ I1 q1) fun u s2 ⟨y, H2, I2, r2, q2⟩ =>
    thn (ho pins s2 σ H2 x y v u _ I2 r1 r2 q2) fun c s3 ⟨z, H3, I3, r3, k, e, q3⟩ => ?_) hm
  subst e
  cases r3
  exact wpAny_truthy_bool ⟨H3, I3, q3⟩
/-- a op1 b op2 c -/
def tChain (r r' : R2) (ta tb tc : TE) : TE := fun σ H Q => ta σ H fun x H1 => tb σ H1 fun y H2 => r x y H2 fun z H3 => ∃ k, z = .bl k ∧
  (if k = true then tc σ H3 fun w' H4 => r' y w' H4 Q else Q (.bl false) H3)

/-! ### truth -/
/-- a value's truth by the abstract heap -/
def TruV (K : PySem.W.Frag) (x : V) (H : Hp) (k : Bool) : Prop :=
  match x with
  | .non => k = false
  | .bl b => k = b
  | .int i => k = (i != 0)
  | .str y => y.length ≤ sizeLine ∧ k = ((y.length : Int) != 0)
  | .byt y => y.size ≤ sizeLine ∧ k = ((y.size : Int) != 0)
  | .ref p => (∃ xs, SqL K H p xs ∧ k = !xs.isEmpty) ∨ (∃ xs, SqT K H p xs ∧ k = !xs.isEmpty) ∨ ∃ kvs, H p = some (.dK kvs) ∧ k = !kvs.isEmpty
  | _ => False
theorem line63 : (sizeLine : Nat) < 2 ^ 63 := by rw [sizeLine_eq]; decide

/-! ### strs and bytes -/

def PlainIxT (b : Expr) : Prop := ∀ o i, subscripted b false o i = operate [o, i] (getItem o i)

/-! ### scalar builtins, by CallR -/
theorem vals1 {x : V} {us : List Value} (r : Vals [x] us) : ∃ u, us = [u] ∧ RelV x u := by
  cases r with
  | cons r1 r2 => cases r2; exact ⟨_, rfl, r1⟩
theorem vals2 {x y : V} {us : List Value} (r : Vals [x, y] us) : ∃ u w', us = [u, w'] ∧ RelV x u ∧ RelV y w' := by
  cases r with
  | cons r1 r2 =>
    cases r2 with
    | cons r3 r4 => cases r4; exact ⟨_, _, rfl, r1, r3⟩
theorem call_abs : CallR X (.builtin "abs") (fun xs H Q => ∃ i, xs = [.int i] ∧ Q (.int (if i < 0 then -i else i)) H) := by
  intro pins s σ H xs us Q I r h
  obtain ⟨i, rfl, q⟩ := h
  obtain ⟨u, rfl, t, rfl⟩ := vals1 r
  exact call_abs_int fun u tk => ⟨.int (if i < 0 then -i else i), H, I.tok _, ⟨_, rfl⟩, q⟩
/-- len of a str, a bytes, a list, a tuple -/
def LenV (K : PySem.W.Frag) (x : V) (H : Hp) (n : Nat) : Prop :=
  match x with
  | .str y => y.length ≤ sizeLine ∧ n = y.length
  | .byt y => y.size ≤ sizeLine ∧ n = y.size
  | .ref p => (∃ xs, SqL K H p xs ∧ n = xs.length) ∨ ∃ xs, SqT K H p xs ∧ n = xs.length
  | _ => False
end
end L2

namespace L2
open PySem PySem.Spec PyProof.Rows

/-! ### an instance, its attributes a map -/
structure ObjM (h : Heap) (x dx C : Addr) (mA : Str → Option Value) : Prop where
  obj : h.get? x = some (PySem.W.instObj C dx)
  ns : h.Ns1 dx mA
  ne : dx ≠ x



section
variable {prog : Program} {w : World} {A : Around} {E : Value → Shared → Prop} {s : Shared} {K : PySem.W.Frag} {x dx C f : Addr} {mA : Str → Option Value} {name : Str} {v : Value}





end

/-! ### the attributes as a list of pairs -/
def putF (f : Str) (v : V) : List (Str × V) → List (Str × V)
  | [] => [(f, v)]
  | (g, x) :: r => if g = f then (g, v) :: r else (g, x) :: putF f v r


section
variable {P : Program} {w : World} {H H' : Hp} {h h' : Heap} {a C dx : Addr} {fs fs' : List (Str × V)}
end

/-! ### what of the text a class must have -/
structure Cls (K : PySem.W.Frag) (C : Addr) : Prop where
  pg : PySem.W.plainGet K C Str.empty = true
  hd : PySem.W.hasDictIn K C = true
  po : PySem.W.plainOver K C = true
  sa : PySem.W.findIn K (.ref C) "__setattr__" = some (some (.builtin "object.__setattr__"))
/-- no class of it has the name -/
def NoAttr (K : PySem.W.Frag) (C : Addr) (f : Str) : Prop := PySem.W.findIn K (.ref C) f = some none
/-- a constant of the class -/
structure Con (K : PySem.W.Frag) (C : Addr) (f : Str) (v : V) (u : Value) : Prop where
  at_ : PySem.W.findIn K (.ref C) f = some (some u)
  rel : RelV v u
  get : PySem.W.specialIn K u "__get__" = some none
  cp : PySem.W.copiedNames.contains f = false
/-- a method: a plain def of the class or of one above it -/
structure Meth (K : PySem.W.Frag) (C : Addr) (m : Str) (f : Addr) : Prop where
  at_ : PySem.W.findIn K (.ref C) m = some (some (.ref f))
  fn : PySem.W.isFn K (.ref f) = true
  kp : PySem.W.keepIn K (.ref f) = true

section
variable {X : Cx} {pins : List (Addr × Obj)} {σ : St} {H : Hp} {s : Shared} {a C dx : Addr} {fs : List (Str × V)} {f : Str} {v : V} {A : Around} {E : Value → Shared → Prop}






end

/-! ### readings and rules -/
/-- e.f, an attribute of the instance -/
def tFld (K : PySem.W.Frag) (ta : TE) (f : Str) : TE := fun σ H Q => ta σ H fun x H1 => ∃ a C dx fs v, x = .ref a ∧ H1 a = some (.ins C dx fs) ∧ Cls K C ∧ NoAttr K C f ∧ fs.lookup f = some v ∧ Q v H1
/-- e.f, a constant of the class -/
def tCon (K : PySem.W.Frag) (ta : TE) (f : Str) : TE := fun σ H Q => ta σ H fun x H1 => ∃ a C dx fs v u, x = .ref a ∧ H1 a = some (.ins C dx fs) ∧ Cls K C ∧ Con K C f v u ∧ fs.lookup f = none ∧ Q v H1
/-- e.f = value -/
def sFld (K : PySem.W.Frag) (ta tv : TE) (f : Str) : TS := fun D σ H => tv σ H fun y H1 => ta σ H1 fun x H2 => ∃ a C dx fs, x = .ref a ∧ H2 a = some (.ins C dx fs) ∧ Cls K C ∧ NoAttr K C f ∧ fs.length < 1000 ∧
  D.nx σ (upd H2 a (.ins C dx (putF f y fs)))
/-- an augmented operator on two values -/
def InOp (X : Cx) (op : Operator) (rd : V → V → Hp → VK → Prop) : Prop :=
  ∀ (pins : List (Addr × Obj)) (s : Shared) (σ : St) (H : Hp) (x y : V) (u v : Value) (Q : VK), Inv X pins σ H s → RelV x u → RelV y v → rd x y H Q → wpAny (model X.prog X.w) X.A (inplaceOp op u v) (EP X pins σ Q) X.xe s
/-- e.f op= value -/
def sFldAug (K : PySem.W.Frag) (ta tv : TE) (rd : V → V → Hp → VK → Prop) (f : Str) : TS := fun D σ H => ta σ H fun x H1 => ∃ a C dx fs v, x = .ref a ∧ H1 a = some (.ins C dx fs) ∧ Cls K C ∧ NoAttr K C f ∧ fs.lookup f = some v ∧
  tv σ H1 fun y H2 => rd v y H2 fun z H3 => ∃ dx' fs', H3 a = some (.ins C dx' fs') ∧ fs'.length < 1000 ∧ D.nx σ (upd H3 a (.ins C dx' (putF f z fs')))

section
variable {X : Cx} {o e value : Expr} {f : Str} {pos pos' tpos : Pos} {ta tv : TE}
def rAdd : V → V → Hp → VK → Prop := fun x y H Q => ∃ i j, x = .int i ∧ y = .int j ∧ Q (.int (i + j)) H
def rSub : V → V → Hp → VK → Prop := fun x y H Q => ∃ i j, x = .int i ∧ y = .int j ∧ Q (.int (i - j)) H

end

/-! ### isinstance -/
section
variable {X : Cx} {pins : List (Addr × Obj)} {σ : St} {H : Hp} {s : Shared} {A : Around} {E : Value → Shared → Prop} {Q : Value → Shared → Prop} {c : Value} {b : Bool}
/-- the type of a value, as the fragment's deciders take it; for an instance its class -/
inductive TyOf (K : PySem.W.Frag) (H : Hp) : V → Value → Prop where
  | non : TyOf K H .non (.type "NoneType")
  | bl (x : Bool) : TyOf K H (.bl x) (.type "bool")
  | int (i : Int) : TyOf K H (.int i) (.type "int")
  | str (x : Str) : TyOf K H (.str x) (.type "str")
  | flt (x : UInt64) : TyOf K H (.flt x) (.type "float")
  | lst {a : Addr} {xs : List V} (e : H a = some (.lst xs)) : TyOf K H (.ref a) (.type "list")
  | frz {a : Addr} {o : Obj} {xs : List V} (e : H a = some (.frz o (.lst xs))) : TyOf K H (.ref a) (.type "list")
  | tup {a : Addr} {xs : List V} (e : H a = some (.tup xs)) : TyOf K H (.ref a) (.type "tuple")
  | dK {a : Addr} {kvs : List (Key × V)} (e : H a = some (.dK kvs)) : TyOf K H (.ref a) (.type "dict")
  | dT {a : Addr} {kvs : List (List Key × V)} (e : H a = some (.dT kvs)) : TyOf K H (.ref a) (.type "dict")
  | ins {a C dx : Addr} {fs : List (Str × V)} (e : H a = some (.ins C dx fs)) (cl : Cls K C) (ha : PySem.W.findIn K (.ref C) "__class__" = some (some (.builtin "object.__class__")))
      (hn : PySem.W.specialIn K (.builtin "object.__class__") "__get__" = some (some (.builtin "getset_descriptor.__get__"))) (htk : PySem.W.takesIn K (.builtin "object.__class__") = some true)
      (hm : PySem.W.mroIn K C (.type "object") = some true) : TyOf K H (.ref a) (.ref C)
end
end L2

namespace L2
open PySem PySem.Spec PyProof.Rows

/-! ### room -/
structure Room (k : Nat) (A : Around) : Prop where
  hd : A.handled = none
  dp : A.depth + 3 * k + 5 < recursionLimit
  un : A.units + 16 * k + 200 < cLine
theorem Room.mono {j k : Nat} {A : Around} (r : Room k A) (h : j ≤ k) : Room j A := ⟨r.hd, by have := r.dp; omega, by have := r.un; omega⟩
theorem Room.deeper {k : Nat} {A : Around} (r : Room (k + 1) A) (env : Env) : Room k (A.deeper env) :=
  ⟨r.hd, by have := r.dp; show A.depth + 1 + 3 * k + 5 < _; omega, by have := r.un; show A.units + 3 + 16 * k + 200 < _; omega⟩
theorem Room.depth {k : Nat} {A : Around} (r : Room k A) : A.depth < recursionLimit := by have := r.dp; omega
theorem Room.units {k : Nat} {A : Around} (r : Room k A) : A.units + 64 < cLine := by have := r.un; omega

/-! ### argument lists and displays -/
def tNil : TA := fun _ H Q => Q [] H
def tCons (ta : TE) (tr : TA) : TA := fun σ H Q => ta σ H fun x H1 => tr σ H1 fun xs H2 => Q (x :: xs) H2
section
variable {X : Cx} {e : Expr} {es : List Expr} {te : TE} {t : TA} {pos : Pos}
theorem pa_nil : PA X [] tNil := fun _ _ _ _ H Q I h => Calls.spliced_nil ⟨[], H, I, .nil, h⟩
theorem pa_cons (ha : PE X e te) (hr : PA X es t) (hs : starEach (e :: es) X.env = (false, eval e X.env) :: starEach es X.env := by rfl) : PA X (e :: es) (tCons te t) := by
  intro pos pins s σ H Q I h
  rw [hs]
  show wpAny _ _ (spliced ((false, eval e X.env) :: backTo pos (starEach es X.env))) _ _ s
  refine Calls.spliced_cons (thn (ha pins s σ H _ I h) fun u s1 ⟨x, H1, I1, r1, q1⟩ => ?_)
  exact thn (hr pos pins s1 σ H1 _ I1 q1) fun us s2 ⟨xs, H2, I2, r2, q2⟩ => ⟨x :: xs, H2, I2, .cons r1 r2, q2⟩

/-- a tuple, a list of written items -/
def tTup (t : TA) : TE := fun σ H Q => t σ H fun xs H1 => xs.length ≤ sizeLine ∧ ∀ p, H1 p = none → Q (.ref p) (upd H1 p (.tup xs))
def tLst (t : TA) : TE := fun σ H Q => t σ H fun xs H1 => xs.length ≤ sizeLine ∧ ∀ p, H1 p = none → Q (.ref p) (upd H1 p (.lst xs))
theorem pe_lst (h : PA X es t) : PE X (.List es pos) (tLst t) := by
  intro pins s σ H Q I hq
  refine wpAny_List_spliced (thn (h pos pins s σ H _ I hq) fun us s1 ⟨xs, H1, I1, r, z, q⟩ => ⟨by rw [← r.length]; exact z, ?_⟩)
  have hf : H1 s1.heap.objs.size = none := I1.hok.fresh (Nat.le_refl _)
  refine ⟨.ref s1.heap.objs.size, upd H1 s1.heap.objs.size (.lst xs), I1.laid (t' := s1.toks) (fun b u e => Heap.get?_push_of_some _ e) (Nat.le_refl _) ?_, rfl, q _ hf⟩
  exact ⟨z, us, 0, r, Heap.get?_push_size _ rfl⟩
end

/-! ### what a def promises -/
/-- a def's promise: the bound arguments in the parameters' order, the heap, the wanted end, the wanted exception -/
abbrev Sp := List V → Hp → VK → XK → Prop
/-- how an exception lies behind a call (file 08 gives it): the callers' frames, abstract heap and state ahead of the call, the wish, the exception, the state -/
abbrev CXT := List Env → Hp → Shared → XK → Value → Shared → Prop

/-- the state at a call -/
structure Env0 (P : Program) (w : World) (K : PySem.W.Frag) (mg : Str → Option Value) (base : Heap) (A : Around) (outer : List Env) (s : Shared) (H : Hp) : Prop where
  frames : A.frames = some outer
  mod : Mod K mg base
  bs : ∀ b o, base.get? b = some o → s.heap.get? b = some o ∧ H b = none
  bsz : base.objs.size ≤ s.heap.objs.size
  funs : s.heap.FunFrames base outer
  frf : ∀ b ∈ frs outer, H b = none
  hok : HOk P w H s.heap
  bare : AllBare s.gens
/-- a call's end -/
def CE (outer : List Env) (P : Program) (w : World) (H : Hp) (s : Shared) (Q : VK) (u : Value) (s' : Shared) : Prop :=
  ∃ v H', s'.os = s.os ∧ AllBare s'.gens ∧ Un (frs outer) [] H H' s.heap s'.heap ∧ HOk P w H' s'.heap ∧ RelV v u ∧ Q v H'
def CR (CX : CXT) (outer : List Env) (P : Program) (w : World) (H : Hp) (s : Shared) (Q : VK) (E : XK) (r : Result) (s' : Shared) : Prop :=
  match r with
  | .ok (.ret u) => CE outer P w H s Q u s'
  | .ok _ => False
  | .error e => CX outer H s E e s'
structure FnOk (P : Program) (w : World) (K : PySem.W.Frag) (mg : Str → Option Value) (base : Heap) (CX : CXT) (k : Nat) (f : Addr) (fd : FuncData) (ps : List Str) (sp : Sp) : Prop where
  len : ∀ vs H Q E, sp vs H Q E → vs.length = ps.length
  run : ∀ (A : Around) (outer : List Env) (s : Shared) (H : Hp) (args : Args) (us : List Value) (vs : List V) (Q : VK) (E : XK), Room k A → Env0 P w K mg base A outer s H → BindsTo s fd args (ps.zip us) → Vals vs us → sp vs H Q E →
    codeAny (model P w) A (.call (.ref f) args) (CR CX outer P w H s Q E) s
theorem FnOk.mono {P : Program} {w : World} {K : PySem.W.Frag} {mg : Str → Option Value} {base : Heap} {CX : CXT} {j k : Nat} {f : Addr} {fd : FuncData} {ps : List Str} {sp : Sp} (F : FnOk P w K mg base CX j f fd ps sp) (h : j ≤ k) :
    FnOk P w K mg base CX k f fd ps sp := ⟨F.len, fun A outer s H args us vs Q E hr => F.run A outer s H args us vs Q E (hr.mono h)⟩


section
variable {X : Cx} {pins : List (Addr × Obj)} {σ : St} {H : Hp} {s s' : Shared}
/-- from a body: what a callee wants -/
theorem Inv.env0 (I : Inv X pins σ H s) : Env0 X.prog X.w X.K X.mg X.base X.A X.stack s H :=
  ⟨I.ok.frames, I.ok.mod, I.bs, Nat.le_trans I.ok.bsz I.sz, I.stack, I.stkFree, I.hok, I.bare⟩
/-- behind a call -/
theorem Inv.after {Q : VK} {u : Value} (I : Inv X pins σ H s) (h : CE X.stack X.prog X.w H s Q u s') : EP X pins σ Q u s' := by
  obtain ⟨v, H', os, bare, un, hok, r, q⟩ := h
  obtain ⟨hh, g, d, t, os'⟩ := s'
  obtain rfl : os' = s.os := os
  exact ⟨v, H', I.call (h' := hh) (g' := g) (d' := d) (t' := t) (ch := []) un hok bare (fun b z => absurd z (by simp)), r, q⟩
end

/-! ### calls -/
/-- f(..): the written arguments, then the defaults dvs; E: what is wanted of an exception -/
def tCall (sp : Sp) (dvs : List V) (E : XK) (t : TA) : TE := fun σ H Q => t σ H fun vs H1 => sp (vs ++ dvs) H1 Q E
/-- o.m(..) of an instance of the class at C -/
def tMeth (C : Addr) (m : Str) (sp : Sp) (dvs : List V) (E : XK) (ta : TE) (t : TA) : TE := fun σ H Q => ta σ H fun x H1 => ∃ a dx fs, x = .ref a ∧ H1 a = some (.ins C dx fs) ∧ fs.lookup m = none ∧
  t σ H1 fun vs H2 => sp (x :: (vs ++ dvs)) H2 Q E
/-- C(..): a new instance and its dict, then __init__ -/
def tMake (C : Addr) (sp : Sp) (dvs : List V) (E : XK) (t : TA) : TE := fun σ H Q => t σ H fun vs H1 => ∀ x dx, H1 x = none → H1 dx = none → dx ≠ x →
  sp (.ref x :: (vs ++ dvs)) (upd (upd H1 dx (.own x)) x (.ins C dx [])) (fun v H2 => v = .non ∧ Q (.ref x) H2) E

/-- how the parameters are bound: us the positional arguments, kw the keywords' values by name, ds the defaults that fill up -/
def Binds (K : PySem.W.Frag) (fd : FuncData) (ps : List Str) (ds : List Value) : Prop :=
  ∀ (s : Shared) (us : List Value), K.In s.heap → (us ++ ds).length = ps.length → BindsTo s fd ⟨us, []⟩ (ps.zip (us ++ ds))
/-- every parameter is given -/
theorem Binds.all {K : PySem.W.Frag} {fd : FuncData} {ps : List Str} (h : ∀ us : List Value, us.length = ps.length → bindArgs fd ⟨us, []⟩ = pure (ps.zip us)) : Binds K fd ps [] := fun s us _ hl => by
  rw [List.append_nil] at hl ⊢
  exact .of_eq (h us hl)

/-- an exception of a callee reaches what this body wants of exceptions -/
def Passes (CX : CXT) (X : Cx) (E : XK) : Prop := ∀ (pins : List (Addr × Obj)) (σ : St) (H : Hp) (s : Shared) (e : Value) (s' : Shared), Inv X pins σ H s → CX X.stack H s E e s' → X.xe e s'

section
variable {X : Cx} {CX : CXT} {k : Nat} {f C : Addr} {fd : FuncData} {ps : List Str} {sp : Sp} {dvs : List V} {ds : List Value} {E : XK} {x m : Str} {p pos apos : Pos} {e o : Expr} {es : List Expr} {ta : TE} {t : TA}

/-- the callee runs -/
theorem run_fn {pins : List (Addr × Obj)} {σ : St} {H : Hp} {s : Shared} {Q : VK} {us : List Value} {vs : List V} (F : FnOk X.prog X.w X.K X.mg X.base CX k f fd ps sp) (hr : Room k X.A) (hb : Binds X.K fd ps ds) (hd : Vals dvs ds) (hx : Passes CX X E)
    (I : Inv X pins σ H s) (r : Vals vs us) (h : sp (vs ++ dvs) H Q E) : wpAny (model X.prog X.w) X.A (call (.ref f) us) (EP X pins σ Q) X.xe s := by
  have r2 : Vals (vs ++ dvs) (us ++ ds) := r.append hd
  have hl : (us ++ ds).length = ps.length := by rw [← r2.length]; exact F.len _ _ _ _ h
  refine wpAny_call (codeAny_mono (F.run X.A X.stack s H ⟨us, []⟩ (us ++ ds) (vs ++ dvs) Q E hr I.env0 (hb s us I.kIn hl) r2 h) fun r s' hq => ?_)
  cases r with
  | error e => exact hx pins σ H s e s' I hq
  | ok fl =>
    cases fl with
    | ret u => exact I.after hq
    | next => exact False.elim hq
    | brk => exact False.elim hq
    | cont => exact False.elim hq

theorem pe_call (F : FnOk X.prog X.w X.K X.mg X.base CX k f fd ps sp) (hr : Room k X.A) (hg : Gl X x) (hm : X.mg x = some (.ref f)) (hk : PySem.W.keepIn X.K (.ref f) = true) (hb : Binds X.K fd ps ds) (hd : Vals dvs ds) (hx : Passes CX X E)
    (ha : PA X (e :: es) t) (hdb : (x == ("__debug__" : Str)) = false := by decide) (he : starEach (e :: es) X.env = (false, eval e X.env) :: starEach es X.env := by rfl) (hpl : (backTo pos (starEach es X.env)).any (·.1) = false := by rfl) :
    PE X (.Call (.Name x p) (e :: es) [] pos) (tCall sp dvs E t) := by
  intro pins s σ H Q I h
  refine wpAny_Call_Name_kw (ld_glob I hg hm ?_ hdb)
  refine PySem.W.callWith_K (h₀ := X.base) I.ok.mod.kin hk (thn (ha pos pins s σ H _ I h) fun us s1 ⟨vs, H1, I1, r, q⟩ => ⟨I1.kIn, ?_⟩) he hpl
  exact run_fn F hr hb hd hx I1 r q


/-- what a class must have to be made -/
structure Mk (K : PySem.W.Frag) (C f : Addr) : Prop where
  makes : PySem.W.makesIn K C = true
  init : PySem.W.findIn K (.ref C) "__init__" = some (some (.ref f))
  fn : PySem.W.isFn K (.ref f) = true
  kp : PySem.W.keepIn K (.ref C) = true

end

/-! ### keywords -/
/-- the values of the keywords, from the left -/
def PK (X : Cx) (kws : List Keyword) (t : TA) : Prop :=
  ∀ (pos : Pos) (pins : List (Addr × Obj)) (s : Shared) (σ : St) (H : Hp) (Q : List V → Hp → Prop), Inv X pins σ H s → t σ H Q → wpAny (model X.prog X.w) X.A (evalAll ((backToKw pos (keywordEach kws X.env)).map (·.2))) (AP X pins σ Q) X.xe s
section
variable {X : Cx} {CX : CXT} {k : Nat} {f C : Addr} {fd : FuncData} {ps ks : List Str} {sp : Sp} {E : XK} {x m : Str} {p pos apos kpos : Pos} {e o : Expr} {es : List Expr} {kws : List Keyword} {te ta : TE} {t tk : TA} {nm : Option Str}

/-- how a call with keywords binds: g puts the positional values us and the keywords' values ws (names ks) in the parameters' order, defaults among them -/
structure KBinds (K : PySem.W.Frag) (fd : FuncData) (ps ks : List Str) (g : List Value → List Value → List Value) (gV : List V → List V → List V) : Prop where
  to : ∀ (s : Shared) (us ws : List Value), K.In s.heap → (g us ws).length = ps.length → BindsTo s fd ⟨us, ks.zip ws⟩ (ps.zip (g us ws))
  rel : ∀ {vs : List V} {us : List Value} {zs : List V} {ws : List Value}, Vals vs us → Vals zs ws → Vals (gV vs zs) (g us ws)
def tCallK (sp : Sp) (gV : List V → List V → List V) (E : XK) (t tk : TA) : TE := fun σ H Q => t σ H fun vs H1 => tk σ H1 fun zs H2 => sp (gV vs zs) H2 Q E
variable {g : List Value → List Value → List Value} {gV : List V → List V → List V}
end

/-! ### a def's body keeps its promise -/
/-- names: the parameters first -/
structure FnScope (N P : List Str) (sc : Scope) : Prop where
  kind : sc.kind = .function
  co : sc.isCoroutine = false
  gen : sc.isGenerator = false
  nd : N.Nodup
  pre : N.take P.length = P
  par : ∀ x ∈ P, sc.names.lookup x = some .local ∨ sc.names.lookup x = some .cell
  nofree : ∀ y ∈ sc.names, y.2 ≠ .free

theorem bindL_out {kindOf : Str → Option NameKind} {x : Str} : ∀ {binds : List (Str × Value)} {m : Str → Option Value}, (∀ v, (x, v) ∉ binds) → bindL kindOf binds m x = m x
  | [], _, _ => rfl
  | (n, v) :: r, m, h => by
    unfold bindL
    rw [bindL_out fun w hw => h w (List.mem_cons_of_mem _ hw)]
    split
    · have : x ≠ n := by rintro rfl; exact h v List.mem_cons_self
      simp [this]
    · rfl
theorem bindC_out {kindOf : Str → Option NameKind} {x : Str} : ∀ {binds : List (Str × Value)} {m : Str → Option Value}, (∀ v, (x, v) ∉ binds) → bindC kindOf binds m x = m x
  | [], _, _ => rfl
  | (n, v) :: r, m, h => by
    unfold bindC
    rw [bindC_out fun w hw => h w (List.mem_cons_of_mem _ hw)]
    split
    · rfl
    · have : x ≠ n := by rintro rfl; exact h v List.mem_cons_self
      simp [this]
theorem bindL_get {kindOf : Str → Option NameKind} {x : Str} {v : Value} : ∀ {P : List Str} {vs : List Value} {i : Nat} {m : Str → Option Value}, P.Nodup → P[i]? = some x → vs[i]? = some v → kindOf x = some .local →
    bindL kindOf (P.zip vs) m x = some v
  | [], _, _, _, _, h, _, _ => by simp at h
  | _ :: _, [], _, _, _, _, h, _ => by simp at h
  | p :: P, w :: vs, 0, m, nd, h1, h2, hk => by
    simp at h1 h2; subst h1; subst h2
    show bindL kindOf ((p, w) :: P.zip vs) m p = _
    unfold bindL
    rw [bindL_out fun v hv => (List.nodup_cons.mp nd).1 (List.of_mem_zip hv).1, if_pos hk]
    simp
  | p :: P, w :: vs, i + 1, m, nd, h1, h2, hk => by
    show bindL kindOf ((p, w) :: P.zip vs) m x = _
    unfold bindL
    exact bindL_get (i := i) (List.nodup_cons.mp nd).2 (by simpa using h1) (by simpa using h2) hk
theorem bindC_get {kindOf : Str → Option NameKind} {x : Str} {v : Value} : ∀ {P : List Str} {vs : List Value} {i : Nat} {m : Str → Option Value}, P.Nodup → P[i]? = some x → vs[i]? = some v → kindOf x ≠ some .local →
    bindC kindOf (P.zip vs) m x = some v
  | [], _, _, _, _, h, _, _ => by simp at h
  | _ :: _, [], _, _, _, _, h, _ => by simp at h
  | p :: P, w :: vs, 0, m, nd, h1, h2, hk => by
    simp at h1 h2; subst h1; subst h2
    show bindC kindOf ((p, w) :: P.zip vs) m p = _
    unfold bindC
    rw [bindC_out fun v hv => (List.nodup_cons.mp nd).1 (List.of_mem_zip hv).1, if_neg hk]
    simp
  | p :: P, w :: vs, i + 1, m, nd, h1, h2, hk => by
    show bindC kindOf ((p, w) :: P.zip vs) m x = _
    unfold bindC
    exact bindC_get (i := i) (List.nodup_cons.mp nd).2 (by simpa using h1) (by simpa using h2) hk

/-- the names' values at the entry -/
def start (N : List Str) (vs : List V) : St := vs.map some ++ List.replicate (N.length - vs.length) none

/-- the context of a def's body, at its entry; an exception leaves the frame, then lies as CX says -/
def cxOf (CX : CXT) (P : Program) (w : World) (K : PySem.W.Frag) (mg : Str → Option Value) (base : Heap) (N : List Str) (qual : Str) (scope : Scope) (f : Addr) (cd : Value) (A : Around) (outer : List Env) (s : Shared) (H : Hp) (E : XK) : Cx where
  prog := P
  w := w
  K := K
  mg := mg
  base := base
  A := A.deeper (envOfC qual scope s.heap.objs.size f cd)
  N := N
  s₀ := s
  H₀ := H
  env := envOfC qual scope s.heap.objs.size f cd
  outer := outer
  stack := envOfC qual scope s.heap.objs.size f cd :: outer
  ex := []
  calm := true
  fn := fun _ => true
  pn := []
  xe := fun e s' => wpAny (model P w) (A.deeper (envOfC qual scope s.heap.objs.size f cd)) (leaving (envOfC qual scope s.heap.objs.size f cd) e) (fun _ s'' => CX outer H s E e s'') (fun e' s'' => CX outer H s E e' s'') s'

theorem cell_has {sc : Scope} {n : Nat} {x : Str} (h : sc.names.lookup x = some .cell) : ∃ c, (cellsFrom n sc.names []).lookup x = some c := by
  have q := PySem.W.cellsFrom_some sc.names n [] (.inl h)
  exact Option.isSome_iff_exists.mp q

theorem inv_start {CX : CXT} {P : Program} {w : World} {K : PySem.W.Frag} {mg : Str → Option Value} {base : Heap} {N ps : List Str} {qual : Str} {scope : Scope} {f : Addr} {cd : Value} {A : Around} {outer : List Env} {s s1 : Shared} {H : Hp} {E : XK} {us : List Value} {vs : List V}
    (S : FnScope N ps scope) (hd : A.handled = none) (e0 : Env0 P w K mg base A outer s H) (hl : vs.length = ps.length) (r : Vals vs us)
    (x : InCallC s s.heap.objs.size (bindL (envOfC qual scope s.heap.objs.size f cd).kindOf (ps.zip us) fun _ => none) (cellsFrom (s.heap.objs.size + 1) scope.names []) (bindC (envOfC qual scope s.heap.objs.size f cd).kindOf (ps.zip us) fun _ => none) s1) :
    Inv (cxOf CX P w K mg base N qual scope f cd A outer s H E) [] (start N vs) H s1 := by
  have hpl : ps.length ≤ N.length := by have := congrArg List.length S.pre; rw [List.length_take] at this; omega
  obtain ⟨h1, tk, rfl, hk⟩ := x.done
  have noA : ∀ b : Addr, b ∉ (cxOf CX P w K mg base N qual scope f cd A outer s H E).ex := fun b z => absurd (show b ∈ ([] : List Addr) from z) (by simp)
  refine ⟨⟨e0.mod, S.kind, rfl, rfl, Nat.le_refl _, fun y z c h1 h2 => ?_, fun y hy => ?_, fun y c _ h => ?_, fun _ => hd, Around.frames_deeper e0.frames, .inr ⟨rfl, rfl⟩, fun b z => absurd z (noA b), e0.bs, e0.bsz, fun b _ _ => noA b, fun b z => absurd z (noA b), e0.funs, e0.frf⟩,
    rfl, e0.bare, Un.kept hk, ⟨_, x.toInCall.ns, fun i y v h1 h2 h3 => ?_⟩, fun y c h => ⟨_, x.cell y c h⟩, e0.hok.fresh (Nat.le_refl _), fun y c h => ?_, fun p hp => absurd (show p ∈ ([] : List (Addr × Obj)) from hp) (by simp), e0.hok.kept hk, ?_⟩
  · exact name_of_addr x.apart (PySem.mem_of_lookup h1) (PySem.mem_of_lookup h2)
  · have hy : scope.names.lookup y = some .cell ∨ scope.names.lookup y = some .free := hy
    rcases hy with hy | hy
    · exact cell_has hy
    · exact absurd rfl (S.nofree _ (PySem.mem_of_lookup hy))
  · exact Nat.le_of_lt (x.above y c (PySem.mem_of_lookup h))
  · have hi : i < vs.length := by
      unfold start at h2
      by_cases hi : i < vs.length
      · exact hi
      · rw [List.getElem?_append_right (by simpa using hi)] at h2
        rw [List.getElem?_replicate] at h2
        split at h2 <;> cases h2
    have ha : vs[i]? = some v := by
      unfold start at h2
      rw [List.getElem?_append_left (by simpa using hi), List.getElem?_map] at h2
      cases e : vs[i]? with
      | none => rw [e] at h2; cases h2
      | some a => rw [e] at h2; cases h2; rfl
    obtain ⟨u, hu, rv⟩ := r.get ha
    have hp : ps[i]? = some y := by
      rw [← S.pre, List.getElem?_take_of_lt (by omega)]; exact h1
    have ndP : ps.Nodup := by rw [← S.pre]; exact S.nd.sublist (List.take_sublist _ _)
    refine ⟨u, rv, ?_⟩
    rcases S.par y (List.mem_of_getElem? hp) with k | k
    · exact .inl ⟨k, bindL_get ndP hp hu k⟩
    · obtain ⟨c, e⟩ := cell_has (n := s.heap.objs.size + 1) k
      refine .inr ⟨.inl k, c, e, ?_⟩
      have q := x.cell y c e
      rw [bindC_get ndP hp hu (by show scope.names.lookup y ≠ _; rw [k]; decide)] at q
      exact q
  · exact e0.hok.fresh (Nat.le_of_lt (x.above y c (PySem.mem_of_lookup h)))
  · unfold start
    show _ = N.length
    rw [List.length_append, List.length_map, List.length_replicate]
    omega

/-- THE RULE: a def (or a method) of the text, by its body. The body's reading t is chosen for each entry; it is run at the parameters' values -/
theorem fn_of {CX : CXT} {P : Program} {w : World} {K : PySem.W.Frag} {mg : Str → Option Value} {base : Heap} {k : Nat} {f : Addr} {name qual : Str} {params : Arguments} {body : List Stmt} {scope : Scope} {dV kV doc pm cdv ct oc : Value} {an od : Option Addr}
    {osl : Array (Option Value)} {N ps : List Str} {sp : Sp} (lk : K.lookup f = some ⟨oc, od, .func (PySem.W.fnOf name qual params body scope dV kV doc pm an cdv ct), osl⟩) (hcd : PySem.W.codeIn K cdv qual = true) (S : FnScope N ps scope)
    (len : ∀ vs H Q E, sp vs H Q E → vs.length = ps.length)
    (hbody : ∀ (A : Around) (outer : List Env) (s : Shared) (H : Hp) (vs : List V) (Q : VK) (E : XK), Room k (A.deeper (envOfC qual scope s.heap.objs.size f cdv)) → sp vs H Q E →
      ∃ t, PSs (cxOf CX P w K mg base N qual scope f cdv A outer s H E) body t ∧ t { nx := fun _ H' => Q .non H', rt := Q } (start N vs) H) :
    FnOk P w K mg base CX (k + 1) f (PySem.W.fnOf name qual params body scope dV kV doc pm an cdv ct) ps sp := by
  refine ⟨len, fun A outer s H args us vs Q E hr e0 hb r hsp => ?_⟩
  have hl := len _ _ _ _ hsp
  have KX : K.In s.heap := e0.mod.kin.keeps fun b o e => (e0.bs b o e).1
  have lim : s.heap.NoLimit := e0.mod.nolimit.keeps fun b o e => (e0.bs b o e).1
  have hkind : ∀ y ∈ ps.zip us, scope.names.lookup y.1 = some .local ∨ (scope.names.lookup y.1 = some .cell ∧ ((cellsFrom (s.heap.objs.size + 1) scope.names []).lookup y.1).isSome = true) := fun ⟨n, v⟩ hy => by
    rcases S.par n (List.of_mem_zip hy).1 with q | q
    · exact .inl q
    · exact .inr ⟨q, PySem.W.cellsFrom_some _ _ _ (.inl q)⟩
  refine codeAny_call_function hr.depth (KX _ _ lk) rfl S.co S.gen rfl (PySem.W.codeRec_of KX hcd) (hb _ _ _ _ ?_)
  refine wpAny_newFunctionEnv_cells S.kind hkind fun env he s1 x => ?_
  subst he
  refine ⟨lim.keeps x.toInCall.keep, codeAny_func ?_⟩
  obtain ⟨t, ht, hq⟩ := hbody A outer s H vs Q E (hr.deeper _) hsp
  have I : Inv (cxOf CX P w K mg base N qual scope f cdv A outer s H E) [] (start N vs) H s1 := inv_start S hr.hd e0 hl r x
  refine wpAny_mono (ht [] s1 (start N vs) H _ I hq) (fun fl s' hs => ?_) fun e s' hs => hs
  have fin : ∀ {σ' : St} {H' : Hp} {v : V} {u : Value}, Inv (cxOf CX P w K mg base N qual scope f cdv A outer s H E) [] σ' H' s' → RelV v u → Q v H' → CE outer P w H s Q u s' :=
    fun {σ' H' v u} J rv q => ⟨v, H', J.os, J.bare, J.base, J.hok, rv, q⟩
  cases fl with
  | ret u =>
    obtain ⟨v, σ', H', J, rv, q⟩ := hs
    exact fin J rv q
  | next =>
    obtain ⟨σ', H', J, q⟩ := hs
    exact fin (v := V.non) (u := Value.none) J rfl q
  | brk =>
    obtain ⟨_, _, _, q⟩ := hs
    exact False.elim q
  | cont =>
    obtain ⟨_, _, _, q⟩ := hs
    exact False.elim q
end L2

namespace L2
open PySem PySem.Spec PyProof.Rows
section
variable {X : Cx} {x : Str} {p pos : Pos} {e : Expr} {es : List Expr} {t : TA} {id T : String} {r : List V → Hp → VK → Prop}

def tCB (r : List V → Hp → VK → Prop) (t : TA) : TE := fun σ H Q => t σ H fun vs H1 => r vs H1 Q
/-- f(e, ..), f a built-in function -/
theorem pe_callB (hc : CallR X (.builtin id) r) (hg : Gl X x) (hm : X.mg x = none) (hv : bootBuiltins x = some (.builtin id)) (ha : PA X (e :: es) t) (hn : x ≠ "__name__" := by decide) (hdb : (x == ("__debug__" : Str)) = false := by decide)
    (he : starEach (e :: es) X.env = (false, eval e X.env) :: starEach es X.env := by rfl) (hpl : (backTo pos (starEach es X.env)).any (·.1) = false := by rfl) : PE X (.Call (.Name x p) (e :: es) [] pos) (tCB r t) := by
  intro pins s σ H Q I h
  refine wpAny_Call_Name_kw (ld_blt I hg hm hv ?_ hn hdb)
  exact PyProof.Rows.callWith_builtin1 (thn (ha pos pins s σ H _ I h) fun us s1 ⟨vs, H1, I1, r1, q1⟩ => hc pins s1 σ H1 vs us Q I1 r1 q1) he hpl
/-- T(e, ..), T a built-in type -/
theorem pe_callTy (hc : CallR X (.type T) r) (hg : Gl X x) (hm : X.mg x = none) (hv : bootBuiltins x = some (.type T)) (ha : PA X (e :: es) t) (hn : x ≠ "__name__" := by decide) (hdb : (x == ("__debug__" : Str)) = false := by decide)
    (he : starEach (e :: es) X.env = (false, eval e X.env) :: starEach es X.env := by rfl) (hpl : (backTo pos (starEach es X.env)).any (·.1) = false := by rfl) : PE X (.Call (.Name x p) (e :: es) [] pos) (tCB r t) := by
  intro pins s σ H Q I h
  refine wpAny_Call_Name_kw (ld_blt I hg hm hv ?_ hn hdb)
  exact PyProof.Rows.callWith_type1 (thn (ha pos pins s σ H _ I h) fun us s1 ⟨vs, H1, I1, r1, q1⟩ => hc pins s1 σ H1 vs us Q I1 r1 q1) he hpl
end
end L2

namespace HT
open PySem PyProof.Rows

/-- t < u of tuples of ints -/
def lexLt : List Int → List Int → Bool
  | [], [] => false
  | [], _ :: _ => true
  | _ :: _, [] => false
  | x :: xs, y :: ys => if x = y then lexLt xs ys else decide (x < y)


section
open PySem.SeqAt
open PySem.AutoSeq1 (wpAny_loadPart')
open PySem.MeetsSeq PySem.MeetsSeq2 PySem.MeetsSeq3

end

section
variable {prog : Program} {w : World} {A : Around} {E : Value → Shared → Prop} {s : Shared}



/-! ### t[a:b], not the whole -/
/-- a slice's bound as a place among n (d where it is left out) -/
def sIx (n d : Nat) : Option Int → Nat
  | none => d
  | some v => if v < 0 then (v + (n : Int)).toNat else min v.toNat n

end
end HT

namespace L2
open PySem PySem.Spec PyProof.Rows

/-! ### the parts of a slice -/
abbrev TO := St → Hp → (Option Int → Hp → Prop) → Prop
/-- a slice's part (left out, or an int) -/
def PO (X : Cx) (e : Option Expr) (t : TO) : Prop :=
  ∀ (pins : List (Addr × Obj)) (s : Shared) (σ : St) (H : Hp) (Q : Option Int → Hp → Prop), Inv X pins σ H s → t σ H Q →
    wpAny (model X.prog X.w) X.A (evalPart e X.env) (fun u s' => ∃ o H', Inv X pins σ H' s' ∧ IsPart u o ∧ Q o H') X.xe s
def tNoPart : TO := fun _ H Q => Q none H
def tPart (t : TE) : TO := fun σ H Q => t σ H fun x H1 => ∃ i, x = .int i ∧ Q (some i) H1


section
variable {X : Cx} {e : Expr} {te : TE} {lo hi : Option Expr} {tl th : TO} {pos p2 : Pos}

theorem po_none : PO X none tNoPart := by
  intro pins s σ H Q I h
  rw [evalPart_none]
  exact wpAny_pure ⟨none, H, I, .none, h⟩
theorem po_some (h : PE X e te) : PO X (some e) (tPart te) := by
  intro pins s σ H Q I hw
  rw [evalPart_some]
  refine thn (h pins s σ H _ I hw) fun u s1 ⟨x, H1, I1, r1, q1⟩ => ?_
  obtain ⟨i, rfl, q⟩ := q1
  obtain ⟨t, rfl⟩ := r1
  exact ⟨some i, H1, I1, .int i t, q⟩

/-- what a slice of a value is, by values: the slice object stands at sl -/
def SlR (X : Cx) (r : V → Option Int → Option Int → Hp → VK → Prop) : Prop :=
  ∀ (pins : List (Addr × Obj)) (s : Shared) (σ : St) (H : Hp) (x : V) (v vl vu : Value) (lo hi : Option Int) (sl : Addr) (Q : VK), Inv X pins σ H s → RelV x v → s.heap.IsSliceOf sl vl vu .none → IsPart vl lo → IsPart vu hi → r x lo hi H Q →
    ∃ T id, typeLookup (.type T) "__getitem__" = pure (some (.builtin id)) ∧ s.TypeIs v T ∧ wpAny (model X.prog X.w) X.A (getItem v (.ref sl)) (EP X pins σ Q) X.xe s
def tSl (r : V → Option Int → Option Int → Hp → VK → Prop) (te : TE) (tl th : TO) : TE := fun σ H Q => te σ H fun x H1 => tl σ H1 fun l H2 => th σ H2 fun u H3 => r x l u H3 Q
/-- a[lo:hi], any a -/
theorem pe_slice {r : V → Option Int → Option Int → Hp → VK → Prop} (hr : SlR X r) (he : PE X e te) (hl : PO X lo tl) (hu : PO X hi th) : PE X (.Subscript e (.Slice lo hi none p2) pos) (tSl r te tl th) := by
  intro pins s σ H Q I h
  refine Subscript_ (thn (he pins s σ H _ I h) fun v s1 ⟨x, H1, I1, r1, q1⟩ => ?_)
  refine wpAny_Slice (thn (hl pins s1 σ H1 _ I1 q1) fun vl s2 ⟨l, H2, I2, pl, q2⟩ => thn (hu pins s2 σ H2 _ I2 q2) fun vu s3 ⟨u, H3, I3, pu, q3⟩ => ?_)
  rw [evalPart_none]
  refine wpAny_pure ?_
  have I4 : Inv X pins σ H3 { s3 with heap := s3.heap.push { cls := .type "slice", data := .fields #[vl, vu, .none] } } := I3.kept (t' := s3.toks) fun b ob q => Heap.get?_push_of_some _ q
  obtain ⟨T, id, hT, ht, hg⟩ := hr pins { s3 with heap := s3.heap.push { cls := .type "slice", data := .fields #[vl, vu, .none] } } σ H3 x v vl vu l u s3.heap.objs.size Q I4 r1 (Heap.IsSliceOf.new ..) pl pu q3
  show wpAny (model X.prog X.w) X.A (subscriptTail e (.Slice lo hi none p2) v (.ref s3.heap.objs.size)) (EP X pins σ Q) X.xe { s3 with heap := s3.heap.push { cls := .type "slice", data := .fields #[vl, vu, .none] } }
  exact tail_any (ops := [.ref s3.heap.objs.size, v]) ht hT hg (by with_unfolding_all rfl)

/-- the items of xs[lo:hi] -/
def cutV (xs : List V) (lo hi : Option Int) : List V := (xs.drop (HT.sIx xs.length 0 lo)).take (HT.sIx xs.length xs.length hi - HT.sIx xs.length 0 lo)
theorem cutV_length (xs : List V) (lo hi : Option Int) : (cutV xs lo hi).length ≤ xs.length := by
  unfold cutV
  rw [List.length_take, List.length_drop]
  omega
/-- t[lo:hi], not the whole of it (the whole would be t itself) -/
def rSlT (K : PySem.W.Frag) : V → Option Int → Option Int → Hp → VK → Prop := fun x lo hi H Q => ∃ a xs, x = .ref a ∧ SqT K H a xs ∧
  ¬ (HT.sIx xs.length 0 lo = 0 ∧ HT.sIx xs.length xs.length hi = xs.length) ∧ ∀ p, H p = none → Q (.ref p) (upd H p (.tup (cutV xs lo hi)))

/-! ### t < u, t + u -/
def rLtT (K : PySem.W.Frag) : R2 := fun x y H Q => ∃ a b ns ms, x = .ref a ∧ y = .ref b ∧ SqT K H a (ns.map V.int) ∧ SqT K H b (ms.map V.int) ∧ Q (.bl (HT.lexLt ns ms)) H
/-- t + u, t not empty: u empty gives t itself -/
def rCatT (K : PySem.W.Frag) : R2 := fun x y H Q => ∃ a b xs ys, x = .ref a ∧ y = .ref b ∧ SqT K H a xs ∧ SqT K H b ys ∧ xs ≠ [] ∧ xs.length + ys.length ≤ sizeLine ∧
  (ys = [] → Q (.ref a) H) ∧ (ys ≠ [] → ∀ p, H p = none → Q (.ref p) (upd H p (.tup (xs ++ ys))))
end
end L2

namespace L2
open PySem PySem.Spec PyProof.Rows

/-! ### places -/
/-- the place that an index of any sign means -/
def ixN (n : Nat) (i : Int) : Option Nat := if 0 ≤ i then (if i < n then some i.toNat else none) else if -(n : Int) ≤ i then some (i + n).toNat else none
def atI {α : Type} (xs : List α) (i : Int) : Option α := (ixN xs.length i).bind fun j => xs[j]?
theorem ixN_seq {n : Nat} {i : Int} {j : Nat} (h : ixN n i = some j) : seqIndex? i n = some j ∧ j < n ∧ -(n : Int) ≤ i ∧ i < n := by
  unfold ixN at h
  by_cases h0 : 0 ≤ i
  · rw [if_pos h0] at h
    by_cases h1 : i < n
    · rw [if_pos h1] at h
      have e : i.toNat = j := Option.some.inj h
      exact ⟨by rw [seqIndex_of h0 h1, e], by omega, by omega, h1⟩
    · rw [if_neg h1] at h; cases h
  · rw [if_neg h0] at h
    by_cases h1 : -(n : Int) ≤ i
    · rw [if_pos h1] at h
      have e : (i + n).toNat = j := Option.some.inj h
      exact ⟨by rw [seqIndex_neg (by omega) h1, e], by omega, h1, by omega⟩
    · rw [if_neg h1] at h; cases h
theorem atI_get {α : Type} {xs : List α} {i : Int} {v : α} (h : atI xs i = some v) : ∃ j, seqIndex? i xs.length = some j ∧ xs[j]? = some v ∧ j < xs.length ∧ -(xs.length : Int) ≤ i ∧ i < xs.length := by
  unfold atI at h
  cases e : ixN xs.length i with
  | none => rw [e] at h; cases h
  | some j =>
    rw [e] at h
    obtain ⟨h1, h2, h3, h4⟩ := ixN_seq e
    exact ⟨j, h1, h, h2, h3, h4⟩
theorem atI_nat {α : Type} {xs : List α} {j : Nat} {v : α} (h : xs[j]? = some v) : atI xs (j : Int) = some v := by
  have hj : j < xs.length := (List.getElem?_eq_some_iff.mp h).1
  have e : ixN xs.length (j : Int) = some j := by
    unfold ixN
    rw [if_pos (by omega), if_pos (by omega)]; simp
  unfold atI; rw [e]; exact h

/-! ### what may be subscripted -/
/-- what stands as an index of a plain subscript -/
def PlainIx (b : Expr) : Prop := ∀ o i, subscripted b false o i = operate [o, i] (getItem o i)
/-- a subscript by values -/
def IxR (X : Cx) (r : R2) : Prop :=
  ∀ (value slice : Expr) (pins : List (Addr × Obj)) (s : Shared) (σ : St) (H : Hp) (x y : V) (v u : Value) (Q : VK), Inv X pins σ H s → RelV x v → RelV y u → r x y H Q →
    subscripted slice false v u = operate [v, u] (getItem v u) → wpAny (model X.prog X.w) X.A (subscriptTail value slice v u) (EP X pins σ Q) X.xe s
/-- a call of a builtin's method by values: the receiver, the arguments -/
def MtR (X : Cx) (id : String) (r : V → List V → Hp → VK → Prop) : Prop :=
  ∀ (pins : List (Addr × Obj)) (s : Shared) (σ : St) (H : Hp) (x : V) (xs : List V) (v : Value) (us : List Value) (Q : VK), Inv X pins σ H s → RelV x v → Vals xs us → r x xs H Q →
    wpAny (model X.prog X.w) X.A (call (.builtin id) (v :: us)) (EP X pins σ Q) X.xe s
section
variable {X : Cx} {a b : Expr} {ta tb : TE} {pos : Pos}
/-- a[b] -/
theorem pe_ix {r : R2} (hr : IxR X r) (ha : PE X a ta) (hb : PE X b tb) (hs : PlainIx b) : PE X (.Subscript a b pos) (tOp r ta tb) := by
  intro pins s σ H Q I h
  exact Subscript_ (binT ha hb I h fun v u s2 x y H2 I2 rx ry q => hr a b pins s2 σ H2 x y v u Q I2 rx ry q (hs _ _))

def rIxL (K : PySem.W.Frag) : R2 := fun x y H Q => ∃ p xs i v, x = .ref p ∧ y = .int i ∧ SqL K H p xs ∧ atI xs i = some v ∧ Q v H
def rIxT (K : PySem.W.Frag) : R2 := fun x y H Q => ∃ p xs i v, x = .ref p ∧ y = .int i ∧ SqT K H p xs ∧ atI xs i = some v ∧ Q v H
def rIxS : R2 := fun x y H Q => ∃ z i c, x = .str z ∧ y = .int i ∧ z.length ≤ sizeLine ∧ atI z.cps.toList i = some c ∧ Q (.str ⟨#[c]⟩) H
theorem ix_list : IxR X (rIxL X.K) := by
  intro value slice pins s σ H x y v u Q I rx ry h hs
  obtain ⟨p, xs, i, z, rfl, rfl, hq, he, q⟩ := h
  cases rx
  obtain ⟨t, rfl⟩ := ry
  obtain ⟨its, r, pl, hz⟩ := I.list hq
  obtain ⟨j, h1, h2, h3, h4, h5⟩ := atI_get he
  obtain ⟨w, ew, rw'⟩ := r.get h2
  have hl := r.length
  have hn := line63
  have fin : EP X pins σ Q w s := ⟨z, H, I, rw', q⟩
  by_cases h0 : 0 ≤ i
  · have hj : i.toNat = j := by
      rw [seqIndex_of h0 h5] at h1
      exact Option.some.inj h1
    exact item_listR pl.isList h0 (by omega) (by rw [hj]; simpa using ew) fin hs
  · have hj : (i + (its.toArray.size : Int)).toNat = j := by
      rw [seqIndex_neg (by omega) h4] at h1
      rw [List.size_toArray, ← hl]
      exact Option.some.inj h1
    exact subscriptTail_builtinR (x := w) pl.isList.typeIs slot_list_getitem.lookup
      (wpAny_getItem_list_neg (Q := fun r s' => r = w ∧ EP X pins σ Q r s') pl.isList (by omega) (by rw [List.size_toArray] <;> omega) (by omega) (by rw [hj]; simpa using ew) ⟨rfl, fin⟩) hs
theorem ix_tup : IxR X (rIxT X.K) := by
  intro value slice pins s σ H x y v u Q I rx ry h hs
  obtain ⟨p, xs, i, z, rfl, rfl, hq, he, q⟩ := h
  cases rx
  obtain ⟨t, rfl⟩ := ry
  obtain ⟨its, r, pl, hz⟩ := I.tuple hq
  obtain ⟨j, h1, h2, h3, h4, h5⟩ := atI_get he
  obtain ⟨w, ew, rw'⟩ := r.get h2
  have hl := r.length
  have hn := line63
  have fin : EP X pins σ Q w s := ⟨z, H, I, rw', q⟩
  exact subscriptTail_builtinR (x := w) pl.typeIs slot_tuple_getitem.lookup
    (getItem_tuple (j := j) (Q := fun r s' => r = w ∧ EP X pins σ Q r s') pl (by omega) (by omega) (by rw [List.size_toArray, ← hl]; exact h1) (by simpa using ew) ⟨rfl, fin⟩) hs
/-- list, tuple or str -/
def rIx (K : PySem.W.Frag) : R2 := fun x y H Q => rIxL K x y H Q ∨ rIxT K x y H Q ∨ rIxS x y H Q

/-! ### xs[i] = v, any sign -/
def rSetL : V → V → V → Hp → (Hp → Prop) → Prop := fun o i v H Q => ∃ p xs k j, o = .ref p ∧ i = .int k ∧ H p = some (.lst xs) ∧ ixN xs.length k = some j ∧ Q (upd H p (.lst (xs.set j v)))

/-! ### slices -/
theorem slice_bounds (lo hi : Option Int) (n : Nat) : (sliceBounds lo hi none n).1 = ((HT.sIx n 0 lo : Nat) : Int) ∧ (sliceBounds lo hi none n).2.1 = ((HT.sIx n n hi : Nat) : Int) ∧ (sliceBounds lo hi none n).2.2 = 1 := by
  refine ⟨?_, ?_, rfl⟩
  · cases lo with
    | none => simp [sliceBounds, HT.sIx]
    | some i =>
      simp only [sliceBounds, HT.sIx, Option.getD_none, show (1 : Int) > 0 by decide, if_true]
      by_cases h : i < 0
      · simp only [h, if_true] <;> omega
      · simp only [h, if_false] <;> omega
  · cases hi with
    | none => simp [sliceBounds, HT.sIx]
    | some i =>
      simp only [sliceBounds, HT.sIx, Option.getD_none, show (1 : Int) > 0 by decide, if_true]
      by_cases h : i < 0
      · simp only [h, if_true] <;> omega
      · simp only [h, if_false] <;> omega
theorem slicePick_cut (its : List Value) (lo hi : Option Int) : slicePick its.toArray lo hi none = ((its.drop (HT.sIx its.length 0 lo)).take (HT.sIx its.length its.length hi - HT.sIx its.length 0 lo)).toArray := by
  obtain ⟨h1, h2, h3⟩ := slice_bounds lo hi its.toArray.size
  unfold slicePick
  rw [h1, h2, h3]
  simp only [sliceRange_one, pick_run, List.size_toArray] <;> rfl
/-- xs[lo:hi] of a list: a new list -/
def rSlL (K : PySem.W.Frag) : V → Option Int → Option Int → Hp → VK → Prop := fun x lo hi H Q => ∃ a xs, x = .ref a ∧ SqL K H a xs ∧ ∀ p, H p = none → Q (.ref p) (upd H p (.lst (cutV xs lo hi)))
theorem sl_list : SlR X (rSlL X.K) := by
  intro pins s σ H x v vl vu lo hi sl Q I rx hs pl pu h
  obtain ⟨a, xs, rfl, hx, q⟩ := h
  cases rx
  obtain ⟨its, r, ht, hz⟩ := I.list hx
  have hlen := r.length
  refine ⟨"list", _, slot_list_getitem.lookup, ht.isList.typeIs, ?_⟩
  refine wpAny_getItem_list_slice ht.isList hs pl pu .none (by simp) ?_ (by rw [List.size_toArray] <;> omega)
  rw [slicePick_cut, ← hlen]
  refine ⟨.ref s.heap.objs.size, _, I.laid (t' := s.toks) (o := .lst (cutV xs lo hi)) (fun b ob q => Heap.get?_push_of_some _ q) (Nat.le_refl _) ?_, rfl, q _ (I.hok.fresh (Nat.le_refl _))⟩
  exact ⟨Nat.le_trans (cutV_length xs lo hi) hz, _, 0, (r.drop (HT.sIx xs.length 0 lo)).take (HT.sIx xs.length xs.length hi - HT.sIx xs.length 0 lo), Heap.get?_push_size _ rfl⟩

/-! ### in, not in: flat items -/
def flatV : V → Bool
  | .non => true
  | .bl _ => true
  | .int _ => true
  | .str _ => true
  | _ => false
/-- == of flat values -/
def eqV : V → V → Bool
  | .non, .non => true
  | .bl a, .bl b => a == b
  | .bl a, .int b => (if a then 1 else 0) == b
  | .int a, .bl b => a == (if b then 1 else 0)
  | .int a, .int b => a == b
  | .str a, .str b => a == b
  | _, _ => false
theorem eqAt_V {A : Around} {s : Shared} {y x : V} {u v : Value} (ry : RelV y u) (rx : RelV x v) (fy : flatV y = true) (fx : flatV x = true) : SeqAt.EqAt A s u v (eqV y x) := by
  cases y with
  | non =>
    cases ry
    cases x with
    | non => cases rx; exact SeqAt.EqAt.same _
    | bl b => cases rx; exact SeqAt.EqAt.none_bool b
    | int b => obtain ⟨t, rfl⟩ := rx; exact SeqAt.EqAt.none_int b t
    | str b => obtain ⟨t, rfl⟩ := rx; exact SeqAt.EqAt.none_str b t
    | _ => exact absurd (show false = true from fx) Bool.false_ne_true
  | bl a =>
    cases ry
    cases x with
    | non => cases rx; exact SeqAt.EqAt.bool_none a
    | bl b => cases rx; exact SeqAt.EqAt.bool_bool a b
    | int b => obtain ⟨t, rfl⟩ := rx; exact SeqAt.EqAt.bool_int a b t
    | str b => obtain ⟨t, rfl⟩ := rx; exact SeqAt.EqAt.bool_str a b t
    | _ => exact absurd (show false = true from fx) Bool.false_ne_true
  | int a =>
    obtain ⟨t', rfl⟩ := ry
    cases x with
    | non => cases rx; exact SeqAt.EqAt.int_none a t'
    | bl b => cases rx; exact SeqAt.EqAt.int_bool a t' b
    | int b => obtain ⟨t, rfl⟩ := rx; exact SeqAt.EqAt.int_int a t' b t
    | str b => obtain ⟨t, rfl⟩ := rx; exact SeqAt.EqAt.int_str a t' b t
    | _ => exact absurd (show false = true from fx) Bool.false_ne_true
  | str a =>
    obtain ⟨t', rfl⟩ := ry
    cases x with
    | non => cases rx; exact SeqAt.EqAt.str_none a t'
    | bl b => cases rx; exact SeqAt.EqAt.str_bool a t' b
    | int b => obtain ⟨t, rfl⟩ := rx; exact SeqAt.EqAt.str_int a t' b t
    | str b => obtain ⟨t, rfl⟩ := rx; exact SeqAt.EqAt.str_str a t' b t
    | _ => exact absurd (show false = true from fx) Bool.false_ne_true
  | _ => exact absurd (show false = true from fy) Bool.false_ne_true
/-- the items' answers, read off the values (a value's own answer does not lean on its token) -/
def eqU (x : V) (u : Value) : Bool := match u with
  | .none => eqV .non x
  | .bool b => eqV (.bl b) x
  | .int i _ => eqV (.int i) x
  | .str z _ => eqV (.str z) x
  | _ => false
theorem eqU_of {x y : V} {u : Value} (r : RelV y u) (f : flatV y = true) : eqU x u = eqV y x := by
  cases y with
  | non => cases r; rfl
  | bl b => cases r; rfl
  | int i => obtain ⟨t, rfl⟩ := r; rfl
  | str z => obtain ⟨t, rfl⟩ := r; rfl
  | _ => exact absurd (show false = true from f) Bool.false_ne_true
theorem any_eqU {x : V} : ∀ {xs : List V} {us : List Value}, Vals xs us → xs.all flatV = true → us.any (eqU x) = xs.any fun y => eqV y x
  | _, _, .nil, _ => rfl
  | y :: xs, u :: us, .cons r t, f => by
    rw [List.all_cons, Bool.and_eq_true] at f
    rw [List.any_cons, List.any_cons, eqU_of r f.1, any_eqU t f.2]
theorem mem_eqAt {A : Around} {s : Shared} {x : V} {v : Value} (rx : RelV x v) (fx : flatV x = true) : ∀ {xs : List V} {us : List Value}, Vals xs us → xs.all flatV = true → ∀ u ∈ us, SeqAt.EqAt A s u v (eqU x u)
  | _, _, .nil, _ => fun u hu => by cases hu
  | y :: xs, u :: us, .cons r t, f => fun u' hu => by
    rw [List.all_cons, Bool.and_eq_true] at f
    rcases List.mem_cons.mp hu with rfl | hu
    · rw [eqU_of r f.1]; exact eqAt_V r rx f.1 fx
    · exact mem_eqAt rx fx t f.2 u' hu
def inV (x : V) (xs : List V) : Bool := xs.any fun y => eqV y x
/-- x in a list or tuple of flat items -/
def rIn (K : PySem.W.Frag) (neg : Bool) : R2 := fun x y H Q => ∃ p xs, y = .ref p ∧ (SqL K H p xs ∨ SqT K H p xs) ∧ flatV x = true ∧ xs.all flatV = true ∧ Q (.bl (if neg then !inV x xs else inV x xs)) H
theorem op_in_seq : OpR X (compareOp .In) (rIn X.K false) := by
  intro pins s σ H x y v u Q I rx ry h
  obtain ⟨p, xs, rfl, hq, fx, fs, q⟩ := h
  cases ry
  rcases hq with hq | hq
  · obtain ⟨its, r, pl, hz⟩ := I.list hq
    refine SeqAt.in_listAt (eqU x) pl.isList (fun w hw => mem_eqAt rx fx r fs w (by simpa using hw)) ⟨.bl _, H, I, rfl, ?_⟩
    rw [show its.toArray.any (eqU x) = its.any (eqU x) by simp, any_eqU r fs]
    exact q
  · obtain ⟨its, r, pl, hz⟩ := I.tuple hq
    refine SeqAt.in_tupleAt (eqU x) pl (fun w hw => mem_eqAt rx fx r fs w (by simpa using hw)) ⟨.bl _, H, I, rfl, ?_⟩
    rw [show its.toArray.any (eqU x) = its.any (eqU x) by simp, any_eqU r fs]
    exact q

/-! ### len, list(x), tuple(x) of any list or tuple that is read -/
theorem call_len_seq : CallR X (.builtin "len") (fun xs H Q => ∃ p ys, xs = [.ref p] ∧ (SqL X.K H p ys ∨ SqT X.K H p ys) ∧ Q (.int ys.length) H) := by
  intro pins s σ H xs us Q I r h
  obtain ⟨p, ys, rfl, hq, q⟩ := h
  obtain ⟨u, rfl, rx⟩ := vals1 r
  cases rx
  have hn := line63
  rcases hq with hq | hq
  · obtain ⟨its, r', pl, hz⟩ := I.list hq
    have hlen := r'.length
    exact Calls.call_len_list pl.isList (by simp only [List.size_toArray] <;> omega) ⟨.int ys.length, H, I.tok _, ⟨s.toks + 1, by rw [List.size_toArray, hlen]⟩, q⟩
  · obtain ⟨its, r', pl, hz⟩ := I.tuple hq
    have hlen := r'.length
    exact len_tuple pl (by simp only [List.size_toArray] <;> omega) ⟨.int ys.length, H, I.tok _, ⟨s.toks + 1, by rw [List.size_toArray, hlen]⟩, q⟩
theorem call_len_str : CallR X (.builtin "len") (fun xs H Q => ∃ z, xs = [.str z] ∧ z.length ≤ sizeLine ∧ Q (.int z.length) H) := by
  intro pins s σ H xs us Q I r h
  obtain ⟨z, rfl, hz, q⟩ := h
  obtain ⟨u, rfl, t, rfl⟩ := vals1 r
  have hn := line63
  exact len_str (by omega) ⟨.int z.length, H, I.tok _, ⟨_, rfl⟩, q⟩
theorem call_list_of : CallR X (.type "list") (fun xs H Q => ∃ p ys, xs = [.ref p] ∧ (SqL X.K H p ys ∨ SqT X.K H p ys) ∧ ∀ l, H l = none → Q (.ref l) (upd H l (.lst ys))) := by
  intro pins s σ H xs us Q I r h
  obtain ⟨p, ys, rfl, hq, q⟩ := h
  obtain ⟨u, rfl, rx⟩ := vals1 r
  cases rx
  have fin : ∀ (its : List Value), Vals ys its → ys.length ≤ sizeLine → ∀ (h' : Heap) (c' : Nat), (∀ b o', s.heap.get? b = some o' → h'.get? b = some o') →
      h'.get? s.heap.objs.size = some { cls := .type "list", dict := none, data := .seq its.toArray c', slots := #[] } → EP X pins σ Q (.ref s.heap.objs.size) { s with heap := h' } := fun its r' hz h' c' kp e =>
    ⟨.ref s.heap.objs.size, _, I.laid (t' := s.toks) kp (Nat.le_refl _) (show ObjOk X.prog X.w _ h' _ (.lst ys) from ⟨hz, its, c', r', e⟩), rfl, q _ (I.hok.fresh (Nat.le_refl _))⟩
  rcases hq with hq | hq
  · obtain ⟨its, r', pl, hz⟩ := I.list hq
    have hlen := r'.length
    obtain ⟨o, ho, hc, n, hd⟩ := pl.isList
    exact call_list_seq p (.inl rfl) ho hc hd (fun h' c' kp e => fin its r' hz h' c' kp e) (by simp only [List.size_toArray] <;> omega)
  · obtain ⟨its, r', pl, hz⟩ := I.tuple hq
    have hlen := r'.length
    obtain ⟨o, ho, hc, n, hd⟩ := pl
    exact call_list_seq p (.inr rfl) ho hc hd (fun h' c' kp e => fin its r' hz h' c' kp e) (by simp only [List.size_toArray] <;> omega)

/-! ### the call of a builtin's method: o.m(..) -/
/-- the value is of that builtin type -/
def tyV (K : PySem.W.Frag) (T : String) (x : V) (H : Hp) : Prop := match x with
  | .str _ => T = "str"
  | .int _ => T = "int"
  | .ref p => (T = "list" ∧ ∃ xs, SqL K H p xs) ∨ (T = "tuple" ∧ ∃ o, K.lookup p = some o ∧ o.cls = .type "tuple" ∧ o.dict = none) ∨
      (T = "dict" ∧ ((∃ kvs, H p = some (.dK kvs)) ∨ ∃ kvs, H p = some (.dT kvs))) ∨ (T = "set" ∧ ∃ S n, H p = some (.set S n))
  | _ => False
theorem tyV_is {pins : List (Addr × Obj)} {σ : St} {H : Hp} {s : Shared} {T : String} {x : V} {v : Value} (I : Inv X pins σ H s) (r : RelV x v) (ty : tyV X.K T x H) :
    s.TypeIs v T ∧ ∀ a, v = .ref a → ∃ ob, s.heap.get? a = some ob ∧ ob.dict = none := by
  cases x with
  | str z =>
    obtain ⟨t, rfl⟩ := r
    cases (show T = "str" from ty)
    exact ⟨typeIs_str s z t, fun _ e => nomatch e⟩
  | int i =>
    obtain ⟨t, rfl⟩ := r
    cases (show T = "int" from ty)
    exact ⟨typeIs_int s i t, fun _ e => nomatch e⟩
  | ref p =>
    cases r
    rcases ty with ⟨rfl, xs, hq⟩ | ⟨rfl, o, hk, hc, hd⟩ | ⟨rfl, hk⟩ | ⟨rfl, S, n, hk⟩
    · obtain ⟨its, _, pl, _⟩ := I.list hq
      refine ⟨pl.isList.typeIs, fun a e => ?_⟩
      cases e
      obtain ⟨o, n, e, c, hd, _⟩ := pl
      exact ⟨o, e, hd⟩
    · refine ⟨⟨o, I.kIn p o hk, hc⟩, fun a e => ?_⟩
      cases e
      exact ⟨o, I.kIn _ o hk, hd⟩
    · have z : ∃ o, s.heap.get? p = some o ∧ o.ExactDict := by
        rcases hk with ⟨kvs, hk⟩ | ⟨kvs, hk⟩
        · obtain ⟨_, _, _, _, o, _, _, e, ex, _⟩ := I.hok p _ hk
          exact ⟨o, e, ex⟩
        · obtain ⟨_, _, _, _, o, _, _, e, ex, _⟩ := I.hok p _ hk
          exact ⟨o, e, ex⟩
      obtain ⟨o, e, ex⟩ := z
      refine ⟨⟨o, e, ex.1⟩, fun a e2 => ?_⟩
      cases e2
      exact ⟨o, e, ex.2.1⟩
    · obtain ⟨o, _, _, _, e, ex, _⟩ := I.hok p _ hk
      refine ⟨⟨o, e, ex.1⟩, fun a e2 => ?_⟩
      cases e2
      exact ⟨o, e, ex.2.1⟩
  | _ => exact False.elim ty
def tBM0 (K : PySem.W.Frag) (T : String) (r : V → List V → Hp → VK → Prop) (to : TE) : TE := fun σ H Q => to σ H fun x H1 => tyV K T x H1 ∧ r x [] H1 Q
def tBM (K : PySem.W.Frag) (T : String) (r : V → List V → Hp → VK → Prop) (to : TE) (t : TA) : TE := fun σ H Q => to σ H fun x H1 => tyV K T x H1 ∧ t σ H1 fun xs H2 => r x xs H2 Q
variable {o e : Expr} {es : List Expr} {to : TE} {t : TA} {name : Str} {apos cpos : Pos} {T id : String} {r : V → List V → Hp → VK → Prop}
theorem pe_bm (pa : PlainAttrs T) (slot : Slot T name id) (hty : typeOf (.builtin id) = pure (.type "method_descriptor")) (hm : MtR X id r) (ho : PE X o to) (ha : PA X (e :: es) t)
    (hbase : attributeBase o name X.env (eval o X.env) = eval o X.env := by rfl)
    (hfew : ((backTo cpos (starEach (e :: es) X.env)).all (fun x => !x.1) && (backToKw cpos (keywordEach [] X.env)).all (fun x => x.1.isSome)
      && decide ((e :: es).length + ([] : List Keyword).length + (if ([] : List Keyword).isEmpty then 0 else 1) < 30)) = true := by rfl)
    (hline : (apos.endLine == cpos.line) = true := by rfl) (hs : starEach (e :: es) X.env = (false, eval e X.env) :: starEach es X.env := by rfl) (hplain : (backTo cpos (starEach es X.env)).any (·.1) = false := by rfl) :
    PE X (.Call (.Attribute o name apos) (e :: es) [] cpos) (tBM X.K T r to t) := by
  intro pins s σ H Q I h
  refine wpAny_Call_method_late hbase hfew hline rfl (thn (ho pins s σ H _ I h) fun v s1 ⟨x, H1, I1, r1, ty, q1⟩ => ?_)
  obtain ⟨h1, h2⟩ := tyV_is I1 r1 ty
  refine ⟨T, id, pa, slot, hty, h1, h2, ?_⟩
  have hA := ha cpos pins s1 σ H1 _ I1 q1
  rw [hs] at hA ⊢
  refine Calls.callWith_builtin (by show (false || (backTo cpos (starEach es X.env)).any (·.1)) = false; rw [hplain] <;> rfl) (Calls.evalArgs_plain ?_)
  exact thn hA fun us s2 ⟨vs, H2, I2, r2, q2⟩ => hm pins s2 σ H2 x vs v us Q I2 r1 r2 q2
/- xs.append(e), list.index on a module's tuple .. are MtR facts of 06m -/
end
end L2

namespace L2
open PySem PySem.Spec PyProof.Rows

def MtM (X : Cx) (id : String) (r : V → List V → Hp → VK → Prop) : Prop :=
  ∀ (pins : List (Addr × Obj)) (s : Shared) (σ : St) (H : Hp) (x : V) (xs : List V) (v : Value) (us : List Value) (Q : VK), Inv X pins σ H s → RelV x v → Vals xs us → r x xs H Q →
    wpAny (model X.prog X.w) X.A (call (.builtin id) (v :: us)) (EP X pins σ Q) X.xe s

/-! ### lists of values -/
theorem Vals.one : ∀ {x : V} {us : List Value}, Vals [x] us → ∃ u, us = [u] ∧ RelV x u
  | _, _, .cons r .nil => ⟨_, rfl, r⟩

section
variable {X : Cx} {pins : List (Addr × Obj)} {σ : St} {H : Hp} {s : Shared} {l b : Addr} {xs ys zs : List V}

/-! ### the two steps: a tracked list is rewritten, a new list is laid -/
theorem Inv.lset {its its' : List Value} {n : Nat} {f : Array Value → Array Value} {t' : Nat} (I : Inv X pins σ H s) (hH : H l = some (.lst xs))
    (e : s.heap.get? l = some { cls := .type "list", data := .seq its.toArray n }) (hf : f its.toArray = its'.toArray) (hv : Vals ys its') (hz : ys.length ≤ sizeLine) :
    Inv X pins σ (upd H l (.lst ys)) { s with heap := s.heap.update l (Obj.mapSeq f), toks := t' } := by
  have q := PySem.IsL.update e f
  rw [hf] at q
  refine I.write (x := l) (e := l) (by rw [hH]; exact trivial) (.inl rfl) (fun b' u hb hu => (Heap.get?_update_other s.heap (Obj.mapSeq f) (Ne.symm hb)).trans hu) ⟨_, q⟩ ?_
  exact ⟨hz, its', _, hv, q⟩
theorem Inv.lnew {its : List Value} {t' : Nat} (I : Inv X pins σ H s) (hv : Vals ys its) (hz : ys.length ≤ sizeLine) :
    Inv X pins σ (upd H s.heap.objs.size (.lst ys)) { s with heap := s.heap.push { cls := .type "list", data := .seq its.toArray }, toks := t' } :=
  I.laid (fun _ _ q => Heap.get?_push_of_some _ q) (Nat.le_refl _) ⟨hz, its, 0, hv, Heap.get?_push_size _ rfl⟩
theorem Inv.fresh (I : Inv X pins σ H s) : H s.heap.objs.size = none := I.hok.fresh (Nat.le_refl _)
theorem Inv.lstM (I : Inv X pins σ H s) (hH : H l = some (.lst xs)) : xs.length ≤ sizeLine ∧ ∃ (its : List Value) (n : Nat), Vals xs its ∧ xs.length = its.length ∧ s.heap.get? l = some { cls := .type "list", data := .seq its.toArray n } := by
  obtain ⟨z, its, n, r, e⟩ := I.hok l _ hH
  exact ⟨z, its, n, r, r.length, e⟩

theorem notLongL {n : Nat} (h : n ≤ sizeLine) : Builtin.List.listTooLong n = false := by
  unfold Builtin.List.listTooLong
  exact decide_eq_false (by omega)
end

section
variable {X : Cx}

/-! ### methods -/
def rAppend : V → List V → Hp → VK → Prop := fun x vs H Q => ∃ l xs y, x = .ref l ∧ vs = [y] ∧ H l = some (.lst xs) ∧ xs.length < sizeLine ∧ Q .non (upd H l (.lst (xs ++ [y])))
theorem mt_append : MtM X "list.append" rAppend := by
  intro pins s σ H x vs v us Q I rx rv h
  obtain ⟨l, xs, y, rfl, rfl, hH, hz, q⟩ := h
  cases rx
  obtain ⟨u, rfl, ru⟩ := rv.one
  obtain ⟨z, its, n, r, hl, e⟩ := I.lstM hH
  refine call_meets F.slot_list_append ⟨_, e, rfl⟩ F.entry_list_append (F.args_list_append_2 _ _) (PySem.list_append l its.toArray n u (by rw [List.size_toArray]; omega)) ⟨e, ?_⟩
  refine ⟨.non, _, I.lset (its' := its ++ [u]) hH e (by simp) (r.append (.cons ru .nil)) ?_, rfl, q⟩
  rw [List.length_append, List.length_singleton]
  omega

def rExtend : V → List V → Hp → VK → Prop := fun x vs H Q => ∃ l b xs zs, x = .ref l ∧ vs = [.ref b] ∧ H l = some (.lst xs) ∧ H b = some (.lst zs) ∧ xs.length + zs.length ≤ sizeLine ∧ Q .non (upd H l (.lst (xs ++ zs)))

def rPop : V → List V → Hp → VK → Prop := fun x vs H Q => ∃ l xs y, x = .ref l ∧ vs = [] ∧ H l = some (.lst xs) ∧ xs[xs.length - 1]? = some y ∧ Q y (upd H l (.lst xs.dropLast))

def rPopAt : V → List V → Hp → VK → Prop := fun x vs H Q => ∃ l xs i k y, x = .ref l ∧ vs = [.int i] ∧ H l = some (.lst xs) ∧ -(2 ^ 63) ≤ i ∧ i < 2 ^ 63 ∧ seqIndex? i xs.length = some k ∧ xs[k]? = some y ∧ Q y (upd H l (.lst (xs.eraseIdx k)))

def rReverse : V → List V → Hp → VK → Prop := fun x vs H Q => ∃ l xs, x = .ref l ∧ vs = [] ∧ H l = some (.lst xs) ∧ Q .non (upd H l (.lst xs.reverse))

def rClear : V → List V → Hp → VK → Prop := fun x vs H Q => ∃ l xs, x = .ref l ∧ vs = [] ∧ H l = some (.lst xs) ∧ Q .non (upd H l (.lst []))

/-! ### list + list, list += list, list * int -/
def rCat : R2 := fun x y H Q => ∃ l b xs zs, x = .ref l ∧ y = .ref b ∧ H l = some (.lst xs) ∧ H b = some (.lst zs) ∧ xs.length + zs.length ≤ sizeLine ∧ ∀ p, H p = none → Q (.ref p) (upd H p (.lst (xs ++ zs)))
theorem op_cat : OpR X (binaryOp .Add) rCat := by
  intro pins s σ H x y v u Q I rx ry h
  obtain ⟨l, b, xs, zs, rfl, rfl, hH, hB, hz, q⟩ := h
  cases rx
  cases ry
  obtain ⟨z, its, n, r, hl, e⟩ := I.lstM hH
  obtain ⟨z2, its2, n2, r2, hl2, e2⟩ := I.lstM hB
  refine PySem.P.add_list e e2 ?_ (by rw [List.size_toArray, List.size_toArray]; omega)
  have ea : its.toArray ++ its2.toArray = (its ++ its2).toArray := by simp
  rw [ea]
  exact ⟨.ref _, _, I.lnew (t' := s.toks) (r.append r2) (by rw [List.length_append]; omega), rfl, q _ I.fresh⟩
/-- a list times an int (a negative one is nothing) -/
def rRep : R2 := fun x y H Q => ∃ l k xs, x = .ref l ∧ y = .int k ∧ H l = some (.lst xs) ∧ -(2 ^ 63) ≤ k ∧ k < 2 ^ 63 ∧ xs.length * k.toNat ≤ sizeLine ∧
  ∀ p, H p = none → Q (.ref p) (upd H p (.lst (List.replicate k.toNat xs).flatten))

/-! ### del xs[i] -/
end

/-! ### xs[a:b] = ys -/
section
variable {prog : Program} {w : World} {A : Around} {E : Value → Shared → Prop} {s : Shared}
set_option maxRecDepth 100000 in
end

section
variable {X : Cx}
end
end L2

namespace Att
open PySem PySem.W PySem.Calls PyProof.Rows

/-! ### the script -/
theorem ints_of_wellAll {P : Params} {h : Heap} : ∀ (ns : List Int) (vs : List Value), WellAll P h vs (ns.map WData.int) → IntsAre vs ns := by
  intro ns
  induction ns with
  | nil =>
    intro vs w
    rw [List.map_nil] at w
    cases w
    exact .nil
  | cons n ns ih =>
    intro vs w
    rw [List.map_cons] at w
    cases w with
    | cons a b =>
      cases a
      exact .cons _ _ (ih _ b)

theorem script_of {l : OpenLaw} {n : Nat} (hn : l.most = some n) {P : Params} {h : Heap} {args : List WData} {vals : List Value}
    (hpre : l.row.toRowW.claim.pre args = true) (hwl : WellAll P h vals args) :
    ∃ a vs ns, vals = [Value.ref a] ∧ args = [WData.list (ns.map WData.int)] ∧ h.get? a = some { cls := .type "list", data := .seq vs.toArray } ∧ IntsAre vs ns ∧ ns.length ≤ n := by
  have hsh : WShape.hasAll [] args [.list .int] = true := (pre_splitW hpre).1
  have hc : l.pre.holds [] { args := args } = true := (pre_splitW hpre).2
  obtain ⟨d, r, rfl, h1, h2⟩ := hasAllW_cons hsh
  obtain rfl := hasAllW_nil h2
  obtain ⟨xs, rfl, h3⟩ := hasW_list h1
  obtain ⟨ns, rfl⟩ := items_int h3
  have hlen : ns.length ≤ n := by
    unfold OpenLaw.pre at hc
    have h4 : (WTm.not (.lt (.lit (.int (n : Int))) (.len (.arg 0)))).holds [] { args := [.list (ns.map .int)] } = true := by
      have h4 := (holds_andW hc).1
      rw [hn] at h4
      exact h4
    have h5 := condW_of h4 (w_not (w_lt w_lit (w_len_list (w_arg rfl))))
    rw [List.length_map] at h5
    refine Nat.le_of_not_lt fun q => ?_
    have q' : (n : Int) < ((ns.length : Nat) : Int) := by omega
    first
      | (rw [decide_eq_true q'] at h5; exact absurd h5 (by decide))
      | (simp at h5; omega)
  cases hwl with
  | cons w1 w2 =>
    cases w2
    cases w1 with
    | list ho hall => exact ⟨_, _, ns, rfl, rfl, ho, ints_of_wellAll ns _ hall, hlen⟩

theorem post_true (l : OpenLaw) (args : List WData) : l.row.toRowW.claim.post args (.bool true) args = true :=
  postW_of (r := l.row.toRowW) (X := (true == true))
    (show WShape.has [] (.bool true) .bool = true by first | rfl | decide | simp [WShape.has, WShape.arms, WShape.armsAll])
    (show (WTm.eq .res (.lit (.bool true))).value [] { args := args, res := some (.bool true), after := args } = some (.bool (true == true)) from w_eq_bool (w_res rfl) w_lit) rfl

/-! ### the attachment: holds_open's last premise (the goal 'hc' behind k_head) from a wpAny of the law's body -/

/-- the same from a codeAny of the CALL (for a layer whose function contracts speak of calls) -/
theorem attach_call {l : OpenLaw} {n : Nat} {q : Program} {loose : List Str} {XP : (Str → Option Value) → Heap → Prop} {YP : World → Heap → Prop} {d : DefRec}
    (hn : l.most = some n) (hdf : d.params.defaults = [])
    (call : ∀ (w : World) (s₀ s₁ : Shared) (mg mb : Str → Option Value) (fa : Addr) (o : Obj) (pm cd doc : Value) (a : Addr) (vs : List Value) (ns : List Int),
      Ground q loose [] XP w s₀ mg mb s₁.heap → YP w s₁.heap →
      s₁.heap.get? fa = some o → o.data = .func (docDef d.name d.params d.body d.scope pm cd doc) → s₁.heap.CodeRec cd d.name → mg d.name = some (.ref fa) →
      s₁.heap.get? a = some { cls := .type "list", data := .seq vs.toArray } → IntsAre vs ns → ns.length ≤ n → s₁.gens = #[] →
      codeAny (model l.prog w) callerA (.call (.ref fa) ⟨[.ref a], []⟩) (fun r s' => r = .ok (.ret (.bool true)) ∧ OldK s₁.heap s'.heap ∧ s'.os = s₁.os ∧ AllBare s'.gens) s₁) :
    WalkO q loose XP YP l.row.toRowW d [] (fun f vs => PySem.call f vs) := by
  intro w s₀ s₁ mg mb G Y fa o pm cd doc dV kV ho hd hcd hD hmg hg args vals as hpre hlay hrd hwl hlo
  obtain rfl : dV = .none := Dflts.none hD hdf
  obtain rfl : kV = .none := Dflts.noKw hD
  obtain ⟨a, vs, ns, rfl, rfl, hobj, hints, hlen⟩ := script_of hn hpre hwl
  refine enter_call (codeAny_mono (call w s₀ s₁ mg mb fa o pm cd doc a vs ns G Y ho (fd_plain hd) hcd hmg hobj hints hlen hg) fun r s' hq => ?_)
  obtain ⟨rfl, h2, h3, h4⟩ := hq
  exact ⟨.inl ⟨.bool true, .bool true, [], rfl, fun _ => rfl, .bool true, post_true l _, fun _ => ⟨List.Pairwise.nil, fun _ hm => (nomatch hm)⟩⟩, h2, h3, h4⟩


/-! ### rules over ANY heap (no ledger) from facts about the written part K: the library's own take a ledger (News) for what they write -/
section
variable {prog : Program} {w : World} {A : Around} {E : Value → Shared → Prop} {s : Shared} {K : Frag}





/-! the whole heap as the ledger: makes every rule that writes through a ledger a rule over any heap -/
def noObjs (h : Heap) : Heap := { h with objs := #[] }
def ledger (h : Heap) (L d : Addr) : List (Addr × Obj) := (List.range h.objs.size).filterMap fun a => if a = L ∨ a = d then none else (h.get? a).map fun o => (a, o)

end
end Att

namespace L2
open PySem PySem.Spec PyProof.Rows

theorem vals_ints : ∀ {vs : List Value} {ns : List Int}, IntsAre vs ns → Vals (ns.map V.int) vs
  | _, _, .nil => .nil
  | _, _, .cons n t h => .cons ⟨t, rfl⟩ (vals_ints h)

/-- nothing is tracked but the script, known to the object (or it is an object of the module) -/
def Only (H : Hp) : Prop := ∀ b, H b = none ∨ ∃ o xs, H b = some (.frz o (.lst xs))

/-- THE HEAD: the law's promise, at the heap behind the top. F, the promise of the law's def, may use that base is part of the heap (so K.In base, base.Ns mainGlobals mg stand in Mod) -/
theorem law_call {P : Program} {w : World} {K : PySem.W.Frag} {mg mb : Str → Option Value} {CX : CXT} {k : Nat} {fa a : Addr} {fd : FuncData} {x : Str} {sp : Sp} {s₁ : Shared} {vs : List Value} {ns : List Int}
    (KX : K.In s₁.heap) (hns : s₁.heap.Ns mainGlobals mg) (hb : s₁.heap.Ns builtinsNs mb) (hbb : ∀ x : Str, x ≠ "__name__" → mb x = bootBuiltins x) (hlim : s₁.heap.NoLimit) (hg : s₁.gens = #[])
    (ha : s₁.heap.get? a = some { cls := .type "list", data := .seq vs.toArray }) (hi : IntsAre vs ns) (hl : ns.length ≤ sizeLine) (hr : Room k callerA)
    (F : ∀ base : Heap, K.In base → base.Ns mainGlobals mg → FnOk P w K mg base CX k fa fd [x] sp) (hbind : ∀ (s : Shared) (u : Value), BindsTo s fd ⟨[u], []⟩ [(x, u)])
    (hsp : ∀ H : Hp, Only H → SqL K H a (ns.map V.int) → sp [.ref a] H (fun v _ => v = .bl true) fun _ _ _ => False)
    (hCX : ∀ H e s', CX [] H s₁ (fun _ _ _ => False) e s' → False) :
    codeAny (model P w) callerA (.call (.ref fa) ⟨[.ref a], []⟩) (fun r s' => r = .ok (.ret (.bool true)) ∧ OldK s₁.heap s'.heap ∧ s'.os = s₁.os ∧ AllBare s'.gens) s₁ := by
  have rv := vals_ints hi
  have lenV := hi.length
  -- from an abstract heap in which nothing but the script may be tracked
  have core : ∀ H : Hp, Only H → SqL K H a (ns.map V.int) → HOk P w H s₁.heap → (∀ b, H b ≠ none → b = a) → (H a ≠ none → K.lookup a = none) →
      codeAny (model P w) callerA (.call (.ref fa) ⟨[.ref a], []⟩) (fun r s' => r = .ok (.ret (.bool true)) ∧ OldK s₁.heap s'.heap ∧ s'.os = s₁.os ∧ AllBare s'.gens) s₁ := by
    intro H hO hS hok hA hK
    have base_of : ∀ {b : Addr} {o : Obj}, s₁.heap.get? b = some o → H b = none → (hidT s₁.heap H).get? b = some o := fun e n => hidT_get e n
    have noA : ∀ {b : Addr} {o : Obj} {es : Array DictEntry} {ep : Nat}, s₁.heap.get? b = some o → o.data = .dict es ep → H b = none := fun {b o es ep} e d => by
      cases q : H b with
      | none => rfl
      | some u =>
        have e' : b = a := hA b (by rw [q]; simp)
        subst e'
        rw [ha] at e; cases e
        have d' : Data.seq vs.toArray _ = Data.dict es ep := d
        cases d'
    have nsK : ∀ {b : Addr} {m : Str → Option Value}, s₁.heap.Ns b m → (hidT s₁.heap H).Ns b m := fun {b m} ⟨o, es, ep, e, d, r⟩ => ⟨o, es, ep, base_of e (noA e d), d, r⟩
    have hKb : K.In (hidT s₁.heap H) := fun b o e => base_of (KX b o e) (by
      cases q : H b with
      | none => rfl
      | some u =>
        have e' : b = a := hA b (by rw [q]; simp)
        subst e'
        rw [hK (by rw [q]; simp)] at e; cases e)
    have hM : Mod K mg (hidT s₁.heap H) := ⟨hKb, nsK hns, ⟨mb, nsK hb, hbb⟩, let ⟨mc, h1, h2⟩ := hlim; ⟨mc, nsK h1, h2⟩⟩
    have e0 : Env0 P w K mg (hidT s₁.heap H) callerA [] s₁ H := ⟨rfl, hM, fun b o e => of_hidT e, Nat.le_of_eq (hidT_size _ _), trivial, fun b hb => absurd (show b ∈ ([] : List Addr) from hb) (by simp), hok, .of_eq hg⟩
    refine codeAny_mono ((F _ hKb (nsK hns)).run callerA [] s₁ H ⟨[.ref a], []⟩ [.ref a] [.ref a] _ _ hr e0 (hbind s₁ (.ref a)) (.cons rfl .nil) (hsp H hO hS)) fun r s' h => ?_
    cases r with
    | error e => exact (hCX H e s' h).elim
    | ok fl =>
      cases fl with
      | next => exact False.elim h
      | brk => exact False.elim h
      | cont => exact False.elim h
      | ret u =>
        obtain ⟨v, H', os, bare, un, hok', r', q⟩ := h
        have q' : v = .bl true := q
        subst q'
        obtain rfl : u = Value.bool true := r'
        refine ⟨rfl, OldK.of_keep fun b o e => ?_, os, bare⟩
        cases q : H b with
        | none => exact un.keep b o e q (by intro z; exact absurd (show b ∈ ([] : List Addr) from z) (by simp)) (by simp)
        | some u =>
          rcases hO b with z | ⟨ob, xs, z⟩
          · rw [q] at z; cases z
          · have z2 := un.frzs b ob _ z
            obtain ⟨e1, _⟩ := hok b _ z
            obtain ⟨e2, _⟩ := hok' b _ z2
            rw [e] at e1; cases e1
            exact e2
  cases hk : K.lookup a with
  | some o =>
    -- the script is one of the module's own objects
    have e := KX a o hk
    rw [ha] at e
    cases e
    refine core (fun _ => none) (fun _ => .inl rfl) (.inr ⟨_, vs.toArray, _, hk, rfl, rfl, rfl, by rw [List.size_toArray, lenV]; exact hl, by simpa using rv⟩) (fun b u z => by have z' : (none : Option HO) = some u := z; cases z') (fun b z => absurd rfl z) fun z => absurd rfl z
  | none =>
    refine core (fun b => if b = a then some (.frz { cls := .type "list", data := .seq vs.toArray } (.lst (ns.map V.int))) else none) (fun b => ?_) (.inl (.inr ⟨{ cls := .type "list", data := .seq vs.toArray }, if_pos rfl⟩)) (fun b u z => ?_) (fun b z => ?_) fun _ => hk
    · by_cases hb : b = a
      · exact .inr ⟨_, _, if_pos hb⟩
      · exact .inl (if_neg hb)
    · by_cases hb : b = a
      · have z' := (if_pos hb).symm.trans z
        cases z'
        subst hb
        exact ⟨ha, by rw [List.length_map]; exact hl, vs, _, rv, ha⟩
      · have z' := (if_neg hb).symm.trans z
        cases z'
    · by_cases hb : b = a
      · exact hb
      · exact absurd (if_neg hb) z
end L2

namespace L2
open PySem PySem.Spec PyProof.Rows

abbrev KOf {K : PySem.W.Frag} {h : Heap} (_ : K.In h) : PySem.W.Frag := K

/-- the goal that k_head leaves (case hc), from the law's promise. F gives the function object fd (K's own) once, then the promise over every base -/
theorem walk_of {l : PySem.W.OpenLaw} {n k : Nat} {q : Program} {loose : List Str} {XP : (Str → Option Value) → Heap → Prop} {YP : World → Heap → Prop} {d : DefRec} {K : Params → PySem.W.Frag} {CX : World → CXT} {sp : World → Sp} {x : Str}
    (hn : l.most = some n) (hn2 : n ≤ sizeLine) (hdf : d.params.defaults = []) (hr : Room k callerA)
    (hY : ∀ (w : World) (h : Heap), YP w h → (K w.params).In h)
    (F : ∀ (w : World) (mg : Str → Option Value) (fa : Addr) (h : Heap), (K w.params).In h → h.Ns mainGlobals mg → mg d.name = some (.ref fa) →
      ∃ fd : FuncData, (∀ (s : Shared) (u : Value), BindsTo s fd ⟨[u], []⟩ [(x, u)]) ∧
        ∀ base : Heap, (K w.params).In base → base.Ns mainGlobals mg → FnOk l.prog w (K w.params) mg base (CX w) k fa fd [x] (sp w))
    (hsp : ∀ (w : World) (H : Hp) (a : Addr) (ns : List Int), ns.length ≤ n → Only H → SqL (K w.params) H a (ns.map V.int) → sp w [.ref a] H (fun v _ => v = .bl true) fun _ _ _ => False)
    (hCX : ∀ (w : World) (H : Hp) (s : Shared) (e : Value) (s' : Shared), CX w [] H s (fun _ _ _ => False) e s' → False) :
    PySem.W.WalkO q loose XP YP l.row.toRowW d [] (fun f vs => PySem.call f vs) := by
  refine Att.attach_call hn hdf fun w s₀ s₁ mg mb fa o pm cd doc a vs ns G Y ho hd hcd hmg hobj hints hlen hg => ?_
  have KX := hY w _ Y
  obtain ⟨fd, hb, hF⟩ := F w mg fa _ KX G.T.g hmg
  exact law_call KX G.T.g G.T.b G.T.builtins G.T.nolimit hg hobj hints (Nat.le_trans hlen hn2) hr hF hb (fun H hO hS => hsp w H a ns hlen hO hS) fun H e s' => hCX w H s₁ e s'
end L2

/- THE LAST THEOREM (shape; LID, My.* are yours):
   My.Adr: a structure of the addresses that your layer names (classes, functions); My.Txt K t: a structure (Prop) of the equations over K;
   My.txt_mk : {K} {implicit addresses ..} (e1 : nsIn K mainGlobals "law" = some (some (.ref f))) (e2 : K.lookup f = some ⟨oc, od, .func (fnOf "law" "law" params body scope dV kV doc pm an cdv ct), sl⟩) (e3 : codeIn K cdv "law" = true) .. : ∃ t, My.Txt K t

set_option maxRecDepth 100000 in
set_option maxHeartbeats 0 in
(the tactic k_is has no namespace: write k_is) -/

/-! SHORT WORDS over the layer: a def of the text, its body, what a loop and a test want. -/
namespace L2
open PySem PySem.Spec PyProof.Rows

/-! ### the text by places -/
/-- the j-th statement of a class's body -/
def inClass (s : Stmt) (j : Nat) : Stmt := match s with
  | .ClassDef _ _ _ body _ _ _ _ _ _ _ => body.getD j (.Pass ⟨0, 0, 0, 0⟩)
  | _ => .Pass ⟨0, 0, 0, 0⟩
def defArgs (s : Stmt) : Arguments := match s with
  | .FunctionDef _ a _ _ _ _ _ _ _ _ => a
  | _ => { posonlyargs := [], args := [], vararg := none, kwonlyargs := [], kw_defaults := [], kwarg := none, defaults := [] }
def defBody (s : Stmt) : List Stmt := match s with
  | .FunctionDef _ _ b _ _ _ _ _ _ _ => b
  | _ => []
def defScope (s : Stmt) : Scope := match s with
  | .FunctionDef _ _ _ _ _ _ sc _ _ _ => sc
  | _ => { kind := .function, names := [], isGenerator := false, isCoroutine := false }

/-! ### no exception leaves a def -/
abbrev CX0 : CXT := fun _ _ _ _ _ _ => False
abbrev E0 : XK := fun _ _ _ => False

/-! ### a def (or method) of the text as it stands behind the top -/
structure Fun (K : PySem.W.Frag) (x qual : Str) (st : Stmt) (f : Addr) (fd : FuncData) : Prop where
  ex : ∃ (oc : Value) (od : Option Addr) (kV doc pm : Value) (an : Option Addr) (cdv ct : Value) (osl : Array (Option Value)),
    fd = PySem.W.fnOf x qual (defArgs st) (defBody st) (defScope st) .none kV doc pm an cdv ct ∧ K.lookup f = some ⟨oc, od, .func fd, osl⟩ ∧ PySem.W.codeIn K cdv qual = true
  kp : PySem.W.keepIn K (.ref f) = true
section
variable {P : Program} {w : World} {K : PySem.W.Frag} {mg : Str → Option Value} {base : Heap}
/-- how its arguments bind (no defaults): h is «fun _ _ _ _ _ _ us hl => match us, hl with | [_, _], _ => rfl», one _ a parameter -/
theorem Fun.binds {x qual : Str} {st : Stmt} {f : Addr} {fd : FuncData} {ps : List Str} (F : Fun K x qual st f fd)
    (h : ∀ (kV doc pm : Value) (an : Option Addr) (cdv ct : Value) (us : List Value), us.length = ps.length → bindArgs (PySem.W.fnOf x qual (defArgs st) (defBody st) (defScope st) .none kV doc pm an cdv ct) ⟨us, []⟩ = pure (ps.zip us)) : Binds K fd ps [] := by
  obtain ⟨oc, od, kV, doc, pm, an, cdv, ct, osl, rfl, lk, hcd⟩ := F.ex
  exact .all (h kV doc pm an cdv ct)
theorem fun_mk {x qual : Str} {st : Stmt} {f : Addr} {oc : Value} {od an : Option Addr} {osl : Array (Option Value)} {kV doc pm cdv ct : Value} (l : K.lookup f = some ⟨oc, od, .func (PySem.W.fnOf x qual (defArgs st) (defBody st) (defScope st) .none kV doc pm an cdv ct), osl⟩)
    (c : PySem.W.codeIn K cdv qual = true) (k : PySem.W.keepIn K (.ref f) = true) : Fun K x qual st f (PySem.W.fnOf x qual (defArgs st) (defBody st) (defScope st) .none kV doc pm an cdv ct) := ⟨⟨oc, od, kV, doc, pm, an, cdv, ct, osl, rfl, l, c⟩, k⟩
end

/-! ### expressions in short: the name that stands in the i-th slot -/
section
variable {X : Cx}
end

/-! ### tests -/

/-! ### heaps -/
/-- all that was tracked is as it was -/
def Same (H H' : Hp) : Prop := ∀ b o, H b = some o → H' b = some o
theorem Same.refl (H : Hp) : Same H H := fun _ _ h => h
theorem Same.trans {H H1 H2 : Hp} (a : Same H H1) (b : Same H1 H2) : Same H H2 := fun c o h => b c o (a c o h)
theorem Same.seq {K : PySem.W.Frag} {H H' : Hp} {a : Addr} {xs : List V} (e : Same H H') (h : SqL K H a xs) : SqL K H' a xs := by
  rcases h with (h | ⟨o, h⟩) | h
  · exact .inl (.inl (e _ _ h))
  · exact .inl (.inr ⟨o, e _ _ h⟩)
  · exact .inr h

end L2

section
set_option Elab.async false
set_option linter.all false
set_option maxRecDepth 100000
namespace L2
open PySem PySem.Spec PyProof.Rows

/-! ### lists of pairs as tables -/
section
variable {κ : Type} [DecidableEq κ]
def valV (kvs : List (κ × V)) (k : κ) : Option V := (kvs.find? fun kv => decide (kv.1 = k)).map (·.2)
/-- in its place, or at the end -/
def putK (kvs : List (κ × V)) (k : κ) (v : V) : List (κ × V) :=
  if (kvs.any fun kv => decide (kv.1 = k)) = true then kvs.map (fun kv => if kv.1 = k then (kv.1, v) else kv) else kvs ++ [(k, v)]
def dropK (kvs : List (κ × V)) (k : κ) : List (κ × V) := kvs.filter fun kv => decide (kv.1 ≠ k)



end


/-! ### a tracked dict, its keys ints and texts or tuples of these -/

/-- raw entries of a dict with tuple keys -/
abbrev KT (H : Hp) : List (List Key × V) → List (List Key × Addr × Value) → Prop := Paired fun p q => p.1 = q.1 ∧ H q.2.1 = some (.tup (p.1.map kV)) ∧ RelV p.2 q.2.2

section
variable {P : Program} {w : World} {H : Hp} {h : Heap} {a : Addr}
end

/-- what the dict at a holds at the key y -/
def DGet (H : Hp) (a : Addr) (y : V) (r : Option V) : Prop :=
  (∃ kvs k, Rd H a (.dK kvs) ∧ y = kV k ∧ r = valV kvs k) ∨ ∃ kvs k b, Rd H a (.dT kvs) ∧ y = .ref b ∧ H b = some (.tup (k.map kV)) ∧ r = valV kvs k
/-- the heap behind a[y] = v -/
def DPut (H : Hp) (a : Addr) (y v : V) (H' : Hp) : Prop :=
  (∃ kvs k, H a = some (.dK kvs) ∧ y = kV k ∧ kvs.length < sizeLine ∧ H' = upd H a (.dK (putK kvs k v))) ∨
  ∃ kvs k b, H a = some (.dT kvs) ∧ y = .ref b ∧ H b = some (.tup (k.map kV)) ∧ kvs.length < sizeLine ∧ H' = upd H a (.dT (putK kvs k v))


section
variable {X : Cx} {pins : List (Addr × Obj)} {σ : St} {H : Hp} {s : Shared} {a : Addr} {y v : V} {u r : Value} {o : Option V} {A : Around} {E : Value → Shared → Prop}


end

section
variable {X : Cx} {pins : List (Addr × Obj)} {σ : St} {H : Hp} {s : Shared} {a : Addr} {kvs : List (Key × V)} {k : Key} {u : Value} {A : Around} {E : Value → Shared → Prop}
end


/-! ### readings and rules -/
/-- the element of a subscription, not a slice -/
def NoSl (i : Expr) : Prop := ∀ ov iv, subscripted i false ov iv = operate [ov, iv] (getItem ov iv)


/-- d[y] -/
def tDGet (td ty : TE) : TE := fun σ H Q => td σ H fun x H1 => ty σ H1 fun y H2 => ∃ a v, x = .ref a ∧ DGet H2 a y (some v) ∧ Q v H2
/-- y in d, y not in d -/
def tDIn (ty td : TE) : TE := fun σ H Q => ty σ H fun y H1 => td σ H1 fun x H2 => ∃ a o, x = .ref a ∧ DGet H2 a y o ∧ Q (.bl o.isSome) H2
def tDNotIn (ty td : TE) : TE := fun σ H Q => ty σ H fun y H1 => td σ H1 fun x H2 => ∃ a o, x = .ref a ∧ DGet H2 a y o ∧ Q (.bl (!o.isSome)) H2
/-- d[y] = v -/
def sDPut (td ty tv : TE) : TS := fun D σ H => tv σ H fun v H1 => td σ H1 fun x H2 => ty σ H2 fun y H3 => ∃ a H4, x = .ref a ∧ DPut H3 a y v H4 ∧ D.nx σ H4
/-- d[y] op= v -/
def sDAug (td ty tv : TE) (rd : V → V → Hp → VK → Prop) : TS := fun D σ H => td σ H fun x H1 => ty σ H1 fun y H2 => ∃ a v, x = .ref a ∧ DGet H2 a y (some v) ∧
  tv σ H2 fun y2 H3 => rd v y2 H3 fun z H4 => ∃ H5, DPut H4 a y z H5 ∧ D.nx σ H5
/-- del d[y] -/
def sDDel (td ty : TE) : TS := fun D σ H => td σ H fun x H1 => ty σ H1 fun y H2 => ∃ a kvs k, x = .ref a ∧ H2 a = some (.dK kvs) ∧ y = kV k ∧ (valV kvs k).isSome = true ∧ D.nx σ (upd H2 a (.dK (dropK kvs k)))

section
variable {X : Cx} {o i e value : Expr} {pos pos' tpos : Pos} {td ty tv : TE}
end


/-! ### displays -/
/-- {}, to be a dict of the kind that is wanted -/
def tDNewK : TE := fun _ H Q => ∀ p, H p = none → Q (.ref p) (upd H p (.dK []))
def tDNewT : TE := fun _ H Q => ∀ p, H p = none → Q (.ref p) (upd H p (.dT []))
section
variable {X : Cx} {pos : Pos}
end

/-- the pairs of a display, from the left -/
def tPairs : List (TE × TE) → St → Hp → (List (V × V) → Hp → Prop) → Prop
  | [], _, H, Q => Q [] H
  | (tk, tv) :: r, σ, H, Q => tk σ H fun x H1 => tv σ H1 fun y H2 => tPairs r σ H2 fun ps H3 => Q ((x, y) :: ps) H3
abbrev VV : List (V × V) → List (Value × Value) → Prop := Paired fun p q => RelV p.1 q.1 ∧ RelV p.2 q.2
def PPs (X : Cx) (pos : Pos) (keys : List (Option Expr)) (values : List Expr) (trs : List (TE × TE)) : Prop :=
  ∀ (pins : List (Addr × Obj)) (s : Shared) (σ : St) (H : Hp) (Q : List (V × V) → Hp → Prop), Inv X pins σ H s → tPairs trs σ H Q →
    wpAny (model X.prog X.w) X.A (evalPairs (pairTrees keys values X.env pos)) (fun vs s' => ∃ ps H', Inv X pins σ H' s' ∧ VV ps vs ∧ Q ps H') X.xe s

def mergeK (kvs more : List (Key × V)) : List (Key × V) := more.foldl (fun acc kv => putK acc kv.1 kv.2) kvs
/-- {k: v, ..} with keys ints and texts; the new dict stands empty while the pairs are made -/
def tDisp (trs : List (TE × TE)) : TE := fun σ H Q => ∀ p, H p = none → tPairs trs σ (upd H p (.dK [])) fun ps H2 => H2 p = some (.dK []) ∧ ∃ kvs : List (Key × V), ps = kvs.map (fun kv => (kV kv.1, kv.2)) ∧ kvs.length ≤ 15 ∧ Q (.ref p) (upd H2 p (.dK (mergeK [] kvs)))


/-! ### methods -/
/-- a method call o.m(e) of a built-in, with one argument: what must be seen of the text -/
structure M1 (X : Cx) (o : Expr) (m : Str) (apos : Pos) (e : Expr) (cpos : Pos) : Prop where
  base : attributeBase o m X.env (eval o X.env) = eval o X.env
  few : ((backTo cpos (starEach [e] X.env)).all (fun x => !x.1) && (backToKw cpos (keywordEach [] X.env)).all (fun x => x.1.isSome)
    && decide (([e] : List Expr).length + ([] : List Keyword).length + (if ([] : List Keyword).isEmpty then 0 else 1) < 30)) = true
  line : (apos.endLine == cpos.line) = true
  trees : backTo cpos (starEach [e] X.env) = [(false, eval e X.env)]
structure M2 (X : Cx) (o : Expr) (m : Str) (apos : Pos) (e f : Expr) (cpos : Pos) : Prop where
  base : attributeBase o m X.env (eval o X.env) = eval o X.env
  few : ((backTo cpos (starEach [e, f] X.env)).all (fun x => !x.1) && (backToKw cpos (keywordEach [] X.env)).all (fun x => x.1.isSome)
    && decide (([e, f] : List Expr).length + ([] : List Keyword).length + (if ([] : List Keyword).isEmpty then 0 else 1) < 30)) = true
  line : (apos.endLine == cpos.line) = true
  trees : backTo cpos (starEach [e, f] X.env) = [(false, eval e X.env), (false, eval f X.env)]

/-- a is a dict, whatever its keys -/
def IsD (H : Hp) (a : Addr) : Prop := (∃ kvs, Rd H a (.dK kvs)) ∨ ∃ kvs, Rd H a (.dT kvs)

section
variable {X : Cx} {pins : List (Addr × Obj)} {σ : St} {H : Hp} {s : Shared} {a : Addr} {y d : V} {u r : Value} {o : Option V} {A : Around} {E : Value → Shared → Prop}
end

def tDGet1 (td ty : TE) : TE := fun σ H Q => td σ H fun x H1 => ∃ a, x = .ref a ∧ IsD H1 a ∧ ty σ H1 fun y H2 => ∃ o, DGet H2 a y o ∧ Q (o.getD .non) H2
def tDGet2 (td ty tx : TE) : TE := fun σ H Q => td σ H fun x H1 => ∃ a, x = .ref a ∧ IsD H1 a ∧ ty σ H1 fun y H2 => tx σ H2 fun z H3 => ∃ o, DGet H3 a y o ∧ Q (o.getD z) H3
/-- d.pop(k): there; d.pop(k, x): there or not -/
def tDPop1 (td ty : TE) : TE := fun σ H Q => td σ H fun x H1 => ∃ a, x = .ref a ∧ IsD H1 a ∧ ty σ H1 fun y H2 => ∃ kvs k v, H2 a = some (.dK kvs) ∧ y = kV k ∧ valV kvs k = some v ∧ Q v (upd H2 a (.dK (dropK kvs k)))
def tDPop2 (td ty tx : TE) : TE := fun σ H Q => td σ H fun x H1 => ∃ a, x = .ref a ∧ IsD H1 a ∧ ty σ H1 fun y H2 => tx σ H2 fun z H3 => ∃ kvs k, H3 a = some (.dK kvs) ∧ y = kV k ∧
  (∀ v, valV kvs k = some v → Q v (upd H3 a (.dK (dropK kvs k)))) ∧ (valV kvs k = none → Q z H3)
section
variable {X : Cx} {o e f : Expr} {apos cpos : Pos} {td ty tx : TE}
end

/-! ### dict(d): a copy -/
section
variable {X : Cx} {pins : List (Addr × Obj)} {σ : St} {H : Hp} {s : Shared} {a : Addr} {kvs : List (Key × V)} {A : Around} {E : Value → Shared → Prop}
end


section
variable {X : Cx} {pins : List (Addr × Obj)} {σ : St} {H : Hp} {s : Shared} {a : Addr} {y : V} {u : Value} {A : Around} {E : Value → Shared → Prop}
end
end L2

namespace L2
open PySem PySem.Spec PyProof.Rows
section
variable {X : Cx}
end
/-! ### a dict's pairs: keys that differ -/
section
variable {κ : Type} [DecidableEq κ]
end
end L2

end

section
set_option Elab.async false
set_option linter.all false
set_option maxRecDepth 100000
set_option maxHeartbeats 4000000
namespace Lw
open PySem PySem.Spec PyProof.Rows L2
/-! ### an exception on its way through the frames -/
/-- the exception at a, of the class cls, has left a call that began at s with H; B: what it does not touch -/
structure Fly (P : Program) (w : World) (outer : List Env) (H : Hp) (s : Shared) (H' : Hp) (a : Addr) (cls : Value) (B : Heap) (a0 : Value) (s' : Shared) : Prop where
  os : s'.os = s.os
  bare : AllBare s'.gens
  un : Un (frs outer) [] H H' s.heap s'.heap
  hok : HOk P w H' s'.heap
  fresh : s.heap.get? a = none
  free : H' a = none
  fly : Heap.FlyingW B outer a cls a0 s'.heap
  trk : ∀ b o, H' b ≠ none → s'.heap.get? b = some o → B.get? b = some o
  old : ∀ b o, s.heap.get? b = some o → H b = none → b ∉ frs outer → B.get? b = some o
  any : ∀ b o, s.heap.get? b = some o → b ∉ frs outer → ∃ o', B.get? b = some o'
section
variable {P : Program} {w : World} {outer : List Env} {H H' : Hp} {s s' : Shared} {a : Addr} {cls a0 : Value} {B h5 : Heap}
end
/-- a def's body, not a comprehension's block -/
structure DefCx (X : Cx) : Prop where
  stk : X.stack = X.env :: X.outer
  fr : X.env.frame = some X.env.locals
  ex : X.ex = []
section
variable {X : Cx} {pins : List (Addr × Obj)} {σ : L2.St} {H H' : Hp} {s s' : Shared} {M : Model} {E : Value → Shared → Prop} {Q : Unit → Shared → Prop}
end
/-- how an exception lies behind a call -/
def CXE (P : Program) (w : World) : CXT := fun outer H s E e s' => ∃ a cls H' B a0, e = .ref a ∧ Fly P w outer H s H' a cls B a0 s' ∧ E cls none H'
theorem cxe0 {P : Program} {w : World} {outer : List Env} {H : Hp} {s s' : Shared} {e : Value} (h : CXE P w outer H s (fun _ _ _ => False) e s') : False := by
  obtain ⟨_, _, _, _, _, _, _, z⟩ := h
  exact z
theorem passX0 {X : Cx} : Passes (CXE X.prog X.w) X E0 := fun _ _ _ _ _ _ _ h => (cxe0 h).elim
section
variable {P : Program} {w : World} {K : PySem.W.Frag} {mg : Str → Option Value} {base : Heap} {N : List Str} {qual : Str} {scope : Scope} {f : Addr} {cd : Value} {A : Around} {outer : List Env} {s₀ : Shared} {H₀ : Hp} {E : XK}
end
end Lw
end

section
set_option Elab.async false
set_option linter.all false
set_option maxRecDepth 100000
set_option maxHeartbeats 4000000
namespace Lw
open PySem PySem.Spec PyProof.Rows L2

/-! ### readings that compute: no ∃ over what is written -/
/-- a branch -/
def Br (b : Bool) (A B : Prop) : Prop := (b = true → A) ∧ (b = false → B)
theorem br_eq (b : Bool) (A B : Prop) : Br b A B = (if b = true then A else B) := by
  unfold Br
  cases b <;> simp
def dVar (i : Nat) : TE := fun σ H Q => match σ[i]? with
  | some (some v) => Q v H
  | _ => False
theorem dVar_eq (i : Nat) : dVar i = tVar i := by
  funext σ H Q
  apply propext
  unfold dVar tVar
  cases h : σ[i]? with
  | none => simp
  | some o => cases o <;> simp
def dI (C : Int → Int → Prop) (g : Int → Int → V) : R2 := fun x y H Q => match x, y with
  | .int i, .int j => C i j ∧ Q (g i j) H
  | _, _ => False
def dI0 (g : Int → Int → V) : R2 := fun x y H Q => match x, y with
  | .int i, .int j => Q (g i j) H
  | _, _ => False
def dU (g : Int → V) : V → Hp → VK → Prop := fun x H Q => match x with
  | .int i => Q (g i) H
  | _ => False
def dTest (t : TE) : TT := fun σ H Q => t σ H fun x H' => match x with
  | .bl k => Q k H'
  | _ => False
theorem dTest_eq (t : TE) : dTest t = tTest t := by
  funext σ H Q
  unfold dTest tTest
  congr 1
  funext x H'
  apply propext
  cases x <;> simp
theorem dTest_eqB (t : TE) : dTest t = tB t := dTest_eq t
def dAnd (t u : TT) : TT := fun σ H Q => t σ H fun c H1 => Br c (u σ H1 Q) (Q false H1)
def dOr (t u : TT) : TT := fun σ H Q => t σ H fun c H1 => Br c (Q true H1) (u σ H1 Q)
theorem dOr_eq (t u : TT) : dOr t u = tOr t u := by
  funext σ H Q
  unfold dOr tOr
  simp only [br_eq]
def dAndV (ta tb : TE) : TE := fun σ H Q => ta σ H fun x H1 => match x with
  | .bl c => Br c (tb σ H1 Q) (Q (.bl false) H1)
  | _ => False
def dOrV (ta tb : TE) : TE := fun σ H Q => ta σ H fun x H1 => match x with
  | .bl c => Br c (Q (.bl true) H1) (tb σ H1 Q)
  | _ => False
def dNotV (ta : TE) : TE := fun σ H Q => ta σ H fun x H1 => match x with
  | .bl c => Q (.bl (!c)) H1
  | _ => False
theorem dAndV_eq (t u : TE) : dAndV t u = tAndV t u := by
  funext σ H Q
  unfold dAndV tAndV
  congr 1
  funext x H'
  apply propext
  cases x <;> simp [br_eq]
theorem dNotV_eq (t : TE) : dNotV t = tNotV t := by
  funext σ H Q
  unfold dNotV tNotV
  congr 1
  funext x H'
  apply propext
  cases x <;> simp
def dIfS (c : TT) (t u : TS) : TS := fun D σ H => c σ H fun b H1 => Br b (t D σ H1) (u D σ H1)
theorem dIfS_eq (c : TT) (t u : TS) : dIfS c t u = tIfS c t u := by
  funext D σ H
  unfold dIfS tIfS
  simp only [br_eq]
def dIf (t : TT) (ta tb : TE) : TE := fun σ H Q => t σ H fun c H1 => Br c (ta σ H1 Q) (tb σ H1 Q)

section
variable {X : Cx} {a b c : Expr} {ta tb tc : TE} {pos : Pos} {tA tB' : TT} {rest : List Expr}
theorem dv (i : Nat) {x : Str} {pos : Pos} (hN : X.N[i]? = some x := by rfl) (hv : Vis X.env.scope x := by first | exact Or.inl rfl | exact Or.inr (Or.inl rfl) | exact Or.inr (Or.inr rfl)) (hd : (x == ("__debug__" : Str)) = false := by decide)
    (hcd : (x == ("__classdict__" : Str)) = false := by decide) : PE X (.Name x pos) (dVar i) := by
  rw [dVar_eq]
  exact pe_var hN hv hd hcd
theorem opD {f : Value → Value → Sem Value} {C : Int → Int → Prop} {g : Int → Int → V} (h : OpR X f (rI C g)) : OpR X f (dI C g) := by
  intro pins s σ H x y v u Q I rx ry q
  cases x <;> cases y <;> first
    | exact False.elim q
    | exact h _ _ _ _ _ _ _ _ _ I rx ry ⟨_, _, rfl, rfl, q.1, q.2⟩
theorem opD0 {f : Value → Value → Sem Value} {g : Int → Int → V} (h : OpR X f (rI0 g)) : OpR X f (dI0 g) := by
  intro pins s σ H x y v u Q I rx ry q
  cases x <;> cases y <;> first
    | exact False.elim q
    | exact h _ _ _ _ _ _ _ _ _ I rx ry ⟨_, _, rfl, rfl, q⟩

/-! ### sizes -/
/-- below 2 ^ n in size -/
def Bd (n : Nat) (x : Int) : Prop := x.natAbs < 2 ^ n
theorem Bd.bits {n : Nat} {x : Int} (h : Bd n x) : Builtin.Int.intBits x ≤ n := intBits_le_iff.mpr h
def COk (i j : Int) : Prop := (Bd 4000 i ∧ Bd 4000 j) ∨ CMul i j
theorem COk.ok {i j : Int} (h : COk i j) : IntMulOk i j := by
  rcases h with ⟨h1, h2⟩ | h
  · exact PySem.IntMulOk.of_bits (Nat.le_trans h1.bits (by decide)) (Nat.le_trans h2.bits (by decide))
  · exact h.ok
theorem pow_log {n : Nat} {x : Int} (h : Bd n x) (h0 : 0 < n) : x.natAbs.log2 < n := by
  by_cases z : x.natAbs = 0
  · rw [z]
    simpa using h0
  · exact (Nat.log2_lt z).mpr h
theorem o_add : OpR X (binaryOp .Add) (dI0 fun i j => .int (i + j)) := opD0 op_add
theorem o_sub : OpR X (binaryOp .Sub) (dI0 fun i j => .int (i - j)) := opD0 op_sub
theorem o_mul : OpR X (binaryOp .Mult) (dI COk fun i j => .int (i * j)) := opD (opI fun _ _ _ _ _ _ _ hc q => mul_int q hc.ok)
/-- // by a positive divisor -/
theorem o_div : OpR X (binaryOp .FloorDiv) (dI (fun _ j => 0 < j ∧ Bd 4000 j) fun i j => .int (i / j)) := opD (opI fun i j _ _ _ _ _ hc q => by
  have h1 : (0 : Int) < j := hc.1
  exact floordiv_int (by omega) (by rw [Int.fdiv_eq_ediv_of_nonneg i (by omega)]; exact q) (.inl (PyProof.noPylong_of_log2 (Nat.lt_trans (pow_log hc.2 (by decide)) (by decide)))))
theorem o_mod : OpR X (binaryOp .Mod) (dI (fun _ j => 0 < j) fun i j => .int (i % j)) := opD op_mod
theorem o_pow : OpR X (binaryOp .Pow) (dI CPow fun i j => .int (i ^ j.toNat)) := opD op_pow
theorem o_lt : OpR X (compareOp .Lt) (dI0 fun i j => .bl (decide (i < j))) := opD0 op_lt
theorem o_gt : OpR X (compareOp .Gt) (dI0 fun i j => .bl (decide (j < i))) := opD0 op_gt
/-- == of scalars -/
def dEq : R2 := fun x y H Q => match x, y with
  | .int i, .int j => Q (.bl (decide (i = j))) H
  | .bl i, .bl j => Q (.bl (i == j)) H
  | .str i, .str j => Q (.bl (decide (i = j))) H
  | _, _ => False
def dNe : R2 := fun x y H Q => match x, y with
  | .int i, .int j => Q (.bl (!decide (i = j))) H
  | .bl i, .bl j => Q (.bl (i != j)) H
  | .str i, .str j => Q (.bl (!decide (i = j))) H
  | _, _ => False
theorem o_eq : OpR X (compareOp .Eq) dEq := by
  intro pins s σ H x y v u Q I rx ry q
  cases x <;> cases y <;> first
    | exact False.elim q
    | (refine op_eq _ _ _ _ _ _ _ _ _ I rx ry ⟨rfl, ?_⟩
       have e : ∀ (i j : Int), decide (V.int i = V.int j) = decide (i = j) := fun i j => by simp
       have e2 : ∀ (i j : Str), decide (V.str i = V.str j) = decide (i = j) := fun i j => by simp
       first
         | (rw [e]; exact q)
         | (rw [e2]; exact q)
         | (rw [dec_bl]; exact q))
theorem o_ne : OpR X (compareOp .NotEq) dNe := by
  intro pins s σ H x y v u Q I rx ry q
  cases x <;> cases y <;> first
    | exact False.elim q
    | (refine op_ne _ _ _ _ _ _ _ _ _ I rx ry ⟨rfl, ?_⟩
       have e : ∀ (i j : Int), decide (V.int i = V.int j) = decide (i = j) := fun i j => by simp
       have e2 : ∀ (i j : Str), decide (V.str i = V.str j) = decide (i = j) := fun i j => by simp
       first
         | (rw [e]; exact q)
         | (rw [e2]; exact q)
         | (rw [dec_bl]; exact q))

/-! ### tests -/
theorem t_cmp {op : CmpOp} {r : R2} (ho : OpR X (compareOp op) r) (ha : PE X a ta) (hb : PE X b tb) (hm : behindInMarks op b = false) : PT X (.Compare a [op] [b] pos) (dTest (tOp r ta tb)) := by
  rw [dTest_eq]
  exact pt_cmpR ho ha hb hm
/-- (x is None), (x is not None) -/
theorem t_isN {j pos'} (ha : PE X a ta) : PT X (.Compare a [.Is] [.Constant .none j pos'] pos) (dTest (tIsN ta)) := by
  rw [dTest_eqB]
  exact pt_cmp (pc_isN ha)
theorem e_notN {j pos'} (ha : PE X a ta) : PE X (.Compare a [.IsNot] [.Constant .none j pos'] pos) (tNotN ta) := pe_cmp (pc_notN ha)
theorem t_val {e : Expr} {t : TE} (h : PE X e t) (he : ∀ whole, isTrue e X.env whole = (do let v ← whole; standAt e.pos; holding [v] (truthy v)) := by intro _; rfl) : PT X e (dTest t) := by
  rw [dTest_eqB]
  exact pt_val h he
theorem w_or (ha : PT X a tA) (hb : PW X (.BoolOp .Or (b :: rest) pos) tB') : PW X (.BoolOp .Or (a :: b :: rest) pos) (dOr tA tB') := by
  rw [dOr_eq]
  exact pw_or ha hb
theorem e_and (ha : PE X a ta) (hb : PE X (.BoolOp .And (b :: rest) pos) tb) : PE X (.BoolOp .And (a :: b :: rest) pos) (dAndV ta tb) := by
  rw [dAndV_eq]
  exact pe_and ha hb
theorem e_not (ha : PE X a ta) : PE X (.UnaryOp .Not a pos) (dNotV ta) := by
  rw [dNotV_eq]
  exact pe_not ha
theorem s_if {c : Expr} {a b : List Stmt} {tc : TT} {t u : TS} (hc : PT X c tc) (ha : PSs X a t) (hb : PSs X b u) : PS X (.If c a b pos) (dIfS tc t u) := by
  rw [dIfS_eq]
  exact ps_if hc ha hb
/-- a block cut at an assertion -/
def tCut (R : L2.St → Hp → Prop) (t u : TS) : TS := fun D σ H => t { D with nx := R } σ H ∧ ∀ σ' H', R σ' H' → u D σ' H'
theorem ss_cut (R : L2.St → Hp → Prop) {st : Stmt} {r : List Stmt} {t u : TS} (h1 : PS X st t) (h2 : PSs X r u) : PSs X (st :: r) (tCut R t u) := by
  intro pins s σ H D I h
  refine wpAny_execs_cons (thn (h1 pins s σ H { D with nx := R } I h.1) fun f s1 q => ?_)
  cases f with
  | next =>
    obtain ⟨σ', H', I', q⟩ := q
    exact h2 pins s1 σ' H' D I' (h.2 σ' H' q)
  | ret v => exact q
  | brk => exact q
  | cont => exact q

/-! ### calls of the text's own defs -/
/-- a def that stands in the text under the name x and keeps the promise sp -/
structure Cal (P : Program) (w : World) (K : PySem.W.Frag) (mg : Str → Option Value) (base : Heap) (x : Str) (ps : List Str) (k : Nat) (sp : Sp) : Prop where
  ex : ∃ (f : Addr) (fd : FuncData), mg x = some (.ref f) ∧ PySem.W.keepIn K (.ref f) = true ∧ Binds K fd ps [] ∧ FnOk P w K mg base (CXE P w) k f fd ps sp ∧
    ∃ (oc : Value) (od : Option Addr) (osl : Array (Option Value)), K.lookup f = some ⟨oc, od, .func fd, osl⟩
def dCall (sp : Sp) (t : TA) : TE := fun σ H Q => t σ H fun vs H1 => sp vs H1 Q E0
theorem dCall_eq (sp : Sp) (t : TA) : dCall sp t = tCall sp [] E0 t := by
  funext σ H Q
  unfold dCall tCall
  simp only [List.append_nil]
theorem e_call {x : Str} {ps : List Str} {k k' : Nat} {sp : Sp} {p : Pos} {e : Expr} {es : List Expr} {t : TA} (C : Cal X.prog X.w X.K X.mg X.base x ps k sp) (hr : Room k' X.A) (hk : k ≤ k') (hg : Gl X x)
    (ha : PA X (e :: es) t) (hdb : (x == ("__debug__" : Str)) = false := by decide) (he : starEach (e :: es) X.env = (false, eval e X.env) :: starEach es X.env := by rfl) (hpl : (backTo pos (starEach es X.env)).any (·.1) = false := by rfl) :
    PE X (.Call (.Name x p) (e :: es) [] pos) (dCall sp t) := by
  obtain ⟨f, fd, h1, h2, h3, h4, _⟩ := C.ex
  rw [dCall_eq]
  exact pe_call (h4.mono hk) hr hg h1 h2 h3 .nil passX0 ha hdb he hpl

/-! ### what stays: tuples and lists that are only read -/
def lenOk (xs : List V) : Bool := Nat.ble xs.length 1000
theorem lenOk_le {xs : List V} (h : lenOk xs = true) : xs.length ≤ sizeLine := Nat.le_trans (Nat.le_of_ble_eq_true h) (by decide)
def dTup (t : TA) : TE := fun σ H Q => t σ H fun xs H1 => match lenOk xs with
  | true => ∀ p H', Same H1 H' → H' p = some (.tup xs) → Q (.ref p) H'
  | false => False
def dLst (t : TA) : TE := fun σ H Q => t σ H fun xs H1 => match lenOk xs with
  | true => ∀ p H', Same H1 H' → H' p = some (.lst xs) → Q (.ref p) H'
  | false => False
theorem same_upd {H : Hp} {p : Addr} {o : HO} (h : H p = none) : Same H (upd H p o) := fun b u e => by
  rw [upd_ne (ne_of_none e h)]
  exact e
theorem e_tup {es : List Expr} {t : TA} {x1} (h : PA X es t) : PE X (.Tuple es x1 pos) (dTup t) := by
  intro pins s σ H Q I hq
  refine wpAny_Tuple_spliced (thn (h pos pins s σ H _ I hq) fun us s1 ⟨xs, H1, I1, r, q⟩ => ?_)
  cases hl : lenOk xs with
  | false =>
    have q' : (match lenOk xs with | true => _ | false => False : Prop) := q
    rw [hl] at q'
    exact q'.elim
  | true =>
    have z := lenOk_le hl
    have q' : (match lenOk xs with | true => ∀ p H', Same H1 H' → H' p = some (.tup xs) → Q (.ref p) H' | false => False : Prop) := q
    rw [hl] at q'
    refine ⟨by rw [← r.length]; exact z, ?_⟩
    have hf : H1 s1.heap.objs.size = none := I1.hok.fresh (Nat.le_refl _)
    refine ⟨.ref s1.heap.objs.size, upd H1 s1.heap.objs.size (.tup xs), I1.laid (t' := s1.toks) (fun b u e => Heap.get?_push_of_some _ e) (Nat.le_refl _) ?_, rfl, q' _ _ (same_upd hf) upd_same⟩
    exact ⟨z, us, r, ⟨_, Heap.get?_push_size _ rfl, rfl, _, rfl⟩⟩
theorem e_lst {es : List Expr} {t : TA} (h : PA X es t) : PE X (.List es pos) (dLst t) := by
  intro pins s σ H Q I hq
  refine wpAny_List_spliced (thn (h pos pins s σ H _ I hq) fun us s1 ⟨xs, H1, I1, r, q⟩ => ?_)
  cases hl : lenOk xs with
  | false =>
    have q' : (match lenOk xs with | true => _ | false => False : Prop) := q
    rw [hl] at q'
    exact q'.elim
  | true =>
    have z := lenOk_le hl
    have q' : (match lenOk xs with | true => ∀ p H', Same H1 H' → H' p = some (.lst xs) → Q (.ref p) H' | false => False : Prop) := q
    rw [hl] at q'
    refine ⟨by rw [← r.length]; exact z, ?_⟩
    have hf : H1 s1.heap.objs.size = none := I1.hok.fresh (Nat.le_refl _)
    refine ⟨.ref s1.heap.objs.size, upd H1 s1.heap.objs.size (.lst xs), I1.laid (t' := s1.toks) (fun b u e => Heap.get?_push_of_some _ e) (Nat.le_refl _) ?_, rfl, q' _ _ (same_upd hf) upd_same⟩
    exact ⟨z, us, 0, r, Heap.get?_push_size _ rfl⟩
/-- t[i], i written -/
def nthI (xs : List V) : Int → Option V
  | .ofNat n => xs[n]?
  | .negSucc _ => none
theorem nthI_at {xs : List V} {i : Int} {v : V} (h : nthI xs i = some v) : atI xs i = some v := by
  cases i with
  | ofNat n => exact atI_nat h
  | negSucc n => cases h
def dIxT : R2 := fun x y H Q => match x, y with
  | .ref p, .int i => ∃ xs, H p = some (.tup xs) ∧ match nthI xs i with
    | some v => Q v H
    | none => False
  | _, _ => False
def dIxL (K : PySem.W.Frag) : R2 := fun x y H Q => match x, y with
  | .ref p, .int i => ∃ xs v, SqL K H p xs ∧ atI xs i = some v ∧ Q v H
  | _, _ => False
theorem i_tup : IxR X dIxT := by
  intro value slice pins s σ H x y v u Q I rx ry h hs
  cases x <;> cases y <;> first
    | exact False.elim h
    | (obtain ⟨xs, e, q⟩ := h
       cases z : nthI xs _ with
       | none =>
         rw [z] at q
         exact q.elim
       | some w =>
         rw [z] at q
         exact ix_tup value slice pins s σ H _ _ v u Q I rx ry ⟨_, xs, _, w, rfl, rfl, SqT.of e, nthI_at z, q⟩ hs)
theorem i_lst : IxR X (dIxL X.K) := by
  intro value slice pins s σ H x y v u Q I rx ry h hs
  cases x <;> cases y <;> first
    | exact False.elim h
    | (obtain ⟨xs, w, e, z, q⟩ := h
       exact ix_list value slice pins s σ H _ _ v u Q I rx ry ⟨_, xs, _, w, rfl, rfl, e, z, q⟩ hs)

/-! ### built-ins -/
def dAbs : List V → Hp → VK → Prop := fun xs H Q => match xs with
  | [.int i] => Q (.int (i.natAbs : Int)) H
  | _ => False
theorem c_abs : CallR X (.builtin "abs") dAbs := by
  intro pins s σ H xs us Q I r h
  match xs, h with
  | [.int i], h =>
    have e : (if i < 0 then -i else i) = (i.natAbs : Int) := by split <;> omega
    exact call_abs pins s σ H _ us Q I r ⟨i, rfl, by rw [e]; exact h⟩
def dLen (K : PySem.W.Frag) : List V → Hp → VK → Prop := fun xs H Q => match xs with
  | [.ref p] => ∃ ys, (SqL K H p ys ∨ SqT K H p ys) ∧ Q (.int ys.length) H
  | [.str z] => z.length ≤ sizeLine ∧ Q (.int z.length) H
  | _ => False
theorem c_len : CallR X (.builtin "len") (dLen X.K) := by
  intro pins s σ H xs us Q I r h
  match xs, h with
  | [.ref p], ⟨ys, h1, q⟩ => exact call_len_seq pins s σ H _ us Q I r ⟨p, ys, rfl, h1, q⟩
  | [.str z], ⟨h1, q⟩ => exact call_len_str pins s σ H _ us Q I r ⟨z, rfl, h1, q⟩
/-- isinstance(x, T), T a built-in type -/
def tyB (t c : String) : Option Bool :=
  if t = c then some true else if t = "bool" ∧ c = "int" then some true
  else if (t = "int" ∨ t = "bool" ∨ t = "str" ∨ t = "tuple" ∨ t = "list" ∨ t = "dict" ∨ t = "NoneType") ∧ (c = "int" ∨ c = "bool" ∨ c = "str" ∨ c = "tuple" ∨ c = "list") then some false else none
def tyHO : HO → Option String
  | .lst _ => some "list"
  | .frz _ (.lst _) => some "list"
  | .tup _ => some "tuple"
  | .dK _ => some "dict"
  | .dT _ => some "dict"
  | _ => none
def dIsi : List V → Hp → VK → Prop := fun xs H Q => match xs with
  | [.non, .ty c] => ∃ b, tyB "NoneType" c = some b ∧ Q (.bl b) H
  | [.bl _, .ty c] => ∃ b, tyB "bool" c = some b ∧ Q (.bl b) H
  | [.int _, .ty c] => ∃ b, tyB "int" c = some b ∧ Q (.bl b) H
  | [.str _, .ty c] => ∃ b, tyB "str" c = some b ∧ Q (.bl b) H
  | [.ref p, .ty c] => ∃ u b t, H p = some u ∧ tyHO u = some t ∧ tyB t c = some b ∧ Q (.bl b) H
  | _ => False
end

/-! ### while -/
section
variable {X : Cx} {pos : Pos}
def dWhile (c : TT) (tb : TS) : TS := fun D σ H => ∃ W : Nat → L2.St → Hp → Prop, (∃ m, W m σ H) ∧ ∀ m σ H, W m σ H →
  c σ H fun b H1 => Br b (tb { D with nx := fun σ' H' => ∃ m', m' < m ∧ W m' σ' H', ct := fun σ' H' => ∃ m', m' < m ∧ W m' σ' H', bk := D.nx } σ H1) (D.nx σ H1)
theorem s_while {c : Expr} {body : List Stmt} {tc : TT} {tb : TS} (hp : PassesOwn (model X.prog X.w) X.A X.env X.xe) (hc : PT X c tc) (hb : PSs X body tb) : PS X (.While c body [] pos) (dWhile tc tb) := by
  intro pins s σ H D I h
  obtain ⟨W, ⟨m0, w0⟩, turn⟩ := h
  refine wpAny_While (codeAny_whileLoop (fun n s' => ∃ σ' H', Inv X pins σ' H' s' ∧ W n σ' H') ?_ m0 ⟨σ, H, I, w0⟩)
  rintro n s1 ⟨σ1, H1, I1, w1⟩
  refine wpAny_passesOwn hp (thn (hc pins s1 σ1 H1 _ I1 (turn n σ1 H1 w1)) fun b s2 ⟨H2, I2, q2⟩ => ?_)
  cases b with
  | true =>
    have q2 := q2.1 rfl
    rw [if_pos rfl]
    refine wpAny_passesOwn hp (thn (hb pins s2 σ1 H2 _ I2 q2) fun f s3 q3 => ?_)
    cases f with
    | next =>
      obtain ⟨σ3, H3, I3, m', hm, w3⟩ := q3
      exact ⟨m', hm, σ3, H3, I3, w3⟩
    | cont =>
      obtain ⟨σ3, H3, I3, m', hm, w3⟩ := q3
      exact ⟨m', hm, σ3, H3, I3, w3⟩
    | brk => exact q3
    | ret v => exact q3
  | false =>
    rw [if_neg Bool.false_ne_true]
    exact wpAny_execs_nil ⟨σ1, H2, I2, q2.2 rfl⟩
end

/-! ### a def of the text, and what it keeps -/
structure Dfn (K : PySem.W.Frag) (mg : Str → Option Value) (x : Str) (st : Stmt) (ps : List Str) : Prop where
  ex : ∃ (f : Addr) (fd : FuncData), Fun K x x st f fd ∧ mg x = some (.ref f) ∧ Binds K fd ps []
section
variable {P : Program} {w : World} {K : PySem.W.Frag} {mg : Str → Option Value} {base : Heap}
theorem Dfn.calX {x : Str} {st : Stmt} {N ps : List Str} {k : Nat} {sp : Sp} (d : Dfn K mg x st ps) (S : FnScope N ps (defScope st)) (len : ∀ vs H Q E, sp vs H Q E → vs.length = ps.length)
    (hbody : ∀ (f : Addr) (cdv : Value) (A : Around) (outer : List Env) (s : Shared) (H : Hp) (vs : List V) (Q : VK) (E : XK), Room k (A.deeper (envOfC x (defScope st) s.heap.objs.size f cdv)) → sp vs H Q E →
      ∃ t, PSs (cxOf (CXE P w) P w K mg base N x (defScope st) f cdv A outer s H E) (defBody st) t ∧ t { nx := fun _ H' => Q .non H', rt := Q } (start N vs) H) : Cal P w K mg base x ps (k + 1) sp := by
  obtain ⟨f, fd, F, hm, hb⟩ := d.ex
  obtain ⟨oc, od, kV, doc, pm, an, cdv, ct, osl, rfl, lk, hcd⟩ := F.ex
  exact ⟨f, _, hm, F.kp, hb, fn_of lk hcd S len fun A outer s H vs Q E hr hsp => hbody f cdv A outer s H vs Q E hr hsp, oc, od, osl, lk⟩
theorem Dfn.cal {x : Str} {st : Stmt} {N ps : List Str} {k : Nat} {sp : Sp} (d : Dfn K mg x st ps) (S : FnScope N ps (defScope st)) (len : ∀ vs H Q E, sp vs H Q E → vs.length = ps.length)
    (hbody : ∀ (f : Addr) (cdv : Value) (A : Around) (outer : List Env) (s : Shared) (H : Hp) (vs : List V) (Q : VK) (E : XK), Room k (A.deeper (envOfC x (defScope st) s.heap.objs.size f cdv)) → sp vs H Q E →
      ∃ t, PSs (cxOf (CXE P w) P w K mg base N x (defScope st) f cdv A outer s H E).nox (defBody st) t ∧ t { nx := fun _ H' => Q .non H', rt := Q } (start N vs) H) : Cal P w K mg base x ps (k + 1) sp :=
  d.calX S len fun f cdv A outer s H vs Q E hr hsp => by
    obtain ⟨t, h, q⟩ := hbody f cdv A outer s H vs Q E hr hsp
    exact ⟨t, h.nox, q⟩
/-- law's: a list of at most 63 ints is handed in, True comes out -/
def sp_law (K : PySem.W.Frag) (ns : List Int) : Sp := fun vs H Q _ => match vs with
  | [.ref a] => SqL K H a (ns.map V.int) ∧ ns.length ≤ 63 ∧ ∀ H', Q (.bl true) H'
  | _ => False
def sp_lawA (K : PySem.W.Frag) : Sp := fun vs H Q _ => ∃ (ns : List Int) (a : Addr), vs = [.ref a] ∧ SqL K H a (ns.map V.int) ∧ ns.length ≤ 63 ∧ ∀ H', Q (.bl true) H'
theorem law_fn {k : Nat} {st : Stmt} {f : Addr} {fd : FuncData} (F : Fun K "law" "law" st f fd) (hm : mg "law" = some (.ref f)) (C : ∀ ns, Cal P w K mg base "law" ["_law_script"] k (sp_law K ns)) : FnOk P w K mg base (CXE P w) k f fd ["_law_script"] (sp_lawA K) := by
  refine ⟨fun vs H Q E h => ?_, fun A outer s H args us vs Q E hr he hb hv hs => ?_⟩
  · obtain ⟨ns, a, rfl, _⟩ := h
    rfl
  · obtain ⟨ns, a, rfl, h1, h2, h3⟩ := hs
    obtain ⟨f', fd', e1, e2, e3, G, oc', od', osl', lk'⟩ := (C ns).ex
    obtain ⟨oc, od, kV, doc, pm, an, cdv, ct, osl, _, lk, _⟩ := F.ex
    rw [hm] at e1
    cases e1
    rw [lk] at lk'
    cases lk'
    exact G.run A outer s H args us _ Q E hr he hb hv ⟨h1, h2, h3⟩
end

/-! ### heaps -/
/-! ### data at any depth: == and != -/
theorem sm_sqT {K : PySem.W.Frag} {H H' : Hp} {a : Addr} {xs : List V} (e : Same H H') (h : SqT K H a xs) : SqT K H' a xs := by
  rcases h with (h | ⟨o, h⟩) | h
  · exact .inl (.inl (e _ _ h))
  · exact .inl (.inr ⟨o, e _ _ h⟩)
  · exact .inr h
mutual
/-- the value v stands for the data d -/
inductive Rp (K : PySem.W.Frag) (H : Hp) : V → PyData → Prop where
  | non : Rp K H .non .none
  | bl (b : Bool) : Rp K H (.bl b) (.bool b)
  | int (i : Int) : Rp K H (.int i) (.int i)
  | str (x : Str) : Rp K H (.str x) (.str x)
  | tup {p : Addr} {xs : List V} {ds : List PyData} : SqT K H p xs → RpL K H xs ds → Rp K H (.ref p) (.tuple ds)
  | lst {p : Addr} {xs : List V} {ds : List PyData} : SqL K H p xs → RpL K H xs ds → Rp K H (.ref p) (.list ds)
inductive RpL (K : PySem.W.Frag) (H : Hp) : List V → List PyData → Prop where
  | nil : RpL K H [] []
  | cons {v : V} {d : PyData} {vs : List V} {ds : List PyData} : Rp K H v d → RpL K H vs ds → RpL K H (v :: vs) (d :: ds)
end
mutual
theorem Rp.up {K : PySem.W.Frag} {H H' : Hp} (s : Same H H') : ∀ {v : V} {d : PyData}, Rp K H v d → Rp K H' v d
  | _, _, .non => .non
  | _, _, .bl b => .bl b
  | _, _, .int i => .int i
  | _, _, .str x => .str x
  | _, _, .tup h r => .tup (sm_sqT s h) (RpL.up s r)
  | _, _, .lst h r => .lst (s.seq h) (RpL.up s r)
theorem RpL.up {K : PySem.W.Frag} {H H' : Hp} (s : Same H H') : ∀ {v : List V} {d : List PyData}, RpL K H v d → RpL K H' v d
  | _, _, .nil => .nil
  | _, _, .cons h r => .cons (Rp.up s h) (RpL.up s r)
end
section
variable {X : Cx}
mutual
theorem Rp.reads {pins : List (Addr × Obj)} {σ : L2.St} {H : Hp} {s : Shared} (I : Inv X pins σ H s) : ∀ {v : V} {d : PyData} {u : Value}, Rp X.K H v d → L2.RelV v u → ∃ as, Reads s.heap u d as
  | _, _, _, .non, r => by cases r; exact ⟨_, Reads.none⟩
  | _, _, _, .bl b, r => by cases r; exact ⟨_, Reads.bool b⟩
  | _, _, _, .int i, r => by obtain ⟨t, rfl⟩ := r; exact ⟨_, Reads.int i t⟩
  | _, _, _, .str i, r => by obtain ⟨t, rfl⟩ := r; exact ⟨_, Reads.str i t⟩
  | _, _, _, .tup h q, r => by
    cases r
    obtain ⟨its, rv, ⟨o, e, c, n, dd⟩, _⟩ := I.tuple h
    obtain ⟨as, ra⟩ := RpL.reads I q rv
    exact ⟨as, reads_tuple_at e c dd (by simpa using ra)⟩
  | _, _, _, .lst h q, r => by
    cases r
    obtain ⟨its, rv, ⟨o, n, e, c, _, dd⟩, _⟩ := I.list h
    obtain ⟨as, ra⟩ := RpL.reads I q rv
    exact ⟨_, reads_list_at e c dd (by simpa using ra)⟩
theorem RpL.reads {pins : List (Addr × Obj)} {σ : L2.St} {H : Hp} {s : Shared} (I : Inv X pins σ H s) : ∀ {v : List V} {d : List PyData} {u : List Value}, RpL X.K H v d → Vals v u → ∃ as, ReadsAll s.heap u d as
  | _, _, _, .nil, r => by cases r; exact ⟨_, ReadsAll.nil⟩
  | _, _, _, .cons h q, r => by
    cases r with
    | cons r1 r2 =>
      obtain ⟨as, ra⟩ := Rp.reads I h r1
      obtain ⟨bs, rb⟩ := RpL.reads I q r2
      exact ⟨_, ReadsAll.cons ra rb⟩
end
def dEqD (K : PySem.W.Frag) : R2 := fun x y H Q => ∃ d e, Rp K H x d ∧ Rp K H y e ∧ SeqAt.shaped d = true ∧ SeqAt.shaped e = true ∧ Q (.bl (PyData.eqv d e)) H
def dNeD (K : PySem.W.Frag) : R2 := fun x y H Q => ∃ d e, Rp K H x d ∧ Rp K H y e ∧ SeqAt.shaped d = true ∧ SeqAt.shaped e = true ∧ Q (.bl (!PyData.eqv d e)) H
theorem o_eqD (hu : X.A.units + 64 < cLine) : OpR X (compareOp .Eq) (dEqD X.K) := by
  intro pins s σ H x y v u Q I rx ry q
  obtain ⟨d, e, h1, h2, h3, h4, q⟩ := q
  obtain ⟨as, r1⟩ := h1.reads I rx
  obtain ⟨bs, r2⟩ := h2.reads I ry
  exact PyProof.Rows.eq_dataH r1 r2 h3 h4 hu ⟨.bl _, H, I, rfl, q⟩
end
end Lw
end

section
set_option Elab.async false
set_option linter.all false
set_option maxRecDepth 100000
set_option maxHeartbeats 4000000
set_option exponentiation.threshold 5000
namespace Lw
open PySem PySem.Spec PyProof.Rows L2
/-! ### what the law reckons with -/
def cell (ns : List Int) (k : Int) : Int := if ns.length = 0 then 0 else ns.getD (k % (ns.length : Int)).toNat 0
def draw (ns : List Int) (k m : Int) : Int := (cell ns k + 1) * (k * k + 7 * k + 48271) % 99991 / 3 % m
theorem draw_nn (ns : List Int) (k : Int) {m : Int} (h : 0 < m) : 0 ≤ draw ns k m := Int.emod_nonneg _ (by omega)
theorem draw_lt (ns : List Int) (k : Int) {m : Int} (h : 0 < m) : draw ns k m < m := Int.emod_lt_of_pos _ h
theorem sq_small {k : Int} (h0 : 0 ≤ k) (h1 : k < 1000) : 0 ≤ k * k ∧ k * k ≤ 1000000 :=
  ⟨Int.mul_nonneg h0 h0, Int.le_trans (Int.mul_le_mul (Int.le_of_lt h1) (Int.le_of_lt h1) h0 (by decide)) (by decide)⟩
theorem bd_lit {n : Nat} {x : Int} (h : Nat.blt x.natAbs (2 ^ n) = true) : Bd n x := by
  unfold Bd
  exact Nat.lt_of_lt_of_le (Nat.lt_of_succ_le (Nat.le_of_ble_eq_true h)) (Nat.le_refl _)
theorem Bd.mono {m n : Nat} {x : Int} (h : Bd m x) (l : m ≤ n) : Bd n x := Nat.lt_of_lt_of_le h (Nat.pow_le_pow_right (by decide) l)
theorem Bd.mul {m n : Nat} {x y : Int} (h : Bd m x) (l : Bd n y) : Bd (m + n) (x * y) := by
  unfold Bd at *
  rw [Int.natAbs_mul, Nat.pow_add]
  by_cases z : y.natAbs = 0
  · rw [z, Nat.mul_zero]
    exact Nat.mul_pos (Nat.pow_pos (by decide)) (Nat.pow_pos (by decide))
  · exact Nat.lt_of_lt_of_le (Nat.mul_lt_mul_of_pos_right h (Nat.pos_of_ne_zero z)) (Nat.mul_le_mul_left _ (Nat.le_of_lt l))
theorem Bd.add {n : Nat} {x y : Int} (h : Bd n x) (l : Bd n y) : Bd (n + 1) (x + y) := by
  unfold Bd at *
  have := Int.natAbs_add_le x y
  rw [Nat.pow_succ]
  omega
theorem Bd.of_le {n : Nat} {x y : Int} (h : Bd n y) (l : x.natAbs ≤ y.natAbs) : Bd n x := Nat.lt_of_le_of_lt l h
theorem bd_of {x b : Int} {n : Nat} (h1 : -b ≤ x) (h2 : x ≤ b) (h : Bd n b) : Bd n x := h.of_le (by omega)
/-! ### lowest terms -/
def lowT (t b : Int) : Int := t / (Int.gcd t b : Int)
def lowB (t b : Int) : Int := b / (Int.gcd t b : Int)
theorem gcd_pos' (t : Int) {b : Int} (hb : 0 < b) : 0 < (Int.gcd t b : Int) := by
  have : 0 < Int.gcd t b := Int.gcd_pos_of_ne_zero_right _ (by omega)
  omega
theorem lowT_mul (t b : Int) : lowT t b * (Int.gcd t b : Int) = t := Int.ediv_mul_cancel (Int.gcd_dvd_left ..)
theorem lowB_mul (t b : Int) : lowB t b * (Int.gcd t b : Int) = b := Int.ediv_mul_cancel (Int.gcd_dvd_right ..)
theorem lowB_pos (t : Int) {b : Int} (hb : 0 < b) : 0 < lowB t b := by
  have h := lowB_mul t b
  have g := gcd_pos' t hb
  refine Int.lt_of_not_ge fun c => ?_
  have := Int.mul_nonpos_of_nonpos_of_nonneg c (Int.le_of_lt g)
  omega
theorem low_gcd (t : Int) {b : Int} (hb : 0 < b) : Int.gcd (lowT t b) (lowB t b) = 1 := Int.gcd_ediv_gcd_ediv_gcd_of_ne_zero_right (by omega)
theorem natAbs_ediv_le' (x : Int) (g : Nat) : (x / (g : Int)).natAbs ≤ x.natAbs := Int.natAbs_ediv_le_natAbs x g
theorem bd_lowT {n : Nat} {t b : Int} (h : Bd n t) : Bd n (lowT t b) := h.of_le (natAbs_ediv_le' ..)
theorem bd_lowB {n : Nat} {t b : Int} (h : Bd n b) : Bd n (lowB t b) := h.of_le (natAbs_ediv_le' ..)
/-- a fraction stands at p -/
structure Fq (n : Nat) (H : Hp) (p : Addr) (a b : Int) : Prop where
  at' : H p = some (.tup [.int a, .int b])
  pos : 0 < b
  ba : Bd n a
  bb : Bd n b
theorem Fq.up {n : Nat} {H H' : Hp} {p : Addr} {a b : Int} (s : Same H H') (h : Fq n H p a b) : Fq n H' p a b := ⟨s _ _ h.at', h.pos, h.ba, h.bb⟩
theorem Fq.mono {m n : Nat} {H : Hp} {p : Addr} {a b : Int} (h : Fq m H p a b) (l : m ≤ n) : Fq n H p a b := ⟨h.at', h.pos, h.ba.mono l, h.bb.mono l⟩
theorem fq_low {n : Nat} {H : Hp} {p : Addr} {t b : Int} (e : H p = some (.tup [.int (lowT t b), .int (lowB t b)])) (hb : 0 < b) (h1 : Bd n t) (h2 : Bd n b) : Fq n H p (lowT t b) (lowB t b) := ⟨e, lowB_pos t hb, bd_lowT h1, bd_lowB h2⟩
theorem gcd_step {a b : Int} (a0 : 0 ≤ a) (b0 : 0 ≤ b) : Int.gcd b (a % b) = Int.gcd a b := by
  obtain ⟨m, rfl⟩ := Int.eq_ofNat_of_zero_le a0
  obtain ⟨n, rfl⟩ := Int.eq_ofNat_of_zero_le b0
  show Nat.gcd n (((m : Int) % (n : Int)).natAbs) = Nat.gcd m n
  rw [show ((m : Int) % (n : Int)).natAbs = m % n from rfl, Nat.gcd_comm m n, Nat.gcd_rec n m, Nat.gcd_comm]
theorem gcd_abs (t b : Int) : Int.gcd ((t.natAbs : Nat) : Int) b = Int.gcd t b := rfl
theorem bd_gcd {n : Nat} (t : Int) {b : Int} (b0 : 0 < b) (h : Bd n b) : Bd n (Int.gcd t b : Int) := by
  refine h.of_le ?_
  have := Nat.le_of_dvd (by omega : 0 < b.natAbs) (show Int.gcd t b ∣ b.natAbs from Nat.gcd_dvd_right ..)
  exact this
/-! ### order of fractions -/
abbrev Q2 := Int × Int
def ltQ (x y : Q2) : Bool := decide (x.1 * y.2 < y.1 * x.2)
theorem ltQ_t {x y : Q2} : ltQ x y = true ↔ x.1 * y.2 < y.1 * x.2 := by simp [ltQ]
theorem ltQ_f {x y : Q2} : ltQ x y = false ↔ y.1 * x.2 ≤ x.1 * y.2 := by simp [ltQ]
theorem le_tr {a b c d e f : Int} (hb : 0 < b) (hd : 0 < d) (hf : 0 < f) (h1 : a * d ≤ c * b) (h2 : c * f ≤ e * d) : a * f ≤ e * b := by
  have p := Int.mul_le_mul_of_nonneg_right h1 (Int.le_of_lt hf)
  have q := Int.mul_le_mul_of_nonneg_right h2 (Int.le_of_lt hb)
  have e1 : a * d * f = a * f * d := by ac_rfl
  have e2 : c * b * f = c * f * b := by ac_rfl
  have e3 : e * d * b = e * b * d := by ac_rfl
  exact Int.le_of_mul_le_mul_right (by omega : a * f * d ≤ e * b * d) hd
theorem lt_le_tr {a b c d e f : Int} (hb : 0 < b) (hd : 0 < d) (hf : 0 < f) (h1 : a * d < c * b) (h2 : c * f ≤ e * d) : a * f < e * b := by
  have p := Int.mul_lt_mul_of_pos_right h1 hf
  have q := Int.mul_le_mul_of_nonneg_right h2 (Int.le_of_lt hb)
  have e1 : a * d * f = a * f * d := by ac_rfl
  have e2 : c * b * f = c * f * b := by ac_rfl
  have e3 : e * d * b = e * b * d := by ac_rfl
  exact Int.lt_of_mul_lt_mul_right (by omega : a * f * d < e * b * d) (Int.le_of_lt hd)
def sumQ (x y : Q2) : Q2 := (lowT (x.1 * y.2 + y.1 * x.2) (x.2 * y.2), lowB (x.1 * y.2 + y.1 * x.2) (x.2 * y.2))
theorem cok {m n : Nat} {i j : Int} (h : Bd m i) (h' : Bd n j) (l : m ≤ 4000) (l' : n ≤ 4000) : COk i j := .inl ⟨h.mono l, h'.mono l'⟩
/-- a stretch stands at r -/
structure Pq (n : Nat) (H : Hp) (r : Addr) (lo : Q2) (hi : Option Q2) : Prop where
  ex : ∃ l x, H r = some (.tup [.ref l, x]) ∧ Fq n H l lo.1 lo.2 ∧ (hi = none ∧ x = .non ∨ ∃ q y, hi = some y ∧ x = .ref q ∧ Fq n H q y.1 y.2)
theorem Pq.up {n : Nat} {H H' : Hp} {r : Addr} {lo : Q2} {hi : Option Q2} (s : Same H H') (h : Pq n H r lo hi) : Pq n H' r lo hi := by
  obtain ⟨l, x, h1, h2, h3⟩ := h.ex
  refine ⟨l, x, s _ _ h1, h2.up s, ?_⟩
  rcases h3 with h3 | ⟨q, y, e1, e2, h3⟩
  · exact .inl h3
  · exact .inr ⟨q, y, e1, e2, h3.up s⟩
theorem Pq.mono {m n : Nat} {H : Hp} {r : Addr} {lo : Q2} {hi : Option Q2} (h : Pq m H r lo hi) (le : m ≤ n) : Pq n H r lo hi := by
  obtain ⟨l, x, h1, h2, h3⟩ := h.ex
  refine ⟨l, x, h1, h2.mono le, ?_⟩
  rcases h3 with h3 | ⟨q, y, e1, e2, h3⟩
  · exact .inl h3
  · exact .inr ⟨q, y, e1, e2, h3.mono le⟩
/-- the high is not beneath the low -/
def okHi (lo : Q2) (hi : Option Q2) : Prop := 0 < lo.2 ∧ ∀ h, hi = some h → 0 < h.2 ∧ ltQ h lo = false
def bnQ (hi : Option Q2) (lo : Q2) : Bool := match hi with
  | none => false
  | some h => ltQ h lo
def inQ (x lo : Q2) (hi : Option Q2) : Bool := !ltQ x lo && !bnQ hi x
/-! ### the program's own fractions -/
/-- top and bottom of a made fraction -/
def frT (t b : Int) : Int := if b < 0 then -lowT t b else lowT t b
def frB (t b : Int) : Int := if b < 0 then -lowB t b else lowB t b
def dvs (t b : Int) : Int := if b < 0 then -(Int.gcd t b : Int) else (Int.gcd t b : Int)
/-- a made fraction stands at p -/
structure FrAt (H : Hp) (p : Addr) (t b : Int) : Prop where
  at' : H p = some (.tup [.int (frT t b), .int (frB t b)])
end Lw
end

section
set_option Elab.async false
set_option linter.all false
set_option maxRecDepth 100000
set_option maxHeartbeats 4000000
namespace Lw
open PySem PySem.Spec PyProof.Rows L2

/-! ### zip of two, each a list (true) or a tuple (false) -/
def ItK (kd : Bool) (h : Heap) (it l : Addr) (k : Nat) : Prop := match kd with
  | true => h.IsListIter it l k
  | false => h.IsTupleIter it l k
def SeK (kd : Bool) (h : Heap) (l : Addr) (xs : Array Value) : Prop := match kd with
  | true => h.IsList l xs
  | false => h.IsTuple l xs
def SqK (kd : Bool) (K : PySem.W.Frag) (H : Hp) (a : Addr) (xs : List V) : Prop := match kd with
  | true => SqL K H a xs
  | false => SqT K H a xs
theorem ItK.ob {kd : Bool} {h : Heap} {it l : Addr} {k : Nat} (x : ItK kd h it l k) : ∃ o, h.get? it = some o ∧ ∀ v, o.data ≠ .cell v := by
  cases kd with
  | true => obtain ⟨o, e, _, d⟩ := x; exact ⟨o, e, fun v z => by rw [d] at z; cases z⟩
  | false => obtain ⟨o, e, _, d⟩ := x; exact ⟨o, e, fun v z => by rw [d] at z; cases z⟩
theorem ItK.mv {kd : Bool} {h h' : Heap} {it l : Addr} {k : Nat} (x : ItK kd h it l k) (q : ∀ o, h.get? it = some o → h'.get? it = some o) : ItK kd h' it l k := by
  cases kd with
  | true => obtain ⟨o, e, r⟩ := x; exact ⟨o, q o e, r⟩
  | false => obtain ⟨o, e, r⟩ := x; exact ⟨o, q o e, r⟩
theorem SeK.mv {kd : Bool} {h h' : Heap} {l : Addr} {xs : Array Value} (x : SeK kd h l xs) (q : ∀ o, h.get? l = some o → h'.get? l = some o) : SeK kd h' l xs := by
  cases kd with
  | true => obtain ⟨o, e, r⟩ := x; exact ⟨o, q o e, r⟩
  | false => obtain ⟨o, e, r⟩ := x; exact ⟨o, q o e, r⟩
theorem SeK.lt {kd : Bool} {h : Heap} {l : Addr} {xs : Array Value} (x : SeK kd h l xs) : l < h.objs.size := by
  cases kd with
  | true => obtain ⟨o, e, r⟩ := x; exact Heap.lt_size e
  | false => obtain ⟨o, e, r⟩ := x; exact Heap.lt_size e
section
variable {prog : Program} {w : World} {A : Around} {E : Value → Shared → Prop} {s : Shared}
theorem nextK_item {kd : Bool} {it l : Addr} {k : Nat} {xs : Array Value} {x : Value} {Q : Value → Shared → Prop} (h1 : ItK kd s.heap it l k) (h2 : SeK kd s.heap l xs) (hx : xs[k]? = some x)
    (q : ∀ g, ItK kd g it l (k + 1) → Heap.SameBut it s.heap g → Q x { s with heap := g }) : wpAny (model prog w) A (Builtin.SmallTypes.nextOf (.ref it)) Q E s := by
  cases kd with
  | true => exact wpAny_nextOf_list_item h1 h2 hx q
  | false =>
    have h1' : s.heap.IsTupleIter it l k := h1
    obtain ⟨io, e1, c1, d1⟩ := id h1'
    obtain ⟨lo, e2, _, m2, d2⟩ := (show s.heap.IsTuple l xs from h2)
    have ty := h1'.typeIs
    unfold Builtin.SmallTypes.nextOf; refine wpAny_bind (wpAny_callSpecial?_slot (name := Str.ofString "__next__") ty F.slot_tuple_iterator_next (wpAny_call_entry F.slot_tuple_iterator_next ty F.entry_tuple_iterator_next ?_ (F.args_tuple_iterator_next_1 _)))
    show wpAny _ _ (field (Value.ref it) 0 >>= _) _ _ _
    refine wpAny_bind (wpAny_field e1 d1 (x := .ref l) rfl ?_)
    show wpAny _ _ (if (Value.ref l == Value.none) = true then _ else _) _ _ _
    rw [if_neg (show ¬ (Value.ref l == Value.none) = true from Bool.false_ne_true)]
    show wpAny _ _ (field (Value.ref it) 1 >>= _) _ _ _
    refine wpAny_bind (wpAny_field e1 d1 (x := .int k 0) rfl ?_)
    show wpAny _ _ (seqItems? (Value.ref l) >>= _) _ _ _
    refine wpAny_bind (wpAny_seqItems e2 d2 ?_)
    simp only [Int.toNat_natCast, hx]
    refine wpAny_bind (wpAny_setField e1 d1 (by simp) (wpAny_pure ⟨x, rfl, wpAny_pure (q _ ?_ (Heap.SameBut.update ..))⟩))
    refine ⟨_, Heap.get?_update_self _ e1 (Obj.isFreed_of_fields (Obj.data_mapFields d1 _)), (Obj.cls_mapFields ..).trans c1, ?_⟩
    rw [Obj.data_mapFields d1]
    simp [rawInt]
theorem nextK_end {kd : Bool} {it l : Addr} {k : Nat} {xs : Array Value} {Q : Value → Shared → Prop} (hh : A.handled = none) (h1 : ItK kd s.heap it l k) (h2 : SeK kd s.heap l xs) (hx : xs[k]? = none)
    (q : ∀ g e, Heap.ExtBut it s.heap g → (∃ o, g.get? e = some o ∧ o.cls = .type "StopIteration") → E (.ref e) { s with heap := g }) : wpAny (model prog w) A (Builtin.SmallTypes.nextOf (.ref it)) Q E s := by
  cases kd with
  | true => exact wpAny_nextOf_list_end hh h1 h2 hx q
  | false =>
    have h1' : s.heap.IsTupleIter it l k := h1
    obtain ⟨io, e1, c1, d1⟩ := id h1'
    obtain ⟨lo, e2, _, m2, d2⟩ := (show s.heap.IsTuple l xs from h2)
    have ty := h1'.typeIs
    unfold Builtin.SmallTypes.nextOf; refine wpAny_bind (wpAny_callSpecial?_slot (name := Str.ofString "__next__") ty F.slot_tuple_iterator_next (wpAny_call_entry F.slot_tuple_iterator_next ty F.entry_tuple_iterator_next ?_ (F.args_tuple_iterator_next_1 _)))
    show wpAny _ _ (field (Value.ref it) 0 >>= _) _ _ _
    refine wpAny_bind (wpAny_field e1 d1 (x := .ref l) rfl ?_)
    show wpAny _ _ (if (Value.ref l == Value.none) = true then _ else _) _ _ _
    rw [if_neg (show ¬ (Value.ref l == Value.none) = true from Bool.false_ne_true)]
    show wpAny _ _ (field (Value.ref it) 1 >>= _) _ _ _
    refine wpAny_bind (wpAny_field e1 d1 (x := .int k 0) rfl ?_)
    show wpAny _ _ (seqItems? (Value.ref l) >>= _) _ _ _
    refine wpAny_bind (wpAny_seqItems e2 d2 ?_)
    simp only [Int.toNat_natCast, hx]
    refine wpAny_bind (wpAny_rule (wpAny_bind (wpAny_setField e1 d1 (by simp) ?_))); show wpAny _ _ (newExc (.type "StopIteration") [] >>= _) _ _ _; refine wpAny_bind ?_; simp only [newExc, newTuple]
    refine wpAny_bind (wpAny_newObj_type ?_ (by size_fits)); refine wpAny_bind (m := firstArgMember _ _) (wpAny_of_eq (a := Value.none) (by first | rfl | (simp only [firstArgMember]; rfl)) ?_)
    refine wpAny_newObj_type ?_ (by size_fits); simp only [raiseNew]; refine wpAny_bind (wpAny_handled ?_); first | rw [show A.in1.handled = none from hh] | rw [hh]
    refine wpAny_bind (wpAny_pure (wpAny_throw ?_))
    exact q _ _ (((Heap.SameBut.update ..).extBut.push _).push _) ⟨_, Heap.get?_push_size _ rfl, rfl⟩

/-- a zip at z over the iterators i1, i2 of the sequences l1, l2 -/
structure ZAt (k1 k2 : Bool) (z TI TO i1 i2 l1 l2 : Addr) (n : Nat) (h : Heap) : Prop where
  z : IsZip h z TI TO .none
  ti : IsPair h TI (.ref i1) (.ref i2)
  to : ∃ a b, IsPair h TO a b
  a : ItK k1 h i1 l1 n
  b : ItK k2 h i2 l2 n
theorem zipK_item {k1 k2 : Bool} {z TI TO i1 i2 l1 l2 : Addr} {n : Nat} {xs ys : Array Value} {x y : Value} {Q : Option Value → Shared → Prop} (D : ZipApart z TI TO i1 i2 l1 l2) (Z : ZAt k1 k2 z TI TO i1 i2 l1 l2 n s.heap)
    (hl1 : SeK k1 s.heap l1 xs) (hl2 : SeK k2 s.heap l2 ys) (hx : xs[n]? = some x) (hy : ys[n]? = some y)
    (q : ∀ g, IsZip g z TI TO (rawInt s.heap.objs.size) → IsPair g TO x y → ItK k1 g i1 l1 (n + 1) → ItK k2 g i2 l2 (n + 1) → IsPair g s.heap.objs.size x y →
      (∀ c o, c ≠ z → c ≠ TO → c ≠ i1 → c ≠ i2 → s.heap.get? c = some o → g.get? c = some o) → Q (some (.ref s.heap.objs.size)) { s with heap := g }) :
    wpAny (model prog w) A (pyNext (.ref z)) Q E s := by
  obtain ⟨Zz, Zi, ⟨a, b, Zo⟩, Za, Zb⟩ := Z
  have hT : s.TypeIs (.ref z) "zip" := ⟨_, Zz, rfl⟩
  unfold pyNext; refine wpAny_bind (wpAny_attempt (wpAny_callSpecial?_slot (name := Str.ofString "__next__") hT F.slot_zip_next (wpAny_call_entry F.slot_zip_next hT F.entry_zip_next ?_ (F.args_zip_next_1 _))))
  show wpAny _ _ (field (Value.ref z) 2 >>= _) _ _ _
  refine wpAny_bind (wpAny_field Zz rfl (x := .bool false) rfl ?_)
  show wpAny _ _ (field (Value.ref z) 3 >>= _) _ _ _
  refine wpAny_bind (wpAny_field Zz rfl (x := .ref TI) rfl ?_)
  refine wpAny_bind (wpAny_seqItems Zi rfl ?_)
  show wpAny _ _ (Builtin.SmallTypes.ownedTupleIsFree (Value.ref z) >>= _) _ _ _
  refine wpAny_bind ?_; unfold Builtin.SmallTypes.ownedTupleIsFree
  refine wpAny_bind (wpAny_field Zz rfl (x := .none) rfl (wpAny_pure ?_)); simp only [if_true]; refine wpAny_bind (wpAny_rule ?_)
  refine wpAny_bind (wpAny_field Zz rfl (x := .ref TO) rfl ?_)
  refine wpAny_bind (wpAny_setField_rec Zz (by simp) fun g1 z1 s1 => ?_)
  have z1 : IsZip g1 z TI TO .ellipsis := z1
  refine wpAny_bind ?_; simp only [List.zipIdx_cons, List.zipIdx_nil, List.forIn_cons, List.forIn_nil]
  refine wpAny_bind (wpAny_bind (wpAny_onRaise ?_)); show wpAny _ _ (Builtin.SmallTypes.nextOf (Value.ref i1) >>= _) _ _ _
  refine wpAny_bind (nextK_item (Za.mv fun o e => s1.extBut _ _ D.i1z e) (hl1.mv fun o e => s1.extBut _ _ D.l1z e) hx fun g2 a2 s2 => wpAny_pure ?_)
  have o2 : IsPair g2 TO a b := s2.extBut _ _ D.TOi1 (s1.extBut _ _ D.TOz Zo)
  refine wpAny_bind (wpAny_seqItems o2 rfl ?_)
  refine wpAny_bind (wpAny_updateSeq_pair o2 fun g3 o3 s3 => ?_)
  have o3 : IsPair g3 TO x b := o3
  refine wpAny_bind (wpAny_letGo (wpAny_pure ?_))
  refine wpAny_bind (wpAny_bind (wpAny_onRaise ?_)); show wpAny _ _ (Builtin.SmallTypes.nextOf (Value.ref i2) >>= _) _ _ _
  refine wpAny_bind (nextK_item (Zb.mv fun o e => s3.extBut _ _ D.TOi2.symm (s2.extBut _ _ D.i12.symm (s1.extBut _ _ D.i2z e))) (hl2.mv fun o e => s3.extBut _ _ D.l2TO (s2.extBut _ _ D.l2i1 (s1.extBut _ _ D.l2z e))) hy fun g4 a4 s4 => wpAny_pure ?_)
  have o4 : IsPair g4 TO x b := s4.extBut _ _ D.TOi2 o3
  refine wpAny_bind (wpAny_seqItems o4 rfl ?_)
  refine wpAny_bind (wpAny_updateSeq_pair o4 fun g5 o5 s5 => ?_)
  have o5 : IsPair g5 TO x y := o5
  refine wpAny_bind (wpAny_letGo (wpAny_pure (wpAny_pure ?_)))
  refine wpAny_bind (wpAny_seqItems o5 rfl ?_)
  refine wpAny_bind (wpAny_newTuple ?_)
  have sz : g5.objs.size = s.heap.objs.size := by rw [s5.1, s4.1, s3.1, s2.1, s1.1]
  have z5 : IsZip g5 z TI TO .ellipsis := s5.extBut _ _ D.TOz.symm (s4.extBut _ _ D.i2z.symm (s3.extBut _ _ D.TOz.symm (s2.extBut _ _ D.i1z.symm z1)))
  have kp : ∀ c o, c ≠ z → c ≠ TO → c ≠ i1 → c ≠ i2 → s.heap.get? c = some o → g5.get? c = some o := fun c o n1 n2 n3 n4 e => s5.extBut _ _ n2 (s4.extBut _ _ n4 (s3.extBut _ _ n2 (s2.extBut _ _ n3 (s1.extBut _ _ n1 e))))
  have a5 : ItK k1 g5 i1 l1 (n + 1) := a2.mv fun o e => s5.extBut _ _ D.TOi1.symm (s4.extBut _ _ D.i12 (s3.extBut _ _ D.TOi1.symm e))
  have b5 : ItK k2 g5 i2 l2 (n + 1) := a4.mv fun o e => s5.extBut _ _ D.TOi2.symm e
  have zlt : z < g5.objs.size := Heap.lt_size z5
  show wpAny _ _ (Builtin.SmallTypes.ownedTupleHandOut (Value.ref z) (Value.ref g5.objs.size) >>= _) _ _ _
  refine wpAny_bind ?_; unfold Builtin.SmallTypes.ownedTupleHandOut
  have z6 : IsZip (g5.push { cls := .type "tuple", data := .seq #[x, y] }) z TI TO .ellipsis := Heap.get?_push_of_some _ z5
  refine wpAny_bind (wpAny_setField_rec z6 (by simp) fun g7 z7 s7 => ?_)
  have z7 : IsZip g7 z TI TO (rawInt g5.objs.size) := z7
  refine wpAny_setField_rec z7 (by simp) fun g8 z8 s8 => ?_
  have z8 : IsZip g8 z TI TO (rawInt g5.objs.size) := z8
  have up : ∀ c o, c ≠ z → g5.get? c = some o → g8.get? c = some o := fun c o n1 e => s8.extBut _ _ n1 (s7.extBut _ _ n1 (Heap.get?_push_of_some _ e))
  have t8 : IsPair g8 g5.objs.size x y := s8.extBut _ _ (Nat.ne_of_gt zlt) (s7.extBut _ _ (Nat.ne_of_gt zlt) (Heap.get?_push_size _ rfl))
  rw [sz] at z8 t8
  refine wpAny_pure ⟨_, rfl, ?_⟩
  show wpAny _ _ (pure (some (Value.ref g5.objs.size))) _ _ _
  rw [sz]
  exact wpAny_pure (q g8 z8 (up _ _ D.TOz o5) (a5.mv fun o e => up _ o D.i1z e) (b5.mv fun o e => up _ o D.i2z e) t8 fun c o n1 n2 n3 n4 e => up c o n1 (kp c o n1 n2 n3 n4 e))
theorem zipK_end {k1 k2 : Bool} {z TI TO i1 i2 l1 l2 : Addr} {n : Nat} {xs ys : Array Value} {Q : Option Value → Shared → Prop} (hh : A.handled = none) (D : ZipApart z TI TO i1 i2 l1 l2) (Z : ZAt k1 k2 z TI TO i1 i2 l1 l2 n s.heap)
    (hl1 : SeK k1 s.heap l1 xs) (hl2 : SeK k2 s.heap l2 ys) (hend : xs[n]? = none ∨ ys[n]? = none)
    (q : ∀ g, (∀ c o, c ≠ z → c ≠ TO → c ≠ i1 → c ≠ i2 → s.heap.get? c = some o → g.get? c = some o) → Q none { s with heap := g }) : wpAny (model prog w) A (pyNext (.ref z)) Q E s := by
  obtain ⟨Zz, Zi, ⟨a, b, Zo⟩, Za, Zb⟩ := Z
  have hT : s.TypeIs (.ref z) "zip" := ⟨_, Zz, rfl⟩
  unfold pyNext; refine wpAny_bind (wpAny_attempt (wpAny_callSpecial?_slot (name := Str.ofString "__next__") hT F.slot_zip_next (wpAny_call_entry F.slot_zip_next hT F.entry_zip_next ?_ (F.args_zip_next_1 _))))
  show wpAny _ _ (field (Value.ref z) 2 >>= _) _ _ _
  refine wpAny_bind (wpAny_field Zz rfl (x := .bool false) rfl ?_)
  show wpAny _ _ (field (Value.ref z) 3 >>= _) _ _ _
  refine wpAny_bind (wpAny_field Zz rfl (x := .ref TI) rfl ?_)
  refine wpAny_bind (wpAny_seqItems Zi rfl ?_)
  show wpAny _ _ (Builtin.SmallTypes.ownedTupleIsFree (Value.ref z) >>= _) _ _ _
  refine wpAny_bind ?_; unfold Builtin.SmallTypes.ownedTupleIsFree
  refine wpAny_bind (wpAny_field Zz rfl (x := .none) rfl (wpAny_pure ?_)); simp only [if_true]; refine wpAny_bind (wpAny_rule ?_)
  refine wpAny_bind (wpAny_field Zz rfl (x := .ref TO) rfl ?_)
  refine wpAny_bind (wpAny_setField_rec Zz (by simp) fun g1 z1 s1 => ?_)
  have z1 : IsZip g1 z TI TO .ellipsis := z1
  refine wpAny_bind ?_; simp only [List.zipIdx_cons, List.zipIdx_nil, List.forIn_cons, List.forIn_nil]
  refine wpAny_bind (wpAny_bind (wpAny_onRaise ?_)); show wpAny _ _ (Builtin.SmallTypes.nextOf (Value.ref i1) >>= _) _ _ _
  cases hx : xs[n]? with
  | none =>
    refine wpAny_bind (nextK_end hh (Za.mv fun o e => s1.extBut _ _ D.i1z e) (hl1.mv fun o e => s1.extBut _ _ D.l1z e) hx fun g2 e s2 ⟨oe, he, ce⟩ => ?_)
    have z2 : IsZip g2 z TI TO .ellipsis := s2 _ _ D.i1z.symm z1
    have ne : e ≠ z := fun x => by subst x; rw [z2] at he; cases he; simp at ce
    refine wpAny_setField_rec z2 (by simp) fun g3 _ s3 => ?_
    exact wpAny_bind (wpAny_isInstance (T := "StopIteration") (b := true) ⟨oe, s3.extBut _ _ ne he, ce⟩ isSubtype_stop (wpAny_pure (q g3 fun c o n1 _ n3 _ x => s3.extBut _ _ n1 (s2 _ _ n3 (s1.extBut _ _ n1 x)))))
  | some x =>
    have hy : ys[n]? = none := by rcases hend with h | h; rw [hx] at h; cases h; exact h
    refine wpAny_bind (nextK_item (Za.mv fun o e => s1.extBut _ _ D.i1z e) (hl1.mv fun o e => s1.extBut _ _ D.l1z e) hx fun g2 a2 s2 => wpAny_pure ?_)
    have o2 : IsPair g2 TO a b := s2.extBut _ _ D.TOi1 (s1.extBut _ _ D.TOz Zo)
    refine wpAny_bind (wpAny_seqItems o2 rfl ?_)
    refine wpAny_bind (wpAny_updateSeq_pair o2 fun g3 o3 s3 => ?_)
    refine wpAny_bind (wpAny_letGo (wpAny_pure ?_))
    refine wpAny_bind (wpAny_bind (wpAny_onRaise ?_)); show wpAny _ _ (Builtin.SmallTypes.nextOf (Value.ref i2) >>= _) _ _ _
    refine wpAny_bind (nextK_end hh (Zb.mv fun o e => s3.extBut _ _ D.TOi2.symm (s2.extBut _ _ D.i12.symm (s1.extBut _ _ D.i2z e))) (hl2.mv fun o e => s3.extBut _ _ D.l2TO (s2.extBut _ _ D.l2i1 (s1.extBut _ _ D.l2z e))) hy fun g4 e s4 ⟨oe, he, ce⟩ => ?_)
    have z4 : IsZip g4 z TI TO .ellipsis := s4 _ _ D.i2z.symm (s3.extBut _ _ D.TOz.symm (s2.extBut _ _ D.i1z.symm z1))
    have ne : e ≠ z := fun x => by subst x; rw [z4] at he; cases he; simp at ce
    refine wpAny_setField_rec z4 (by simp) fun g5 _ s5 => ?_
    exact wpAny_bind (wpAny_isInstance (T := "StopIteration") (b := true) ⟨oe, s5.extBut _ _ ne he, ce⟩ isSubtype_stop (wpAny_pure (q g5 fun c o n1 n2 n3 n4 x => s5.extBut _ _ n1 (s4 _ _ n4 (s3.extBut _ _ n2 (s2.extBut _ _ n3 (s1.extBut _ _ n1 x)))))))
/-- the iterator of a list or tuple -/
def itO (kd : Bool) (l : Addr) : Obj := match kd with
  | true => { cls := .type "list_iterator", data := .fields #[.ref l, .int 0 0] }
  | false => { cls := .type "tuple_iterator", data := .fields #[.ref l, .int 0 0] }
theorem iterK {kd : Bool} {l : Addr} {xs : Array Value} {Q : Value → Shared → Prop} (h : SeK kd s.heap l xs) (q : Q (.ref s.heap.objs.size) { s with heap := s.heap.push (itO kd l) }) : wpAny (model prog w) A (pyIter (.ref l)) Q E s := by
  cases kd with
  | true => exact wpAny_pyIter_list h q
  | false => exact wpAny_pyIter_tuple h q
theorem itK_of {kd : Bool} {h : Heap} {i l : Addr} (e : h.get? i = some (itO kd l)) : ItK kd h i l 0 := by
  cases kd with
  | true => exact ⟨_, e, rfl, rfl⟩
  | false => exact ⟨_, e, rfl, rfl⟩
end
abbrev zK1 (k1 : Bool) (h : Heap) (l1 : Addr) : Heap := h.push (itO k1 l1)
abbrev zK2 (k1 k2 : Bool) (h : Heap) (l1 l2 : Addr) : Heap := (zK1 k1 h l1).push (itO k2 l2)
abbrev zK3 (k1 k2 : Bool) (h : Heap) (l1 l2 : Addr) : Heap := (zK2 k1 k2 h l1 l2).push { cls := .type "tuple", data := .seq #[.ref h.objs.size, .ref (zK1 k1 h l1).objs.size] }
abbrev zK4 (k1 k2 : Bool) (h : Heap) (l1 l2 : Addr) : Heap := (zK3 k1 k2 h l1 l2).push { cls := .type "tuple", data := .seq #[.none, .none] }
abbrev zK5 (k1 k2 : Bool) (h : Heap) (l1 l2 : Addr) : Heap := (zK4 k1 k2 h l1 l2).push { cls := .type "zip", data := .fields #[.none, .bool false, .bool false, .ref (zK2 k1 k2 h l1 l2).objs.size, .ref (zK3 k1 k2 h l1 l2).objs.size] }
theorem zipK_new (k1 k2 : Bool) (l1 l2 : Addr) (xs ys : Array Value) :
    Meets (Builtin.«zip.__new__» ⟨[.type "zip", .ref l1, .ref l2], []⟩) (fun _ R s => SeK k1 s.heap l1 xs ∧ SeK k2 s.heap l2 ys ∧ R (.ok (.ret (.ref (zK4 k1 k2 s.heap l1 l2).objs.size))) { s with heap := zK5 k1 k2 s.heap l1 l2 }) :=
  .of_wp fun prog w A R s h => by
    obtain ⟨hp, g, d, tk, os⟩ := s; obtain ⟨a1, a2, h⟩ := h
    have hsub := sub_zip
    have b1 : SeK k1 (Shared.heap ⟨hp, g, d, tk, os⟩) l1 xs := a1
    have b2 : SeK k2 (Shared.heap ⟨hp.push (itO k1 l1), g, d, tk, os⟩) l2 ys := a2.mv fun o e => Heap.get?_push_of_some _ e
    wp_walk using iterK b1, iterK b2
    exact ⟨_, rfl, h⟩
section
variable {prog : Program} {w : World} {A : Around} {E : Value → Shared → Prop} {s : Shared}
theorem call_zipK {k1 k2 : Bool} {l1 l2 : Addr} {xs ys : Array Value} {Q : Value → Shared → Prop} (h1 : SeK k1 s.heap l1 xs) (h2 : SeK k2 s.heap l2 ys)
    (q : ∀ g, ZAt k1 k2 (s.heap.objs.size + 4) (s.heap.objs.size + 2) (s.heap.objs.size + 3) s.heap.objs.size (s.heap.objs.size + 1) l1 l2 0 g → (∀ c o, s.heap.get? c = some o → g.get? c = some o) → Q (.ref (s.heap.objs.size + 4)) { s with heap := g }) :
    wpAny (model prog w) A (call (.type "zip") [.ref l1, .ref l2]) Q E s := by
  refine callType_new F.called_zip (by decide) (F.typeCall_zip_2 _ _) (F.newCall_zip_2 _ _) (fun obj => F.args_object_init_3 obj _ _) F.entry_zip_new (zipK_new k1 k2 l1 l2 xs ys) ⟨h1, h2, ?_⟩
  have m1 : (zK1 k1 s.heap l1).objs.size = s.heap.objs.size + 1 := Heap.size_push ..
  have m2 : (zK2 k1 k2 s.heap l1 l2).objs.size = s.heap.objs.size + 2 := by rw [Heap.size_push, m1]
  have m3 : (zK3 k1 k2 s.heap l1 l2).objs.size = s.heap.objs.size + 3 := by rw [Heap.size_push, m2]
  have m4 : (zK4 k1 k2 s.heap l1 l2).objs.size = s.heap.objs.size + 4 := by rw [Heap.size_push, m3]
  have fz : ∀ l, (itO k1 l).isFreed = false := fun l => by cases k1 <;> rfl
  have fz2 : ∀ l, (itO k2 l).isFreed = false := fun l => by cases k2 <;> rfl
  have g5 : (zK5 k1 k2 s.heap l1 l2).get? (zK4 k1 k2 s.heap l1 l2).objs.size = some _ := Heap.get?_push_size _ rfl
  have g4 : (zK5 k1 k2 s.heap l1 l2).get? (zK3 k1 k2 s.heap l1 l2).objs.size = some _ := Heap.get?_push_of_some _ (Heap.get?_push_size _ rfl)
  have g3 : (zK5 k1 k2 s.heap l1 l2).get? (zK2 k1 k2 s.heap l1 l2).objs.size = some _ := Heap.get?_push_of_some _ (Heap.get?_push_of_some _ (Heap.get?_push_size _ rfl))
  have g2 : (zK5 k1 k2 s.heap l1 l2).get? (zK1 k1 s.heap l1).objs.size = some (itO k2 l2) := Heap.get?_push_of_some _ (Heap.get?_push_of_some _ (Heap.get?_push_of_some _ (Heap.get?_push_size _ (fz2 _))))
  have g1 : (zK5 k1 k2 s.heap l1 l2).get? s.heap.objs.size = some (itO k1 l1) := Heap.get?_push_of_some _ (Heap.get?_push_of_some _ (Heap.get?_push_of_some _ (Heap.get?_push_of_some _ (Heap.get?_push_size _ (fz _)))))
  show _ ∧ _
  rw [m2, m3, m4] at g5
  rw [m1, m2] at g3
  rw [m3] at g4
  rw [m1] at g2
  rw [m4]
  exact ⟨⟨_, g5, rfl⟩, q _ ⟨g5, g3, ⟨_, _, g4⟩, itK_of g1, itK_of g2⟩ fun c o x => Heap.get?_push_of_some _ (Heap.get?_push_of_some _ (Heap.get?_push_of_some _ (Heap.get?_push_of_some _ (Heap.get?_push_of_some _ x))))⟩
end
/-! ### the loop's side -/
section
variable {X : Cx}
/-- records of an iterator have turned -/
theorem inv_moved {pins : List (Addr × Obj)} {σ : L2.St} {H : Hp} {s : Shared} {h' : Heap} {t' : Nat} {fp : List Addr} (I : Inv X pins σ H s) (k : ∀ b o, b ∉ fp → s.heap.get? b = some o → h'.get? b = some o) (hf : ∀ b ∈ fp, FpOk X pins H b) :
    Inv X pins σ H { s with heap := h', toks := t' } := by
  have nit : ∀ b u, H b = some u → b ∉ fp := fun b u e z => by rw [(hf b z).1] at e; cases e
  refine I.step (g' := s.gens) (d' := s.drawn) (ch := fp) (fun b hb => ?_) (fun b o _ _ hc e _ => k b o hc e) (fun b o _ _ hc e _ => ⟨o.slots, k b o hc e⟩) (fun _ _ _ _ n => n) (fun b o hc e => ⟨o, k b o hc e⟩) (fun _ _ e => e) (fun _ _ _ e => e)
    (fun b ps e => ⟨#[], by rw [e]; simp⟩) (fun m hm => ?_) (fun b u e => ?_) I.bare
  · obtain ⟨_, f1, f2, f3, f4, f5⟩ := hf b hb
    exact ⟨f3, f1, f4, f5⟩
  · obtain ⟨o, es, ep, ho, r⟩ := hm
    exact ⟨o, es, ep, k _ o (fun z => (hf _ z).2.1 rfl) ho, r⟩
  · refine (I.hok b u e).stay (fun c v hc q => k c v ?_ q) (fun _ q => q) fun _ _ q => q
    rcases hc with z | z
    · rw [z]; exact nit b u e
    · exact nit c _ z
/-- .. and an object is new and tracked -/
theorem inv_zipped {pins : List (Addr × Obj)} {σ : L2.St} {H : Hp} {s : Shared} {h' : Heap} {t' : Nat} {fp : List Addr} {a : Addr} {o : HO} (I : Inv X pins σ H s) (k : ∀ b o, b ∉ fp → s.heap.get? b = some o → h'.get? b = some o) (hf : ∀ b ∈ fp, FpOk X pins H b)
    (hp : s.heap.objs.size ≤ a) (new : ObjOk X.prog X.w (upd H a o) h' a o) : Inv X pins σ (upd H a o) { s with heap := h', toks := t' } := by
  have hn := I.hok.fresh hp
  have nit : ∀ b u, H b = some u → b ∉ fp := fun b u e z => by rw [(hf b z).1] at e; cases e
  have old : ∀ b u, H b = some u → upd H a o b = some u := fun b u e => by rw [upd_ne (ne_of_none e hn)]; exact e
  refine I.step (g' := s.gens) (d' := s.drawn) (ch := fp) (fun b hb => ?_) (fun b o _ _ hc e _ => k b o hc e) (fun b o _ _ hc e _ => ⟨o.slots, k b o hc e⟩) (fun b u _ e n => ?_) (fun b o hc e => ⟨o, k b o hc e⟩) (fun b xs e => old b _ e) (fun b ob u e => old b _ e)
    (fun b ps e => ⟨#[], by rw [old b _ e]; simp⟩) (fun m hm => ?_) (fun b u e => ?_) I.bare
  · obtain ⟨_, f1, f2, f3, f4, f5⟩ := hf b hb
    exact ⟨f3, f1, f4, f5⟩
  · rw [upd_ne (Nat.ne_of_lt (Nat.lt_of_lt_of_le (Heap.lt_size e) hp))]
    exact n
  · obtain ⟨o, es, ep, ho, r⟩ := hm
    exact ⟨o, es, ep, k _ o (fun z => (hf _ z).2.1 rfl) ho, r⟩
  · by_cases hb : b = a
    · subst hb; rw [upd_same] at e; cases e; exact new
    · rw [upd_ne hb] at e
      refine (I.hok b u e).stay (fun c v hc q => k c v ?_ q) (fun c q => old c _ q) fun c xs q => old c _ q
      rcases hc with z | z
      · rw [z]; exact nit b u e
      · exact nit c _ z
theorem sq_val {kd : Bool} {pins : List (Addr × Obj)} {σ : L2.St} {H : Hp} {s : Shared} {a : Addr} {xs : List V} (I : Inv X pins σ H s) (h : SqK kd X.K H a xs) : ∃ its : List Value, Vals xs its ∧ SeK kd s.heap a its.toArray := by
  cases kd with
  | true => obtain ⟨its, r, p, _⟩ := I.list h; exact ⟨its, r, p.isList⟩
  | false => obtain ⟨its, r, p, _⟩ := I.tuple h; exact ⟨its, r, p⟩
theorem sq_inj {kd : Bool} {pins : List (Addr × Obj)} {σ : L2.St} {H : Hp} {s : Shared} {a : Addr} {xs ys : List V} (I : Inv X pins σ H s) (h : SqK kd X.K H a xs) (h' : SqK kd X.K H a ys) : xs = ys := by
  cases kd with
  | true => exact I.list_inj h h'
  | false => exact I.tuple_inj h h'
/-- at turn i a new tuple of both items -/
def Itz (k1 k2 : Bool) (K : PySem.W.Frag) (a b : Addr) : It :=
  ⟨fun i H => ∃ xs ys x y, SqK k1 K H a xs ∧ SqK k2 K H b ys ∧ xs[i]? = some x ∧ ys[i]? = some y,
   fun i H v H' => ∃ t x y, v = .ref t ∧ H t = none ∧ H' = upd H t (.tup [x, y]) ∧ (∀ xs, SqK k1 K H a xs → xs[i]? = some x) ∧ ∀ ys, SqK k2 K H b ys → ys[i]? = some y,
   fun i H => ∃ xs ys, SqK k1 K H a xs ∧ SqK k2 K H b ys ∧ (xs.length ≤ i ∨ ys.length ≤ i)⟩
theorem apart_new {n l1 l2 : Nat} (h1 : l1 < n) (h2 : l2 < n) : ZipApart (n + 4) (n + 2) (n + 3) n (n + 1) l1 l2 := by
  constructor <;> (show @Ne Nat _ _) <;> omega
theorem turn_zip {P : Program} {w : World} {K : PySem.W.Frag} {es : List Expr} {x1} {pos : Pos} {k1 k2 : Bool} {z TI TO i1 i2 a b : Addr} (D : ZipApart z TI TO i1 i2 a b) :
    Turn P w K (.Tuple es x1 pos) (Itz k1 k2 K a b) [z, TI, TO, i1, i2] z (ZAt k1 k2 z TI TO i1 i2 a b) where
  mem := by simp
  obj := fun i h Z c hc => by
    have hc : c = z ∨ c = TI ∨ c = TO ∨ c = i1 ∨ c = i2 := by simpa using hc
    rcases hc with rfl | rfl | rfl | rfl | rfl
    · exact ⟨_, Z.z, fun v e => by cases e⟩
    · exact ⟨_, Z.ti, fun v e => by cases e⟩
    · obtain ⟨u, v, e⟩ := Z.to
      exact ⟨_, e, fun v e => by cases e⟩
    · exact Z.a.ob
    · exact Z.b.ob
  keep := fun i h h' Z k => by
    obtain ⟨u, v, e⟩ := Z.to
    exact ⟨k z (by simp) _ Z.z, k TI (by simp) _ Z.ti, ⟨u, v, k TO (by simp) _ e⟩, Z.a.mv fun o q => k i1 (by simp) o q, Z.b.mv fun o q => k i2 (by simp) o q⟩
  item := by
    intro X hP hw hK hc i pins s σ H E I hf Z hg
    subst hP hw hK
    obtain ⟨xs, ys, x, y, q1, q2, e1, e2⟩ := hg
    obtain ⟨us, r1, p1⟩ := sq_val I q1
    obtain ⟨vs, r2, p2⟩ := sq_val I q2
    obtain ⟨u, hu, ru⟩ := r1.get e1
    obtain ⟨v, hv, rv⟩ := r2.get e2
    have F := fun c (m : c ∈ [z, TI, TO, i1, i2]) => hf c m
    have hfr : H s.heap.objs.size = none := I.hok.fresh (Nat.le_refl _)
    refine zipK_item D Z p1 p2 (x := u) (y := v) (by simpa using hu) (by simpa using hv) fun g a1 a2 a3 a4 a5 kp => ⟨_, rfl, ?_⟩
    have zlt : z < s.heap.objs.size := Heap.lt_size Z.z
    have tlt : TO < s.heap.objs.size := by obtain ⟨_, _, e⟩ := Z.to; exact Heap.lt_size e
    have ilt : i1 < s.heap.objs.size := by obtain ⟨_, e, _⟩ := Z.a.ob; exact Heap.lt_size e
    have jlt : i2 < s.heap.objs.size := by obtain ⟨_, e, _⟩ := Z.b.ob; exact Heap.lt_size e
    refine wpAny_letOwnedTupleGo_zip (s := { s with heap := g }) a1 fun g' z' s' => ?_
    have kp' : ∀ c o, c ≠ z → c ≠ TO → c ≠ i1 → c ≠ i2 → s.heap.get? c = some o → g'.get? c = some o := fun c o n1 n2 n3 n4 e => s'.extBut _ _ n1 (kp c o n1 n2 n3 n4 e)
    have a5' : IsPair g' s.heap.objs.size u v := s'.extBut _ _ (Nat.ne_of_gt zlt) a5
    have I1 : Inv X pins σ (upd H s.heap.objs.size (.tup [x, y])) { s with heap := g' } := by
      refine inv_zipped I (fp := [z, TO, i1, i2]) (fun c o hc e => kp' c o (fun x => hc (by simp [x])) (fun x => hc (by simp [x])) (fun x => hc (by simp [x])) (fun x => hc (by simp [x])) e) ?_ (Nat.le_refl _) ?_
      · intro c hc
        exact hf c (by simp at hc ⊢; rcases hc with h | h | h | h <;> simp [h])
      · exact ⟨by show 2 ≤ sizeLine; decide, [u, v], .cons ru (.cons rv .nil), ⟨_, a5', rfl, _, rfl⟩⟩
    refine ⟨.ref s.heap.objs.size, _, I1, rfl, ⟨_, x, y, rfl, hfr, rfl, fun zs hz => by rw [sq_inj I hz q1]; exact e1, fun zs hz => by rw [sq_inj I hz q2]; exact e2⟩, ?_, ?_⟩
    · exact ⟨z', kp' _ _ D.TIz D.TITO D.TIi1 D.TIi2 Z.ti, ⟨_, _, s'.extBut _ _ D.TOz a2⟩, a3.mv fun o e => s'.extBut _ _ D.i1z e, a4.mv fun o e => s'.extBut _ _ D.i2z e⟩
    · intro c hc
      have hlt : c < s.heap.objs.size := by
        have hc : c = z ∨ c = TI ∨ c = TO ∨ c = i1 ∨ c = i2 := by simpa using hc
        rcases hc with rfl | rfl | rfl | rfl | rfl
        · exact zlt
        · exact Heap.lt_size Z.ti
        · exact tlt
        · exact ilt
        · exact jlt
      rw [upd_ne (Nat.ne_of_lt hlt)]
      exact (hf c hc).1
  done := by
    intro X hP hw hK hc i pins s σ H E I hf Z hg
    subst hP hw hK
    obtain ⟨xs, ys, q1, q2, e⟩ := hg
    obtain ⟨us, r1, p1⟩ := sq_val I q1
    obtain ⟨vs, r2, p2⟩ := sq_val I q2
    have l1 := r1.length
    have l2 := r2.length
    have he : us.toArray[i]? = none ∨ vs.toArray[i]? = none := by
      rcases e with e | e
      · left
        simp
        omega
      · right
        simp
        omega
    refine zipK_end (I.ok.hd hc) D Z p1 p2 he fun g kp => ⟨rfl, ?_⟩
    refine inv_moved I (fp := [z, TO, i1, i2]) (fun c o hc e => kp c o (fun x => hc (by simp [x])) (fun x => hc (by simp [x])) (fun x => hc (by simp [x])) (fun x => hc (by simp [x])) e) ?_
    intro c hc
    exact hf c (by simp at hc ⊢; rcases hc with h | h | h | h <;> simp [h])
  self := fun _ _ _ _ _ Z h => wpAny_pyIter_zip Z.z h
def iZip (k1 k2 : Bool) (K : PySem.W.Frag) (ta : TA) : TI := fun σ H R => ta σ H fun vs H1 => match vs with
  | [.ref a, .ref b] => (∃ xs, SqK k1 K H1 a xs) ∧ (∃ ys, SqK k2 K H1 b ys) ∧ R (Itz k1 k2 K a b) H1
  | _ => False
theorem pi_zip (k1 k2 : Bool) {a b : Expr} {ta : TA} {p pos : Pos} {es : List Expr} {x1} {tp : Pos} (hg : Gl X "zip") (hm : X.mg "zip" = none) (ha : PA X [a, b] ta) (hs : starEach [a, b] X.env = [(false, eval a X.env), (false, eval b X.env)] := by rfl)
    (hs2 : starEach [b] X.env = [(false, eval b X.env)] := by rfl) : PI X (.Tuple es x1 tp) (.Call (.Name "zip" p) [a, b] [] pos) (iZip k1 k2 X.K ta) := by
  intro pins s σ H R I h
  refine Call_ (ld_blt I hg hm boot_zip (PyProof.Rows.callWith_type1 (thn (ha pos pins s σ H _ I h) fun us s1 ⟨vs, H1, I1, r1, q1⟩ => ?_) (by rw [hs, hs2]) (by rw [hs2]; rfl)))
  match vs, q1 with
  | [.ref l1, .ref l2], ⟨⟨xs, hx⟩, ⟨ys, hy⟩, q⟩ =>
    obtain ⟨u, v, rfl, e1, e2⟩ := vals2 r1
    cases (show u = Value.ref l1 from e1)
    cases (show v = Value.ref l2 from e2)
    obtain ⟨us', _, p1⟩ := sq_val I1 hx
    obtain ⟨vs', _, p2⟩ := sq_val I1 hy
    have lt1 := p1.lt
    have lt2 := p2.lt
    refine call_zipK p1 p2 fun g Z kp => wpAny_pyIter_zip (s := { s1 with heap := g }) Z.z ?_
    have I2 : Inv X pins σ H1 { s1 with heap := g } := I1.kept (t' := s1.toks) kp
    refine ⟨_, [s1.heap.objs.size + 4, s1.heap.objs.size + 2, s1.heap.objs.size + 3, s1.heap.objs.size, s1.heap.objs.size + 1], _, _, H1, rfl, I2, turn_zip (apart_new lt1 lt2), Z, fun c hc => ?_, q⟩
    have hc : @LE.le Nat _ s1.heap.objs.size c := by
      have hc : c = s1.heap.objs.size + 4 ∨ c = s1.heap.objs.size + 2 ∨ c = s1.heap.objs.size + 3 ∨ c = s1.heap.objs.size ∨ c = s1.heap.objs.size + 1 := by simpa using hc
      rcases hc with h | h | h | h | h <;> rw [h] <;> first | exact Nat.le_refl _ | exact Nat.le_add_right _ _
    exact I1.fpOk hc (I1.hok.fresh hc)
/-- two lists or tuples that the body leaves as they are -/
theorem for_zip {k1 k2 : Bool} {K : PySem.W.Frag} {a b : Addr} {xs ys : List V} {g : TG} {tb : TS} {D : Ends} {σ : L2.St} {H : Hp} (Pv : Nat → L2.St → Hp → Prop) (h0 : Pv 0 σ H) (hl : ∀ i σ H, Pv i σ H → SqK k1 K H a xs ∧ SqK k2 K H b ys)
    (hz : xs.length = ys.length) (hs : ∀ i x y t σ H, xs[i]? = some x → ys[i]? = some y → H t = none → Pv i σ H → g (.ref t) σ (upd H t (.tup [x, y])) fun σ2 H2 => tb { D with nx := Pv (i + 1), ct := Pv (i + 1), bk := D.nx } σ2 H2) (hd : ∀ σ H, Pv xs.length σ H → D.nx σ H) :
    ∃ W : Nat → Nat → L2.St → Hp → Prop, (∃ m, W 0 m σ H) ∧ ∀ i m σ H, W i m σ H →
      ((Itz k1 k2 K a b).stop i H ∧ D.nx σ H) ∨ ((Itz k1 k2 K a b).go i H ∧ ∃ N : L2.St → Hp → Prop, (∀ σ' H', N σ' H' → ∃ m', m' < m ∧ W (i + 1) m' σ' H') ∧ ∀ x H', (Itz k1 k2 K a b).yld i H x H' → g x σ H' fun σ2 H2 => tb { D with nx := N, ct := N, bk := D.nx } σ2 H2) := by
  refine ⟨fun i m σ H => m = xs.length - i ∧ i ≤ xs.length ∧ Pv i σ H, ⟨xs.length, by simp, Nat.zero_le _, h0⟩, ?_⟩
  rintro i m σ H ⟨rfl, hi, p⟩
  obtain ⟨q1, q2⟩ := hl i σ H p
  by_cases hlt : i < xs.length
  · have e1 : xs[i]? = some xs[i] := by simp [hlt]
    have e2 : ys[i]? = some (ys[i]'(by omega)) := by simp [show i < ys.length by omega]
    refine .inr ⟨⟨xs, ys, _, _, q1, q2, e1, e2⟩, Pv (i + 1), fun σ' H' p' => ⟨xs.length - (i + 1), by omega, rfl, hlt, p'⟩, fun v H' y => ?_⟩
    obtain ⟨t, x, y, rfl, ht, rfl, y1, y2⟩ := y
    exact hs i x y t σ H (y1 xs q1) (y2 ys q2) ht p
  · have e : i = xs.length := by omega
    subst e
    exact .inl ⟨⟨xs, ys, q1, q2, .inl (Nat.le_refl _)⟩, hd σ H p⟩
end
/-! ### lists that are only read -/
section
variable {X : Cx}
def dCatL : R2 := fun x y H Q => match x, y with
  | .ref l, .ref b => ∃ xs zs, H l = some (.lst xs) ∧ H b = some (.lst zs) ∧ xs.length + zs.length ≤ 1000 ∧ ∀ p H', Same H H' → H' p = some (.lst (xs ++ zs)) → Q (.ref p) H'
  | _, _ => False
theorem o_catL : OpR X (binaryOp .Add) dCatL := by
  intro pins s σ H x y v u Q I rx ry q
  cases x <;> cases y <;> first
    | exact False.elim q
    | (obtain ⟨xs, zs, h1, h2, h3, q⟩ := q
       exact op_cat _ _ _ _ _ _ _ _ _ I rx ry ⟨_, _, xs, zs, rfl, rfl, h1, h2, Nat.le_trans h3 (by decide), fun p hp => q p _ (same_upd hp) upd_same⟩)
def dSlL (K : PySem.W.Frag) : V → Option Int → Option Int → Hp → VK → Prop := fun x lo hi H Q => match x with
  | .ref a => ∃ xs, SqL K H a xs ∧ ∀ p H', Same H H' → H' p = some (.lst (cutV xs lo hi)) → Q (.ref p) H'
  | _ => False
theorem sl_lst : SlR X (dSlL X.K) := by
  intro pins s σ H x v vl vu lo hi sl Q I rx hs pl pu h
  cases x <;> first
    | exact False.elim h
    | (obtain ⟨xs, h1, q⟩ := h
       exact sl_list _ _ _ _ _ _ _ _ _ _ _ _ I rx hs pl pu ⟨_, xs, rfl, h1, fun p hp => q p _ (same_upd hp) upd_same⟩)
end
/-- all are fractions -/
def AllFq (n : Nat) (H : Hp) (vs : List V) : Prop := ∀ v ∈ vs, ∃ (p : Addr) (x : Q2), v = .ref p ∧ Fq n H p x.1 x.2
end Lw
end

section
set_option Elab.async false
set_option linter.all false
set_option maxRecDepth 100000
set_option maxHeartbeats 4000000
namespace Lw
open PySem PySem.Spec PyProof.Rows L2
section
variable {X : Cx} {pos : Pos}
/-- {} that is only read -/
def dD0 : TE := fun _ H Q => ∀ p H', Same H H' → H' p = some (.dK []) → Q (.ref p) H'
end
end Lw
end

section
set_option Elab.async false
set_option linter.all false
set_option maxRecDepth 100000
set_option maxHeartbeats 4000000
namespace Lw
open PySem PySem.Spec PyProof.Rows L2

/-! ### [e for x in ..] -/
section
variable {prog : Program} {w : World} {A : Around} {R : Result → Shared → Prop} {s : Shared}
theorem turn_eq (elt tg iter : Expr) (scope : Scope) (pos : Pos) (it acc : Value) (env : Env) :
    compTurn (.ListComp elt [⟨tg, iter, [], 0⟩] scope pos) 0 it acc env = (standAt iter.pos >>= fun _ => pyNext it >>= fun r => match r with
      | none => pure (.done .next)
      | some v => letOwnedTupleGo tg it v >>= fun _ => assign tg env v >>= fun _ => (eval elt env >>= fun x => call (.builtin "list.append") [acc, x] >>= fun _ => pure ()) >>= fun _ => again (.compLoop (.ListComp elt [⟨tg, iter, [], 0⟩] scope pos) 0 it acc env)) := rfl
theorem loop_comp {elt tg iter : Expr} {scope : Scope} {pos : Pos} {it acc : Value} {env : Env} (I : Nat → Shared → Prop)
    (turn : ∀ n s, I n s → wpAny (model prog w) A (pyNext it) (fun r s1 => (r = none ∧ R (.ok .next) s1) ∨ ∃ v, r = some v ∧ wpAny (model prog w) A (letOwnedTupleGo tg it v) (fun _ s2 => wpAny (model prog w) A (assign tg env v) (fun _ s3 =>
      wpAny (model prog w) A (eval elt env) (fun x s4 => wpAny (model prog w) A (call (.builtin "list.append") [acc, x]) (fun _ s5 => ∃ m, m < n ∧ I m s5) (fun _ _ => False) s4) (fun _ _ => False) s3) (fun _ _ => False) s2) (fun _ _ => False) s1) (fun _ _ => False) s)
    (n : Nat) (h : I n s) : codeAny (model prog w) A (.compLoop (.ListComp elt [⟨tg, iter, [], 0⟩] scope pos) 0 it acc env) R s := by
  refine codeAny_loop rfl I (fun n s hI => ?_) n h
  show wpAny _ _ ((compTurn (.ListComp elt [⟨tg, iter, [], 0⟩] scope pos) 0 it acc env).onRaise (fun x => do noteFrame x env; theTreesLotGoes x)) _ _ s
  refine wpAny_noted ?_
  rw [turn_eq]
  refine wpAny_bind (wpAny_standAt (wpAny_bind (wpAny_mono (turn n s hI) (fun r s1 h1 => ?_) fun _ _ z => z.elim)))
  rcases h1 with ⟨rfl, h1⟩ | ⟨v, rfl, h1⟩
  · exact wpAny_pure h1
  · refine wpAny_bind (wpAny_mono h1 (fun _ s2 h2 => ?_) fun _ _ z => z.elim)
    refine wpAny_bind (wpAny_mono h2 (fun _ s3 h3 => ?_) fun _ _ z => z.elim)
    refine wpAny_bind (wpAny_bind (wpAny_mono h3 (fun x s4 h4 => ?_) fun _ _ z => z.elim))
    refine wpAny_bind (wpAny_mono h4 (fun _ s5 h5 => ?_) fun _ _ z => z.elim)
    exact wpAny_pure (wpAny_pure ⟨rfl, h5⟩)
end

/-- the context of a comprehension's block: its own names and the captured ones -/
abbrev cxC (X : Cx) (N : List Str) (s₀ : Shared) (H₀ : Hp) (env : Env) (fp : List Addr) : Cx :=
  { X with N := N, s₀ := s₀, H₀ := H₀, env := env, outer := X.stack, ex := fp, fn := fun _ => false, pn := [], xe := fun _ _ => False }
/-- what a captured name must be -/
structure Cap (X : Cx) (sc : Scope) (cl : List (Str × Addr)) (j : Nat) (y : Str) : Prop where
  nm : X.N[j]? = some y
  ko : X.env.kindOf y = some .cell
  ki : sc.names.lookup y = some .cell
  cl : cl.lookup y = X.env.cells.lookup y
def capσ (js : List Nat) (σ : L2.St) : L2.St := js.map fun j => (σ[j]?).join
/-- reading: xs the block's own targets' number k, then the captured names -/
@[irreducible] def CGoal (J : It) (g : TG) (te : TE) (k : Nat) (js : List Nat) (σ : L2.St) (H1 : Hp) (Q : VK) : Prop := ∀ D, H1 D = none → ∃ W : Nat → Nat → Hp → Prop, (∃ m, W 0 m (upd H1 D (.lst []))) ∧ ∀ i m H, W i m H →
  (J.stop i H ∧ Q (.ref D) H) ∨ (J.go i H ∧ ∀ x H', J.yld i H x H' → g x (List.replicate k none ++ capσ js σ) H' fun σ2 H2 => σ2.drop k = capσ js σ ∧ te σ2 H2 fun v H3 => ∃ xs, H3 D = some (.lst xs) ∧ xs.length < sizeLine ∧ ∃ m', m' < m ∧ W (i + 1) m' (upd H3 D (.lst (xs ++ [v]))))
def dComp (wi : TI) (g : TG) (te : TE) (k : Nat) (js : List Nat) : TE := fun σ H Q => wi σ H fun J H1 => CGoal J g te k js σ H1 Q
section
variable {X : Cx}
theorem comp_ok {pins : List (Addr × Obj)} {σ : L2.St} {H : Hp} {s : Shared} {N : List Str} {scope : Scope} {cl : List (Str × Addr)} {C : Addr} {fp : List Addr} (I : Inv X pins σ H s) (hk : scope.kind = .function) (hC : s.heap.objs.size ≤ C)
    (hcl : ∀ y c, cl.lookup y = some c → X.env.cells.lookup y = some c) (hhas : ∀ y, ((relabel scope X.env).names.lookup y = some .cell ∨ (relabel scope X.env).names.lookup y = some .free) → ∃ c, cl.lookup y = some c)
    (hf : ∀ b ∈ fp, FpOk X pins H b ∧ b < s.heap.objs.size) : (cxC X N s H (compEnvC scope cl C X.env) fp).Ok where
  mod := I.ok.mod
  kind := hk
  glob := I.ok.glob
  blt := I.ok.blt
  above := hC
  inj := fun x y c e1 e2 => I.ok.inj x y c (hcl x c e1) (hcl y c e2)
  has := fun x h => hhas x h
  cab := fun x c z => absurd z (by simp)
  hd := I.ok.hd
  frames := I.ok.frames
  stk := .inl rfl
  exf := fun b hb => ⟨Nat.ne_of_lt (Nat.lt_of_lt_of_le (hf b hb).2 hC), fun x c e => (hf b hb).1.2.2.2.2.1 x c (hcl x c e)⟩
  bs := I.bs
  bsz := Nat.le_trans I.ok.bsz I.sz
  noex := fun b o e hb => by
    rcases (hf b hb).1.2.2.2.1 with z | z
    · exact I.ok.noex b o e z
    · exact absurd (Nat.lt_of_lt_of_le (Heap.lt_size (I.ok.bs b o e).1) z) (Nat.lt_irrefl _)
  exfs := fun b hb hm => by
    rcases List.mem_cons.mp (I.stkSub b hm) with z | z
    · exact (hf b hb).1.2.1 z
    · exact (hf b hb).1.2.2.1 z
  funs := I.stack
  frf := I.stkFree
theorem comp_core {elt iter tg : Expr} {scope : Scope} {pos : Pos} {wi : TI} {te : TE} {g : TG} {N : List Str} {cl : List (Str × Addr)} (k : Nat) (js : List Nat) (hi : PI X tg iter wi)
    (hg : ∀ C s H fp, PG (cxC X N s H (compEnvC scope cl C X.env) fp) tg g) (he : ∀ C s H fp, PE (cxC X N s H (compEnvC scope cl C X.env) fp) elt te) (hcalm : X.calm = true)
    (hclos : closureFor scope X.env = pure cl) (hkind : scope.kind = .function) (hcell : ∀ y ∈ scope.names, y.2 ≠ .cell) (hnames : ∀ y ∈ scope.names, y.2 = .local → scope.names.lookup y.1 = some .local)
    (hcl : ∀ y c, cl.lookup y = some c → X.env.cells.lookup y = some c) (hhas : ∀ y, ((relabel scope X.env).names.lookup y = some .cell ∨ (relabel scope X.env).names.lookup y = some .free) → ∃ c, cl.lookup y = some c)
    (hlen : N.length = k + js.length) (hcap : ∀ i j, js[i]? = some j → ∃ y, N[k + i]? = some y ∧ Cap X (relabel scope X.env) cl j y)
    (hs : ∀ x, foldedSetIterable iter X.env x = pure x) {pins : List (Addr × Obj)} {s : Shared} {σ : L2.St} {H : Hp} {Q : VK} (I : Inv X pins σ H s) (h : dComp wi g te k js σ H Q) {cpos : Pos} {use : Option (Value → Sem Unit)} {Qv : Value → Shared → Prop}
    (fin : ∀ (s6 : Shared) (H5 : Hp) (D C : Addr) (m : Str → Option Value), Inv X pins σ H5 s6 → s6.heap.Ns C m → H5 C = none → X.s₀.heap.objs.size ≤ C → C ≠ X.env.locals → (∀ x c, X.env.cells.lookup x = some c → c ≠ C) → (∀ p ∈ X.pn ++ pins, p.1 ≠ C) → Q (.ref D) H5 →
      compPost (model X.prog X.w) X.A X.xe use Qv (.ref D) C (.ok .next) s6) :
    wpAny (model X.prog X.w) X.A (comprehension (.ListComp elt [⟨tg, iter, [], 0⟩] scope pos) scope X.env cpos (newList []) false (eval iter X.env) use) Qv X.xe s := by
  refine wpAny_comprehension_free (use := use) rfl hs hclos hkind hnames (thn (hi pins s σ H _ I h) fun v s1 h1 => thn h1 fun itv s2 h2 => ?_)
  obtain ⟨it, fp, tn, J, H2, rfl, I2, T, st2, f2, h2⟩ := h2
  -- the list
  refine wpAny_newObj_type ?_
  have hD : H2 s2.heap.objs.size = none := I2.hok.fresh (Nat.le_refl _)
  unfold CGoal at h2
  obtain ⟨W, ⟨m0, w0⟩, turn⟩ := h2 _ hD
  have I3 : Inv X pins σ (upd H2 s2.heap.objs.size (.lst [])) { s2 with heap := s2.heap.push { cls := .type "list", dict := none, data := .seq ([] : List Value).toArray } } :=
    I2.laid (t' := s2.toks) (fun b u e => Heap.get?_push_of_some _ e) (Nat.le_refl _) ⟨Nat.zero_le _, [], 0, .nil, Heap.get?_push_size _ rfl⟩
  have hlt : ∀ b ∈ fp, b < s2.heap.objs.size := fun b hb => by
    obtain ⟨o, e, _⟩ := T.obj _ _ st2 b hb
    exact Heap.lt_size e
  have f3 : ∀ b ∈ fp, FpOk X pins (upd H2 s2.heap.objs.size (.lst [])) b := fun b hb => ⟨by rw [upd_ne (Nat.ne_of_lt (hlt b hb))]; exact (f2 b hb).1, (f2 b hb).2⟩
  have st3 : tn 0 (s2.heap.push { cls := .type "list", dict := none, data := .seq ([] : List Value).toArray }) := T.keep _ _ _ st2 fun b hb o e => Heap.get?_push_of_some _ e
  have hlt3 : ∀ b ∈ fp, b < (s2.heap.push { cls := .type "list", dict := none, data := .seq ([] : List Value).toArray }).objs.size := fun b hb => Nat.lt_of_lt_of_le (hlt b hb) (by rw [Heap.size_push]; exact Nat.le_succ _)
  generalize hs3 : ({ s2 with heap := s2.heap.push { cls := .type "list", dict := none, data := .seq ([] : List Value).toArray } } : Shared) = s3 at I3
  have eh : s3.heap = s2.heap.push { cls := .type "list", dict := none, data := .seq ([] : List Value).toArray } := by rw [← hs3]
  rw [← eh] at st3 hlt3
  generalize hDD : s2.heap.objs.size = D at *
  generalize hH3 : upd H2 D (.lst []) = H3 at *
  clear hs3 eh
  -- the block's frame
  refine wpAny_newFunctionEnv (s := s3) hcell (by intro y hy; simp at hy) (fun h4 n4 sb4 => ?_) hkind
  have Ok := comp_ok (N := N) (C := s3.heap.objs.size) I3 hkind (Nat.le_refl _) hcl hhas fun b hb => ⟨f3 b hb, hlt3 b hb⟩
  show codeAny _ _ (.compStart (.ListComp elt [⟨tg, iter, [], 0⟩] scope pos) 0 (.ref it) (.ref D) (compEnvC scope cl s3.heap.objs.size X.env)) _ _
  generalize hC : s3.heap.objs.size = C at *
  have old : ∀ b o, s3.heap.get? b = some o → h4.get? b = some o := fun b o e => sb4.extBut b o (by rw [← hC]; exact Nat.ne_of_lt (Heap.lt_size e)) (Heap.get?_push_of_some _ e)
  have fresh : H3 C = none := I3.hok.fresh (by rw [hC]; exact Nat.le_refl _)
  have hcapl : ∀ {i : Nat} {x : Str} {v : V}, N[i]? = some x → (List.replicate k none ++ capσ js σ)[i]? = some (some v) → ∃ u, L2.RelV v u ∧ Look (compEnvC scope cl C X.env) h4 (fun _ => none) x u := by
    intro i x v e1 e2
    by_cases hik : i < k
    · rw [List.getElem?_append_left (by simpa using hik)] at e2
      rw [List.getElem?_replicate] at e2
      simp [hik] at e2
    · rw [List.getElem?_append_right (by simpa using Nat.le_of_not_lt hik), List.length_replicate] at e2
      unfold capσ at e2
      rw [List.getElem?_map] at e2
      cases ej : js[i - k]? with
      | none =>
        rw [ej] at e2
        cases e2
      | some j =>
        rw [ej] at e2
        have e2 : (σ[j]?).join = some v := Option.some.inj e2
        obtain ⟨y, hy, cp⟩ := hcap _ _ ej
        rw [show k + (i - k) = i by omega, e1] at hy
        cases hy
        obtain ⟨m, _, hl⟩ := I3.loc
        have e3 : σ[j]? = some (some v) := by
          cases q : σ[j]? with
          | none =>
            rw [q] at e2
            cases e2
          | some o =>
            rw [q] at e2
            have : o = some v := e2
            rw [this]
        obtain ⟨u, ru, lk⟩ := hl j x v cp.nm e3 (.inr (.inl cp.ko))
        refine ⟨u, ru, ?_⟩
        rcases lk with ⟨z, _⟩ | ⟨_, c, hc, z⟩
        · rw [cp.ko] at z
          cases z
        · refine .inr ⟨.inl cp.ki, c, by rw [← hc]; exact cp.cl, ?_⟩
          obtain ⟨o, e, d⟩ := z
          exact ⟨o, old _ _ e, d⟩
  have I4 : Inv (cxC X N s3 H3 (compEnvC scope cl C X.env) fp) [] (List.replicate k none ++ capσ js σ) H3 { s3 with heap := h4, toks := s3.toks + ([] : List (Str × Value)).length } := by
    refine ⟨Ok, rfl, I3.bare, Un.kept old, ⟨_, n4, fun i x v e1 e2 e3 => ?_⟩, fun x c e => ?_, fresh, fun x c e => I3.freeC x c (hcl x c e), fun p hp => absurd hp (by simp), I3.hok.kept old, ?_⟩
    · obtain ⟨u, ru, lk⟩ := hcapl e1 e2
      refine ⟨u, ru, ?_⟩
      rcases lk with ⟨z, q⟩ | q
      · cases q
      · exact .inr q
    · obtain ⟨v, o, e1, d⟩ := I3.cell x c (hcl x c e)
      exact ⟨v, o, old _ _ e1, d⟩
    · simp [capσ, hlen]
  have fp4 : ∀ {H' : Hp}, (∀ b ∈ fp, H' b = none) → ∀ b ∈ fp, FpOk (cxC X N s3 H3 (compEnvC scope cl C X.env) fp) [] H' b := fun hn b hb =>
    ⟨hn b hb, (Ok.exf b hb).1, Ok.exfs b hb, .inl hb, fun x c e => (Ok.exf b hb).2 x c e, fun p hp => absurd hp (by simp)⟩
  have st4 : tn 0 h4 := T.keep _ _ _ st3 fun b hb o e => old b o e
  -- the loop
  have run : ∀ s4 : Shared, s4 = { s3 with heap := h4, toks := s3.toks + ([] : List (Str × Value)).length } →
      codeAny (model X.prog X.w) X.A (.compLoop (.ListComp elt [⟨tg, iter, [], 0⟩] scope pos) 0 (.ref it) (.ref D) (compEnvC scope cl C X.env)) (compPost (model X.prog X.w) X.A X.xe use Qv (.ref D) C) s4 := by
    rintro s4 rfl
    refine loop_comp (fun n s' => ∃ i H' σ', Inv (cxC X N s3 H3 (compEnvC scope cl C X.env) fp) [] σ' H' s' ∧ (∀ j : Nat, ∀ v, (List.replicate k none ++ capσ js σ)[j]? = some (some v) → σ'[j]? = some (some v)) ∧ tn i s'.heap ∧ (∀ b ∈ fp, H' b = none) ∧ W i n H') ?_ m0
      ⟨0, H3, _, I4, fun _ _ z => z, st4, fun b hb => (f3 b hb).1, w0⟩
    rintro n s5 ⟨i, H5, σ5, I5, cap5, st5, fr5, w5⟩
    have I5' := I5.weak (σ' := List.replicate k none ++ capσ js σ) (by rw [I5.len]; simp [capσ, hlen]) cap5
    rcases turn i n H5 w5 with ⟨stop, q⟩ | ⟨go, step⟩
    · refine thn (T.done (cxC X N s3 H3 (compEnvC scope cl C X.env) fp) rfl rfl rfl hcalm i [] s5 σ5 H5 _ I5 (fp4 fr5) st5 stop) fun r s6 ⟨hr, I6⟩ => .inl ⟨hr, ?_⟩
      obtain ⟨m6, n6, _⟩ := I6.loc
      have hCf : H5 C = none := I6.free
      have u6 := I6.base
      have uC : Un (frs X.stack) fp H3 H5 s3.heap s6.heap := ⟨u6.keep, u6.slot, u6.free, u6.there, u6.tups, u6.frzs, u6.tbls⟩
      have I7 : Inv X pins σ H5 s6 := I3.call' (s' := s6) I6.os uC I6.hok I6.bare fun b hb => ⟨(f3 b hb).2.2.2.1, (f3 b hb).2.1, (f3 b hb).2.2.2.2.1, (f3 b hb).2.2.2.2.2⟩
      have lt3 : ∀ b o, s3.heap.get? b = some o → b ≠ C := fun b o e => by rw [← hC]; exact Nat.ne_of_lt (Heap.lt_size e)
      refine fin s6 H5 D C m6 I7 n6 hCf (by rw [← hC]; exact I3.sz) (by rw [← hC]; exact Nat.ne_of_gt I3.lt) (fun x c e => ?_) (fun p hp => lt3 p.1 p.2 (I3.pin p hp).1) q
      obtain ⟨v, o, e1, _⟩ := I3.cell x c e
      exact lt3 c o e1
    · refine thn (T.item (cxC X N s3 H3 (compEnvC scope cl C X.env) fp) rfl rfl rfl hcalm i [] s5 _ H5 _ I5' (fp4 fr5) st5 go) fun r s6 ⟨u, hr, h6⟩ => .inr ⟨u, hr, ?_⟩
      refine thn h6 fun _ s7 ⟨x, H7, I7, r7, y7, st7, fr7⟩ => ?_
      have I7' := I7.pinned (fp4 fr7) (T.obj _ _ st7)
      refine thn (hg C s3 H3 fp _ s7 _ H7 x u _ I7' r7 (step x H7 y7)) fun _ s8 ⟨σ8, H8, I8, d8, q8⟩ => ?_
      refine thn (he C s3 H3 fp _ s8 σ8 H8 _ I8 q8) fun vv s9 ⟨vx, H9, I9, r9, xs, hx9, hz9, m', hm', w9⟩ => ?_
      obtain ⟨z9, its, n9, rl, e9⟩ := (show ObjOk X.prog X.w H9 s9.heap D (.lst xs) from I9.hok D _ hx9)
      have app := mt_append (X := cxC X N s3 H3 (compEnvC scope cl C X.env) fp) _ s9 σ8 H9 (.ref D) [vx] (.ref D) [vv] (fun _ H' => H' = upd H9 D (.lst (xs ++ [vx]))) I9 rfl (.cons r9 .nil) ⟨D, xs, vx, rfl, rfl, hx9, hz9, rfl⟩
      refine thn app fun _ s10 ⟨_, H10, I10, _, e10⟩ => ?_
      subst e10
      refine ⟨m', hm', i + 1, _, σ8, I10.unpinned (pins := []), ?_, T.keep _ _ _ st7 fun b hb o e => (I10.pin (b, o) (List.mem_append_right _ (List.mem_append_right _ (mem_pinsAt hb e)))).1, fun b hb => ?_, w9⟩
      · intro j v e
        by_cases hjk : j < k
        · rw [List.getElem?_append_left (by simpa using hjk), List.getElem?_replicate] at e
          simp [hjk] at e
        · rw [List.getElem?_append_right (by simpa using Nat.le_of_not_lt hjk), List.length_replicate, ← d8, List.getElem?_drop] at e
          rw [show k + (j - k) = j by omega] at e
          exact e
      · obtain ⟨o, e, d⟩ := T.obj _ _ st7 b hb
        exact (I10.pin (b, o) (List.mem_append_right _ (List.mem_append_right _ (mem_pinsAt hb e)))).2.1
  exact codeAny_compStart_list (run _ rfl) (T.self X.A 0 _ _ _ st4 (run _ rfl))

theorem e_comp {elt iter tg : Expr} {scope : Scope} {pos : Pos} {wi : TI} {te : TE} {g : TG} {N : List Str} {cl : List (Str × Addr)} (k : Nat) (js : List Nat) (hi : PI X tg iter wi)
    (hg : ∀ C s H fp, PG (cxC X N s H (compEnvC scope cl C X.env) fp) tg g) (he : ∀ C s H fp, PE (cxC X N s H (compEnvC scope cl C X.env) fp) elt te) (hcalm : X.calm = true)
    (hclos : closureFor scope X.env = pure cl) (hkind : scope.kind = .function) (hcell : ∀ y ∈ scope.names, y.2 ≠ .cell) (hnames : ∀ y ∈ scope.names, y.2 = .local → scope.names.lookup y.1 = some .local)
    (hcl : ∀ y c, cl.lookup y = some c → X.env.cells.lookup y = some c) (hhas : ∀ y, ((relabel scope X.env).names.lookup y = some .cell ∨ (relabel scope X.env).names.lookup y = some .free) → ∃ c, cl.lookup y = some c)
    (hlen : N.length = k + js.length) (hcap : ∀ i j, js[i]? = some j → ∃ y, N[k + i]? = some y ∧ Cap X (relabel scope X.env) cl j y)
    (hs : ∀ x, foldedSetIterable iter X.env x = pure x := by intro _; rfl) : PE X (.ListComp elt [⟨tg, iter, [], 0⟩] scope pos) (dComp wi g te k js) := by
  intro pins s σ H Q I h
  rw [eval_ListComp]
  refine comp_core k js hi hg he hcalm hclos hkind hcell hnames hcl hhas hlen hcap hs I h fun s6 H5 D C m I6 n6 z1 z2 z3 z4 z5 q => ⟨m, n6, fun h7 sb7 => ⟨.ref D, H5, ?_, rfl, q⟩⟩
  exact I6.turned (t' := s6.toks) (fun b o hb e => (sb7.2 b hb).trans e) z1 z3.symm.symm (.inr z2) z4 z5
/-- y = [..]: the store comes ahead of the block's end -/
theorem ps_comp0 {elt iter tg : Expr} {scope : Scope} {pos py spos : Pos} {i : Nat} {y : Str} {wi : TI} {te : TE} {g : TG} {N : List Str} {cl : List (Str × Addr)} (k : Nat) (js : List Nat) (hi : PI X tg iter wi)
    (hg : ∀ C s H fp, PG (cxC X N s H (compEnvC scope cl C X.env) fp) tg g) (he : ∀ C s H fp, PE (cxC X N s H (compEnvC scope cl C X.env) fp) elt te) (hcalm : X.calm = true)
    (hclos : closureFor scope X.env = pure cl) (hkind : scope.kind = .function) (hcell : ∀ y ∈ scope.names, y.2 ≠ .cell) (hnames : ∀ y ∈ scope.names, y.2 = .local → scope.names.lookup y.1 = some .local)
    (hcl : ∀ y c, cl.lookup y = some c → X.env.cells.lookup y = some c) (hhas : ∀ y, ((relabel scope X.env).names.lookup y = some .cell ∨ (relabel scope X.env).names.lookup y = some .free) → ∃ c, cl.lookup y = some c)
    (hlen : N.length = k + js.length) (hcap : ∀ i j, js[i]? = some j → ∃ y, N[k + i]? = some y ∧ Cap X (relabel scope X.env) cl j y)
    (hs : ∀ x, foldedSetIterable iter X.env x = pure x) (hN : X.N.Nodup) (hi' : X.N[i]? = some y) (hy : X.env.scope.names.lookup y = some .local) (hsw : swapsWith (.ListComp elt [⟨tg, iter, [], 0⟩] scope pos) (some (.Name y py)) spos.line X.env = pure true) :
    PS X (.Assign [.Name y py] (.ListComp elt [⟨tg, iter, [], 0⟩] scope pos) spos) (tAsg (dComp wi g te k js) (gName i)) := by
  intro pins s σ H D I h
  rw [exec_Assign_Name_used _ _ _ _ hsw]
  refine wpAny_bind (wpAny_standAt (wpAny_bind ?_))
  show wpAny _ X.A (do let _ ← comprehension (.ListComp elt [⟨tg, iter, [], 0⟩] scope pos) scope X.env _ (newList []) false (eval iter X.env) (some (assign (.Name y py) X.env))) _ _ s
  refine wpAny_bind (wpAny_mono (comp_core k js hi hg he hcalm hclos hkind hcell hnames hcl hhas hlen hcap hs (use := some (assign (.Name y py) X.env)) (Qv := fun _ s' => SP X pins D .next s') I h fun s6 H5 D' C m I6 n6 z1 z2 z3 z4 z5 q => ?_)
    (fun _ s' hq => wpAny_pure (wpAny_pure hq)) fun _ _ e => e)
  show wpAny _ X.A (assign (.Name y py) X.env (.ref D')) _ _ _
  refine wpAny_assign_Name (store_ok2 I6 hN hi' (.inl hy) (v := .ref D') rfl (fun s8 I8 ⟨a, sb, ha⟩ => ?_) (.inr hy))
  have na : C ≠ a := by
    rcases ha with rfl | ha
    · exact z3
    · exact Ne.symm (z4 _ _ ha)
  exact ⟨m, n6.sameBut sb na, fun h9 sb9 => ⟨_, H5, I8.turned (t' := s8.toks) (fun b o hb e => (sb9.2 b hb).trans e) z1 z3 (.inr z2) z4 z5, q⟩⟩
def CapL (X : Cx) (sc : Scope) (cl : List (Str × Addr)) : List Str → List Nat → Prop
  | y :: ys, j :: js => Cap X sc cl j y ∧ CapL X sc cl ys js
  | [], [] => True
  | _, _ => False
theorem CapL.len {sc : Scope} {cl : List (Str × Addr)} : ∀ {ys : List Str} {js : List Nat}, CapL X sc cl ys js → ys.length = js.length
  | [], [], _ => rfl
  | _ :: _, _ :: _, h => congrArg (· + 1) (CapL.len h.2)
  | [], _ :: _, h => h.elim
  | _ :: _, [], h => h.elim
theorem CapL.at {sc : Scope} {cl : List (Str × Addr)} : ∀ {ys : List Str} {js : List Nat}, CapL X sc cl ys js → ∀ (i j : Nat), js[i]? = some j → ∃ y, ys[i]? = some y ∧ Cap X sc cl j y
  | [], [], _, i, j, e => by simp at e
  | y :: ys, j :: js, h, 0, j', e => by
    cases e
    exact ⟨y, rfl, h.1⟩
  | y :: ys, j :: js, h, i + 1, j', e => CapL.at h.2 i j' (by simpa using e)
  | [], _ :: _, h, _, _, _ => h.elim
  | _ :: _, [], h, _, _, _ => h.elim
def CellL (cells : List (Str × Addr)) : List (Str × Addr) → Prop
  | [] => True
  | (y, c) :: r => cells.lookup y = some c ∧ CellL cells r
theorem CellL.at {cells : List (Str × Addr)} : ∀ {cl : List (Str × Addr)}, CellL cells cl → ∀ y c, cl.lookup y = some c → cells.lookup y = some c
  | [], _, y, c, e => by simp at e
  | (z, d) :: r, h, y, c, e => by
    rw [List.lookup_cons] at e
    cases q : y == z with
    | true =>
      rw [q] at e
      cases e
      rw [eq_of_beq q]
      exact h.1
    | false =>
      rw [q] at e
      exact CellL.at h.2 y c e
theorem lookup_has {y : Str} : ∀ {cl : List (Str × Addr)}, (cl.map (·.1)).contains y = true → ∃ c, cl.lookup y = some c
  | [], h => by simp at h
  | (z, d) :: r, h => by
    rw [List.lookup_cons]
    cases q : y == z with
    | true => exact ⟨d, rfl⟩
    | false =>
      refine lookup_has (cl := r) ?_
      rw [List.map_cons, List.contains_cons, q, Bool.false_or] at h
      exact h
theorem relabel_has {env : Env} {y : Str} : ∀ {names : List (Str × NameKind)} {k : NameKind}, (names.map fun (n, k) => if (k == NameKind.free && env.scope.kind == .function && env.kindOf n == some .cell) then (n, NameKind.cell) else (n, k)).lookup y = some k →
    (k = .cell ∨ k = .free) → ∃ z ∈ names, z.1 = y ∧ (z.2 = .free ∨ z.2 = .cell)
  | [], _, h, _ => by simp at h
  | (n, kd) :: r, k, h, hk => by
    rw [List.map_cons] at h
    by_cases hc : (kd == NameKind.free && env.scope.kind == .function && env.kindOf n == some .cell) = true
    · rw [show (match (n, kd) with | (n, k) => if (k == NameKind.free && env.scope.kind == .function && env.kindOf n == some .cell) = true then (n, NameKind.cell) else (n, k)) = (n, NameKind.cell) from if_pos hc, List.lookup_cons] at h
      cases q : y == n with
      | true =>
        rw [Bool.and_eq_true, Bool.and_eq_true] at hc
        exact ⟨(n, kd), List.mem_cons_self, (eq_of_beq q).symm, .inl (eq_of_beq hc.1.1)⟩
      | false =>
        rw [q] at h
        obtain ⟨z, hz, r1⟩ := relabel_has (names := r) h hk
        exact ⟨z, List.mem_cons_of_mem _ hz, r1⟩
    · rw [show (match (n, kd) with | (n, k) => if (k == NameKind.free && env.scope.kind == .function && env.kindOf n == some .cell) = true then (n, NameKind.cell) else (n, k)) = (n, kd) from if_neg hc, List.lookup_cons] at h
      cases q : y == n with
      | true =>
        rw [q] at h
        cases h
        exact ⟨(n, kd), List.mem_cons_self, (eq_of_beq q).symm, hk.symm⟩
      | false =>
        rw [q] at h
        obtain ⟨z, hz, r1⟩ := relabel_has (names := r) h hk
        exact ⟨z, List.mem_cons_of_mem _ hz, r1⟩
/-- the rule as it is used: own the targets' names, ys the captured ones at the slots js -/
theorem e_compN {elt iter tg : Expr} {scope : Scope} {pos : Pos} {wi : TI} {te : TE} {g : TG} {cl : List (Str × Addr)} (own ys : List Str) (js : List Nat) (hclos : closureFor scope X.env = pure cl) (hi : PI X tg iter wi)
    (hg : ∀ C s H fp, PG (cxC X (own ++ ys) s H (compEnvC scope cl C X.env) fp) tg g) (he : ∀ C s H fp, PE (cxC X (own ++ ys) s H (compEnvC scope cl C X.env) fp) elt te) (hcalm : X.calm = true) (hkind : scope.kind = .function)
    (hcell : (scope.names.all fun y => y.2 != .cell) = true) (hnames : (scope.names.all fun y => y.2 != .local || scope.names.lookup y.1 == some .local) = true) (hfr : (scope.names.all fun y => y.2 != .free || (cl.map (·.1)).contains y.1) = true)
    (hcl : CellL X.env.cells cl) (hcap : CapL X (relabel scope X.env) cl ys js) (hs : ∀ x, foldedSetIterable iter X.env x = pure x := by intro _; rfl) :
    PE X (.ListComp elt [⟨tg, iter, [], 0⟩] scope pos) (dComp wi g te own.length js) := by
  rw [List.all_eq_true] at hcell hnames hfr
  have hc : ∀ y ∈ scope.names, y.2 ≠ .cell := fun y hy z => by
    have := hcell y hy
    rw [z] at this
    cases this
  refine e_comp own.length js hi hg he hcalm hclos hkind hc (fun y hy z => ?_) hcl.at (fun y h => ?_) (by rw [List.length_append, hcap.len]) (fun i j e => ?_) hs
  · have := hnames y hy
    rw [z] at this
    simpa using this
  · obtain ⟨z, hz, rfl, hk⟩ : ∃ z ∈ scope.names, z.1 = y ∧ (z.2 = .free ∨ z.2 = .cell) := by
      rcases h with h | h
      · exact relabel_has h (.inl rfl)
      · exact relabel_has h (.inr rfl)
    rcases hk with hk | hk
    · have := hfr z hz
      rw [hk] at this
      exact lookup_has (by simpa using this)
    · exact absurd hk (hc z hz)
  · obtain ⟨y, h1, h2⟩ := hcap.at i j e
    exact ⟨y, by rw [List.getElem?_append_right (Nat.le_add_right _ _), Nat.add_sub_cancel_left]; exact h1, h2⟩

theorem ps_compN {elt iter tg : Expr} {scope : Scope} {pos py spos : Pos} {i : Nat} {y : Str} {wi : TI} {te : TE} {g : TG} {cl : List (Str × Addr)} (own ys : List Str) (js : List Nat) (hclos : closureFor scope X.env = pure cl) (hi : PI X tg iter wi)
    (hg : ∀ C s H fp, PG (cxC X (own ++ ys) s H (compEnvC scope cl C X.env) fp) tg g) (he : ∀ C s H fp, PE (cxC X (own ++ ys) s H (compEnvC scope cl C X.env) fp) elt te) (hcalm : X.calm = true) (hkind : scope.kind = .function)
    (hcell : (scope.names.all fun y => y.2 != .cell) = true) (hnames : (scope.names.all fun y => y.2 != .local || scope.names.lookup y.1 == some .local) = true) (hfr : (scope.names.all fun y => y.2 != .free || (cl.map (·.1)).contains y.1) = true)
    (hcl : CellL X.env.cells cl) (hcap : CapL X (relabel scope X.env) cl ys js) (hN : X.N.Nodup) (hi' : X.N[i]? = some y) (hy : X.env.scope.names.lookup y = some .local) (hs : ∀ x, foldedSetIterable iter X.env x = pure x := by intro _; rfl) (hsw : swapsWith (.ListComp elt [⟨tg, iter, [], 0⟩] scope pos) (some (.Name y py)) spos.line X.env = pure true := by rfl) :
    PS X (.Assign [.Name y py] (.ListComp elt [⟨tg, iter, [], 0⟩] scope pos) spos) (tAsg (dComp wi g te own.length js) (gName i)) := by
  rw [List.all_eq_true] at hcell hnames hfr
  have hc : ∀ y ∈ scope.names, y.2 ≠ .cell := fun y hy z => by
    have := hcell y hy
    rw [z] at this
    cases this
  refine ps_comp0 own.length js hi hg he hcalm hclos hkind hc (fun y hy z => ?_) hcl.at (fun y h => ?_) (by rw [List.length_append, hcap.len]) (fun i j e => ?_) hs hN hi' hy hsw
  · have := hnames y hy
    rw [z] at this
    simpa using this
  · obtain ⟨z, hz, rfl, hk⟩ : ∃ z ∈ scope.names, z.1 = y ∧ (z.2 = .free ∨ z.2 = .cell) := by
      rcases h with h | h
      · exact relabel_has h (.inl rfl)
      · exact relabel_has h (.inr rfl)
    rcases hk with hk | hk
    · have := hfr z hz
      rw [hk] at this
      exact lookup_has (by simpa using this)
    · exact absurd hk (hc z hz)
  · obtain ⟨y, h1, h2⟩ := hcap.at i j e
    exact ⟨y, by rw [List.getElem?_append_right (Nat.le_add_right _ _), Nat.add_sub_cancel_left]; exact h1, h2⟩

end
end Lw
end

section
set_option Elab.async false
set_option linter.all false
set_option maxRecDepth 100000
set_option maxHeartbeats 4000000
namespace Lw
open PySem PySem.Spec PyProof.Rows L2
section
variable {X : Cx} {pos p2 p3 p4 : Pos} {e : Expr} {te : TE}
/-! ### texts -/
def dSlS : V → Option Int → Option Int → Hp → VK → Prop := fun x lo hi H Q => match x with
  | .str z => z.length ≤ sizeLine ∧ Q (.str (Txt.slice z lo hi)) H
  | _ => False
def dAddS : R2 := fun x y H Q => match x, y with
  | .str i, .str j => i.length + j.length ≤ sizeLine ∧ Q (.str (i ++ j)) H
  | _, _ => False
def dIxS : R2 := fun x y H Q => match x, y with
  | .str z, .int i => ∃ c, z.length ≤ sizeLine ∧ atI z.cps.toList i = some c ∧ Q (.str ⟨#[c]⟩) H
  | _, _ => False
def dJoin (K : PySem.W.Frag) : V → List V → Hp → VK → Prop := fun x xs H Q => match x, xs with
  | .str sep, [.ref p] => ∃ ys : List Str, SqL K H p (ys.map V.str) ∧ (ys.map (·.length)).sum + ys.length * sep.length ≤ 16777216 ∧ Q (.str (Txt.join sep ys)) H
  | _, _ => False
/-! ### lists and tuples made of one another -/
def dListOf (K : PySem.W.Frag) : List V → Hp → VK → Prop := fun xs H Q => match xs with
  | [.ref p] => ∃ ys, (SqL K H p ys ∨ SqT K H p ys) ∧ ∀ l H', Same H H' → H' l = some (.lst ys) → Q (.ref l) H'
  | _ => False
theorem c_list : CallR X (.type "list") (dListOf X.K) := by
  intro pins s σ H xs us Q I r h
  match xs, h with
  | [.ref p], ⟨ys, h1, q⟩ => exact call_list_of pins s σ H _ us Q I r ⟨p, ys, rfl, h1, fun l hl => q l _ (same_upd hl) upd_same⟩
def dTupOf (K : PySem.W.Frag) : List V → Hp → VK → Prop := fun xs H Q => match xs with
  | [.ref p] => ∃ ys, SqL K H p ys ∧ ∀ l H', Same H H' → H' l = some (.tup ys) → Q (.ref l) H'
  | _ => False
/-- x in a list or tuple of flat items -/
def dInS (K : PySem.W.Frag) : R2 := fun x y H Q => match y with
  | .ref p => ∃ xs, (SqL K H p xs ∨ SqT K H p xs) ∧ flatV x = true ∧ xs.all flatV = true ∧ Q (.bl (inV x xs)) H
  | _ => False
theorem o_in : OpR X (compareOp .In) (dInS X.K) := by
  intro pins s σ H x y v u Q I rx ry q
  cases y <;> first
    | exact False.elim q
    | (obtain ⟨xs, h1, h2, h3, q⟩ := q
       exact op_in_seq _ _ _ _ _ _ _ _ _ I rx ry ⟨_, xs, rfl, h1, h2, h3, q⟩)
/-- xs[::-1] of a list -/
def dRev (K : PySem.W.Frag) (te : TE) : TE := fun σ H Q => te σ H fun x H1 => match x with
  | .ref a => ∃ xs, SqL K H1 a xs ∧ ∀ p H', Same H1 H' → H' p = some (.lst xs.reverse) → Q (.ref p) H'
  | _ => False
end
end Lw
end

section
set_option Elab.async false
set_option linter.all false
set_option maxRecDepth 100000
set_option maxHeartbeats 4000000
namespace Lw
open PySem PySem.Spec PyProof.Rows L2
/-! ### texts by their codes -/
def co (x : Str) : List Nat := x.cps.toList
/-! ### cuts -/
/-! ### letters and names -/
def abc : Str := Str.ofString "abcdefghijklmnopqrstuvwxyz"
def lt (n : Int) : Nat := 97 + (n % 26).toNat
/-- a name: one to eight small letters -/
structure Nm (x : Str) : Prop where
  len1 : 1 ≤ (co x).length
  len8 : (co x).length ≤ 8
  abc : ∀ c ∈ co x, 97 ≤ c ∧ c < 123
def baseL (fi : Int) : List Nat := ((List.range 8).map fun j : Nat => [lt (fi + (j : Int) * j)]).flatten
def nameA (L : List Nat) (k : Nat) : List Nat := L.take (k + 1)
def nameB (L : List Nat) (at' sz : Nat) (fi : Int) (k : Nat) : List Nat := L.take at' ++ [lt (fi + (at' : Int) * at' + (k : Int))] ++ (L.drop (at' + 1)).take (sz - (at' + 1))
end Lw
end

section
set_option Elab.async false
set_option linter.all false
set_option maxRecDepth 100000
set_option maxHeartbeats 4000000
set_option autoImplicit false
namespace Lw
open PySem PySem.Spec PyProof.Rows L2
/-! ### error classes of the text -/
def vB : List Value := [.type "ValueError", .type "Exception", .type "BaseException", .type "object"]
/-- an error class of the text's own, under ValueError, without methods of its own -/
structure ExcC (K : PySem.W.Frag) (C : Addr) : Prop where
  nw : PySem.W.excIn K C vB "ValueError.__new__" = true
  ga : PySem.W.findIn K (.ref C) "__getattribute__" = some (some (.builtin "BaseException.__getattribute__"))
  gn : PySem.W.findIn K (.ref C) "__getattr__" = some none
  cl : PySem.W.findIn K (.ref C) "__class__" = some (some (.builtin "object.__class__"))
  mo : PySem.W.mroIn K C (.type "object") = some true
  mb : PySem.W.mroIn K C (.type "BaseException") = some true
/-! ### raise C("..") -/
def tRaise (E : XK) (cls : Value) : TS := fun _ _ H => E cls none H
section
variable {P : Program} {w : World} {K : PySem.W.Frag} {mg : Str → Option Value} {base : Heap} {N : List Str} {qual : Str} {scope : Scope} {f : Addr} {cd : Value} {A : Around} {outer : List Env} {s₀ : Shared} {H₀ : Hp} {E : XK}
end
/-! ### a call that may raise: what it raises goes on -/
def dCallX (sp : Sp) (E : XK) (t : TA) : TE := fun σ H Q => t σ H fun vs H1 => sp vs H1 Q E
section
variable {P : Program} {w : World} {K : PySem.W.Frag} {mg : Str → Option Value} {base : Heap} {N : List Str} {qual : Str} {scope : Scope} {f : Addr} {cd : Value} {A : Around} {outer : List Env} {s₀ : Shared} {H₀ : Hp} {E : XK}
end
/-! ### a caught exception, and isinstance of it -/
def ExcAt (a C : Addr) : Heap → Prop := fun h => ∃ o vs, h.get? a = some o ∧ o.cls = .ref C ∧ o.data = .fields vs
section
variable {prog : Program} {w : World} {A : Around} {E : Value → Shared → Prop} {K : PySem.W.Frag} {x C : Addr}
end
section
variable {X : Cx}
/-- isinstance(e, C): e a caught exception, C a class -/
def dIsiX (K : PySem.W.Frag) : List V → Hp → VK → Prop := fun xs H Q => match xs with
  | [.ref p, .ref D] => ∃ C b, H p = some (.ext (ExcAt p C)) ∧ ExcC K C ∧ PySem.W.kitOne K (.ref C) (.ref D) = some b ∧ Q (.bl b) H
  | [.ref p, .ty T] => ∃ C b, H p = some (.ext (ExcAt p C)) ∧ ExcC K C ∧ PySem.W.kitOne K (.ref C) (.type T) = some b ∧ Q (.bl b) H
  | _ => False
/-- isinstance(e, (C, ..)) -/
def dIsiT (K : PySem.W.Frag) : List V → Hp → VK → Prop := fun xs H Q => match xs with
  | [.ref p, .ref t] => ∃ (C : Addr) (b : Bool) (ds : List Addr), H p = some (.ext (ExcAt p C)) ∧ ExcC K C ∧ H t = some (.tup (ds.map V.ref)) ∧ PySem.W.kitAny K (.ref C) (ds.map Value.ref) = some b ∧ Q (.bl b) H
  | _ => False
end
/-! ### the name behind `as` goes -/
section
variable {X : Cx} {pins : List (Addr × Obj)} {σ : L2.St} {H : Hp} {s : Shared}
end
/-! ### try: f(..) except C as e: .. -/
/-- the context of an except suite -/
abbrev cxM (X : Cx) (v : Value) : Cx := { X with A := X.A.mark (some v), calm := false, xe := fun _ _ => False }
section
variable {X : Cx} {pins : List (Addr × Obj)} {σ : L2.St} {H : Hp} {s : Shared}
end
/-- except C: the class stands in the text -/
structure Cat (K : PySem.W.Frag) (D : Addr) : Prop where
  lk : ∃ dd cd sl, K.lookup D = some ⟨.type "type", dd, .cls cd, sl⟩
  mb : PySem.W.mroIn K D (.type "BaseException") = some true
def tTry (K : PySem.W.Frag) (ta : TA) (sp : Sp) (D' : Addr) (n : Nat) (tu : TS) : TS := fun D σ H => ta σ H fun vs H1 => sp vs H1 (fun _ H2 => D.nx σ H2) fun cls _ H2 => ∃ C, cls = .ref C ∧ ExcC K C ∧ PySem.W.mroIn K C (.ref D') = some true ∧
  ∀ a H3, Same H2 H3 → H3 a = some (.ext (ExcAt a C)) → tu { nx := fun σ' H' => D.nx (σ'.set n none) H', rt := D.rt, bk := fun σ' H' => D.bk (σ'.set n none) H', ct := fun σ' H' => D.ct (σ'.set n none) H' } (σ.set n (some (.ref a))) H3
section
variable {X : Cx} {pins : List (Addr × Obj)} {σ : L2.St} {H H' : Hp} {s s' : Shared}
end
end Lw
end

section
set_option Elab.async false
set_option linter.all false
set_option maxRecDepth 100000
set_option maxHeartbeats 4000000
namespace Lw
open PySem PySem.Spec PyProof.Rows L2
section
variable {X : Cx} {a b c : Expr} {ta tb tc : TE} {pos : Pos} {tg : Expr}
/-! ### constants of the text -/
def Cst (mg : Str → Option Value) (x : Str) (v : V) : Prop := ∃ u, mg x = some u ∧ RelV v u
def TupK (K : PySem.W.Frag) (a : Addr) (xs : List V) : Prop := ∀ H, SqT K H a xs
def dIxTS (K : PySem.W.Frag) : R2 := fun x y H Q => match x, y with
  | .ref p, .int i => ∃ xs v, SqT K H p xs ∧ atI xs i = some v ∧ Q v H
  | _, _ => False
/-! ### a <= b <= c -/
def dChain (r r' : R2) (ta tb tc : TE) : TE := fun σ H Q => ta σ H fun x H1 => tb σ H1 fun y H2 => r x y H2 fun z H3 => match z with
  | .bl k => Br k (tc σ H3 fun w' H4 => r' y w' H4 Q) (Q (.bl false) H3)
  | _ => False
/-! ### texts: one sign in a text, a text sign by sign -/
def dIn1 : R2 := fun x y H Q => match x, y with
  | .str i, .str j => ∃ c, i = ⟨#[c]⟩ ∧ Q (.bl (decide (c ∈ co j))) H
  | _, _ => False
def Its (x : Str) : It := ⟨fun i _ => i < x.length, fun i H v H' => H' = H ∧ ∃ c, (co x)[i]? = some c ∧ v = .str ⟨#[c]⟩, fun i _ => x.length ≤ i⟩
def iStr (tl : TE) : TI := fun σ H R => tl σ H fun x H1 => match x with
  | .str z => R (Its z) H1
  | _ => False
/-! ### str(n) -/
def dStrI : List V → Hp → VK → Prop := fun xs H Q => match xs with
  | [.int i] => i.natAbs.log2 < 1920 ∧ Q (.str (toString i)) H
  | _ => False
/-! ### all(xs) -/
def dAll (K : PySem.W.Frag) : List V → Hp → VK → Prop := fun xs H Q => match xs with
  | [.ref p] => ∃ bs : List Bool, SqL K H p (bs.map V.bl) ∧ Q (.bl (bs.all id)) H
  | _ => False
theorem vals_bls : ∀ {bs : List Bool} {us : List Value}, Vals (bs.map V.bl) us → us = bs.map Value.bool
  | [], _, r => by cases r; rfl
  | d :: ds, _, r => by
    cases r with
    | cons r1 r2 => rw [show _ = Value.bool d from r1, vals_bls r2]; rfl
theorem range_all : ∀ bs : List Bool, ((List.range bs.length).all fun i => bs.getD i true) = bs.all id := by
  intro bs
  rw [Bool.eq_iff_iff, List.all_eq_true, List.all_eq_true]
  constructor
  · intro h b hb
    obtain ⟨i, hi, rfl⟩ := List.getElem_of_mem hb
    have := h i (List.mem_range.mpr hi)
    rw [List.getD_eq_getElem?_getD, List.getElem?_eq_getElem hi] at this
    exact this
  · intro h i hi
    have hi := List.mem_range.mp hi
    rw [List.getD_eq_getElem?_getD, List.getElem?_eq_getElem hi]
    exact h _ (List.getElem_mem hi)
theorem c_all (hc : X.calm = true) : CallR X (.builtin "all") (dAll X.K) := by
  intro pins s σ H xs us Q I r h
  match xs, h with
  | [.ref p], ⟨bs, h1, q⟩ =>
    obtain ⟨u, rfl, r1⟩ := vals1 r
    cases (show u = Value.ref p from r1)
    obtain ⟨its, rv, pl, _⟩ := I.list h1
    have e := vals_bls rv
    subst e
    have hh := I.ok.hd hc
    have il := pl.isList
    obtain ⟨ob, eb, rb⟩ := id il
    have ne : p ≠ s.heap.objs.size := Nat.ne_of_lt (Heap.lt_size eb)
    refine call_all_walk (wpAny_pyIter_list il ?_)
    refine ⟨s.heap.objs.size, _, _, _, _, _, fun i => bs.getD i true, rfl, Walks.list (A := X.A.in1) hh s.heap.objs.size p ne (bs.map Value.bool).toArray, ⟨⟨_, Heap.get?_push_size _ rfl, rfl, rfl⟩, ⟨ob, Heap.get?_push_of_some _ eb, rb⟩⟩, fun i v s2 Q2 E2 hP hQ => ?_, fun h' tk k => ?_⟩
    · have hP : (bs.map Value.bool).toArray[i]? = some v := hP
      rw [List.getElem?_toArray, List.getElem?_map] at hP
      cases e2 : bs[i]? with
      | none =>
        rw [e2] at hP
        cases hP
      | some d =>
        rw [e2] at hP
        cases hP
        refine wpAny_truthy_bool ?_
        have : bs.getD i true = d := by rw [List.getD_eq_getElem?_getD, e2]; rfl
        rw [← this]
        exact hQ
    · refine ⟨.bl (bs.all id), H, I.kept (t' := tk) fun b o e => k b o ?_ (Heap.get?_push_of_some _ e), ?_, q⟩
      · intro z
        have z : b = s.heap.objs.size := by simpa using z
        exact Nat.lt_irrefl _ (z ▸ Heap.lt_size e)
      · show Value.bool _ = Value.bool _
        rw [List.size_toArray, List.length_map, range_all]
end
end Lw
end

section
set_option Elab.async false
set_option linter.all false
set_option maxRecDepth 100000
set_option maxHeartbeats 4000000
set_option autoImplicit false
namespace Lw
open PySem PySem.Spec PyProof.Rows L2
section
variable {X : Cx} {pos : Pos}
/-! ### text.upper() of small signs -/
def upS (x : Str) : Str := ⟨x.cps.map up1⟩
def dUpper : V → List V → Hp → VK → Prop := fun x xs H Q => match x, xs with
  | .str z, [] => z.length ≤ 1000 ∧ (∀ c ∈ co z, c < 128) ∧ Q (.str (upS z)) H
  | _, _ => False
/-! ### list(xs), to be changed afterwards -/
def dListN (K : PySem.W.Frag) : List V → Hp → VK → Prop := fun xs H Q => match xs with
  | [.ref p] => ∃ ys, (SqL K H p ys ∨ SqT K H p ys) ∧ ∀ l, H l = none → Q (.ref l) (upd H l (.lst ys))
  | _ => False
end
end Lw
end

section
set_option Elab.async false
set_option linter.all false
set_option maxRecDepth 100000
set_option maxHeartbeats 4000000
set_option autoImplicit false
namespace Lw
open PySem PySem.Spec PyProof.Rows L2
section
variable {X : Cx} {pos : Pos}
/-! ### a tuple of the text -/
structure TupD (K : PySem.W.Frag) (a : Addr) (xs : List V) : Prop where
  sq : ∀ H, SqT K H a xs
  ty : ∃ o, K.lookup a = some o ∧ o.cls = .type "tuple" ∧ o.dict = none
/-! ### x not in a list or tuple of flat items -/
def dNotInS (K : PySem.W.Frag) : R2 := fun x y H Q => match y with
  | .ref p => ∃ xs, (SqL K H p xs ∨ SqT K H p xs) ∧ flatV x = true ∧ xs.all flatV = true ∧ Q (.bl (!inV x xs)) H
  | _ => False
/-! ### int(text) -/
def dIntS : List V → Hp → VK → Prop := fun xs H Q => match xs with
  | [.str x] => ∃ n, PySem.intText? x = some n ∧ x.length ≤ 640 ∧ Q (.int n) H
  | _ => False
/-! ### text.endswith(text) -/
def dEnds : V → List V → Hp → VK → Prop := fun x xs H Q => match x, xs with
  | .str x, [.str y] => Q (.bl (Txt.endswith x y)) H
  | _, _ => False
/-! ### text.split(text) -/
def dSplit : V → List V → Hp → VK → Prop := fun x xs H Q => match x, xs with
  | .str x, [.str y] => (y.length == 0) = false ∧ x.length ≤ 1000 ∧ ∀ l H', Same H H' → H' l = some (.lst ((Txt.split x y).map V.str)) → Q (.ref l) H'
  | _, _ => False
/-! ### f"..." -/
def PJ (X : Cx) (es : List Expr) (t : Str → L2.St → Hp → VK → Prop) : Prop := ∀ (pins : List (Addr × Obj)) (s : Shared) (σ : L2.St) (H : Hp) (acc : Str) (Q : VK), Inv X pins σ H s → t acc σ H Q → wpAny (model X.prog X.w) X.A (joinParts acc (evalEach es X.env)) (EP X pins σ Q) X.xe s
def tJ0 : Str → L2.St → Hp → VK → Prop := fun acc _ H Q => acc.length ≤ sizeLine ∧ Q (.str acc) H
def tJS (y : Str) (t : Str → L2.St → Hp → VK → Prop) : Str → L2.St → Hp → VK → Prop := fun acc σ H Q => (acc ++ y).length ≤ sizeLine ∧ t (acc ++ y) σ H Q
def tJV (te : TE) (t : Str → L2.St → Hp → VK → Prop) : Str → L2.St → Hp → VK → Prop := fun acc σ H Q => te σ H fun x H1 => match x with
  | .str y => y.length ≤ sizeLine ∧ (acc ++ y).length ≤ sizeLine ∧ t (acc ++ y) σ H1 Q
  | .int i => i.natAbs.log2 < 1920 ∧ (acc ++ (toString i : Str)).length ≤ sizeLine ∧ t (acc ++ (toString i : Str)) σ H1 Q
  | _ => False
def dFS (t : Str → L2.St → Hp → VK → Prop) : TE := fun σ H Q => t Str.empty σ H Q
end
/-! ### tuple.index(x) -/
section
open PySem.AutoSeq1 (wpAny_loadPart')
open PySem.MeetsSeq PySem.MeetsSeq2 PySem.MeetsSeq3 PySem.SeqRoads2 PySem.SeqAt
section
variable {X : Cx} {pos : Pos}
def dTIx (K : PySem.W.Frag) : V → List V → Hp → VK → Prop := fun x xs H Q => match x, xs with
  | .ref p, [v] => ∃ (ys : List V) (j : Nat) (y : V), SqT K H p ys ∧ flatV v = true ∧ ys.all flatV = true ∧ ys[j]? = some y ∧ eqV y v = true ∧ (∀ m z, m < j → ys[m]? = some z → eqV z v = false) ∧ Q (.int (j : Int)) H
  | _, _ => False
end

end
/-! ### cutting at a sign -/
/-! ### ends -/
/-! ### figures -/
def fg (m : Nat) : List Nat := co (Str.ofString (toString ((m : Nat) : Int)))
end Lw
end

section
set_option Elab.async false
set_option linter.all false
set_option maxRecDepth 100000
set_option maxHeartbeats 4000000
set_option autoImplicit false
namespace Lw
open PySem PySem.Spec PyProof.Rows L2
section
variable {X : Cx} {pos p2 p3 p4 : Pos}
/-! ### int(bool) -/
def dIntB : List V → Hp → VK → Prop := fun xs H Q => match xs with
  | [.bl b] => Q (.int (if b then 1 else 0)) H
  | _ => False
theorem c_intB : CallR X (.type "int") dIntB := by
  intro pins s σ H xs us Q I r h
  match xs, h with
  | [.bl b], q =>
    obtain ⟨u, rfl, r1⟩ := vals1 r
    cases (show u = Value.bool b from r1)
    exact PySem.call_int_bool ⟨.int _, H, I.tok _, ⟨_, rfl⟩, q⟩
/-! ### text[::-1] -/
def dRevS (te : TE) : TE := fun σ H Q => te σ H fun x H1 => match x with
  | .str z => z.length ≤ sizeLine ∧ ∀ z' : Str, z'.length ≤ z.length → Q (.str z') H1
  | _ => False
/-! ### words[i].replace(y, z), both texts written -/
def dRepl (K : PySem.W.Frag) (tw : TE) (i : Int) (y z : Str) : TE := fun σ H Q => tw σ H fun w H1 => match w with
  | .ref p => ∃ (xs : List V) (x : Str), SqL K H1 p xs ∧ atI xs i = some (.str x) ∧ x.length ≤ 1000 ∧ Q (.str (Txt.replace x y z)) H1
  | _ => False
/-! ### [e for x in (..)], elements that may make new things -/
end
end Lw
end

section
set_option Elab.async false
set_option linter.all false
set_option maxRecDepth 100000
set_option maxHeartbeats 4000000
namespace Lw
open PySem PySem.Spec PyProof.Rows L2
section
variable {X : Cx}
/-- a block cut at an assertion that the proof itself names -/
def tCutE (t u : TS) : TS := fun D σ H => ∃ R : L2.St → Hp → Prop, t { D with nx := R } σ H ∧ ∀ σ' H', R σ' H' → u D σ' H'
theorem ss_cutE {st : Stmt} {r : List Stmt} {t u : TS} (h1 : PS X st t) (h2 : PSs X r u) : PSs X (st :: r) (tCutE t u) := by
  intro pins s σ H D I h
  obtain ⟨R, h⟩ := h
  exact ss_cut R h1 h2 pins s σ H D I h
end
end Lw
end

section
set_option Elab.async false
set_option linter.all false
set_option maxRecDepth 100000
set_option maxHeartbeats 4000000
namespace Lw
open PySem PySem.Spec PyProof.Rows L2
/-! ### texts in order, each once -/
def dd (l : List Str) (x : Str) : List Str := if x ∈ l then l else l ++ [x]
def lS (a b : Str) : Prop := a.cps.toList < b.cps.toList
instance : DecidableRel lS := fun a b => inferInstanceAs (Decidable (a.cps.toList < b.cps.toList))
abbrev Inc (l : List Str) : Prop := l.Pairwise lS
/-- put into its place -/
def insS (x : Str) : List Str → List Str
  | [] => [x]
  | y :: l => if lS x y then x :: y :: l else if lS y x then y :: insS x l else y :: l
def srt (l : List Str) : List Str := l.foldr insS []
def ddn (val : Nat → Str) (i : Nat) : List Str := ((List.range i).map val).foldl dd []
end Lw
end

section
set_option Elab.async false
set_option linter.all false
set_option maxRecDepth 100000
set_option maxHeartbeats 4000000
namespace Lw
open PySem PySem.Spec PyProof.Rows L2

/-! ### sets of texts -/
/-- whether a set is walked in the order that the text's own run showed -/
def byTx (w : World) : Bool := w.params.followText "set-order"
def tx (e : Int × Value) : Str := strOf e.2
structure SetO (prog : Program) (w : World) (o : Obj) (ss : List Str) (es : Array (Int × Value)) (ep : Nat) (t : SetTable) : Prop where
  ex : o.ExactSet
  dat : o.data = .set es ep t
  el : ElemsOf (PySem.strKind prog w) es.toList
  pm : (es.toList.map tx).Perm ss
  fit : t.fits es.size = true
  bd : es.size < scanBound
  led : t.led = !byTx w
  pl : 0 < es.size → t.plain = false
def SetS (prog : Program) (w : World) (h : Heap) (a : Addr) (ss : List Str) : Prop := ∃ o es ep t, h.get? a = some o ∧ SetO prog w o ss es ep t
section
variable {prog : Program} {w : World} {A : Around} {E : Value → Shared → Prop} {s : Shared}
/-- a new set -/
def fsO (w : World) : Obj := { cls := .type "set", dict := none, data := .set #[] 0 (.fresh 0 0 (!byTx w)) }
end
end Lw
end

section
set_option Elab.async false
set_option linter.all false
set_option maxRecDepth 100000
set_option maxHeartbeats 4000000
namespace Lw
open PySem PySem.Spec PyProof.Rows L2
/-! ### a set of texts is walked -/
def SI (h : Heap) (I : Addr) (f : Value) (i : Nat) (a : Addr) (n ep : Nat) : Prop := ∃ o, h.get? I = some o ∧ o.cls = .type "set_iterator" ∧ o.data = .fields #[f, .int i 0, .ref a, .int n 0, .int ep 0]
section
variable {prog : Program} {w : World} {A : Around} {E : Value → Shared → Prop} {s : Shared}
/-! #### what comes next -/
/-! #### the walk -/
/-! #### iter, list -/
/-! #### list of it -/
/-! #### sorted(it) -/
end
/-! ### the rule -/
section
variable {X : Cx}
/-- sorted(set(e)), e a list of texts: a new list, the asker's own -/
def dSSet (K : PySem.W.Frag) (te : TE) : TE := fun σ H Q => te σ H fun x H1 => match x with
  | .ref l => ∃ names : List Str, SqL K H1 l (names.map V.str) ∧ names.length ≤ 1000 ∧ (srt names).length < 64 ∧ ∀ D, H1 D = none → Q (.ref D) (upd H1 D (.lst ((srt names).map V.str)))
  | _ => False
end
end Lw
end

section
set_option Elab.async false
set_option linter.all false
set_option maxRecDepth 100000
set_option maxHeartbeats 4000000
namespace Lw
open PySem PySem.Spec PyProof.Rows L2

/-! ### [e for x in .. if c] -/
section
variable {prog : Program} {w : World} {A : Around} {R : Result → Shared → Prop} {s : Shared}
theorem turn_eqI (elt tg iter cd : Expr) (scope : Scope) (pos : Pos) (it acc : Value) (env : Env) :
    compTurn (.ListComp elt [⟨tg, iter, [cd], 0⟩] scope pos) 0 it acc env = (standAt iter.pos >>= fun _ => pyNext it >>= fun r => match r with
      | none => pure (.done .next)
      | some v => letOwnedTupleGo tg it v >>= fun _ => assign tg env v >>= fun _ => isTrue cd env (eval cd env) >>= fun b => if b = true then ((eval elt env >>= fun x => call (.builtin "list.append") [acc, x] >>= fun _ => pure ()) >>= fun _ => again (.compLoop (.ListComp elt [⟨tg, iter, [cd], 0⟩] scope pos) 0 it acc env)) else again (.compLoop (.ListComp elt [⟨tg, iter, [cd], 0⟩] scope pos) 0 it acc env)) := by
  unfold compTurn
  simp only [List.getElem?_cons_zero, bne_self_eq_false, Bool.false_eq_true, if_false, List.forIn_cons, List.forIn_nil, if_true]
  congr 1
  funext _
  congr 1
  funext r
  cases r with
  | none => rfl
  | some v =>
    simp only [bind_assoc, pure_bind]
    rfl
theorem loop_compI {elt tg iter cd : Expr} {scope : Scope} {pos : Pos} {it acc : Value} {env : Env} (I : Nat → Shared → Prop)
    (turn : ∀ n s, I n s → wpAny (model prog w) A (pyNext it) (fun r s1 => (r = none ∧ R (.ok .next) s1) ∨ ∃ v, r = some v ∧ wpAny (model prog w) A (letOwnedTupleGo tg it v) (fun _ s2 => wpAny (model prog w) A (assign tg env v) (fun _ s3 =>
      wpAny (model prog w) A (isTrue cd env (eval cd env)) (fun b s3 => Br b (wpAny (model prog w) A (eval elt env) (fun x s4 => wpAny (model prog w) A (call (.builtin "list.append") [acc, x]) (fun _ s5 => ∃ m, m < n ∧ I m s5) (fun _ _ => False) s4) (fun _ _ => False) s3) (∃ m, m < n ∧ I m s3)) (fun _ _ => False) s3) (fun _ _ => False) s2) (fun _ _ => False) s1) (fun _ _ => False) s)
    (n : Nat) (h : I n s) : codeAny (model prog w) A (.compLoop (.ListComp elt [⟨tg, iter, [cd], 0⟩] scope pos) 0 it acc env) R s := by
  refine codeAny_loop rfl I (fun n s hI => ?_) n h
  show wpAny _ _ ((compTurn (.ListComp elt [⟨tg, iter, [cd], 0⟩] scope pos) 0 it acc env).onRaise (fun x => do noteFrame x env; theTreesLotGoes x)) _ _ s
  refine wpAny_noted ?_
  rw [turn_eqI]
  refine wpAny_bind (wpAny_standAt (wpAny_bind (wpAny_mono (turn n s hI) (fun r s1 h1 => ?_) fun _ _ z => z.elim)))
  rcases h1 with ⟨rfl, h1⟩ | ⟨v, rfl, h1⟩
  · exact wpAny_pure h1
  · refine wpAny_bind (wpAny_mono h1 (fun _ s2 h2 => ?_) fun _ _ z => z.elim)
    refine wpAny_bind (wpAny_mono h2 (fun _ s3 h3 => ?_) fun _ _ z => z.elim)
    refine wpAny_bind (wpAny_mono h3 (fun b s3 h3 => ?_) fun _ _ z => z.elim)
    cases b with
    | true =>
      refine wpAny_bind (wpAny_bind (wpAny_mono (h3.1 rfl) (fun x s4 h4 => ?_) fun _ _ z => z.elim))
      refine wpAny_bind (wpAny_mono h4 (fun _ s5 h5 => ?_) fun _ _ z => z.elim)
      exact wpAny_pure (wpAny_pure ⟨rfl, h5⟩)
    | false => exact wpAny_pure ⟨rfl, h3.2 rfl⟩
end
@[irreducible] def CGoalI (J : It) (g : TG) (tc : TT) (te : TE) (k : Nat) (js : List Nat) (σ : L2.St) (H1 : Hp) (Q : VK) : Prop := ∀ D, H1 D = none → ∃ W : Nat → Nat → Hp → Prop, (∃ m, W 0 m (upd H1 D (.lst []))) ∧ ∀ i m H, W i m H →
  (J.stop i H ∧ Q (.ref D) H) ∨ (J.go i H ∧ ∀ x H', J.yld i H x H' → g x (List.replicate k none ++ capσ js σ) H' fun σ2 H2 => σ2.drop k = capσ js σ ∧ tc σ2 H2 fun b H3 => Br b (te σ2 H3 fun v H4 => ∃ xs, H4 D = some (.lst xs) ∧ xs.length < sizeLine ∧ ∃ m', m' < m ∧ W (i + 1) m' (upd H4 D (.lst (xs ++ [v])))) (∃ m', m' < m ∧ W (i + 1) m' H3))
def dCompI (wi : TI) (g : TG) (tc : TT) (te : TE) (k : Nat) (js : List Nat) : TE := fun σ H Q => wi σ H fun J H1 => CGoalI J g tc te k js σ H1 Q
section
variable {X : Cx}
theorem comp_coreI {elt iter tg cd : Expr} {scope : Scope} {pos : Pos} {wi : TI} {te : TE} {tc : TT} {g : TG} {N : List Str} {cl : List (Str × Addr)} (k : Nat) (js : List Nat) (hi : PI X tg iter wi)
    (hg : ∀ C s H fp, PG (cxC X N s H (compEnvC scope cl C X.env) fp) tg g) (hd : ∀ C s H fp, PT (cxC X N s H (compEnvC scope cl C X.env) fp) cd tc) (he : ∀ C s H fp, PE (cxC X N s H (compEnvC scope cl C X.env) fp) elt te) (hcalm : X.calm = true)
    (hclos : closureFor scope X.env = pure cl) (hkind : scope.kind = .function) (hcell : ∀ y ∈ scope.names, y.2 ≠ .cell) (hnames : ∀ y ∈ scope.names, y.2 = .local → scope.names.lookup y.1 = some .local)
    (hcl : ∀ y c, cl.lookup y = some c → X.env.cells.lookup y = some c) (hhas : ∀ y, ((relabel scope X.env).names.lookup y = some .cell ∨ (relabel scope X.env).names.lookup y = some .free) → ∃ c, cl.lookup y = some c)
    (hlen : N.length = k + js.length) (hcap : ∀ i j, js[i]? = some j → ∃ y, N[k + i]? = some y ∧ Cap X (relabel scope X.env) cl j y)
    (hs : ∀ x, foldedSetIterable iter X.env x = pure x) {pins : List (Addr × Obj)} {s : Shared} {σ : L2.St} {H : Hp} {Q : VK} (I : Inv X pins σ H s) (h : dCompI wi g tc te k js σ H Q) {cpos : Pos} {use : Option (Value → Sem Unit)} {Qv : Value → Shared → Prop}
    (fin : ∀ (s6 : Shared) (H5 : Hp) (D C : Addr) (m : Str → Option Value), Inv X pins σ H5 s6 → s6.heap.Ns C m → H5 C = none → X.s₀.heap.objs.size ≤ C → C ≠ X.env.locals → (∀ x c, X.env.cells.lookup x = some c → c ≠ C) → (∀ p ∈ X.pn ++ pins, p.1 ≠ C) → Q (.ref D) H5 →
      compPost (model X.prog X.w) X.A X.xe use Qv (.ref D) C (.ok .next) s6) :
    wpAny (model X.prog X.w) X.A (comprehension (.ListComp elt [⟨tg, iter, [cd], 0⟩] scope pos) scope X.env cpos (newList []) false (eval iter X.env) use) Qv X.xe s := by
  refine wpAny_comprehension_free (use := use) rfl hs hclos hkind hnames (thn (hi pins s σ H _ I h) fun v s1 h1 => thn h1 fun itv s2 h2 => ?_)
  obtain ⟨it, fp, tn, J, H2, rfl, I2, T, st2, f2, h2⟩ := h2
  -- the list
  refine wpAny_newObj_type ?_
  have hD : H2 s2.heap.objs.size = none := I2.hok.fresh (Nat.le_refl _)
  unfold CGoalI at h2
  obtain ⟨W, ⟨m0, w0⟩, turn⟩ := h2 _ hD
  have I3 : Inv X pins σ (upd H2 s2.heap.objs.size (.lst [])) { s2 with heap := s2.heap.push { cls := .type "list", dict := none, data := .seq ([] : List Value).toArray } } :=
    I2.laid (t' := s2.toks) (fun b u e => Heap.get?_push_of_some _ e) (Nat.le_refl _) ⟨Nat.zero_le _, [], 0, .nil, Heap.get?_push_size _ rfl⟩
  have hlt : ∀ b ∈ fp, b < s2.heap.objs.size := fun b hb => by
    obtain ⟨o, e, _⟩ := T.obj _ _ st2 b hb
    exact Heap.lt_size e
  have f3 : ∀ b ∈ fp, FpOk X pins (upd H2 s2.heap.objs.size (.lst [])) b := fun b hb => ⟨by rw [upd_ne (Nat.ne_of_lt (hlt b hb))]; exact (f2 b hb).1, (f2 b hb).2⟩
  have st3 : tn 0 (s2.heap.push { cls := .type "list", dict := none, data := .seq ([] : List Value).toArray }) := T.keep _ _ _ st2 fun b hb o e => Heap.get?_push_of_some _ e
  have hlt3 : ∀ b ∈ fp, b < (s2.heap.push { cls := .type "list", dict := none, data := .seq ([] : List Value).toArray }).objs.size := fun b hb => Nat.lt_of_lt_of_le (hlt b hb) (by rw [Heap.size_push]; exact Nat.le_succ _)
  generalize hs3 : ({ s2 with heap := s2.heap.push { cls := .type "list", dict := none, data := .seq ([] : List Value).toArray } } : Shared) = s3 at I3
  have eh : s3.heap = s2.heap.push { cls := .type "list", dict := none, data := .seq ([] : List Value).toArray } := by rw [← hs3]
  rw [← eh] at st3 hlt3
  generalize hDD : s2.heap.objs.size = D at *
  generalize hH3 : upd H2 D (.lst []) = H3 at *
  clear hs3 eh
  -- the block's frame
  refine wpAny_newFunctionEnv (s := s3) hcell (by intro y hy; simp at hy) (fun h4 n4 sb4 => ?_) hkind
  have Ok := comp_ok (N := N) (C := s3.heap.objs.size) I3 hkind (Nat.le_refl _) hcl hhas fun b hb => ⟨f3 b hb, hlt3 b hb⟩
  show codeAny _ _ (.compStart (.ListComp elt [⟨tg, iter, [cd], 0⟩] scope pos) 0 (.ref it) (.ref D) (compEnvC scope cl s3.heap.objs.size X.env)) _ _
  generalize hC : s3.heap.objs.size = C at *
  have old : ∀ b o, s3.heap.get? b = some o → h4.get? b = some o := fun b o e => sb4.extBut b o (by rw [← hC]; exact Nat.ne_of_lt (Heap.lt_size e)) (Heap.get?_push_of_some _ e)
  have fresh : H3 C = none := I3.hok.fresh (by rw [hC]; exact Nat.le_refl _)
  have hcapl : ∀ {i : Nat} {x : Str} {v : V}, N[i]? = some x → (List.replicate k none ++ capσ js σ)[i]? = some (some v) → ∃ u, L2.RelV v u ∧ Look (compEnvC scope cl C X.env) h4 (fun _ => none) x u := by
    intro i x v e1 e2
    by_cases hik : i < k
    · rw [List.getElem?_append_left (by simpa using hik)] at e2
      rw [List.getElem?_replicate] at e2
      simp [hik] at e2
    · rw [List.getElem?_append_right (by simpa using Nat.le_of_not_lt hik), List.length_replicate] at e2
      unfold capσ at e2
      rw [List.getElem?_map] at e2
      cases ej : js[i - k]? with
      | none =>
        rw [ej] at e2
        cases e2
      | some j =>
        rw [ej] at e2
        have e2 : (σ[j]?).join = some v := Option.some.inj e2
        obtain ⟨y, hy, cp⟩ := hcap _ _ ej
        rw [show k + (i - k) = i by omega, e1] at hy
        cases hy
        obtain ⟨m, _, hl⟩ := I3.loc
        have e3 : σ[j]? = some (some v) := by
          cases q : σ[j]? with
          | none =>
            rw [q] at e2
            cases e2
          | some o =>
            rw [q] at e2
            have : o = some v := e2
            rw [this]
        obtain ⟨u, ru, lk⟩ := hl j x v cp.nm e3 (.inr (.inl cp.ko))
        refine ⟨u, ru, ?_⟩
        rcases lk with ⟨z, _⟩ | ⟨_, c, hc, z⟩
        · rw [cp.ko] at z
          cases z
        · refine .inr ⟨.inl cp.ki, c, by rw [← hc]; exact cp.cl, ?_⟩
          obtain ⟨o, e, d⟩ := z
          exact ⟨o, old _ _ e, d⟩
  have I4 : Inv (cxC X N s3 H3 (compEnvC scope cl C X.env) fp) [] (List.replicate k none ++ capσ js σ) H3 { s3 with heap := h4, toks := s3.toks + ([] : List (Str × Value)).length } := by
    refine ⟨Ok, rfl, I3.bare, Un.kept old, ⟨_, n4, fun i x v e1 e2 e3 => ?_⟩, fun x c e => ?_, fresh, fun x c e => I3.freeC x c (hcl x c e), fun p hp => absurd hp (by simp), I3.hok.kept old, ?_⟩
    · obtain ⟨u, ru, lk⟩ := hcapl e1 e2
      refine ⟨u, ru, ?_⟩
      rcases lk with ⟨z, q⟩ | q
      · cases q
      · exact .inr q
    · obtain ⟨v, o, e1, d⟩ := I3.cell x c (hcl x c e)
      exact ⟨v, o, old _ _ e1, d⟩
    · simp [capσ, hlen]
  have fp4 : ∀ {H' : Hp}, (∀ b ∈ fp, H' b = none) → ∀ b ∈ fp, FpOk (cxC X N s3 H3 (compEnvC scope cl C X.env) fp) [] H' b := fun hn b hb =>
    ⟨hn b hb, (Ok.exf b hb).1, Ok.exfs b hb, .inl hb, fun x c e => (Ok.exf b hb).2 x c e, fun p hp => absurd hp (by simp)⟩
  have st4 : tn 0 h4 := T.keep _ _ _ st3 fun b hb o e => old b o e
  -- the loop
  have run : ∀ s4 : Shared, s4 = { s3 with heap := h4, toks := s3.toks + ([] : List (Str × Value)).length } →
      codeAny (model X.prog X.w) X.A (.compLoop (.ListComp elt [⟨tg, iter, [cd], 0⟩] scope pos) 0 (.ref it) (.ref D) (compEnvC scope cl C X.env)) (compPost (model X.prog X.w) X.A X.xe use Qv (.ref D) C) s4 := by
    rintro s4 rfl
    refine loop_compI (fun n s' => ∃ i H' σ', Inv (cxC X N s3 H3 (compEnvC scope cl C X.env) fp) [] σ' H' s' ∧ (∀ j : Nat, ∀ v, (List.replicate k none ++ capσ js σ)[j]? = some (some v) → σ'[j]? = some (some v)) ∧ tn i s'.heap ∧ (∀ b ∈ fp, H' b = none) ∧ W i n H') ?_ m0
      ⟨0, H3, _, I4, fun _ _ z => z, st4, fun b hb => (f3 b hb).1, w0⟩
    rintro n s5 ⟨i, H5, σ5, I5, cap5, st5, fr5, w5⟩
    have I5' := I5.weak (σ' := List.replicate k none ++ capσ js σ) (by rw [I5.len]; simp [capσ, hlen]) cap5
    rcases turn i n H5 w5 with ⟨stop, q⟩ | ⟨go, step⟩
    · refine thn (T.done (cxC X N s3 H3 (compEnvC scope cl C X.env) fp) rfl rfl rfl hcalm i [] s5 σ5 H5 _ I5 (fp4 fr5) st5 stop) fun r s6 ⟨hr, I6⟩ => .inl ⟨hr, ?_⟩
      obtain ⟨m6, n6, _⟩ := I6.loc
      have hCf : H5 C = none := I6.free
      have u6 := I6.base
      have uC : Un (frs X.stack) fp H3 H5 s3.heap s6.heap := ⟨u6.keep, u6.slot, u6.free, u6.there, u6.tups, u6.frzs, u6.tbls⟩
      have I7 : Inv X pins σ H5 s6 := I3.call' (s' := s6) I6.os uC I6.hok I6.bare fun b hb => ⟨(f3 b hb).2.2.2.1, (f3 b hb).2.1, (f3 b hb).2.2.2.2.1, (f3 b hb).2.2.2.2.2⟩
      have lt3 : ∀ b o, s3.heap.get? b = some o → b ≠ C := fun b o e => by rw [← hC]; exact Nat.ne_of_lt (Heap.lt_size e)
      refine fin s6 H5 D C m6 I7 n6 hCf (by rw [← hC]; exact I3.sz) (by rw [← hC]; exact Nat.ne_of_gt I3.lt) (fun x c e => ?_) (fun p hp => lt3 p.1 p.2 (I3.pin p hp).1) q
      obtain ⟨v, o, e1, _⟩ := I3.cell x c e
      exact lt3 c o e1
    · refine thn (T.item (cxC X N s3 H3 (compEnvC scope cl C X.env) fp) rfl rfl rfl hcalm i [] s5 _ H5 _ I5' (fp4 fr5) st5 go) fun r s6 ⟨u, hr, h6⟩ => .inr ⟨u, hr, ?_⟩
      refine thn h6 fun _ s7 ⟨x, H7, I7, r7, y7, st7, fr7⟩ => ?_
      have I7' := I7.pinned (fp4 fr7) (T.obj _ _ st7)
      refine thn (hg C s3 H3 fp _ s7 _ H7 x u _ I7' r7 (step x H7 y7)) fun _ s8 ⟨σ8, H8, I8, d8, q8⟩ => ?_
      have capk : ∀ (j : Nat) v, (List.replicate k none ++ capσ js σ)[j]? = some (some v) → σ8[j]? = some (some v) := fun j v e => by
        by_cases hjk : j < k
        · rw [List.getElem?_append_left (by simpa using hjk), List.getElem?_replicate] at e
          simp [hjk] at e
        · rw [List.getElem?_append_right (by simpa using Nat.le_of_not_lt hjk), List.length_replicate, ← d8, List.getElem?_drop] at e
          rw [show k + (j - k) = j by omega] at e
          exact e
      refine thn (hd C s3 H3 fp _ s8 σ8 H8 _ I8 q8) fun b s8' ⟨H8', I8', q8'⟩ => ⟨fun hb => ?_, fun hb => ?_⟩
      · refine thn (he C s3 H3 fp _ s8' σ8 H8' _ I8' (q8'.1 hb)) fun vv s9 ⟨vx, H9, I9, r9, xs, hx9, hz9, m', hm', w9⟩ => ?_
        obtain ⟨z9, its, n9, rl, e9⟩ := (show ObjOk X.prog X.w H9 s9.heap D (.lst xs) from I9.hok D _ hx9)
        have app := mt_append (X := cxC X N s3 H3 (compEnvC scope cl C X.env) fp) _ s9 σ8 H9 (.ref D) [vx] (.ref D) [vv] (fun _ H' => H' = upd H9 D (.lst (xs ++ [vx]))) I9 rfl (.cons r9 .nil) ⟨D, xs, vx, rfl, rfl, hx9, hz9, rfl⟩
        refine thn app fun _ s10 ⟨_, H10, I10, _, e10⟩ => ?_
        subst e10
        refine ⟨m', hm', i + 1, _, σ8, I10.unpinned (pins := []), capk, T.keep _ _ _ st7 fun b hb o e => (I10.pin (b, o) (List.mem_append_right _ (List.mem_append_right _ (mem_pinsAt hb e)))).1, fun b hb => ?_, w9⟩
        obtain ⟨o, e, d⟩ := T.obj _ _ st7 b hb
        exact (I10.pin (b, o) (List.mem_append_right _ (List.mem_append_right _ (mem_pinsAt hb e)))).2.1
      · obtain ⟨m', hm', w9⟩ := q8'.2 hb
        refine ⟨m', hm', i + 1, _, σ8, I8'.unpinned (pins := []), capk, T.keep _ _ _ st7 fun b hb o e => (I8'.pin (b, o) (List.mem_append_right _ (List.mem_append_right _ (mem_pinsAt hb e)))).1, fun b hb => ?_, w9⟩
        obtain ⟨o, e, d⟩ := T.obj _ _ st7 b hb
        exact (I8'.pin (b, o) (List.mem_append_right _ (List.mem_append_right _ (mem_pinsAt hb e)))).2.1
  exact codeAny_compStart_list (run _ rfl) (T.self X.A 0 _ _ _ st4 (run _ rfl))

theorem e_compI {elt iter tg cd : Expr} {scope : Scope} {pos : Pos} {wi : TI} {te : TE} {tc : TT} {g : TG} {N : List Str} {cl : List (Str × Addr)} (k : Nat) (js : List Nat) (hi : PI X tg iter wi)
    (hg : ∀ C s H fp, PG (cxC X N s H (compEnvC scope cl C X.env) fp) tg g) (hd : ∀ C s H fp, PT (cxC X N s H (compEnvC scope cl C X.env) fp) cd tc) (he : ∀ C s H fp, PE (cxC X N s H (compEnvC scope cl C X.env) fp) elt te) (hcalm : X.calm = true)
    (hclos : closureFor scope X.env = pure cl) (hkind : scope.kind = .function) (hcell : ∀ y ∈ scope.names, y.2 ≠ .cell) (hnames : ∀ y ∈ scope.names, y.2 = .local → scope.names.lookup y.1 = some .local)
    (hcl : ∀ y c, cl.lookup y = some c → X.env.cells.lookup y = some c) (hhas : ∀ y, ((relabel scope X.env).names.lookup y = some .cell ∨ (relabel scope X.env).names.lookup y = some .free) → ∃ c, cl.lookup y = some c)
    (hlen : N.length = k + js.length) (hcap : ∀ i j, js[i]? = some j → ∃ y, N[k + i]? = some y ∧ Cap X (relabel scope X.env) cl j y)
    (hs : ∀ x, foldedSetIterable iter X.env x = pure x := by intro _; rfl) : PE X (.ListComp elt [⟨tg, iter, [cd], 0⟩] scope pos) (dCompI wi g tc te k js) := by
  intro pins s σ H Q I h
  rw [eval_ListComp]
  refine comp_coreI k js hi hg hd he hcalm hclos hkind hcell hnames hcl hhas hlen hcap hs I h fun s6 H5 D C m I6 n6 z1 z2 z3 z4 z5 q => ⟨m, n6, fun h7 sb7 => ⟨.ref D, H5, ?_, rfl, q⟩⟩
  exact I6.turned (t' := s6.toks) (fun b o hb e => (sb7.2 b hb).trans e) z1 z3.symm.symm (.inr z2) z4 z5
/-- y = [..]: the store comes ahead of the block's end -/
theorem ps_comp0I {elt iter tg cd : Expr} {scope : Scope} {pos py spos : Pos} {i : Nat} {y : Str} {wi : TI} {te : TE} {tc : TT} {g : TG} {N : List Str} {cl : List (Str × Addr)} (k : Nat) (js : List Nat) (hi : PI X tg iter wi)
    (hg : ∀ C s H fp, PG (cxC X N s H (compEnvC scope cl C X.env) fp) tg g) (hd : ∀ C s H fp, PT (cxC X N s H (compEnvC scope cl C X.env) fp) cd tc) (he : ∀ C s H fp, PE (cxC X N s H (compEnvC scope cl C X.env) fp) elt te) (hcalm : X.calm = true)
    (hclos : closureFor scope X.env = pure cl) (hkind : scope.kind = .function) (hcell : ∀ y ∈ scope.names, y.2 ≠ .cell) (hnames : ∀ y ∈ scope.names, y.2 = .local → scope.names.lookup y.1 = some .local)
    (hcl : ∀ y c, cl.lookup y = some c → X.env.cells.lookup y = some c) (hhas : ∀ y, ((relabel scope X.env).names.lookup y = some .cell ∨ (relabel scope X.env).names.lookup y = some .free) → ∃ c, cl.lookup y = some c)
    (hlen : N.length = k + js.length) (hcap : ∀ i j, js[i]? = some j → ∃ y, N[k + i]? = some y ∧ Cap X (relabel scope X.env) cl j y)
    (hs : ∀ x, foldedSetIterable iter X.env x = pure x) (hN : X.N.Nodup) (hi' : X.N[i]? = some y) (hy : X.env.scope.names.lookup y = some .local) (hsw : swapsWith (.ListComp elt [⟨tg, iter, [cd], 0⟩] scope pos) (some (.Name y py)) spos.line X.env = pure true) :
    PS X (.Assign [.Name y py] (.ListComp elt [⟨tg, iter, [cd], 0⟩] scope pos) spos) (tAsg (dCompI wi g tc te k js) (gName i)) := by
  intro pins s σ H D I h
  rw [exec_Assign_Name_used _ _ _ _ hsw]
  refine wpAny_bind (wpAny_standAt (wpAny_bind ?_))
  show wpAny _ X.A (do let _ ← comprehension (.ListComp elt [⟨tg, iter, [cd], 0⟩] scope pos) scope X.env _ (newList []) false (eval iter X.env) (some (assign (.Name y py) X.env))) _ _ s
  refine wpAny_bind (wpAny_mono (comp_coreI k js hi hg hd he hcalm hclos hkind hcell hnames hcl hhas hlen hcap hs (use := some (assign (.Name y py) X.env)) (Qv := fun _ s' => SP X pins D .next s') I h fun s6 H5 D' C m I6 n6 z1 z2 z3 z4 z5 q => ?_)
    (fun _ s' hq => wpAny_pure (wpAny_pure hq)) fun _ _ e => e)
  show wpAny _ X.A (assign (.Name y py) X.env (.ref D')) _ _ _
  refine wpAny_assign_Name (store_ok2 I6 hN hi' (.inl hy) (v := .ref D') rfl (fun s8 I8 ⟨a, sb, ha⟩ => ?_) (.inr hy))
  have na : C ≠ a := by
    rcases ha with rfl | ha
    · exact z3
    · exact Ne.symm (z4 _ _ ha)
  exact ⟨m, n6.sameBut sb na, fun h9 sb9 => ⟨_, H5, I8.turned (t' := s8.toks) (fun b o hb e => (sb9.2 b hb).trans e) z1 z3 (.inr z2) z4 z5, q⟩⟩
/-- the rule as it is used: own the targets' names, ys the captured ones at the slots js -/
theorem e_compIN {elt iter tg cd : Expr} {scope : Scope} {pos : Pos} {wi : TI} {te : TE} {tc : TT} {g : TG} {cl : List (Str × Addr)} (own ys : List Str) (js : List Nat) (hclos : closureFor scope X.env = pure cl) (hi : PI X tg iter wi)
    (hg : ∀ C s H fp, PG (cxC X (own ++ ys) s H (compEnvC scope cl C X.env) fp) tg g) (hd : ∀ C s H fp, PT (cxC X (own ++ ys) s H (compEnvC scope cl C X.env) fp) cd tc) (he : ∀ C s H fp, PE (cxC X (own ++ ys) s H (compEnvC scope cl C X.env) fp) elt te) (hcalm : X.calm = true) (hkind : scope.kind = .function)
    (hcell : (scope.names.all fun y => y.2 != .cell) = true) (hnames : (scope.names.all fun y => y.2 != .local || scope.names.lookup y.1 == some .local) = true) (hfr : (scope.names.all fun y => y.2 != .free || (cl.map (·.1)).contains y.1) = true)
    (hcl : CellL X.env.cells cl) (hcap : CapL X (relabel scope X.env) cl ys js) (hs : ∀ x, foldedSetIterable iter X.env x = pure x := by intro _; rfl) :
    PE X (.ListComp elt [⟨tg, iter, [cd], 0⟩] scope pos) (dCompI wi g tc te own.length js) := by
  rw [List.all_eq_true] at hcell hnames hfr
  have hc : ∀ y ∈ scope.names, y.2 ≠ .cell := fun y hy z => by
    have := hcell y hy
    rw [z] at this
    cases this
  refine e_compI own.length js hi hg hd he hcalm hclos hkind hc (fun y hy z => ?_) hcl.at (fun y h => ?_) (by rw [List.length_append, hcap.len]) (fun i j e => ?_) hs
  · have := hnames y hy
    rw [z] at this
    simpa using this
  · obtain ⟨z, hz, rfl, hk⟩ : ∃ z ∈ scope.names, z.1 = y ∧ (z.2 = .free ∨ z.2 = .cell) := by
      rcases h with h | h
      · exact relabel_has h (.inl rfl)
      · exact relabel_has h (.inr rfl)
    rcases hk with hk | hk
    · have := hfr z hz
      rw [hk] at this
      exact lookup_has (by simpa using this)
    · exact absurd hk (hc z hz)
  · obtain ⟨y, h1, h2⟩ := hcap.at i j e
    exact ⟨y, by rw [List.getElem?_append_right (Nat.le_add_right _ _), Nat.add_sub_cancel_left]; exact h1, h2⟩

theorem ps_compIN {elt iter tg cd : Expr} {scope : Scope} {pos py spos : Pos} {i : Nat} {y : Str} {wi : TI} {te : TE} {tc : TT} {g : TG} {cl : List (Str × Addr)} (own ys : List Str) (js : List Nat) (hclos : closureFor scope X.env = pure cl) (hi : PI X tg iter wi)
    (hg : ∀ C s H fp, PG (cxC X (own ++ ys) s H (compEnvC scope cl C X.env) fp) tg g) (hd : ∀ C s H fp, PT (cxC X (own ++ ys) s H (compEnvC scope cl C X.env) fp) cd tc) (he : ∀ C s H fp, PE (cxC X (own ++ ys) s H (compEnvC scope cl C X.env) fp) elt te) (hcalm : X.calm = true) (hkind : scope.kind = .function)
    (hcell : (scope.names.all fun y => y.2 != .cell) = true) (hnames : (scope.names.all fun y => y.2 != .local || scope.names.lookup y.1 == some .local) = true) (hfr : (scope.names.all fun y => y.2 != .free || (cl.map (·.1)).contains y.1) = true)
    (hcl : CellL X.env.cells cl) (hcap : CapL X (relabel scope X.env) cl ys js) (hN : X.N.Nodup) (hi' : X.N[i]? = some y) (hy : X.env.scope.names.lookup y = some .local) (hs : ∀ x, foldedSetIterable iter X.env x = pure x := by intro _; rfl) (hsw : swapsWith (.ListComp elt [⟨tg, iter, [cd], 0⟩] scope pos) (some (.Name y py)) spos.line X.env = pure true := by rfl) :
    PS X (.Assign [.Name y py] (.ListComp elt [⟨tg, iter, [cd], 0⟩] scope pos) spos) (tAsg (dCompI wi g tc te own.length js) (gName i)) := by
  rw [List.all_eq_true] at hcell hnames hfr
  have hc : ∀ y ∈ scope.names, y.2 ≠ .cell := fun y hy z => by
    have := hcell y hy
    rw [z] at this
    cases this
  refine ps_comp0I own.length js hi hg hd he hcalm hclos hkind hc (fun y hy z => ?_) hcl.at (fun y h => ?_) (by rw [List.length_append, hcap.len]) (fun i j e => ?_) hs hN hi' hy hsw
  · have := hnames y hy
    rw [z] at this
    simpa using this
  · obtain ⟨z, hz, rfl, hk⟩ : ∃ z ∈ scope.names, z.1 = y ∧ (z.2 = .free ∨ z.2 = .cell) := by
      rcases h with h | h
      · exact relabel_has h (.inl rfl)
      · exact relabel_has h (.inr rfl)
    rcases hk with hk | hk
    · have := hfr z hz
      rw [hk] at this
      exact lookup_has (by simpa using this)
    · exact absurd hk (hc z hz)
  · obtain ⟨y, h1, h2⟩ := hcap.at i j e
    exact ⟨y, by rw [List.getElem?_append_right (Nat.le_add_right _ _), Nat.add_sub_cancel_left]; exact h1, h2⟩

end
end Lw
end

section
set_option Elab.async false
set_option linter.all false
set_option maxRecDepth 100000
set_option maxHeartbeats 4000000
namespace Lw
open PySem PySem.Spec PyProof.Rows L2
/-! ### comprehensions over a list: what is told of each element, and what is left out -/
inductive All2 {α β : Type} (R : α → β → Prop) : List α → List β → Prop where
  | nil : All2 R [] []
  | cons {a : α} {b : β} {l : List α} {m : List β} : R a b → All2 R l m → All2 R (a :: l) (b :: m)
theorem All2.len {α β : Type} {R : α → β → Prop} : ∀ {l : List α} {m : List β}, All2 R l m → l.length = m.length
  | _, _, .nil => rfl
  | _, _, .cons _ r => by rw [List.length_cons, List.length_cons, r.len]
theorem All2.imp {α β : Type} {R S : α → β → Prop} (h : ∀ a b, R a b → S a b) : ∀ {l : List α} {m : List β}, All2 R l m → All2 S l m
  | _, _, .nil => .nil
  | _, _, .cons x r => .cons (h _ _ x) (r.imp h)
theorem All2.snoc {α β : Type} {R : α → β → Prop} {a : α} {b : β} (x : R a b) : ∀ {l : List α} {m : List β}, All2 R l m → All2 R (l ++ [a]) (m ++ [b])
  | _, _, .nil => .cons x .nil
  | _, _, .cons y r => .cons y (r.snoc x)
theorem All2.get {α β : Type} {R : α → β → Prop} : ∀ {l : List α} {m : List β}, All2 R l m → ∀ {i : Nat} {a : α}, l[i]? = some a → ∃ b, m[i]? = some b ∧ R a b
  | _, _, .nil, i, a, h => by simp at h
  | _, _, .cons x r, 0, a, h => by
    simp at h
    subst h
    exact ⟨_, rfl, x⟩
  | _, _, .cons x r, i + 1, a, h => by
    simp only [List.getElem?_cons_succ] at h ⊢
    exact r.get h
theorem All2.app {α β : Type} {R : α → β → Prop} : ∀ {l l' : List α} {m m' : List β}, All2 R l m → All2 R l' m' → All2 R (l ++ l') (m ++ m')
  | _, _, _, _, .nil, h => h
  | _, _, _, _, .cons x r, h => .cons x (r.app h)
theorem All2.mem {α β : Type} {R : α → β → Prop} : ∀ {l : List α} {m : List β}, All2 R l m → ∀ {a : α}, a ∈ l → ∃ b, b ∈ m ∧ R a b
  | _, _, .nil, a, h => by simp at h
  | _, _, .cons x r, a, h => by
    rcases List.mem_cons.mp h with rfl | h
    · exact ⟨_, List.mem_cons_self .., x⟩
    · obtain ⟨b, h1, h2⟩ := r.mem h
      exact ⟨b, List.mem_cons_of_mem _ h1, h2⟩
/-- all tuples are kept -/
def Kt (H H' : Hp) : Prop := ∀ p xs, H p = some (.tup xs) → H' p = some (.tup xs)
theorem Kt.trans {H H1 H2 : Hp} (a : Kt H H1) (b : Kt H1 H2) : Kt H H2 := fun p xs h => b p xs (a p xs h)
theorem kt_of {H H' : Hp} (s : Same H H') : Kt H H' := fun p xs h => s p _ h
theorem kt_upd {H : Hp} {D : Addr} {zs : List V} {o : HO} (h : H D = some (.lst zs)) : Kt H (upd H D o) := fun p xs e => by
  have ne : p ≠ D := fun z => by
    subst z
    rw [h] at e
    cases e
  rw [upd_ne ne]
  exact e
theorem same_app' {H0 H : Hp} {D : Addr} {o : HO} (s : Same H0 H) (h : H0 D = none) : Same H0 (upd H D o) := fun b u e => by
  rw [upd_ne (ne_of_none e h)]
  exact s b u e
/-- over a list whose elements stand for things of β; each makes something -/
theorem comp_abs {β : Type} {K : PySem.W.Frag} {a : Addr} {xs : List V} {ms : List β} {g : TG} {te : TE} {k : Nat} {js : List Nat} {σ : L2.St} {H1 : Hp} {Q : VK} (M : Hp → V → β → Prop) (upM : ∀ v m H H', Kt H H' → M H v m → M H' v m) (R : Hp → β → V → Prop) (up : ∀ m y H H', Kt H H' → R H m y → R H' m y)
    (hz : xs.length ≤ 1000) (hx : SqL K H1 a xs) (hm : All2 (M H1) xs ms)
    (hs : ∀ v m H2, M H2 v m → m ∈ ms → Same H1 H2 → ∀ P : VK, (∀ y H3, Same H2 H3 → R H3 m y → P y H3) → g v (List.replicate k none ++ capσ js σ) H2 fun σ2 H3 => σ2.drop k = capσ js σ ∧ te σ2 H3 P)
    (hq : ∀ D H' ys, Same H1 H' → H1 D = none → H' D = some (.lst ys) → All2 (R H') ms ys → Q (.ref D) H') : CGoal (Itl K a) g te k js σ H1 Q := by
  unfold CGoal
  intro D hD
  have hl := hm.len
  refine ⟨fun i m H => m = xs.length - i ∧ i ≤ xs.length ∧ Same H1 H ∧ ∃ ys, H D = some (.lst ys) ∧ All2 (R H) (ms.take i) ys, ⟨xs.length, by simp, Nat.zero_le _, same_upd hD, [], upd_same, .nil⟩, ?_⟩
  rintro i m H ⟨rfl, hi, sm, ys, hH, ar⟩
  have sq := sm.seq hx
  by_cases hlt : i < xs.length
  · have e : xs[i]? = some xs[i] := by simp [hlt]
    refine .inr ⟨⟨xs, _, sq, e⟩, fun x H' y => ?_⟩
    obtain ⟨e1, e2⟩ := y
    subst e1
    have hv := e2 xs sq
    obtain ⟨m, hmi, hM⟩ := hm.get hv
    refine hs x m _ (upM _ _ _ _ (kt_of sm) hM) (List.mem_of_getElem? hmi) sm _ fun y H3 s3 r3 => ⟨ys, s3 _ _ hH, ?_, xs.length - (i + 1), by omega, rfl, hlt, same_app' (sm.trans s3) hD, ys ++ [y], upd_same, ?_⟩
    · rw [← ar.len, List.length_take]
      exact Nat.lt_of_le_of_lt (Nat.min_le_left _ _) (Nat.lt_of_lt_of_le hlt (Nat.le_trans hz (by decide)))
    · have kt : Kt H3 (upd H3 D (.lst (ys ++ [y]))) := kt_upd (s3 _ _ hH)
      rw [List.take_add_one, hmi]
      exact (ar.imp fun v y r => up v y _ _ ((kt_of s3).trans kt) r).snoc (up _ _ _ _ kt r3)
  · have e : i = xs.length := by omega
    subst e
    rw [hl, List.take_length] at ar
    exact .inl ⟨⟨xs, sq, Nat.le_refl _⟩, hq D _ ys sm hD hH ar⟩
/-- .. with a condition -/
theorem comp_absI {β : Type} {K : PySem.W.Frag} {a : Addr} {xs : List V} {ms : List β} {g : TG} {tc : TT} {te : TE} {k : Nat} {js : List Nat} {σ : L2.St} {H1 : Hp} {Q : VK} (M : Hp → V → β → Prop) (upM : ∀ v m H H', Kt H H' → M H v m → M H' v m) (R : Hp → β → V → Prop) (up : ∀ m y H H', Kt H H' → R H m y → R H' m y)
    (c : β → Bool) (hz : xs.length ≤ 1000) (hx : SqL K H1 a xs) (hm : All2 (M H1) xs ms)
    (hs : ∀ v m H2, M H2 v m → m ∈ ms → Same H1 H2 → ∀ (P : VK) (P' : Hp → Prop), (c m = true → ∀ y H3, Same H2 H3 → R H3 m y → P y H3) → (c m = false → ∀ H3, Same H2 H3 → P' H3) → g v (List.replicate k none ++ capσ js σ) H2 fun σ2 H3 => σ2.drop k = capσ js σ ∧ tc σ2 H3 fun b H4 => Br b (te σ2 H4 P) (P' H4))
    (hq : ∀ D H' ys, Same H1 H' → H1 D = none → H' D = some (.lst ys) → All2 (R H') (ms.filter c) ys → Q (.ref D) H') : CGoalI (Itl K a) g tc te k js σ H1 Q := by
  unfold CGoalI
  intro D hD
  have hl := hm.len
  refine ⟨fun i m H => m = xs.length - i ∧ i ≤ xs.length ∧ Same H1 H ∧ ∃ ys, H D = some (.lst ys) ∧ All2 (R H) ((ms.take i).filter c) ys, ⟨xs.length, by simp, Nat.zero_le _, same_upd hD, [], upd_same, .nil⟩, ?_⟩
  rintro i m H ⟨rfl, hi, sm, ys, hH, ar⟩
  have sq := sm.seq hx
  by_cases hlt : i < xs.length
  · have e : xs[i]? = some xs[i] := by simp [hlt]
    refine .inr ⟨⟨xs, _, sq, e⟩, fun x H' y => ?_⟩
    obtain ⟨e1, e2⟩ := y
    subst e1
    have hv := e2 xs sq
    obtain ⟨m, hmi, hM⟩ := hm.get hv
    have yl : ys.length < sizeLine := by
      rw [← ar.len]
      refine Nat.lt_of_le_of_lt (List.length_filter_le _ _) ?_
      rw [List.length_take]
      exact Nat.lt_of_le_of_lt (Nat.min_le_left _ _) (Nat.lt_of_lt_of_le hlt (Nat.le_trans hz (by decide)))
    refine hs x m _ (upM _ _ _ _ (kt_of sm) hM) (List.mem_of_getElem? hmi) sm _ _ (fun hc y H3 s3 r3 => ⟨ys, s3 _ _ hH, yl, xs.length - (i + 1), by omega, rfl, hlt, same_app' (sm.trans s3) hD, ys ++ [y], upd_same, ?_⟩) fun hc H3 s3 => ⟨xs.length - (i + 1), by omega, rfl, hlt, sm.trans s3, ys, s3 _ _ hH, ?_⟩
    · have kt : Kt H3 (upd H3 D (.lst (ys ++ [y]))) := kt_upd (s3 _ _ hH)
      rw [List.take_add_one, hmi, List.filter_append]
      have ef : (Option.toList (some m)).filter c = [m] := by simp [hc]
      rw [ef]
      exact (ar.imp fun v y r => up v y _ _ ((kt_of s3).trans kt) r).snoc (up _ _ _ _ kt r3)
    · rw [List.take_add_one, hmi, List.filter_append]
      have ef : (Option.toList (some m)).filter c = [] := by simp [hc]
      rw [ef, List.append_nil]
      exact ar.imp fun v y r => up v y _ _ (kt_of s3) r
  · have e : i = xs.length := by omega
    subst e
    rw [hl, List.take_length] at ar
    exact .inl ⟨⟨xs, sq, Nat.le_refl _⟩, hq D _ ys sm hD hH ar⟩
/-! ### games and books -/
structure Gm where
  d : Int
  a : Str
  b : Str
  h : Int
  s : Int
def GmAt (H : Hp) (v : V) (g : Gm) : Prop := ∃ p, v = .ref p ∧ H p = some (.tup [.int g.d, .str g.a, .str g.b, .int g.h, .int g.s])
/-- a book: the games, no more than n -/
def Bk (K : PySem.W.Frag) (H : Hp) (L : Addr) (gs : List Gm) : Prop := ∃ vs, SqL K H L vs ∧ All2 (GmAt H) vs gs ∧ gs.length ≤ 100
def trn (g : Gm) : Gm := ⟨g.d, g.b, g.a, 2 - g.h, -g.s⟩
def plr (gs : List Gm) : List Str := srt (gs.map (·.a) ++ gs.map (·.b))
def isIn (n : Str) (g : Gm) : Bool := n == g.a || n == g.b
def toldG (n : Str) (g : Gm) : Gm := if g.a = n then g else trn g
def tld (n : Str) (gs : List Gm) : List Gm := (gs.filter (isIn n)).map (toldG n)
def tkr (n : Str) (gs : List Gm) : List Str := srt (((tld n gs).filter fun g => decide (g.h < 2)).map (·.b))
theorem all2_flip {α β : Type} {R : α → β → Prop} : ∀ {l : List α} {m : List β}, All2 R l m → All2 (fun b a => R a b) m l
  | _, _, .nil => .nil
  | _, _, .cons x r => .cons x (all2_flip r)
/-! ### a cut that is a new list -/
section
variable {X : Cx}
def dSlN (K : PySem.W.Frag) : V → Option Int → Option Int → Hp → VK → Prop := fun x lo hi H Q => match x with
  | .ref a => ∃ xs, SqL K H a xs ∧ ∀ p, H p = none → Q (.ref p) (upd H p (.lst (cutV xs lo hi)))
  | _ => False
/-! ### sorted(l), l a list of texts, each once -/
def dSortL (K : PySem.W.Frag) : List V → Hp → VK → Prop := fun xs H Q => match xs with
  | [.ref l] => ∃ names : List Str, SqL K H l (names.map V.str) ∧ names.length < 64 ∧ names.Nodup ∧ ∀ D, H D = none → Q (.ref D) (upd H D (.lst ((srt names).map V.str)))
  | _ => False
end
/-! ### books and lists of texts as data -/
def gd (g : Gm) : PyData := .tuple [.int g.d, .str g.a, .str g.b, .int g.h, .int g.s]
theorem eqv_shaped {d : PyData} (h : SeqAt.shaped d = true) : PyData.eqv d d = true := SeqAt.eqv_refl d (SeqAt.canLay_of_shaped h)
end Lw
end

section
set_option Elab.async false
set_option linter.all false
set_option maxRecDepth 100000
set_option maxHeartbeats 4000000
namespace Lw
open PySem PySem.Spec PyProof.Rows L2
section
variable {X : Cx}
/-! ### sum of a list of whole numbers -/
def dSum (K : PySem.W.Frag) : List V → Hp → VK → Prop := fun xs H Q => match xs with
  | [.ref l] => ∃ ns : List Int, SqL K H l (ns.map V.int) ∧ Q (.int ns.sum) H
  | _ => False
/-! ### list(d), d a dict whose keys are texts -/
def dLstD : List V → Hp → VK → Prop := fun xs H Q => match xs with
  | [.ref d] => ∃ (kvs : List (Key × V)) (names : List Str), H d = some (.dK kvs) ∧ kvs.map (·.1) = names.map Sum.inr ∧ ∀ p, H p = none → Q (.ref p) (upd H p (.lst (names.map V.str)))
  | _ => False
end
theorem All2.take {α β : Type} {R : α → β → Prop} : ∀ {l : List α} {m : List β} (n : Nat), All2 R l m → All2 R (l.take n) (m.take n)
  | _, _, 0, _ => .nil
  | _, _, n + 1, .nil => .nil
  | _, _, n + 1, .cons x r => .cons x (r.take n)
theorem All2.drop {α β : Type} {R : α → β → Prop} : ∀ {l : List α} {m : List β} (n : Nat), All2 R l m → All2 R (l.drop n) (m.drop n)
  | _, _, 0, h => h
  | _, _, n + 1, .nil => .nil
  | _, _, n + 1, .cons x r => r.drop n
end Lw
end

section
set_option Elab.async false
set_option linter.all false
set_option maxRecDepth 100000
set_option maxHeartbeats 4000000
namespace Lw
open PySem PySem.Spec PyProof.Rows L2

/-! ### enumerate of a list -/
section
variable {X : Cx}
/-- an enumerate at e over the iterator it -/
structure EAt (e it l : Addr) (n : Nat) (h : Heap) : Prop where
  e : ∃ old, IsEnum h e it ((n : Nat) : Int) old
  a : h.IsListIter it l n
/-- at turn i a new tuple of i and the item -/
def Ite (K : PySem.W.Frag) (a : Addr) : It :=
  ⟨fun i H => ∃ xs x, SqL K H a xs ∧ xs[i]? = some x,
   fun i H v H' => ∃ t x, v = .ref t ∧ H t = none ∧ H' = upd H t (.tup [.int ((i : Nat) : Int), x]) ∧ ∀ xs, SqL K H a xs → xs[i]? = some x,
   fun i H => ∃ xs, SqL K H a xs ∧ xs.length ≤ i⟩
theorem turn_enum {P : Program} {w : World} {K : PySem.W.Frag} {es : List Expr} {x1} {pos : Pos} {e it a : Addr} (hei : e ≠ it) :
    Turn P w K (.Tuple es x1 pos) (Ite K a) [e, it] e (EAt e it a) where
  mem := by simp
  obj := fun i h Z c hc => by
    have hc : c = e ∨ c = it := by simpa using hc
    rcases hc with rfl | rfl
    · obtain ⟨old, h⟩ := Z.e
      exact ⟨_, h, fun v e => by cases e⟩
    · obtain ⟨o, e, _, d⟩ := Z.a
      exact ⟨o, e, fun v z => by rw [d] at z; cases z⟩
  keep := fun i h h' Z k => by
    obtain ⟨old, he⟩ := Z.e
    obtain ⟨o, e1, r⟩ := Z.a
    exact ⟨⟨old, k e (by simp) _ he⟩, ⟨o, k it (by simp) o e1, r⟩⟩
  item := by
    intro X hP hw hK hc i pins s σ H E I hf Z hg
    subst hP hw hK
    obtain ⟨xs, x, q1, e1⟩ := hg
    obtain ⟨us, r1, p1⟩ := sq_val (kd := true) I q1
    obtain ⟨u, hu, ru⟩ := r1.get e1
    obtain ⟨old, he⟩ := Z.e
    have hfr : H s.heap.objs.size = none := I.hok.fresh (Nat.le_refl _)
    refine wpAny_pyNext_enum_item he Z.a (show s.heap.IsList a us.toArray from p1) (x := u) (by simpa using hu) hei fun g heo hit ht hz kp => ⟨_, rfl, ?_⟩
    have elt : e < s.heap.objs.size := Heap.lt_size he
    have ilt : it < s.heap.objs.size := by obtain ⟨_, e, _⟩ := Z.a; exact Heap.lt_size e
    refine wpAny_letOwnedTupleGo_enum (s := { s with heap := g, toks := s.toks + 1 }) heo fun g' z' s' => ?_
    have kp' : ∀ c o, c ≠ e → c ≠ it → s.heap.get? c = some o → g'.get? c = some o := fun c o n1 n2 e => s'.extBut _ _ n1 (kp c o n1 n2 e)
    have a5' : g'.get? s.heap.objs.size = some { cls := .type "tuple", data := .seq #[.int i s.toks, u] } := s'.extBut _ _ (Nat.ne_of_gt elt) ht
    have I1 : Inv X pins σ (upd H s.heap.objs.size (.tup [.int i, x])) { s with heap := g', toks := s.toks + 1 } := by
      refine inv_zipped I (fp := [e, it]) (fun c o hc e => kp' c o (fun x => hc (by simp [x])) (fun x => hc (by simp [x])) e) hf (Nat.le_refl _) ?_
      exact ⟨by show 2 ≤ sizeLine; decide, [.int i s.toks, u], .cons ⟨_, rfl⟩ (.cons ru .nil), ⟨_, a5', rfl, _, rfl⟩⟩
    refine ⟨.ref s.heap.objs.size, _, I1, rfl, ⟨_, x, rfl, hfr, rfl, fun zs hz => by rw [sq_inj (kd := true) I hz q1]; exact e1⟩, ?_, ?_⟩
    · obtain ⟨o, e2, r⟩ := hit
      exact ⟨⟨_, by have := z'; simpa using this⟩, ⟨o, s'.extBut _ _ (Ne.symm hei) e2, r⟩⟩
    · intro c hc
      have hlt : c < s.heap.objs.size := by
        have hc : c = e ∨ c = it := by simpa using hc
        rcases hc with rfl | rfl
        · exact elt
        · exact ilt
      rw [upd_ne (Nat.ne_of_lt hlt)]
      exact (hf c hc).1
  done := by
    intro X hP hw hK hc i pins s σ H E I hf Z hg
    subst hP hw hK
    obtain ⟨xs, q1, e⟩ := hg
    obtain ⟨us, r1, p1⟩ := sq_val (kd := true) I q1
    have l1 := r1.length
    obtain ⟨old, he⟩ := Z.e
    have hn : us.toArray[i]? = none := by
      simp
      omega
    refine wpAny_pyNext_enum_end (I.ok.hd hc) he Z.a (show s.heap.IsList a us.toArray from p1) hn fun g kp => ⟨rfl, ?_⟩
    refine inv_moved I (fp := [it]) (fun c o hc e => kp c o (fun x => hc (by simp [x])) e) ?_
    intro c hc
    exact hf c (by simp at hc ⊢; exact .inr hc)
  self := fun _ _ _ _ _ Z h => by
    obtain ⟨old, he⟩ := Z.e
    exact wpAny_pyIter_enum he h
def iEnum (K : PySem.W.Frag) (ta : TA) : TI := fun σ H R => ta σ H fun vs H1 => match vs with
  | [.ref a] => (∃ xs, SqL K H1 a xs) ∧ R (Ite K a) H1
  | _ => False
theorem boot_enum : bootBuiltins "enumerate" = some (.type "enumerate") := by decide +kernel
theorem pi_enum {a : Expr} {ta : TA} {p pos : Pos} {es : List Expr} {x1} {tp : Pos} (hg : Gl X "enumerate") (hm : X.mg "enumerate" = none) (ha : PA X [a] ta) (hs : starEach [a] X.env = [(false, eval a X.env)] := by rfl) :
    PI X (.Tuple es x1 tp) (.Call (.Name "enumerate" p) [a] [] pos) (iEnum X.K ta) := by
  intro pins s σ H R I h
  refine Call_ (ld_blt I hg hm boot_enum (PyProof.Rows.callWith_type1 (thn (ha pos pins s σ H _ I h) fun us s1 ⟨vs, H1, I1, r1, q1⟩ => ?_) hs rfl))
  match vs, q1 with
  | [.ref l], ⟨⟨xs, hx⟩, q⟩ =>
    obtain ⟨u, rfl, e1⟩ := vals1 r1
    cases (show u = Value.ref l from e1)
    obtain ⟨us', _, p1⟩ := sq_val (kd := true) I1 hx
    refine call_enumerate_list (show s1.heap.IsList l us'.toArray from p1) fun g Z Zi hz kp => wpAny_pyIter_enum (s := { s1 with heap := g }) Z ?_
    have I2 : Inv X pins σ H1 { s1 with heap := g } := I1.kept (t' := s1.toks) kp
    refine ⟨_, [s1.heap.objs.size + 1, s1.heap.objs.size], _, _, H1, rfl, I2, turn_enum (a := l) (by show @Ne Nat _ _; omega), ⟨⟨_, Z⟩, Zi⟩, fun c hc => ?_, q⟩
    have hc : @LE.le Nat _ s1.heap.objs.size c := by
      have hc : c = s1.heap.objs.size + 1 ∨ c = s1.heap.objs.size := by simpa using hc
      rcases hc with h | h <;> rw [h] <;> first | exact Nat.le_refl _ | exact Nat.le_add_right _ _
    exact I1.fpOk hc (I1.hok.fresh hc)
/-- [e for i, x in enumerate(xs) if c] -/
theorem comp_enumI {β : Type} {K : PySem.W.Frag} {a : Addr} {xs : List V} {ms : List β} {g : TG} {tc : TT} {te : TE} {k : Nat} {js : List Nat} {σ : L2.St} {H1 : Hp} {Q : VK} (M : Hp → V → β → Prop) (upM : ∀ v m H H', Kt H H' → M H v m → M H' v m) (R : Hp → β × Nat → V → Prop) (up : ∀ m y H H', Kt H H' → R H m y → R H' m y)
    (c : β × Nat → Bool) (hz : xs.length ≤ 1000) (hx : SqL K H1 a xs) (hm : All2 (M H1) xs ms)
    (hs : ∀ v m i t H2, M H2 v m → ms[i]? = some m → Same H1 H2 → H2 t = some (.tup [.int ((i : Nat) : Int), v]) → ∀ (P : VK) (P' : Hp → Prop), (c (m, i) = true → ∀ y H3, Same H2 H3 → R H3 (m, i) y → P y H3) → (c (m, i) = false → ∀ H3, Same H2 H3 → P' H3) → g (.ref t) (List.replicate k none ++ capσ js σ) H2 fun σ2 H3 => σ2.drop k = capσ js σ ∧ tc σ2 H3 fun b H4 => Br b (te σ2 H4 P) (P' H4))
    (hq : ∀ D H' ys, Same H1 H' → H1 D = none → H' D = some (.lst ys) → All2 (R H') (ms.zipIdx.filter c) ys → Q (.ref D) H') : CGoalI (Ite K a) g tc te k js σ H1 Q := by
  unfold CGoalI
  intro D hD
  have hl := hm.len
  refine ⟨fun i m H => m = xs.length - i ∧ i ≤ xs.length ∧ Same H1 H ∧ ∃ ys, H D = some (.lst ys) ∧ All2 (R H) ((ms.zipIdx.take i).filter c) ys, ⟨xs.length, by simp, Nat.zero_le _, same_upd hD, [], upd_same, .nil⟩, ?_⟩
  rintro i m H ⟨rfl, hi, sm, ys, hH, ar⟩
  have sq := sm.seq hx
  by_cases hlt : i < xs.length
  · have e : xs[i]? = some xs[i] := by simp [hlt]
    refine .inr ⟨⟨xs, _, sq, e⟩, fun v H' y => ?_⟩
    obtain ⟨t, x, rfl, ht, rfl, y1⟩ := y
    have hv := y1 xs sq
    obtain ⟨m, hmi, hM⟩ := hm.get hv
    have hmz : ms.zipIdx[i]? = some (m, i) := by rw [List.getElem?_zipIdx, hmi]; simp
    have st : Same H (upd H t (.tup [.int ((i : Nat) : Int), x])) := same_upd ht
    have yl : ys.length < sizeLine := by
      rw [← ar.len]
      refine Nat.lt_of_le_of_lt (List.length_filter_le _ _) ?_
      rw [List.length_take]
      exact Nat.lt_of_le_of_lt (Nat.min_le_left _ _) (Nat.lt_of_lt_of_le hlt (Nat.le_trans hz (by decide)))
    refine hs x m i t _ (upM _ _ _ _ (kt_of (sm.trans st)) hM) hmi (sm.trans st) upd_same _ _ (fun hc y H3 s3 r3 => ⟨ys, s3 _ _ (st _ _ hH), yl, xs.length - (i + 1), by omega, rfl, hlt, same_app' (sm.trans (st.trans s3)) hD, ys ++ [y], upd_same, ?_⟩) fun hc H3 s3 => ⟨xs.length - (i + 1), by omega, rfl, hlt, sm.trans (st.trans s3), ys, s3 _ _ (st _ _ hH), ?_⟩
    · have kt : Kt H3 (upd H3 D (.lst (ys ++ [y]))) := kt_upd (s3 _ _ (st _ _ hH))
      rw [List.take_add_one, hmz, List.filter_append]
      have ef : (Option.toList (some (m, i))).filter c = [(m, i)] := by simp [hc]
      rw [ef]
      exact (ar.imp fun v y r => up v y _ _ ((kt_of (st.trans s3)).trans kt) r).snoc (up _ _ _ _ kt r3)
    · rw [List.take_add_one, hmz, List.filter_append]
      have ef : (Option.toList (some (m, i))).filter c = [] := by simp [hc]
      rw [ef, List.append_nil]
      exact ar.imp fun v y r => up v y _ _ (kt_of (st.trans s3)) r
  · have e : i = xs.length := by omega
    subst e
    have ez : ms.zipIdx.take xs.length = ms.zipIdx := by rw [hl]; exact List.take_of_length_le (by simp)
    rw [ez] at ar
    exact .inl ⟨⟨xs, sq, Nat.le_refl _⟩, hq D _ ys sm hD hH ar⟩
end
end Lw
end

section
set_option Elab.async false
set_option linter.all false
set_option maxRecDepth 100000
set_option maxHeartbeats 4000000
namespace Lw
open PySem PySem.Spec PyProof.Rows L2

/-! ### sorted(l), l a list of whole numbers -/
section
variable {X : Cx}
theorem ints_of : ∀ {ys : List Int} {us : List Value}, Vals (ys.map V.int) us → IntsAre us ys
  | [], _, r => by
    cases r
    exact .nil
  | y :: ys, _, r => by
    cases r with
    | cons r1 r2 =>
      obtain ⟨t, rfl⟩ := r1
      exact .cons y t (ints_of r2)
theorem vals_int : ∀ {us : List Value} {ys : List Int}, IntsAre us ys → Vals (ys.map V.int) us
  | _, _, .nil => .nil
  | _, _, .cons x t r => .cons ⟨t, rfl⟩ (vals_int r)
def dSortI (K : PySem.W.Frag) : List V → Hp → VK → Prop := fun xs H Q => match xs with
  | [.ref l] => ∃ ns : List Int, SqL K H l (ns.map V.int) ∧ ns.length < 64 ∧ ∀ D (ms : List Int), H D = none → ms.Perm ns → ms.Pairwise (· ≤ ·) → Q (.ref D) (upd H D (.lst (ms.map V.int)))
  | _ => False
theorem c_sortI : CallR X (.builtin "sorted") (dSortI X.K) := by
  intro pins s σ H xs us Q I r h
  match xs, h with
  | [.ref l], ⟨names, hq, hn, q⟩ =>
    obtain ⟨u, rfl, ru⟩ := r.one
    cases (show u = Value.ref l from ru)
    obtain ⟨its, rv, ⟨oL, nL, eL, cL, dL, xL⟩, hz⟩ := I.list hq
    have sa : IntsAre its names := ints_of rv
    have hl : its.length = names.length := by rw [← rv.length, List.length_map]
    refine sorted_ints (vs := its) ⟨oL, eL, cL, nL, xL⟩ sa (by omega) fun out ys s1 pm so => ?_
    obtain ⟨n, hr⟩ := sortedAll_at s.heap its out
    have I2 := I.laid (t' := s.toks) (h' := sortedAll s.heap its out) (a := s.heap.objs.size + 1) (o := .lst (ys.map V.int)) (fun b u e => sortedAll_old e) (Nat.le_succ _) ⟨by rw [List.length_map, pm.length_eq]; exact Nat.le_trans (Nat.le_of_lt hn) (by decide), out.toList, n, vals_int s1, by rw [hr]⟩
    exact ⟨.ref (s.heap.objs.size + 1), _, I2, rfl, q _ ys (I.hok.fresh (Nat.le_succ _)) pm so⟩
end
end Lw
end

section
set_option Elab.async false
set_option linter.all false
set_option maxRecDepth 100000
set_option maxHeartbeats 4000000
namespace Lw
open PySem PySem.Spec PyProof.Rows L2

/-! ### xs.insert(i, y), i from 0 to the length -/
def insV (xs : List V) (k : Nat) (y : V) : List V := xs.take k ++ y :: xs.drop k
def rInsert : V → List V → Hp → VK → Prop := fun x vs H Q => ∃ l xs i y, x = .ref l ∧ vs = [.int i, y] ∧ H l = some (.lst xs) ∧ 0 ≤ i ∧ i ≤ xs.length ∧ xs.length < 1000 ∧ Q .non (upd H l (.lst (insV xs i.toNat y)))
section
variable {X : Cx}
theorem Vals.take' : ∀ {xs : List V} {us : List Value} (k : Nat), Vals xs us → Vals (xs.take k) (us.take k)
  | _, _, 0, _ => .nil
  | _, _, k + 1, .nil => .nil
  | _, _, k + 1, .cons r t => .cons r (Vals.take' k t)
theorem Vals.drop' : ∀ {xs : List V} {us : List Value} (k : Nat), Vals xs us → Vals (xs.drop k) (us.drop k)
  | _, _, 0, r => r
  | _, _, k + 1, .nil => .nil
  | _, _, k + 1, .cons r t => Vals.drop' k t
theorem mt_insert : MtM X "list.insert" rInsert := by
  intro pins s σ H x vs v us Q I rx rv h
  obtain ⟨l, xs, i, y, rfl, rfl, hH, i0, i1, hz, q⟩ := h
  cases rx
  obtain ⟨u1, u2, rfl, r1, r2⟩ := vals2 rv
  obtain ⟨t, rfl⟩ := (show ∃ t, u1 = Value.int i t from r1)
  obtain ⟨z, its, n, r, hl, e⟩ := I.lstM hH
  have hfit : ¬ (!Builtin.List.listFitsIndex i) = true := by
    have h1 : i < 9223372036854775808 := by omega
    have h2 : (-9223372036854775808 : Int) ≤ i := by omega
    simp [Builtin.List.listFitsIndex]
    exact ⟨h2, h1⟩
  refine call_meets F.slot_list_insert ⟨_, e, rfl⟩ F.entry_list_insert (F.args_list_insert_3 _ _ _) (AutoSeq1.list_insert_list_int_val_1 l its.toArray n i t u2 hfit (by rw [List.size_toArray]; omega)) ⟨e, ?_⟩
  refine ⟨.non, _, I.lset (its' := its.take i.toNat ++ u2 :: its.drop i.toNat) hH e ?_ ((Vals.take' _ r).append (.cons r2 (Vals.drop' _ r))) ?_, rfl, q⟩
  · have hk : min i.toNat its.toArray.size = i.toNat := by
      rw [List.size_toArray]
      omega
    simp only [if_neg (show ¬ i < 0 by omega), hk]
    simp
    exact List.take_of_length_le (by rw [List.length_drop]; omega)
  · rw [List.length_append, List.length_cons, List.length_take, List.length_drop]
    have : 1000 ≤ sizeLine := by decide
    omega
end
end Lw
end

set_option Elab.async false
set_option linter.all false
set_option maxRecDepth 100000
set_option maxHeartbeats 0
set_option exponentiation.threshold 5000
namespace My
open PySem PySem.Spec PyProof.Rows L2 Lw
local macro_rules | `(tactic| walk_at "hp") => `(tactic| first | assumption | (refine sm_at (by assumption) ?_; walk_at "hp") | (refine sm_sq (by assumption) ?_; walk_at "hp") | (refine Fq.up (by assumption) ?_; walk_at "hp") | (refine Pq.up (by assumption) ?_; walk_at "hp"))
def top (i : Nat) : Stmt := PySem.Challenge.pw_ladderworth_k75_whole_rankings_changed.main.body.getD i (.Pass ⟨0, 0, 0, 0⟩)
abbrev s_under : Stmt := top 1
abbrev s_beneath : Stmt := top 3
abbrev s_ranking : Stmt := top 5
abbrev s_rank_of : Stmt := top 6
abbrev s_l_cell_at : Stmt := top 8
abbrev s_l_draw : Stmt := top 9
abbrev s_l_rest : Stmt := top 10
abbrev s_l_low : Stmt := top 11
abbrev s_l_less : Stmt := top 12
abbrev s_l_parts : Stmt := top 13
abbrev s_l_order : Stmt := top 14
abbrev s_l_put : Stmt := top 15
abbrev s_l_scaled : Stmt := top 16
abbrev s_l_narrower : Stmt := top 17
abbrev s_l_tighter : Stmt := top 18
abbrev s_l_without : Stmt := top 19
abbrev s_law : Stmt := top 20
section
variable {P : Program} {w : World} {K : PySem.W.Frag} {mg : Str → Option Value} {base : Heap} {ns : List Int}
def sp_l_cell_at (K : PySem.W.Frag) (ns : List Int) : Sp := fun vs H Q _ => match vs with
  | [.ref a, .int k] => SqL K H a (ns.map V.int) ∧ Q (.int (cell ns k)) H
  | _ => False
theorem sc_l_cell_at : FnScope ["_law_script", "_law_k"] ["_law_script", "_law_k"] (defScope s_l_cell_at) := ⟨rfl, rfl, rfl, by decide +kernel, rfl, by decide +kernel, by decide +kernel⟩
theorem ok_l_cell_at (d : Dfn K mg "_law_cell_at" s_l_cell_at ["_law_script", "_law_k"])  (n_len : mg "len" = none)   : Cal P w K mg base "_law_cell_at" ["_law_script", "_law_k"] 1 (sp_l_cell_at K ns) := by
  refine d.cal (k := 0) sc_l_cell_at (fun vs H Q E h => ?_) (fun f cdv A outer s H vs Q E hr h => ?_)
  · match vs, h with
    | [.ref a, .int k], _ => rfl
  · match vs, h with
    | [.ref a, .int k], ⟨hS, q⟩ =>
      refine ⟨_, (pss_cons (s_if (t_cmp o_gt (pe_callB c_len (by rfl) n_len (by decide +kernel) (pa_cons (dv 0) pa_nil)) pe_int (nomark _)) (pss_one (ps_ret (pe_ix i_lst (dv 0) (pe_op o_mod (dv 1) (pe_callB c_len (by rfl) n_len (by decide +kernel) (pa_cons (dv 0) pa_nil))) (fun _ _ => rfl)))) pss_nil)
      (pss_one (ps_ret pe_int))), ?_⟩
      refine ⟨_, Or.inl hS, ?_⟩
      rw [List.length_map]
      refine ⟨fun h => ?_, fun h => ?_⟩
      · have h := of_decide_eq_true h
        have hl : 0 < ns.length := by omega
        refine ⟨_, Or.inl hS, ?_⟩
        rw [List.length_map]
        refine ⟨h, ?_⟩
        have h0 : 0 ≤ k % (ns.length : Int) := Int.emod_nonneg _ (by omega)
        have h1 : k % (ns.length : Int) < ns.length := Int.emod_lt_of_pos _ h
        obtain ⟨j, hj⟩ : ∃ j : Nat, k % (ns.length : Int) = j := ⟨(k % (ns.length : Int)).toNat, by omega⟩
        have hj' : j < ns.length := by omega
        refine ⟨_, .int (cell ns k), hS, ?_, q⟩
        rw [hj]
        refine atI_nat ?_
        rw [List.getElem?_map]
        unfold cell
        rw [if_neg (by omega), hj, Int.toNat_natCast, List.getD_eq_getElem?_getD, List.getElem?_eq_getElem hj']
        rfl
      · have h := of_decide_eq_false h
        have e : cell ns k = 0 := by
          unfold cell
          rw [if_pos (by omega)]
        rw [e] at q
        exact q
def sp_l_draw (K : PySem.W.Frag) (ns : List Int) : Sp := fun vs H Q _ => match vs with
  | [.ref a, .int k, .int m] => SqL K H a (ns.map V.int) ∧ (0 ≤ k ∧ k < 1000 ∧ 0 < m) ∧ Q (.int (draw ns k m)) H
  | _ => False
theorem sc_l_draw : FnScope ["_law_script", "_law_k", "_law_many"] ["_law_script", "_law_k", "_law_many"] (defScope s_l_draw) := ⟨rfl, rfl, rfl, by decide +kernel, rfl, by decide +kernel, by decide +kernel⟩
theorem ok_l_draw (d : Dfn K mg "_law_draw" s_l_draw ["_law_script", "_law_k", "_law_many"])    (c_l_cell_at : Cal P w K mg base "_law_cell_at" ["_law_script", "_law_k"] 1 (sp_l_cell_at K ns)) : Cal P w K mg base "_law_draw" ["_law_script", "_law_k", "_law_many"] 2 (sp_l_draw K ns) := by
  refine d.cal (k := 1) sc_l_draw (fun vs H Q E h => ?_) (fun f cdv A outer s H vs Q E hr h => ?_)
  · match vs, h with
    | [.ref a, .int k, .int m], _ => rfl
  · match vs, h with
    | [.ref a, .int k, .int m], ⟨hS, ⟨k0, k1, hm⟩, q⟩ =>
      refine ⟨_, (pss_one (ps_ret (pe_op o_mod (pe_op o_div (pe_op o_mod (pe_op o_mul (pe_op o_add (e_call c_l_cell_at hr (by decide) (by rfl) (pa_cons (dv 0) (pa_cons (dv 1) pa_nil))) pe_int) (pe_op o_add (pe_op o_add (pe_op o_mul (dv 1) (dv 1)) (pe_op o_mul pe_int (dv 1))) pe_int)) pe_int) pe_int) (dv 2)))), ?_⟩
      have hk := sq_small k0 k1
      refine ⟨hS, ⟨.inr (.inl ⟨by omega, by omega⟩), ⟨.inr (.inl ⟨by decide, by decide⟩), ⟨.inr (.inr ⟨by omega, by omega⟩), ⟨(show (0 : Int) < 99991 by decide), ⟨⟨by decide, bd_lit rfl⟩, ⟨hm, q⟩⟩⟩⟩⟩⟩⟩
def sp_l_rest (K : PySem.W.Frag) (ns : List Int) : Sp := fun vs H Q _ => match vs with
  | [.int x, .int y] => 0 ≤ x ∧ 0 ≤ y ∧ Q (.int (Int.gcd x y : Int)) H
  | _ => False
theorem sc_l_rest : FnScope ["_law_one", "_law_other", "_law_left"] ["_law_one", "_law_other"] (defScope s_l_rest) := ⟨rfl, rfl, rfl, by decide +kernel, rfl, by decide +kernel, by decide +kernel⟩
theorem ok_l_rest (d : Dfn K mg "_law_rest" s_l_rest ["_law_one", "_law_other"])     : Cal P w K mg base "_law_rest" ["_law_one", "_law_other"] 1 (sp_l_rest K ns) := by
  refine d.cal (k := 0) sc_l_rest (fun vs H Q E h => ?_) (fun f cdv A outer s H vs Q E hr h => ?_)
  · match vs, h with
    | [.int x, .int y], _ => rfl
  · match vs, h with
    | [.int x, .int y], ⟨x0, y0, q⟩ =>
      refine ⟨_, (pss_cons (s_while PassesOwn.never (t_cmp o_ne (dv 1) pe_int (nomark _)) (pss_cons (ps_set (i := 2) sc_l_rest.nd rfl (by first | exact Or.inl rfl | exact Or.inr rfl) (pe_op o_mod (dv 0) (dv 1)))
      (pss_cons (ps_set (i := 0) sc_l_rest.nd rfl (by first | exact Or.inl rfl | exact Or.inr rfl) (dv 1))
      (pss_one (ps_set (i := 1) sc_l_rest.nd rfl (by first | exact Or.inl rfl | exact Or.inr rfl) (dv 2))))))
      (pss_one (ps_ret (dv 0)))), ?_⟩
      refine ⟨fun m σ H' => ∃ a b o, σ = [some (.int a), some (.int b), o] ∧ H' = H ∧ 0 ≤ a ∧ 0 ≤ b ∧ Int.gcd a b = Int.gcd x y ∧ m = b.toNat, ⟨_, x, y, none, rfl, rfl, x0, y0, rfl, rfl⟩, ?_⟩
      rintro m σ H' ⟨a, b, o, rfl, rfl, a0, b0, g, rfl⟩
      refine ⟨fun h => ?_, fun h => ?_⟩
      · have hb : ¬ b = 0 := by simpa using h
        refine ⟨by omega, ?_⟩
        have e0 := Int.emod_nonneg a (show b ≠ 0 from hb)
        have e1 := Int.emod_lt_of_pos a (show 0 < b by omega)
        refine ⟨(a % b).toNat, by omega, b, a % b, _, rfl, rfl, b0, e0, ?_, rfl⟩
        rw [gcd_step a0 b0, g]
      · have hb : b = 0 := by simpa using h
        subst hb
        have e : (Int.gcd x y : Int) = a := by
          rw [← g, Int.gcd_zero_right]
          omega
        rw [e] at q
        exact q
def sp_l_low (K : PySem.W.Frag) (ns : List Int) : Sp := fun vs H Q _ => match vs with
  | [.int t, .int b] => (0 < b ∧ Bd 1900 b) ∧ ∀ p H', Same H H' → H' p = some (.tup [.int (lowT t b), .int (lowB t b)]) → Q (.ref p) H'
  | _ => False
theorem sc_l_low : FnScope ["_law_top", "_law_bottom", "_law_by"] ["_law_top", "_law_bottom"] (defScope s_l_low) := ⟨rfl, rfl, rfl, by decide +kernel, rfl, by decide +kernel, by decide +kernel⟩
theorem ok_l_low (d : Dfn K mg "_law_low" s_l_low ["_law_top", "_law_bottom"])  (n_abs : mg "abs" = none)  (c_l_rest : Cal P w K mg base "_law_rest" ["_law_one", "_law_other"] 1 (sp_l_rest K ns)) : Cal P w K mg base "_law_low" ["_law_top", "_law_bottom"] 2 (sp_l_low K ns) := by
  refine d.cal (k := 1) sc_l_low (fun vs H Q E h => ?_) (fun f cdv A outer s H vs Q E hr h => ?_)
  · match vs, h with
    | [.int t, .int b], _ => rfl
  · match vs, h with
    | [.int t, .int b], ⟨⟨b0, b1⟩, q⟩ =>
      refine ⟨_, (pss_cons (ps_set (i := 2) sc_l_low.nd rfl (by first | exact Or.inl rfl | exact Or.inr rfl) (e_call c_l_rest hr (by decide) (by rfl) (pa_cons (pe_callB c_abs (by rfl) n_abs (by decide +kernel) (pa_cons (dv 0) pa_nil)) (pa_cons (dv 1) pa_nil))))
      (pss_one (ps_ret (e_tup (pa_cons (pe_op o_div (dv 0) (dv 2)) (pa_cons (pe_op o_div (dv 1) (dv 2)) pa_nil)))))), ?_⟩
      refine ⟨by omega, by omega, ?_⟩
      rw [gcd_abs]
      have hg := gcd_pos' t b0
      have hB : Bd 4000 (Int.gcd t b : Int) := bd_gcd t b0 (b1.mono (by decide))
      exact ⟨⟨hg, hB⟩, ⟨⟨hg, hB⟩, fun p H' s e => q p H' s e⟩⟩

/-! lists of fractions -/
theorem nb {P : Prop} {a b : Bool} (h : a = b) (n : (a == b) = false := by rfl) : P := by
  subst h
  rw [beq_self_eq_true] at n
  cases n
theorem none_back {H H' : Hp} {D : Addr} (s : Same H H') (h : H' D = none) : H D = none := by
  cases e : H D with
  | none => rfl
  | some o =>
    rw [s _ _ e] at h
    cases h
def QAt (H : Hp) (v : V) (x : Q2) : Prop := ∃ p, v = .ref p ∧ Fq 1000 H p x.1 x.2
def QsAt (K : PySem.W.Frag) (H : Hp) (L : Addr) (xs : List Q2) : Prop := ∃ vs, SqL K H L vs ∧ All2 (QAt H) vs xs
def qd (x : Q2) : PyData := .tuple [.int x.1, .int x.2]

def sp_under (K : PySem.W.Frag) (ns : List Int) : Sp := fun vs H Q _ => match vs with
  | [.ref p, .ref q] => ∃ x y : Q2, Fq 1900 H p x.1 x.2 ∧ Fq 1900 H q y.1 y.2 ∧ Q (.bl (ltQ x y)) H
  | _ => False
theorem sc_under : FnScope ["one", "other"] ["one", "other"] (defScope s_under) := ⟨rfl, rfl, rfl, by decide +kernel, rfl, by decide +kernel, by decide +kernel⟩
theorem ok_under (d : Dfn K mg "under" s_under ["one", "other"])     : Cal P w K mg base "under" ["one", "other"] 1 (sp_under K ns) := by
  refine d.cal (k := 0) sc_under (fun vs H Q E h => ?_) (fun f cdv A outer s H vs Q E hr h => ?_)
  · match vs, h with
    | [.ref p, .ref q], _ => rfl
  · match vs, h with
    | [.ref p, .ref q], ⟨x, y, h1, h2, k⟩ =>
      refine ⟨_, (pss_one (ps_ret (pe_cmpR o_lt (pe_op o_mul (pe_ix i_tup (dv 0) pe_int (fun _ _ => rfl)) (pe_ix i_tup (dv 1) pe_int (fun _ _ => rfl))) (pe_op o_mul (pe_ix i_tup (dv 1) pe_int (fun _ _ => rfl)) (pe_ix i_tup (dv 0) pe_int (fun _ _ => rfl))) (nomark _)))), ?_⟩
      exact ⟨_, h1.at', _, h2.at', cok h1.ba h2.bb (by decide) (by decide), _, h2.at', _, h1.at', cok h2.ba h1.bb (by decide) (by decide), k⟩

def sp_beneath (K : PySem.W.Frag) (ns : List Int) : Sp := fun vs H Q _ => match vs with
  | [.ref p, .ref r] => ∃ (lo lo' : Q2) (hi hi' : Option Q2), Pq 1900 H p lo hi ∧ Pq 1900 H r lo' hi' ∧ Q (.bl (bnQ hi lo')) H
  | _ => False
theorem sc_beneath : FnScope ["one", "other"] ["one", "other"] (defScope s_beneath) := ⟨rfl, rfl, rfl, by decide +kernel, rfl, by decide +kernel, by decide +kernel⟩
theorem ok_beneath (d : Dfn K mg "beneath" s_beneath ["one", "other"])    (c_under : Cal P w K mg base "under" ["one", "other"] 1 (sp_under K ns)) : Cal P w K mg base "beneath" ["one", "other"] 2 (sp_beneath K ns) := by
  refine d.cal (k := 1) sc_beneath (fun vs H Q E h => ?_) (fun f cdv A outer s H vs Q E hr h => ?_)
  · match vs, h with
    | [.ref p, .ref r], _ => rfl
  · match vs, h with
    | [.ref p, .ref r], ⟨lo, lo', hi, hi', h1, h2, k⟩ =>
      refine ⟨_, (pss_one (ps_ret (e_and (e_notN (pe_ix i_tup (dv 0) pe_int (fun _ _ => rfl))) (pe_one (e_call c_under hr (by decide) (by rfl) (pa_cons (pe_ix i_tup (dv 0) pe_int (fun _ _ => rfl)) (pa_cons (pe_ix i_tup (dv 1) pe_int (fun _ _ => rfl)) pa_nil))))))), ?_⟩
      obtain ⟨l, z, e, hl, hz⟩ := h1.ex
      obtain ⟨l', z', e', hl', hz'⟩ := h2.ex
      refine ⟨_, e, ?_⟩
      rcases hz with ⟨rfl, rfl⟩ | ⟨q, y, rfl, rfl, hq⟩
      · exact ⟨fun h => absurd h (by simp), fun _ => k⟩
      · exact ⟨fun _ => ⟨_, e, _, e', y, lo', hq, hl', k⟩, fun h => absurd h (by simp)⟩

abbrev sp_l_less := sp_under
theorem sc_l_less : FnScope ["_law_one", "_law_other"] ["_law_one", "_law_other"] (defScope s_l_less) := ⟨rfl, rfl, rfl, by decide +kernel, rfl, by decide +kernel, by decide +kernel⟩
theorem ok_l_less (d : Dfn K mg "_law_less" s_l_less ["_law_one", "_law_other"])     : Cal P w K mg base "_law_less" ["_law_one", "_law_other"] 1 (sp_l_less K ns) := by
  refine d.cal (k := 0) sc_l_less (fun vs H Q E h => ?_) (fun f cdv A outer s H vs Q E hr h => ?_)
  · match vs, h with
    | [.ref p, .ref q], _ => rfl
  · match vs, h with
    | [.ref p, .ref q], ⟨x, y, h1, h2, k⟩ =>
      refine ⟨_, (pss_one (ps_ret (pe_cmpR o_lt (pe_op o_mul (pe_ix i_tup (dv 0) pe_int (fun _ _ => rfl)) (pe_ix i_tup (dv 1) pe_int (fun _ _ => rfl))) (pe_op o_mul (pe_ix i_tup (dv 1) pe_int (fun _ _ => rfl)) (pe_ix i_tup (dv 0) pe_int (fun _ _ => rfl))) (nomark _)))), ?_⟩
      exact ⟨_, h1.at', _, h2.at', cok h1.ba h2.bb (by decide) (by decide), _, h2.at', _, h1.at', cok h2.ba h1.bb (by decide) (by decide), k⟩

/-! stretches -/
abbrev Pt := Q2 × Option Q2
def PAt (H : Hp) (v : V) (m : Pt) : Prop := ∃ r, v = .ref r ∧ Pq 900 H r m.1 m.2
theorem pq_kt {n : Nat} {H H' : Hp} {r : Addr} {lo : Q2} {hi : Option Q2} (k : Kt H H') (h : Pq n H r lo hi) : Pq n H' r lo hi := by
  obtain ⟨l, z, e, hl, hz⟩ := h.ex
  refine ⟨l, z, k _ _ e, ⟨k _ _ hl.at', hl.pos, hl.ba, hl.bb⟩, ?_⟩
  rcases hz with h | ⟨q, y, e1, e2, hq⟩
  · exact .inl h
  · exact .inr ⟨q, y, e1, e2, ⟨k _ _ hq.at', hq.pos, hq.ba, hq.bb⟩⟩
theorem p_up (v : V) (m : Pt) (H H' : Hp) (k : Kt H H') (h : PAt H v m) : PAt H' v m := by
  obtain ⟨r, e, p⟩ := h
  exact ⟨r, e, pq_kt k p⟩
def PtsAt (K : PySem.W.Frag) (H : Hp) (L : Addr) (ms : List Pt) : Prop := ∃ vs, SqL K H L vs ∧ All2 (PAt H) vs ms
theorem PtsAt.up {K : PySem.W.Frag} {H H' : Hp} {L : Addr} {ms : List Pt} (s : Same H H') (h : PtsAt K H L ms) : PtsAt K H' L ms := by
  obtain ⟨vs, h1, h2⟩ := h
  exact ⟨vs, s.seq h1, h2.imp fun v g r => p_up v g _ _ (kt_of s) r⟩
structure POk (m : Pt) : Prop where
  nn : 0 ≤ m.1.1
  p1 : 0 < m.1.2
  g1 : Int.gcd m.1.1 m.1.2 = 1
  g2 : ∀ h, m.2 = some h → 0 < h.2 ∧ Int.gcd h.1 h.2 = 1 ∧ ltQ h m.1 = false
def pd (m : Pt) : PyData := .tuple [.tuple [.int m.1.1, .int m.1.2], match m.2 with
  | none => .none
  | some h => .tuple [.int h.1, .int h.2]]
theorem lowT_nn {t b : Int} (hb : 0 < b) (h : 0 ≤ t) : 0 ≤ lowT t b := by
  have g := gcd_pos' t hb
  have e := lowT_mul t b
  exact Int.le_of_mul_le_mul_right (a := (Int.gcd t b : Int)) (by rw [e, Int.zero_mul]; exact h) g
theorem low_ge {t b : Int} {x : Q2} (hb : 0 < b) (h : x.1 * b ≤ t * x.2) : ltQ (lowT t b, lowB t b) x = false := by
  refine ltQ_f.mpr ?_
  show x.1 * lowB t b ≤ lowT t b * x.2
  have g := gcd_pos' t hb
  have e1 := lowT_mul t b
  have e2 := lowB_mul t b
  refine Int.le_of_mul_le_mul_right (a := (Int.gcd t b : Int)) ?_ g
  rw [Int.mul_assoc, e2, Int.mul_right_comm, e1]
  exact h

def LAt (H : Hp) (v : V) (x : Q2) : Prop := ∃ p, v = .ref p ∧ Fq 30 H p x.1 x.2
theorem l_up (v : V) (x : Q2) (H H' : Hp) (k : Kt H H') (h : LAt H v x) : LAt H' v x := by
  obtain ⟨p, e, f⟩ := h
  exact ⟨p, e, ⟨k _ _ f.at', f.pos, f.ba, f.bb⟩⟩
structure LOk (x : Q2) : Prop where
  nn : 0 ≤ x.1
  pos : 0 < x.2
  g : Int.gcd x.1 x.2 = 1
theorem LOk.low {t b : Int} (hb : 0 < b) (h : 0 ≤ t) : LOk (lowT t b, lowB t b) := ⟨lowT_nn hb h, lowB_pos t hb, low_gcd t hb⟩
/-- a high, or none -/
def HAt (H : Hp) (v : V) (lo : Q2) (hi : Option Q2) : Prop := (hi = none ∧ v = .non) ∨ ∃ q y, hi = some y ∧ v = .ref q ∧ Fq 900 H q y.1 y.2 ∧ Int.gcd y.1 y.2 = 1 ∧ ltQ y lo = false ∧ Bd 60 y.1 ∧ Bd 60 y.2
theorem all_snoc {α : Type} {P : α → Prop} {l : List α} {x : α} (h : ∀ y ∈ l, P y) (hx : P x) : ∀ y ∈ l ++ [x], P y := fun y hy => by
  rcases List.mem_append.mp hy with z | z
  · exact h y z
  · rw [List.mem_singleton] at z
    subst z
    exact hx
/-- small numbers -/
structure Sm (m : Pt) : Prop where
  t1 : Bd 60 m.1.1
  b1 : Bd 60 m.1.2
  g3 : ∀ h, m.2 = some h → Bd 60 h.1 ∧ Bd 60 h.2
def sp_l_parts (K : PySem.W.Frag) (ns : List Int) : Sp := fun vs H Q _ => match vs with
  | [.ref a] => SqL K H a (ns.map V.int) ∧ ∀ P vs ms H', Same H H' → H' P = some (.lst vs) → All2 (PAt H') vs ms → (∀ m ∈ ms, POk m ∧ Sm m) → 0 < ms.length → ms.length ≤ 8 → Q (.ref P) H'
  | _ => False
theorem sc_l_parts : FnScope ["_law_script", "_law_lows", "_law_k", "_law_parts_here", "_law_kind", "_law_high"] ["_law_script"] (defScope s_l_parts) := ⟨rfl, rfl, rfl, by decide +kernel, rfl, by decide +kernel, by decide +kernel⟩
theorem ok_l_parts (d : Dfn K mg "_law_parts" s_l_parts ["_law_script"])  (n_range : mg "range" = none) (n_len : mg "len" = none)  (c_l_less : Cal P w K mg base "_law_less" ["_law_one", "_law_other"] 1 (sp_l_less K ns)) (c_l_draw : Cal P w K mg base "_law_draw" ["_law_script", "_law_k", "_law_many"] 2 (sp_l_draw K ns)) (c_l_low : Cal P w K mg base "_law_low" ["_law_top", "_law_bottom"] 2 (sp_l_low K ns)) : Cal P w K mg base "_law_parts" ["_law_script"] 3 (sp_l_parts K ns) := by
  refine d.cal (k := 2) sc_l_parts (fun vs H Q E h => ?_) (fun f cdv A outer s H vs Q E hr h => ?_)
  · match vs, h with
    | [.ref a], _ => rfl
  · match vs, h with
    | [.ref a], ⟨hS, q⟩ =>
      refine ⟨_, (pss_cons (ps_set (i := 1) sc_l_parts.nd rfl (by first | exact Or.inl rfl | exact Or.inr rfl) (pe_lst pa_nil))
      (pss_cons (ps_for PassesOwn.never rfl (pi_range1 (by rfl) n_range (pa_cons (pe_op o_add pe_int (e_call c_l_draw hr (by decide) (by rfl) (pa_cons (dv 0) (pa_cons pe_int (pa_cons pe_int pa_nil))))) pa_nil)) (pg_name (i := 2) sc_l_parts.nd rfl (by first | exact Or.inl rfl | exact Or.inr rfl)) (pss_one (ps_expr (pe_bm PySem.F.plainAttrs_list PySem.F.slot_list_append PySem.F.type_list_append mt_append (dv 1) (pa_cons (e_call c_l_low hr (by decide) (by rfl) (pa_cons (e_call c_l_draw hr (by decide) (by rfl) (pa_cons (dv 0) (pa_cons (pe_op o_add pe_int (pe_op o_mul pe_int (dv 2))) (pa_cons pe_int pa_nil)))) (pa_cons (pe_op o_add pe_int (e_call c_l_draw hr (by decide) (by rfl) (pa_cons (dv 0) (pa_cons (pe_op o_add pe_int (pe_op o_mul pe_int (dv 2))) (pa_cons pe_int pa_nil))))) pa_nil))) pa_nil)))))
      (pss_cons (ps_set (i := 3) sc_l_parts.nd rfl (by first | exact Or.inl rfl | exact Or.inr rfl) (pe_lst pa_nil))
      (pss_cons (ps_for PassesOwn.never rfl (pi_range1 (by rfl) n_range (pa_cons (pe_callB c_len (by rfl) n_len (by decide +kernel) (pa_cons (dv 1) pa_nil)) pa_nil)) (pg_name (i := 2) sc_l_parts.nd rfl (by first | exact Or.inl rfl | exact Or.inr rfl)) (pss_cons (ps_set (i := 4) sc_l_parts.nd rfl (by first | exact Or.inl rfl | exact Or.inr rfl) (e_call c_l_draw hr (by decide) (by rfl) (pa_cons (dv 0) (pa_cons (pe_op o_add pe_int (pe_op o_mul pe_int (dv 2))) (pa_cons pe_int pa_nil)))))
      (pss_cons (ps_set (i := 5) sc_l_parts.nd rfl (by first | exact Or.inl rfl | exact Or.inr rfl) (e_call c_l_low hr (by decide) (by rfl) (pa_cons (pe_op o_add (pe_ix i_tup (pe_ix i_lst (dv 1) (dv 2) (fun _ _ => rfl)) pe_int (fun _ _ => rfl)) (pe_op o_mul (pe_op o_add pe_int (e_call c_l_draw hr (by decide) (by rfl) (pa_cons (dv 0) (pa_cons (pe_op o_add pe_int (pe_op o_mul pe_int (dv 2))) (pa_cons pe_int pa_nil))))) (pe_ix i_tup (pe_ix i_lst (dv 1) (dv 2) (fun _ _ => rfl)) pe_int (fun _ _ => rfl)))) (pa_cons (pe_ix i_tup (pe_ix i_lst (dv 1) (dv 2) (fun _ _ => rfl)) pe_int (fun _ _ => rfl)) pa_nil))))
      (ss_cutE (s_if (t_cmp o_eq (dv 4) pe_int (nomark _)) (pss_one (ps_set (i := 5) sc_l_parts.nd rfl (by first | exact Or.inl rfl | exact Or.inr rfl) (pe_ix i_lst (dv 1) (dv 2) (fun _ _ => rfl)))) pss_nil)
      (ss_cutE (s_if (t_cmp o_eq (dv 4) pe_int (nomark _)) (pss_one (ps_set (i := 5) sc_l_parts.nd rfl (by first | exact Or.inl rfl | exact Or.inr rfl) pe_non)) pss_nil)
      (ss_cutE (s_if (t_cmp o_eq (dv 4) pe_int (nomark _)) (pss_cons (ps_set (i := 5) sc_l_parts.nd rfl (by first | exact Or.inl rfl | exact Or.inr rfl) (pe_ix i_lst (dv 1) (e_call c_l_draw hr (by decide) (by rfl) (pa_cons (dv 0) (pa_cons (pe_op o_add pe_int (pe_op o_mul pe_int (dv 2))) (pa_cons (pe_callB c_len (by rfl) n_len (by decide +kernel) (pa_cons (dv 1) pa_nil)) pa_nil)))) (fun _ _ => rfl)))
      (pss_one (s_if (t_val (e_call c_l_less hr (by decide) (by rfl) (pa_cons (dv 5) (pa_cons (pe_ix i_lst (dv 1) (dv 2) (fun _ _ => rfl)) pa_nil)))) (pss_one (ps_set (i := 5) sc_l_parts.nd rfl (by first | exact Or.inl rfl | exact Or.inr rfl) (pe_ix i_lst (dv 1) (dv 2) (fun _ _ => rfl)))) pss_nil))) pss_nil)
      (pss_one (ps_expr (pe_bm PySem.F.plainAttrs_list PySem.F.slot_list_append PySem.F.type_list_append mt_append (dv 3) (pa_cons (e_tup (pa_cons (pe_ix i_lst (dv 1) (dv 2) (fun _ _ => rfl)) (pa_cons (dv 5) pa_nil))) pa_nil))))))))))
      (pss_one (ps_ret (dv 3))))))), ?_⟩
      have r0 := draw_nn ns 1 (show (0 : Int) < 8 by decide)
      have r1 := draw_lt ns 1 (show (0 : Int) < 8 by decide)
      -- lows
      refine ⟨(by show 0 ≤ sizeLine; decide), fun L hL => ?_⟩
      refine ⟨(same_upd hL).seq hS, ⟨by decide, by decide, by decide⟩, _, rfl, by omega, by omega, for_range (lo := 0) (n := (1 + draw ns 1 8).toNat) (fun i σ Hx => ∃ (vs : List V) (xs : List Q2) (o2 : Option V), σ = [some (.ref a), some (.ref L), o2, none, none, none] ∧ Same H Hx ∧ Hx L = some (.lst vs) ∧ All2 (LAt Hx) vs xs ∧ (∀ x ∈ xs, LOk x) ∧ xs.length = i)
        ⟨[], [], none, rfl, same_upd hL, upd_same, .nil, fun x hx => absurd hx (by simp), rfl⟩ ?_ ?_⟩
      · rintro i σ Hx hi ⟨vs, xs, o2, rfl, sx, eL, aL, ok, lx⟩
        have i8 : i < 8 := by omega
        have d1 := draw_nn ns (2 + 4 * (0 + (i : Int))) (show (0 : Int) < 13 by decide)
        have d2 := draw_lt ns (2 + 4 * (0 + (i : Int))) (show (0 : Int) < 13 by decide)
        have d3 := draw_nn ns (3 + 4 * (0 + (i : Int))) (show (0 : Int) < 3 by decide)
        have d4 := draw_lt ns (3 + 4 * (0 + (i : Int))) (show (0 : Int) < 3 by decide)
        have bt : Bd 30 (draw ns (2 + 4 * (0 + (i : Int))) 13) := bd_of (b := 13) (by omega) (by omega) (bd_lit rfl)
        have bb : Bd 30 (1 + draw ns (3 + 4 * (0 + (i : Int))) 3) := bd_of (b := 13) (by omega) (by omega) (bd_lit rfl)
        refine ⟨.inl ⟨rfl, _, SqL.of eL⟩, .inr (.inl ⟨by decide, by decide⟩), sx.seq hS, ⟨by omega, by omega, by decide⟩, .inr (.inl ⟨by decide, by decide⟩), sx.seq hS, ⟨by omega, by omega, by decide⟩, ⟨by omega, bb.mono (by decide)⟩, fun T H2 s2 e2 => ⟨L, vs, _, rfl, rfl, s2 _ _ eL, ?_, vs ++ [.ref T], xs ++ [(lowT (draw ns (2 + 4 * (0 + (i : Int))) 13) (1 + draw ns (3 + 4 * (0 + (i : Int))) 3), lowB (draw ns (2 + 4 * (0 + (i : Int))) 13) (1 + draw ns (3 + 4 * (0 + (i : Int))) 3))], _, rfl, same_app' (sx.trans s2) hL, upd_same, ?_, all_snoc ok (LOk.low (by omega) d1), by rw [List.length_append, lx]; rfl⟩⟩
        · rw [aL.len, lx]
          exact Nat.lt_trans i8 (by decide)
        · have kt : Kt H2 (upd H2 L (.lst (vs ++ [.ref T]))) := kt_upd (s2 _ _ eL)
          have f := fq_low e2 (by omega) bt bb
          exact (aL.imp fun v g r => l_up v g _ _ ((kt_of s2).trans kt) r).snoc ⟨T, rfl, ⟨kt _ _ f.at', f.pos, f.ba, f.bb⟩⟩
      rintro σ H1 ⟨vs, xs, o2, rfl, s1, eL, aL, ok, lx⟩
      have lv := aL.len
      have lx8 : xs.length ≤ 8 := by omega
      have lx0 : 0 < xs.length := by omega
      have hS1 := s1.seq hS
      -- the parts
      refine ⟨(by show 0 ≤ sizeLine; decide), fun P hP => ?_⟩
      refine ⟨_, .inl (SqL.of ((same_upd hP) _ _ eL)), _, rfl, by omega, by omega, for_range (lo := 0) (n := vs.length) (fun i σ Hx => ∃ (us : List V) (ms : List Pt) (o2 o4 o5 : Option V), σ = [some (.ref a), some (.ref L), o2, some (.ref P), o4, o5] ∧ Same H1 Hx ∧ Hx P = some (.lst us) ∧ All2 (PAt Hx) us ms ∧ (∀ m ∈ ms, POk m ∧ Sm m) ∧ ms.length = i)
        ⟨[], [], o2, none, none, rfl, same_upd hP, upd_same, .nil, fun x hx => absurd hx (by simp), rfl⟩ ?_ ?_⟩
      · rintro i σ Hx hi ⟨us, ms, o2, o4, o5, rfl, sx, eP, aP, okP, lm⟩
        have i8 : i < 8 := by omega
        have hv : vs[i]? = some vs[i] := List.getElem?_eq_getElem hi
        obtain ⟨x, hxi, px, epx, fx⟩ := aL.get hv
        have xok := ok x (List.mem_of_getElem? hxi)
        have hat : atI vs (0 + (i : Int)) = some (.ref px) := by
          rw [Int.zero_add, ← epx]
          exact atI_nat hv
        have fx := fx.up sx
        have eLx := sx _ _ eL
        have d1 := draw_nn ns (5 + 4 * (0 + (i : Int))) (show (0 : Int) < 9 by decide)
        have d2 := draw_lt ns (5 + 4 * (0 + (i : Int))) (show (0 : Int) < 9 by decide)
        have bc : Bd 5 (1 + draw ns (5 + 4 * (0 + (i : Int))) 9) := bd_of (b := 10) (by omega) (by omega) (bd_lit rfl)
        have hSx := sx.seq hS1
        refine ⟨.inr (.inl ⟨by decide, by decide⟩), hSx, ⟨by omega, by omega, by decide⟩, ?_⟩
        refine ⟨_, _, SqL.of eLx, hat, _, fx.at', .inr (.inl ⟨by decide, by decide⟩), hSx, ⟨by omega, by omega, by decide⟩, _, _, SqL.of eLx, hat, _, fx.at', cok bc fx.bb (by decide) (by decide), _, _, SqL.of eLx, hat, _, fx.at', ⟨fx.pos, fx.bb.mono (by decide)⟩, fun T H2 s2 e2 => ?_⟩
        have bT : Bd 60 (x.1 + (1 + draw ns (5 + 4 * (0 + (i : Int))) 9) * x.2) := (Bd.add (fx.ba.mono (show 30 ≤ 40 by decide)) ((bc.mul fx.bb).mono (show 5 + 30 ≤ 40 by decide))).mono (by decide)
        have ft := fq_low (n := 900) e2 fx.pos (bT.mono (by decide)) (fx.bb.mono (by decide))
        have nng : 0 ≤ (1 + draw ns (5 + 4 * (0 + (i : Int))) 9) * x.2 := Int.mul_nonneg (by omega) (Int.le_of_lt fx.pos)
        generalize hT : x.1 + (1 + draw ns (5 + 4 * (0 + (i : Int))) 9) * x.2 = t at e2 ft bT
        have hge : ltQ (lowT t x.2, lowB t x.2) x = false := low_ge fx.pos (Int.mul_le_mul_of_nonneg_right (by omega) (Int.le_of_lt fx.pos))
        have bl1 : Bd 60 (lowT t x.2) := bd_lowT bT
        have bl2 : Bd 60 (lowB t x.2) := bd_lowB (fx.bb.mono (by decide))
        have h2 : HAt H2 (.ref T) x (some (lowT t x.2, lowB t x.2)) := .inr ⟨T, _, rfl, rfl, ft, low_gcd t fx.pos, hge, bl1, bl2⟩
        clear ft hge hT nng e2 bT bl1 bl2
        have sx2 := sx.trans s2
        have eP := s2 _ _ eP
        have aP : All2 (PAt H2) us ms := aP.imp fun v g r => p_up v g _ _ (kt_of s2) r
        have eLx := s2 _ _ eLx
        have fx := fx.up s2
        generalize draw ns (4 + 4 * (0 + (i : Int))) 5 = kd
        have sf : ltQ x x = false := ltQ_f.mpr (Int.le_refl _)
        have fx900 : Fq 900 H2 px x.1 x.2 := fx.mono (by decide)
        have x60 : Bd 60 x.1 ∧ Bd 60 x.2 := ⟨fx.ba.mono (by decide), fx.bb.mono (by decide)⟩
        obtain ⟨hi0, h2⟩ : ∃ hi, HAt H2 (.ref T) x hi := ⟨_, h2⟩
        generalize V.ref T = w at h2
        refine ⟨fun σ Hy => ∃ (w : V) (hi : Option Q2), σ = [some (.ref a), some (.ref L), some (.int (0 + (i : Int))), some (.ref P), some (.int kd), some w] ∧ Hy = H2 ∧ HAt H2 w x hi, ⟨fun _ => ⟨_, _, SqL.of eLx, hat, _, some x, rfl, rfl, .inr ⟨px, x, rfl, rfl, fx900, xok.g, sf, x60⟩⟩, fun _ => ⟨_, _, rfl, rfl, h2⟩⟩, ?_⟩
        clear h2
        rintro σ Hy ⟨w, hi1, rfl, rfl, h2⟩
        refine ⟨fun σ Hz => ∃ (w : V) (hi : Option Q2), σ = [some (.ref a), some (.ref L), some (.int (0 + (i : Int))), some (.ref P), some (.int kd), some w] ∧ Hz = Hy ∧ HAt Hy w x hi, ⟨fun _ => ⟨_, none, rfl, rfl, .inl ⟨rfl, rfl⟩⟩, fun _ => ⟨_, _, rfl, rfl, h2⟩⟩, ?_⟩
        clear h2
        rintro σ Hz ⟨w, hi1, rfl, rfl, h2⟩
        refine ⟨fun σ Hy => ∃ (w : V) (hi : Option Q2), σ = [some (.ref a), some (.ref L), some (.int (0 + (i : Int))), some (.ref P), some (.int kd), some w] ∧ Hy = Hz ∧ HAt Hz w x hi, ⟨fun _ => ?_, fun _ => ⟨_, _, rfl, rfl, h2⟩⟩, ?_⟩
        · have e1 := draw_nn ns (5 + 4 * (0 + (i : Int))) (show (0 : Int) < (vs.length : Int) by omega)
          have e2 := draw_lt ns (5 + 4 * (0 + (i : Int))) (show (0 : Int) < (vs.length : Int) by omega)
          refine ⟨.inr (.inl ⟨by decide, by decide⟩), _, .inl (SqL.of eLx), sx2.seq hS1, ⟨by omega, by omega, by omega⟩, ?_⟩
          obtain ⟨j, hj⟩ := Int.eq_ofNat_of_zero_le e1
          have hjl : j < vs.length := by omega
          have hvj : vs[j]? = some vs[j] := List.getElem?_eq_getElem hjl
          obtain ⟨y, hyj, py, epy, fy⟩ := aL.get hvj
          have fy := fy.up sx2
          have yok := ok y (List.mem_of_getElem? hyj)
          have haj : atI vs (draw ns (5 + 4 * (0 + (i : Int))) (vs.length : Int)) = some (.ref py) := by
            rw [hj, ← epy]
            exact atI_nat hvj
          refine ⟨_, _, SqL.of eLx, haj, _, _, SqL.of eLx, hat, y, x, fy.mono (by decide), fx.mono (by decide), ⟨fun _ => ⟨_, _, SqL.of eLx, hat, _, some x, rfl, rfl, .inr ⟨px, x, rfl, rfl, fx900, xok.g, sf, x60⟩⟩, fun hlt => ⟨_, some y, rfl, rfl, .inr ⟨py, y, rfl, rfl, fy.mono (by decide), yok.g, hlt, fy.ba.mono (by decide), fy.bb.mono (by decide)⟩⟩⟩⟩
        clear h2
        rintro σ Hy ⟨w, hi1, rfl, rfl, h2⟩
        refine ⟨.inl ⟨rfl, _, SqL.of eP⟩, _, _, SqL.of eLx, hat, fun T3 H3 s3 e3 => ⟨P, us, _, rfl, rfl, s3 _ _ eP, ?_, us ++ [.ref T3], ms ++ [(x, hi1)], _, _, _, rfl, same_app' (sx2.trans s3) hP, upd_same, ?_, all_snoc okP ⟨⟨xok.nn, xok.pos, xok.g, fun h e => ?_⟩, ⟨x60.1, x60.2, fun h e => ?_⟩⟩, by rw [List.length_append, lm]; rfl⟩⟩
        · rw [aP.len, lm]
          exact Nat.lt_trans i8 (by decide)
        · have kt : Kt H3 (upd H3 P (.lst (us ++ [.ref T3]))) := kt_upd (s3 _ _ eP)
          refine (aP.imp fun v g r => p_up v g _ _ ((kt_of s3).trans kt) r).snoc (p_up _ _ _ _ kt ⟨T3, rfl, px, w, e3, fx900.up s3, ?_⟩)
          rcases h2 with h | ⟨q, y, z1, z2, z3, _⟩
          · exact .inl h
          · exact .inr ⟨q, y, z1, z2, z3.up s3⟩
        · rcases h2 with ⟨z, _⟩ | ⟨q, y, z1, z2, z3, z4, z5, z6, z7⟩
          · subst z
            cases e
          · have e : hi1 = some h := e
            rw [z1] at e
            cases e
            exact ⟨z3.pos, z4, z5⟩
        · rcases h2 with ⟨z, _⟩ | ⟨q, y, z1, z2, z3, z4, z5, z6, z7⟩
          · subst z
            cases e
          · have e : hi1 = some h := e
            rw [z1] at e
            cases e
            exact ⟨z6, z7⟩
      · rintro σ Hx ⟨us, ms, o2, o4, o5, rfl, sx, eP, aP, okP, lm⟩
        exact q P us ms Hx (s1.trans sx) eP aP okP (by omega) (by omega)

theorem a2_memR {α β : Type} {R S : α → β → Prop} : ∀ {l : List α} {m : List β}, All2 R l m → (∀ a b, b ∈ m → R a b → S a b) → All2 S l m
  | _, _, .nil, _ => .nil
  | _, _, .cons x r, h => .cons (h _ _ List.mem_cons_self x) (a2_memR r fun a b hb => h a b (List.mem_cons_of_mem _ hb))
/-- what a turn makes has a list of its own -/
theorem comp_absF {β : Type} {K : PySem.W.Frag} {a : Addr} {xs : List V} {ms : List β} {g : TG} {te : TE} {k : Nat} {js : List Nat} {σ : L2.St} {H1 : Hp} {Q : VK} (M : Hp → V → β → Prop) (upM : ∀ v m H H', Same H H' → M H v m → M H' v m) (R : Hp → β → V → Addr → Prop) (upS : ∀ m y S H H', Same H H' → R H m y S → R H' m y S)
    (upD : ∀ D m y S H zs o, H D = some (.lst zs) → S ≠ D → R H m y S → R (upd H D o) m y S) (hz : xs.length ≤ 1000) (hx : SqL K H1 a xs) (hm : All2 (M H1) xs ms)
    (hs : ∀ v m H2, M H2 v m → m ∈ ms → Same H1 H2 → ∀ P : VK, (∀ y S H3, Same H2 H3 → H2 S = none → (∃ u, H3 S = some u) → R H3 m y S → P y H3) → g v (List.replicate k none ++ capσ js σ) H2 fun σ2 H3 => σ2.drop k = capσ js σ ∧ te σ2 H3 P)
    (hq : ∀ D H' (ps : List (V × Addr)), Same H1 H' → H1 D = none → H' D = some (.lst (ps.map (·.1))) → All2 (fun m (p : V × Addr) => R H' m p.1 p.2) ms ps → (ps.map (·.2)).Nodup → (∀ p ∈ ps, H1 p.2 = none ∧ p.2 ≠ D) → Q (.ref D) H') : CGoal (Itl K a) g te k js σ H1 Q := by
  unfold CGoal
  intro D hD
  have hl := hm.len
  refine ⟨fun i m H => m = xs.length - i ∧ i ≤ xs.length ∧ Same H1 H ∧ ∃ ps : List (V × Addr), H D = some (.lst (ps.map (·.1))) ∧ All2 (fun m (p : V × Addr) => R H m p.1 p.2) (ms.take i) ps ∧ (ps.map (·.2)).Nodup ∧ ∀ p ∈ ps, H1 p.2 = none ∧ p.2 ≠ D ∧ ∃ u, H p.2 = some u, ⟨xs.length, by simp, Nat.zero_le _, same_upd hD, [], upd_same, .nil, List.nodup_nil, fun p hp => absurd hp (by simp)⟩, ?_⟩
  rintro i m H ⟨rfl, hi, sm, ps, hH, ar, nd, fr⟩
  have sq := sm.seq hx
  by_cases hlt : i < xs.length
  · have e : xs[i]? = some xs[i] := by simp [hlt]
    refine .inr ⟨⟨xs, _, sq, e⟩, fun x H' y => ?_⟩
    obtain ⟨e1, e2⟩ := y
    subst e1
    have hv := e2 xs sq
    obtain ⟨m, hmi, hM⟩ := hm.get hv
    have yl : (ps.map (·.1)).length < sizeLine := by
      rw [List.length_map, ← ar.len, List.length_take]
      exact Nat.lt_of_le_of_lt (Nat.min_le_left _ _) (Nat.lt_of_lt_of_le hlt (Nat.le_trans hz (by decide)))
    refine hs x m _ (upM _ _ _ _ sm hM) (List.mem_of_getElem? hmi) sm _ fun y S H3 s3 nS ⟨u, eS⟩ r3 => ⟨_, s3 _ _ hH, yl, xs.length - (i + 1), by omega, rfl, hlt, same_app' (sm.trans s3) hD, ps ++ [(y, S)], ?_, ?_, ?_, fun p hp => ?_⟩
    · rw [upd_same, List.map_append]
      rfl
    · have nSD : S ≠ D := fun z => by
        rw [z, hH] at nS
        cases nS
      have eD := s3 _ _ hH
      rw [List.take_add_one, hmi]
      refine All2.snoc (R := fun m (p : V × Addr) => R _ m p.1 p.2) (a := m) (b := (y, S)) (upD _ _ _ _ _ _ _ eD nSD r3) ?_
      refine a2_memR ar fun m p hp r => upD _ _ _ _ _ _ _ eD (fr p hp).2.1 (upS _ _ _ _ _ s3 r)
    · rw [List.map_append, List.nodup_append]
      refine ⟨nd, List.nodup_cons.mpr ⟨by simp, List.nodup_nil⟩, fun b hb c hc z => ?_⟩
      have hc : c = S := by simpa using hc
      obtain ⟨p, hp, rfl⟩ := List.mem_map.mp hb
      obtain ⟨_, _, u', eu⟩ := fr p hp
      rw [z, hc] at eu
      rw [eu] at nS
      cases nS
    · rcases List.mem_append.mp hp with z | z
      · obtain ⟨f1, f2, u', eu⟩ := fr p z
        exact ⟨f1, f2, u', by rw [upd_ne f2]; exact s3 _ _ eu⟩
      · rw [List.mem_singleton] at z
        subst z
        have nSD : S ≠ D := fun z => by
          rw [z, hH] at nS
          cases nS
        exact ⟨none_back sm nS, nSD, u, by rw [upd_ne nSD]; exact eS⟩
  · have e : i = xs.length := by omega
    subst e
    rw [hl, List.take_length] at ar
    exact .inl ⟨⟨xs, sq, Nat.le_refl _⟩, hq D _ ps sm hD hH ar nd fun p hp => ⟨(fr p hp).1, (fr p hp).2.1⟩⟩
/-- [j for j in range(n) if ..] -/
theorem comp_rngI {n : Nat} {g : TG} {tc : TT} {te : TE} {k : Nat} {js : List Nat} {σ : L2.St} {H1 : Hp} {Q : VK} (c : Nat → Bool) (hz : n ≤ 1000)
    (hs : ∀ i H2, i < n → Same H1 H2 → ∀ (P : VK) (P' : Hp → Prop), (c i = true → ∀ H3, Same H2 H3 → P (.int (0 + (i : Int))) H3) → (c i = false → ∀ H3, Same H2 H3 → P' H3) → g (.int (0 + (i : Int))) (List.replicate k none ++ capσ js σ) H2 fun σ2 H3 => σ2.drop k = capσ js σ ∧ tc σ2 H3 fun b H4 => Br b (te σ2 H4 P) (P' H4))
    (hq : ∀ D H', Same H1 H' → H1 D = none → H' D = some (.lst ((((List.range n).filter c).map fun j : Nat => (j : Int)).map V.int)) → Q (.ref D) H') : CGoalI (Itr 0 n) g tc te k js σ H1 Q := by
  unfold CGoalI
  intro D hD
  refine ⟨fun i m H => m = n - i ∧ i ≤ n ∧ Same H1 H ∧ H D = some (.lst ((((List.range i).filter c).map fun j : Nat => (j : Int)).map V.int)), ⟨n, by simp, Nat.zero_le _, same_upd hD, upd_same⟩, ?_⟩
  rintro i m H ⟨rfl, hi, sm, hH⟩
  by_cases hlt : i < n
  · refine .inr ⟨hlt, fun x H' y => ?_⟩
    obtain ⟨rfl, rfl⟩ := y
    have yl : ((((List.range i).filter c).map fun j : Nat => (j : Int)).map V.int).length < sizeLine := by
      rw [List.length_map, List.length_map]
      refine Nat.lt_of_le_of_lt (List.length_filter_le _ _) ?_
      rw [List.length_range]
      exact Nat.lt_of_lt_of_le hlt (Nat.le_trans hz (by decide))
    refine hs i _ hlt sm _ _ (fun hc H3 s3 => ⟨_, s3 _ _ hH, yl, n - (i + 1), by omega, rfl, hlt, same_app' (sm.trans s3) hD, ?_⟩) fun hc H3 s3 => ⟨n - (i + 1), by omega, rfl, hlt, sm.trans s3, ?_⟩
    · rw [upd_same, List.range_succ, List.filter_append]
      have ef : [i].filter c = [i] := by simp [hc]
      rw [ef, List.map_append, List.map_append, Int.zero_add]
      rfl
    · rw [List.range_succ, List.filter_append]
      have ef : [i].filter c = [] := by simp [hc]
      rw [ef, List.append_nil]
      exact s3 _ _ hH
  · have e : i = n := by omega
    subst e
    exact .inl ⟨Nat.le_refl _, hq D _ sm hD hH⟩

/-! who is parted from whom -/
def gt (ms : List Pt) (j : Nat) : Pt := ms.getD j ((0, 1), none)
def abv (ms : List Pt) (m : Pt) : List Nat := (List.range ms.length).filter fun j => bnQ m.2 (gt ms j).1
def blw (ms : List Pt) (m : Pt) : List Nat := (List.range ms.length).filter fun j => bnQ (gt ms j).2 m.1
def apt (ms : List Pt) (m : Pt) : List Nat := (List.range ms.length).filter fun j => bnQ m.2 (gt ms j).1 || bnQ (gt ms j).2 m.1
def rB (ms : List Pt) (m : Pt) : Int := 1 + ((abv ms m).length : Int)
def rW (ms : List Pt) (m : Pt) : Int := (ms.length : Int) - ((blw ms m).length : Int)
def nI (l : List Nat) : List Int := l.map fun j : Nat => (j : Int)
theorem gt_of {ms : List Pt} {j : Nat} {m : Pt} (h : ms[j]? = some m) : gt ms j = m := by
  unfold gt
  rw [List.getD_eq_getElem?_getD, h]
  rfl
theorem gt_mem {ms : List Pt} {j : Nat} (h : j < ms.length) : gt ms j ∈ ms := by
  rw [gt_of (List.getElem?_eq_getElem h)]
  exact List.getElem_mem h
theorem zip_range (ms : List Pt) : ms.zipIdx = (List.range ms.length).map fun j => (gt ms j, j) := by
  refine List.ext_getElem? fun i => ?_
  rw [List.getElem?_zipIdx, List.getElem?_map]
  by_cases h : i < ms.length
  · rw [List.getElem?_range h, List.getElem?_eq_getElem h]
    show some (ms[i], 0 + i) = some (gt ms i, i)
    rw [gt_of (List.getElem?_eq_getElem h), Nat.zero_add]
  · rw [List.getElem?_eq_none (by omega), List.getElem?_eq_none (by rw [List.length_range]; omega)]
    rfl
theorem enum_ys {ms : List Pt} {c : Pt × Nat → Bool} {ys : List V} (a : All2 (fun (q : Pt × Nat) (y : V) => y = V.int (q.2 : Int)) (ms.zipIdx.filter c) ys) : ys = (nI ((List.range ms.length).filter fun j => c (gt ms j, j))).map V.int := by
  have e : ∀ {l : List (Pt × Nat)} {ys : List V}, All2 (fun (q : Pt × Nat) (y : V) => y = V.int (q.2 : Int)) l ys → ys = (nI (l.map (·.2))).map V.int := by
    intro l ys a
    induction a with
    | nil => rfl
    | cons h t ih => rw [h, ih]; rfl
  rw [e a, zip_range, List.filter_map, List.map_map]
  congr 2
  have z : ((fun q : Pt × Nat => q.2) ∘ fun j => (gt ms j, j)) = id := rfl
  rw [z, List.map_id]
  rfl
theorem bn_not {m y : Pt} (hm : POk m) (hy : POk y) (h1 : bnQ m.2 y.1 = true) : bnQ y.2 m.1 = false := by
  cases e1 : m.2 with
  | none =>
    rw [e1] at h1
    cases h1
  | some a =>
    cases e2 : y.2 with
    | none => rfl
    | some b =>
      rw [e1] at h1
      obtain ⟨a0, _, a1⟩ := hm.g2 a e1
      obtain ⟨b0, _, b1⟩ := hy.g2 b e2
      have h1 : ltQ a y.1 = true := h1
      show ltQ b m.1 = false
      have q1 := lt_le_tr a0 hy.p1 b0 (ltQ_t.mp h1) (ltQ_f.mp b1)
      exact ltQ_f.mpr (le_tr hm.p1 a0 b0 (ltQ_f.mp a1) (Int.le_of_lt q1))
theorem filter_or {p q : Nat → Bool} : ∀ {l : List Nat}, (∀ x ∈ l, p x = true → q x = false) → (l.filter fun x => p x || q x).Perm (l.filter p ++ l.filter q)
  | [], _ => .nil
  | x :: l, h => by
    have ih := filter_or (l := l) fun y hy => h y (List.mem_cons_of_mem _ hy)
    cases c1 : p x with
    | true =>
      have c2 := h x List.mem_cons_self c1
      rw [List.filter_cons_of_pos (by rw [c1]; rfl), List.filter_cons_of_pos c1, List.filter_cons_of_neg (by rw [c2]; decide)]
      exact ih.cons x
    | false =>
      cases c2 : q x with
      | true =>
        rw [List.filter_cons_of_pos (by rw [c2, Bool.or_true]), List.filter_cons_of_neg (by rw [c1]; decide), List.filter_cons_of_pos c2]
        exact (ih.cons x).trans List.perm_middle.symm
      | false =>
        rw [List.filter_cons_of_neg (by rw [c1, c2]; decide), List.filter_cons_of_neg (by rw [c1]; decide), List.filter_cons_of_neg (by rw [c2]; decide)]
        exact ih
theorem apt_srt {ms : List Pt} {m : Pt} (hm : POk m) (ok : ∀ y ∈ ms, POk y) {l : List Int} (pm : l.Perm (nI (abv ms m) ++ nI (blw ms m))) (so : l.Pairwise (· ≤ ·)) : l = nI (apt ms m) := by
  have p2 : (nI (apt ms m)).Perm (nI (abv ms m) ++ nI (blw ms m)) := by
    unfold nI
    rw [← List.map_append]
    exact (filter_or fun j hj h => bn_not hm (ok _ (gt_mem (List.mem_range.mp hj))) h).map _
  have s2 : (nI (apt ms m)).Pairwise (· ≤ ·) := by
    unfold nI apt
    refine List.pairwise_map.mpr ((List.pairwise_lt_range.filter _).imp fun h => ?_)
    omega
  exact List.Perm.eq_of_pairwise (fun a b _ _ h1 h2 => by omega) so s2 (pm.trans p2.symm)
theorem nI_len (l : List Nat) : (nI l).length = l.length := by
  unfold nI
  rw [List.length_map]
theorem fl_len (ms : List Pt) (c : Nat → Bool) : ((List.range ms.length).filter c).length ≤ ms.length := by
  have := List.length_filter_le c (List.range ms.length)
  rw [List.length_range] at this
  exact this
def sp_rank_of (K : PySem.W.Frag) (ns : List Int) : Sp := fun vs H Q _ => match vs with
  | [.ref r, .ref L] => ∃ m ms, (Pq 900 H r m.1 m.2 ∧ PtsAt K H L ms ∧ ms.length ≤ 20 ∧ POk m ∧ ∀ y ∈ ms, POk y) ∧ ∀ T S H', Same H H' → H S = none → H' S = some (.lst ((nI (apt ms m)).map V.int)) → H' T = some (.tup [.int (rB ms m), .int (rW ms m), .ref S]) → Q (.ref T) H'
  | _ => False
theorem sc_rank_of : FnScope ["part", "stretches", "surely_above", "surely_below"] ["part", "stretches"] (defScope s_rank_of) := ⟨rfl, rfl, rfl, by decide +kernel, rfl, by decide +kernel, by decide +kernel⟩
theorem ok_rank_of (d : Dfn K mg "rank_of" s_rank_of ["part", "stretches"])  (n_sorted : mg "sorted" = none) (n_len : mg "len" = none) (n_enumerate : mg "enumerate" = none)  (c_beneath : Cal P w K mg base "beneath" ["one", "other"] 2 (sp_beneath K ns)) : Cal P w K mg base "rank_of" ["part", "stretches"] 3 (sp_rank_of K ns) := by
  refine d.cal (k := 2) sc_rank_of (fun vs H Q E h => ?_) (fun f cdv A outer s H vs Q E hr h => ?_)
  · match vs, h with
    | [.ref r, .ref L], _ => rfl
  · match vs, h with
    | [.ref r, .ref L], ⟨m, ms, ⟨pq, ⟨vs, hx, hm⟩, l20, om, ok⟩, k⟩ =>
      refine ⟨_, (pss_cons (ps_compIN (i := 2) ["at", "other"] ["part"] [0] rfl (pi_enum (by rfl) n_enumerate (pa_cons (dv 1) pa_nil)) (fun C s H fp => (show PG _ _ (gTup K 2 _) from pg_tup rfl (pgs_cons (pg_name (i := 0) (show List.Nodup [("at" : Str), ("other" : Str), ("part" : Str)] by decide +kernel) rfl (by first | exact Or.inl rfl | exact Or.inr rfl)) (pgs_cons (pg_name (i := 1) (show List.Nodup [("at" : Str), ("other" : Str), ("part" : Str)] by decide +kernel) rfl (by first | exact Or.inl rfl | exact Or.inr rfl)) pgs_nil)))) (fun C s H fp => (t_val (e_call c_beneath hr (by decide) (by rfl) (pa_cons (dv 2) (pa_cons (dv 1) pa_nil))))) (fun C s H fp => (dv 0)) rfl rfl (by decide +kernel) (by decide +kernel) (by rfl) ⟨rfl, True.intro⟩ ⟨⟨rfl, rfl, rfl, rfl⟩, True.intro⟩ sc_rank_of.nd rfl rfl)
      (pss_cons (ps_compIN (i := 3) ["at", "other"] ["part"] [0] rfl (pi_enum (by rfl) n_enumerate (pa_cons (dv 1) pa_nil)) (fun C s H fp => (show PG _ _ (gTup K 2 _) from pg_tup rfl (pgs_cons (pg_name (i := 0) (show List.Nodup [("at" : Str), ("other" : Str), ("part" : Str)] by decide +kernel) rfl (by first | exact Or.inl rfl | exact Or.inr rfl)) (pgs_cons (pg_name (i := 1) (show List.Nodup [("at" : Str), ("other" : Str), ("part" : Str)] by decide +kernel) rfl (by first | exact Or.inl rfl | exact Or.inr rfl)) pgs_nil)))) (fun C s H fp => (t_val (e_call c_beneath hr (by decide) (by rfl) (pa_cons (dv 1) (pa_cons (dv 2) pa_nil))))) (fun C s H fp => (dv 0)) rfl rfl (by decide +kernel) (by decide +kernel) (by rfl) ⟨rfl, True.intro⟩ ⟨⟨rfl, rfl, rfl, rfl⟩, True.intro⟩ sc_rank_of.nd rfl rfl)
      (pss_one (ps_ret (e_tup (pa_cons (pe_op o_add pe_int (pe_callB c_len (by rfl) n_len (by decide +kernel) (pa_cons (dv 2) pa_nil))) (pa_cons (pe_op o_sub (pe_callB c_len (by rfl) n_len (by decide +kernel) (pa_cons (dv 1) pa_nil)) (pe_callB c_len (by rfl) n_len (by decide +kernel) (pa_cons (dv 3) pa_nil))) (pa_cons (pe_callB c_sortI (by rfl) n_sorted (by decide +kernel) (pa_cons (pe_op o_catL (dv 2) (dv 3)) pa_nil)) pa_nil)))))))), ?_⟩
      have hz : vs.length ≤ 1000 := by rw [hm.len]; omega
      refine ⟨⟨_, hx⟩, comp_enumI PAt p_up (fun _ q y => y = V.int (q.2 : Int)) (fun _ _ _ _ _ h => h) (fun q => bnQ m.2 q.1.1) hz hx hm ?_ ?_⟩
      · intro v y i t H2 hM hyi s2 e2 P P' hP hP'
        obtain ⟨rj, rfl, pj⟩ := hM
        exact ⟨t, _, rfl, SqT.of e2, rfl, _, _, rfl, _, _, rfl, rfl, rfl, m.1, y.1, m.2, y.2, (pq.up s2).mono (by decide), pj.mono (by decide), ⟨fun h => hP h _ _ (Same.refl _) rfl, fun h => hP' h _ (Same.refl _)⟩⟩
      intro D1 H1 ys1 s1 _ e1 a1
      have hm1 : All2 (PAt H1) vs ms := hm.imp fun v g r => p_up v g _ _ (kt_of s1) r
      refine ⟨⟨_, s1.seq hx⟩, comp_enumI PAt p_up (fun _ q y => y = V.int (q.2 : Int)) (fun _ _ _ _ _ h => h) (fun q => bnQ q.1.2 m.1) hz (s1.seq hx) hm1 ?_ ?_⟩
      · intro v y i t H2 hM hyi s2 e2 P P' hP hP'
        obtain ⟨rj, rfl, pj⟩ := hM
        exact ⟨t, _, rfl, SqT.of e2, rfl, _, _, rfl, _, _, rfl, rfl, rfl, y.1, m.1, y.2, m.2, pj.mono (by decide), ((pq.up s1).up s2).mono (by decide), ⟨fun h => hP h _ _ (Same.refl _) rfl, fun h => hP' h _ (Same.refl _)⟩⟩
      intro D2 H2 ys2 s2 _ e2 a2
      have y1 : ys1 = (nI (abv ms m)).map V.int := enum_ys a1
      have y2 : ys2 = (nI (blw ms m)).map V.int := enum_ys a2
      subst y1 y2
      have l1 : (abv ms m).length ≤ ms.length := fl_len ..
      have l2 : (blw ms m).length ≤ ms.length := fl_len ..
      have e1 := s2 _ _ e1
      refine ⟨_, .inl (SqL.of e1), _, .inl ((s1.trans s2).seq hx), _, .inl (SqL.of e2), _, _, e1, e2, by rw [List.length_map, List.length_map, nI_len, nI_len]; omega, fun C H3 s3 e3 => ⟨nI (abv ms m) ++ nI (blw ms m), SqL.of (by rw [e3, List.map_append]), by rw [List.length_append, nI_len, nI_len]; omega, fun S zs hS pm so => fun T H4 s4 e4 => ?_⟩⟩
      have ez := apt_srt om ok pm so
      subst ez
      have s13 := s1.trans (s2.trans s3)
      refine k T S H4 (s13.trans ((same_upd hS).trans s4)) (none_back s13 hS) (s4 _ _ upd_same) ?_
      rw [e4, List.length_map, List.length_map, nI_len, nI_len, hm.len]
      rfl
def RkR (ms : List Pt) (H : Hp) (m : Pt) (y : V) (S : Addr) : Prop := ∃ T, y = .ref T ∧ H T = some (.tup [.int (rB ms m), .int (rW ms m), .ref S]) ∧ H S = some (.lst ((nI (apt ms m)).map V.int))
theorem rk_same {ms : List Pt} (m : Pt) (y : V) (S : Addr) (H H' : Hp) (s : Same H H') (h : RkR ms H m y S) : RkR ms H' m y S := by
  obtain ⟨T, e, h1, h2⟩ := h
  exact ⟨T, e, s _ _ h1, s _ _ h2⟩
theorem rk_upd {ms : List Pt} (D : Addr) (m : Pt) (y : V) (S : Addr) (H : Hp) (zs : List V) (o : HO) (hD : H D = some (.lst zs)) (n : S ≠ D) (h : RkR ms H m y S) : RkR ms (upd H D o) m y S := by
  obtain ⟨T, e, h1, h2⟩ := h
  refine ⟨T, e, ?_, by rw [upd_ne n]; exact h2⟩
  rw [upd_ne fun z => by rw [z, hD] at h1; cases h1]
  exact h1
def sp_ranking (K : PySem.W.Frag) (ns : List Int) : Sp := fun vs H Q _ => match vs with
  | [.ref L] => ∃ ms, (PtsAt K H L ms ∧ ms.length ≤ 20 ∧ ∀ y ∈ ms, POk y) ∧ ∀ F (ps : List (V × Addr)) H', Same H H' → H F = none → H' F = some (.lst (ps.map (·.1))) → All2 (fun m (p : V × Addr) => RkR ms H' m p.1 p.2) ms ps → (ps.map (·.2)).Nodup → (∀ p ∈ ps, H p.2 = none ∧ p.2 ≠ F) → Q (.ref F) H'
  | _ => False
theorem sc_ranking : FnScope ["stretches"] ["stretches"] (defScope s_ranking) := ⟨rfl, rfl, rfl, by decide +kernel, rfl, by decide +kernel, by decide +kernel⟩
theorem ok_ranking (d : Dfn K mg "ranking" s_ranking ["stretches"])    (c_rank_of : Cal P w K mg base "rank_of" ["part", "stretches"] 3 (sp_rank_of K ns)) : Cal P w K mg base "ranking" ["stretches"] 4 (sp_ranking K ns) := by
  refine d.cal (k := 3) sc_ranking (fun vs H Q E h => ?_) (fun f cdv A outer s H vs Q E hr h => ?_)
  · match vs, h with
    | [.ref L], _ => rfl
  · match vs, h with
    | [.ref L], ⟨ms, ⟨hL, l20, ok⟩, k⟩ =>
      refine ⟨_, (pss_one (ps_ret (e_compN ["part"] ["stretches"] [0] rfl (pi_list (dv 0)) (fun C s H fp => (pg_name (i := 0) (show List.Nodup [("part" : Str), ("stretches" : Str)] by decide +kernel) rfl (by first | exact Or.inl rfl | exact Or.inr rfl))) (fun C s H fp => (e_call c_rank_of hr (by decide) (by rfl) (pa_cons (dv 0) (pa_cons (dv 1) pa_nil)))) rfl rfl (by decide +kernel) (by decide +kernel) (by rfl) ⟨rfl, True.intro⟩ ⟨⟨rfl, rfl, rfl, rfl⟩, True.intro⟩))), ?_⟩
      obtain ⟨vs, hx, hm⟩ := id hL
      refine ⟨L, rfl, ⟨_, hx⟩, comp_absF PAt (fun v m H H' s h => p_up v m H H' (kt_of s) h) (RkR ms) rk_same rk_upd (by rw [hm.len]; omega) hx hm ?_ ?_⟩
      · intro v m H2 hM hm2 s2 P hP
        obtain ⟨r, rfl, pq⟩ := hM
        exact ⟨rfl, m, ms, ⟨pq, hL.up s2, l20, ok m hm2, ok⟩, fun T S H3 s3 nS eS eT => hP _ S _ s3 nS ⟨_, eS⟩ ⟨T, rfl, eT, eS⟩⟩
      intro D H' ps s n e a nd fr
      exact k D ps H' s n e a nd fr

/-! rankings of changed stretches -/
abbrev Row := Int × Int × List Nat
def rkRow (ms : List Pt) (m : Pt) : Row := (rB ms m, rW ms m, apt ms m)
theorem lt_self (x : Q2) : ltQ x x = false := ltQ_f.mpr (Int.le_refl _)
theorem ge_tr {x y z : Q2} (hx : 0 < x.2) (hy : 0 < y.2) (hz : 0 < z.2) (h1 : ltQ x y = false) (h2 : ltQ y z = false) : ltQ x z = false := ltQ_f.mpr (le_tr hz hy hx (ltQ_f.mp h2) (ltQ_f.mp h1))
theorem lt_ge {x y z : Q2} (hx : 0 < x.2) (hy : 0 < y.2) (hz : 0 < z.2) (h1 : ltQ x y = true) (h2 : ltQ z y = false) : ltQ x z = true := ltQ_t.mpr (lt_le_tr hx hy hz (ltQ_t.mp h1) (ltQ_f.mp h2))
theorem ge_lt {x y z : Q2} (hx : 0 < x.2) (hy : 0 < y.2) (hz : 0 < z.2) (h1 : ltQ y x = false) (h2 : ltQ y z = true) : ltQ x z = true := by
  cases c : ltQ x z with
  | true => rfl
  | false =>
    have := ge_tr hy hx hz h1 c
    rw [this] at h2
    cases h2
theorem f_eq {l : List Nat} {p q : Nat → Bool} (h : ∀ j ∈ l, p j = q j) : l.filter p = l.filter q := List.filter_congr h
theorem f_le {p q : Nat → Bool} : ∀ {l : List Nat}, (∀ j ∈ l, p j = true → q j = true) → (l.filter p).length ≤ (l.filter q).length
  | [], _ => Nat.le_refl _
  | x :: l, h => by
    have ih := f_le (l := l) fun y hy => h y (List.mem_cons_of_mem _ hy)
    cases c : p x with
    | true =>
      rw [List.filter_cons_of_pos c, List.filter_cons_of_pos (h x List.mem_cons_self c), List.length_cons, List.length_cons]
      omega
    | false =>
      rw [List.filter_cons_of_neg (by rw [c]; decide), List.filter_cons]
      split
      · rw [List.length_cons]
        omega
      · exact ih
/-! in another order -/
theorem nat_range (o : List Nat) : o = (List.range o.length).map fun j => o.getD j 0 := by
  refine List.ext_getElem? fun i => ?_
  rw [List.getElem?_map]
  by_cases h : i < o.length
  · rw [List.getElem?_range h, List.getElem?_eq_getElem h]
    show _ = some (o.getD i 0)
    rw [List.getD_eq_getElem?_getD, List.getElem?_eq_getElem h]
    rfl
  · rw [List.getElem?_eq_none (by omega), List.getElem?_eq_none (by rw [List.length_range]; omega)]
    rfl
theorem o_cnt (o : List Nat) (p : Nat → Bool) : ((List.range o.length).filter fun j => p (o.getD j 0)).length = (o.filter p).length := by
  have e2 : o.filter p = ((List.range o.length).map fun j => o.getD j 0).filter p := congrArg (List.filter p) (nat_range o)
  rw [e2, List.filter_map, List.length_map]
  rfl
def ord (ms : List Pt) (o : List Nat) : List Pt := o.map (gt ms)
theorem ord_gt {ms : List Pt} {o : List Nat} {j : Nat} (h : j < o.length) : gt (ord ms o) j = gt ms (o.getD j 0) := by
  rw [gt_of (m := gt ms o[j])]
  · rw [List.getD_eq_getElem?_getD, List.getElem?_eq_getElem h]
    rfl
  · unfold ord
    rw [List.getElem?_map, List.getElem?_eq_getElem h]
    rfl
theorem ord_row {ms : List Pt} {o : List Nat} (pm : o.Perm (List.range ms.length)) (m : Pt) : rkRow (ord ms o) m = (rB ms m, rW ms m, (List.range o.length).filter fun j => decide (o.getD j 0 ∈ apt ms m)) := by
  have ol : o.length = ms.length := by rw [pm.length_eq, List.length_range]
  have ll : (ord ms o).length = o.length := by unfold ord; rw [List.length_map]
  have cnt : ∀ p : Nat → Bool, ((List.range o.length).filter fun j => p (o.getD j 0)).length = ((List.range ms.length).filter p).length := fun p => by
    rw [o_cnt]
    exact (pm.filter p).length_eq
  have e1 : rB (ord ms o) m = rB ms m := by
    unfold rB abv
    rw [ll, f_eq (q := fun j => bnQ m.2 (gt ms (o.getD j 0)).1) fun j hj => by rw [ord_gt (List.mem_range.mp hj)], cnt fun q => bnQ m.2 (gt ms q).1]
  have e2 : rW (ord ms o) m = rW ms m := by
    unfold rW blw
    rw [ll, f_eq (q := fun j => bnQ (gt ms (o.getD j 0)).2 m.1) fun j hj => by rw [ord_gt (List.mem_range.mp hj)], cnt fun q => bnQ (gt ms q).2 m.1, ol]
  have e3 : apt (ord ms o) m = (List.range o.length).filter fun j => decide (o.getD j 0 ∈ apt ms m) := by
    unfold apt
    rw [ll]
    refine f_eq fun j hj => ?_
    have hj := List.mem_range.mp hj
    rw [ord_gt hj]
    have hin : o.getD j 0 ∈ List.range ms.length := by
      rw [← pm.mem_iff, List.getD_eq_getElem?_getD, List.getElem?_eq_getElem hj]
      exact List.getElem_mem hj
    cases c : (bnQ m.2 (gt ms (o.getD j 0)).1 || bnQ (gt ms (o.getD j 0)).2 m.1) with
    | true => exact (decide_eq_true (List.mem_filter.mpr ⟨hin, c⟩)).symm
    | false => exact (decide_eq_false fun z => by rw [(List.mem_filter.mp z).2] at c; cases c).symm
  unfold rkRow
  rw [e1, e2, e3]
/-! times a fraction -/
def scQ (s x : Q2) : Q2 := (lowT (x.1 * s.1) (x.2 * s.2), lowB (x.1 * s.1) (x.2 * s.2))
def scM (s : Q2) (m : Pt) : Pt := (scQ s m.1, m.2.map (scQ s))
theorem lt_low {t b t' b' : Int} (hb : 0 < b) (hb' : 0 < b') : ltQ (lowT t b, lowB t b) (lowT t' b', lowB t' b') = ltQ (t, b) (t', b') := by
  have g := gcd_pos' t hb
  have g' := gcd_pos' t' hb'
  have e1 := lowT_mul t b
  have e2 := lowB_mul t b
  have e3 := lowT_mul t' b'
  have e4 := lowB_mul t' b'
  unfold ltQ
  refine decide_eq_decide.mpr ?_
  show lowT t b * lowB t' b' < lowT t' b' * lowB t b ↔ t * b' < t' * b
  generalize lowT t b = u at *
  generalize lowB t b = v at *
  generalize lowT t' b' = u' at *
  generalize lowB t' b' = v' at *
  generalize (Int.gcd t b : Int) = c at *
  generalize (Int.gcd t' b' : Int) = c' at *
  have k1 : t * b' = u * v' * (c * c') := by rw [← e1, ← e4]; grind
  have k2 : t' * b = u' * v * (c * c') := by rw [← e2, ← e3]; grind
  rw [k1, k2]
  exact ⟨fun h => Int.mul_lt_mul_of_pos_right h (Int.mul_pos g g'), fun h => Int.lt_of_mul_lt_mul_right h (Int.le_of_lt (Int.mul_pos g g'))⟩
theorem lt_sc {s x y : Q2} (s1 : 0 < s.1) (s2 : 0 < s.2) (hx : 0 < x.2) (hy : 0 < y.2) : ltQ (scQ s x) (scQ s y) = ltQ x y := by
  unfold scQ
  rw [lt_low (Int.mul_pos hx s2) (Int.mul_pos hy s2)]
  unfold ltQ
  refine decide_eq_decide.mpr ?_
  show x.1 * s.1 * (y.2 * s.2) < y.1 * s.1 * (x.2 * s.2) ↔ x.1 * y.2 < y.1 * x.2
  have k1 : x.1 * s.1 * (y.2 * s.2) = x.1 * y.2 * (s.1 * s.2) := by grind
  have k2 : y.1 * s.1 * (x.2 * s.2) = y.1 * x.2 * (s.1 * s.2) := by grind
  rw [k1, k2]
  exact ⟨fun h => Int.lt_of_mul_lt_mul_right h (Int.le_of_lt (Int.mul_pos s1 s2)), fun h => Int.mul_lt_mul_of_pos_right h (Int.mul_pos s1 s2)⟩
theorem sc_ok {s : Q2} {m : Pt} (s1 : 0 < s.1) (s2 : 0 < s.2) (h : POk m) : POk (scM s m) := by
  refine ⟨lowT_nn (Int.mul_pos h.p1 s2) (Int.mul_nonneg h.nn (Int.le_of_lt s1)), lowB_pos _ (Int.mul_pos h.p1 s2), low_gcd _ (Int.mul_pos h.p1 s2), fun y e => ?_⟩
  cases e2 : m.2 with
  | none =>
    have e : m.2.map (scQ s) = some y := e
    rw [e2] at e
    cases e
  | some z =>
    have e : m.2.map (scQ s) = some y := e
    rw [e2] at e
    cases e
    obtain ⟨z0, z1, z2⟩ := h.g2 z e2
    exact ⟨lowB_pos _ (Int.mul_pos z0 s2), low_gcd _ (Int.mul_pos z0 s2), (lt_sc s1 s2 z0 h.p1).trans z2⟩
theorem bn_sc {s : Q2} {m y : Pt} (s1 : 0 < s.1) (s2 : 0 < s.2) (hm : POk m) (hy : POk y) : bnQ (scM s m).2 (scM s y).1 = bnQ m.2 y.1 := by
  show bnQ (m.2.map (scQ s)) (scQ s y.1) = _
  cases e : m.2 with
  | none => rfl
  | some z => exact lt_sc s1 s2 (hm.g2 z e).1 hy.p1
theorem map_gt {ms : List Pt} {f : Pt → Pt} {j : Nat} (h : j < ms.length) : gt (ms.map f) j = f (gt ms j) := by
  rw [gt_of (List.getElem?_eq_getElem h), gt_of (m := f ms[j])]
  rw [List.getElem?_map, List.getElem?_eq_getElem h]
  rfl
theorem sc_row {s : Q2} {ms : List Pt} {m : Pt} (s1 : 0 < s.1) (s2 : 0 < s.2) (ok : ∀ y ∈ ms, POk y) (hm : POk m) : rkRow (ms.map (scM s)) (scM s m) = rkRow ms m := by
  unfold rkRow rB rW abv blw apt
  rw [List.length_map]
  have a : ∀ j ∈ List.range ms.length, bnQ (scM s m).2 (gt (ms.map (scM s)) j).1 = bnQ m.2 (gt ms j).1 := fun j hj => by
    have hj := List.mem_range.mp hj
    rw [map_gt hj, bn_sc s1 s2 hm (ok _ (gt_mem hj))]
  have b : ∀ j ∈ List.range ms.length, bnQ (gt (ms.map (scM s)) j).2 (scM s m).1 = bnQ (gt ms j).2 m.1 := fun j hj => by
    have hj := List.mem_range.mp hj
    rw [map_gt hj, bn_sc s1 s2 (ok _ (gt_mem hj)) hm]
  rw [f_eq a, f_eq b, f_eq (p := fun j => bnQ (scM s m).2 (gt (ms.map (scM s)) j).1 || bnQ (gt (ms.map (scM s)) j).2 (scM s m).1) (q := fun j => bnQ m.2 (gt ms j).1 || bnQ (gt ms j).2 m.1) fun j hj => by rw [a j hj, b j hj]]
/-! narrower -/
structure Nar (m m' : Pt) : Prop where
  lo : ltQ m'.1 m.1 = false
  hi : ∀ h, m.2 = some h → ∃ h', m'.2 = some h' ∧ ltQ h h' = false
theorem nar_bn {m m' y y' : Pt} (om : POk m) (om' : POk m') (oy : POk y) (oy' : POk y') (nm : Nar m m') (ny : Nar y y') (h : bnQ m.2 y.1 = true) : bnQ m'.2 y'.1 = true := by
  cases e : m.2 with
  | none =>
    rw [e] at h
    cases h
  | some b =>
    rw [e] at h
    have h : ltQ b y.1 = true := h
    obtain ⟨b', e', le⟩ := nm.hi b e
    rw [e']
    show ltQ b' y'.1 = true
    exact ge_lt (om'.g2 b' e').1 (om.g2 b e).1 oy'.p1 le (lt_ge (om.g2 b e).1 oy.p1 oy'.p1 h ny.lo)
theorem nar_at {ms ms' : List Pt} (a : All2 (fun m m' => Nar m m' ∧ POk m') ms ms') {j : Nat} (h : j < ms.length) : Nar (gt ms j) (gt ms' j) ∧ POk (gt ms' j) := by
  obtain ⟨m', hm', r⟩ := a.get (List.getElem?_eq_getElem h)
  rw [gt_of (List.getElem?_eq_getElem h), gt_of hm']
  exact r
theorem nar_row {ms ms' : List Pt} (ok : ∀ y ∈ ms, POk y) (a : All2 (fun m m' => Nar m m' ∧ POk m') ms ms') {m m' : Pt} (om : POk m) (om' : POk m') (nm : Nar m m') :
    rB ms m ≤ rB ms' m' ∧ rW ms' m' ≤ rW ms m ∧ ∀ j ∈ apt ms m, j ∈ apt ms' m' := by
  have hl := a.len
  have up : ∀ j ∈ List.range ms.length, bnQ m.2 (gt ms j).1 = true → bnQ m'.2 (gt ms' j).1 = true := fun j hj c => by
    have hj := List.mem_range.mp hj
    obtain ⟨n, o⟩ := nar_at a hj
    exact nar_bn om om' (ok _ (gt_mem hj)) o nm n c
  have dn : ∀ j ∈ List.range ms.length, bnQ (gt ms j).2 m.1 = true → bnQ (gt ms' j).2 m'.1 = true := fun j hj c => by
    have hj := List.mem_range.mp hj
    obtain ⟨n, o⟩ := nar_at a hj
    exact nar_bn (ok _ (gt_mem hj)) o om om' n nm c
  have u := f_le up
  have d := f_le dn
  refine ⟨?_, ?_, fun j hj => ?_⟩
  · unfold rB abv
    rw [← hl]
    omega
  · unfold rW blw
    rw [← hl]
    omega
  · unfold apt at hj ⊢
    rw [← hl]
    obtain ⟨h1, h2⟩ := List.mem_filter.mp hj
    refine List.mem_filter.mpr ⟨h1, ?_⟩
    rcases (Bool.or_eq_true _ _).mp h2 with z | z
    · rw [up j h1 z]
      rfl
    · rw [dn j h1 z, Bool.or_true]
/-! one taken out -/
def shf (o j : Nat) : Nat := if j < o then j else j + 1
def uns (o j : Nat) : Nat := if o < j then j - 1 else j
theorem shf_range {n o : Nat} (h : o < n) : (List.range (n - 1)).map (shf o) = (List.range n).filter fun j => decide (j ≠ o) := by
  have e : List.range n = List.range o ++ ([o] ++ (List.range (n - 1 - o)).map fun j => o + 1 + j) := by
    refine List.ext_getElem? fun i => ?_
    by_cases h1 : i < n
    · rw [List.getElem?_range h1]
      by_cases h2 : i < o
      · rw [List.getElem?_append_left (by rw [List.length_range]; exact h2), List.getElem?_range h2]
      · rw [List.getElem?_append_right (by rw [List.length_range]; omega), List.length_range]
        by_cases h3 : i = o
        · subst h3
          rw [Nat.sub_self]
          rfl
        · rw [List.getElem?_append_right (by show 1 ≤ i - o; omega), List.getElem?_map, List.getElem?_range (by show i - o - 1 < _; omega)]
          show some i = some (o + 1 + (i - o - 1))
          congr 1
          omega
    · rw [List.getElem?_eq_none (by rw [List.length_range]; omega), List.getElem?_eq_none (by simp; omega)]
  have e' : List.range (n - 1) = List.range o ++ (List.range (n - 1 - o)).map fun j => o + j := by
    have := List.range_add (n := o) (m := n - 1 - o)
    rw [show o + (n - 1 - o) = n - 1 by omega] at this
    exact this
  rw [e, e', List.map_append, List.filter_append, List.filter_append]
  have a1 : (List.range o).map (shf o) = (List.range o).filter fun j => decide (j ≠ o) := by
    rw [List.filter_eq_self.mpr fun j hj => decide_eq_true (Nat.ne_of_lt (List.mem_range.mp hj))]
    refine (List.map_congr_left fun j hj => ?_).trans (List.map_id _)
    exact if_pos (List.mem_range.mp hj)
  have a2 : [o].filter (fun j => decide (j ≠ o)) = [] := by simp
  have a3 : ((List.range (n - 1 - o)).map fun j => o + j).map (shf o) = ((List.range (n - 1 - o)).map fun j => o + 1 + j).filter fun j => decide (j ≠ o) := by
    rw [List.filter_eq_self.mpr fun j hj => by
      obtain ⟨i, _, rfl⟩ := List.mem_map.mp hj
      exact decide_eq_true (by omega), List.map_map]
    refine List.map_congr_left fun j _ => ?_
    show shf o (o + j) = o + 1 + j
    unfold shf
    rw [if_neg (by omega)]
    omega
  rw [a1, a2, a3, List.nil_append]
def outM (ms : List Pt) (o : Nat) : List Pt := ms.take o ++ ms.drop (o + 1)
theorem out_len {ms : List Pt} {o : Nat} (h : o < ms.length) : (outM ms o).length = ms.length - 1 := by
  unfold outM
  rw [List.length_append, List.length_take, List.length_drop]
  omega
theorem out_at {ms : List Pt} {o j : Nat} (h : o < ms.length) : (outM ms o)[j]? = ms[shf o j]? := by
  unfold outM shf
  by_cases hj : j < o
  · rw [if_pos hj, List.getElem?_append_left (by rw [List.length_take]; omega), List.getElem?_take, if_pos hj]
  · rw [if_neg hj, List.getElem?_append_right (by rw [List.length_take]; omega), List.getElem?_drop, List.length_take]
    congr 1
    omega
theorem out_gt {ms : List Pt} {o j : Nat} (h : o < ms.length) : gt (outM ms o) j = gt ms (shf o j) := by
  unfold gt
  rw [List.getD_eq_getElem?_getD, List.getD_eq_getElem?_getD, out_at h]
theorem out_f {n o : Nat} (h : o < n) (c : Nat → Bool) : ((List.range (n - 1)).filter fun j => c (shf o j)).map (shf o) = ((List.range n).filter c).filter fun j => decide (j ≠ o) := by
  have e := List.filter_map (f := shf o) (p := c) (l := List.range (n - 1))
  rw [shf_range h] at e
  rw [List.filter_filter]
  refine Eq.trans e.symm ?_
  rw [List.filter_filter]
  refine List.filter_congr fun j _ => ?_
  exact Bool.and_comm ..
theorem cnt_ne {l : List Nat} (nd : l.Nodup) (o : Nat) : ((l.filter fun j => decide (j ≠ o)).length : Int) = (l.length : Int) - (if o ∈ l then 1 else 0) := by
  induction l with
  | nil => rfl
  | cons x l ih =>
    rw [List.nodup_cons] at nd
    have ih := ih nd.2
    by_cases e : x = o
    · subst e
      rw [List.filter_cons_of_neg (by simp), if_pos List.mem_cons_self, List.length_cons, ih, if_neg nd.1]
      omega
    · rw [List.filter_cons_of_pos (by simp [e]), List.length_cons, List.length_cons]
      have : (o ∈ x :: l) ↔ o ∈ l := by
        rw [List.mem_cons]
        exact ⟨fun h => h.resolve_left (Ne.symm e), .inr⟩
      by_cases h2 : o ∈ l
      · rw [if_pos h2] at ih
        rw [if_pos (this.mpr h2)]
        omega
      · rw [if_neg h2] at ih
        rw [if_neg fun z => h2 (this.mp z)]
        omega
theorem out_cnt {n o : Nat} (h : o < n) (c : Nat → Bool) : (((List.range (n - 1)).filter fun j => c (shf o j)).length : Int) = (((List.range n).filter c).length : Int) - (if c o = true then 1 else 0) := by
  have e := congrArg List.length (out_f h c)
  rw [List.length_map] at e
  rw [e, cnt_ne (List.Pairwise.filter _ List.nodup_range)]
  congr 1
  have : (o ∈ (List.range n).filter c) ↔ c o = true := by
    rw [List.mem_filter, List.mem_range]
    exact ⟨fun z => z.2, fun z => ⟨h, z⟩⟩
  by_cases c1 : c o = true
  · rw [if_pos (this.mpr c1), if_pos c1]
  · rw [if_neg fun z => c1 (this.mp z), if_neg c1]
theorem out_row {ms : List Pt} {o : Nat} (h : o < ms.length) (m : Pt) : rkRow (outM ms o) m = (rB ms m - (if bnQ m.2 (gt ms o).1 = true then 1 else 0), rW ms m - (if bnQ (gt ms o).2 m.1 = true then 0 else 1), ((apt ms m).filter fun j => decide (j ≠ o)).map (uns o)) := by
  unfold rkRow
  refine Prod.ext ?_ (Prod.ext ?_ ?_)
  · show rB (outM ms o) m = rB ms m - (if bnQ m.2 (gt ms o).1 = true then 1 else 0)
    unfold rB abv
    rw [out_len h]
    have := out_cnt h fun j => bnQ m.2 (gt ms j).1
    rw [f_eq (q := fun j => bnQ m.2 (gt ms (shf o j)).1) fun j _ => by rw [out_gt h]]
    omega
  · show rW (outM ms o) m = rW ms m - (if bnQ (gt ms o).2 m.1 = true then 0 else 1)
    unfold rW blw
    rw [out_len h]
    have := out_cnt h fun j => bnQ (gt ms j).2 m.1
    rw [f_eq (q := fun j => bnQ (gt ms (shf o j)).2 m.1) fun j _ => by rw [out_gt h]]
    by_cases c : bnQ (gt ms o).2 m.1 = true
    · rw [if_pos c] at this
      rw [if_pos c]
      omega
    · rw [if_neg c] at this
      rw [if_neg c]
      omega
  · show apt (outM ms o) m = _
    unfold apt
    rw [out_len h, f_eq (q := fun j => bnQ m.2 (gt ms (shf o j)).1 || bnQ (gt ms (shf o j)).2 m.1) fun j _ => by rw [out_gt h]]
    rw [← out_f h fun j => bnQ m.2 (gt ms j).1 || bnQ (gt ms j).2 m.1, List.map_map]
    refine ((List.map_congr_left fun j _ => ?_).trans (List.map_id _)).symm
    show uns o (shf o j) = j
    unfold uns shf
    split <;> split <;> omega

theorem in_nI (j : Nat) (l : List Nat) : inV (.int (0 + (j : Int))) ((nI l).map V.int) = decide (j ∈ l) := by
  rw [Int.zero_add]
  unfold inV nI
  rw [List.any_map, List.any_map]
  by_cases h : j ∈ l
  · rw [decide_eq_true h, List.any_eq_true]
    exact ⟨j, h, by show ((j : Int) == (j : Int)) = true; simp⟩
  · rw [decide_eq_false h, List.any_eq_false]
    intro x hx e
    have e : ((x : Int) == (j : Int)) = true := e
    have e : (x : Int) = (j : Int) := by simpa using e
    have : x = j := by omega
    exact h (this ▸ hx)
theorem flat_ints (l : List Int) : (l.map V.int).all flatV = true := by
  rw [List.all_map]
  exact List.all_eq_true.mpr fun _ _ => rfl
def rkd (b w : Int) (l : List Int) : PyData := .tuple [.int b, .int w, .list (l.map PyData.int)]
theorem rpl_int {K : PySem.W.Frag} {H : Hp} : ∀ (l : List Int), RpL K H (l.map V.int) (l.map PyData.int)
  | [] => .nil
  | x :: l => .cons (.int _) (rpl_int l)
theorem cl_int : ∀ (l : List Int), PyData.canLayAll0 (l.map PyData.int) = true
  | [] => rfl
  | x :: l => by
    show (true && PyData.canLayAll0 (l.map PyData.int)) = true
    rw [cl_int l]
    rfl
theorem dp_int : ∀ (l : List Int), PyData.depthAll (l.map PyData.int) = 0
  | [] => rfl
  | x :: l => by
    show max (PyData.int x).depth (PyData.depthAll (l.map PyData.int)) = 0
    rw [dp_int l]
    rfl
theorem rp_rkd {K : PySem.W.Frag} {H : Hp} {T S : Addr} {b w : Int} {l : List Int} (h1 : H T = some (.tup [.int b, .int w, .ref S])) (h2 : H S = some (.lst (l.map V.int))) : Rp K H (.ref T) (rkd b w l) :=
  .tup (SqT.of h1) (.cons (.int _) (.cons (.int _) (.cons (.lst (SqL.of h2) (rpl_int l)) .nil)))

/-- a row of a ranking, with a list of its own -/
def RwR (D : Addr) (H : Hp) (v : V) (r : Row) : Prop := ∃ T S, v = .ref T ∧ S ≠ D ∧ H T = some (.tup [.int r.1, .int r.2.1, .ref S]) ∧ H S = some (.lst ((nI r.2.2).map V.int))
theorem rw_same {D : Addr} {H H' : Hp} (s : Same H H') {v : V} {r : Row} (h : RwR D H v r) : RwR D H' v r := by
  obtain ⟨T, S, e, n, h1, h2⟩ := h
  exact ⟨T, S, e, n, s _ _ h1, s _ _ h2⟩
theorem rw_upd {D : Addr} {H : Hp} {zs : List V} {o : HO} (hD : H D = some (.lst zs)) {v : V} {r : Row} (h : RwR D H v r) : RwR D (upd H D o) v r := by
  obtain ⟨T, S, e, n, h1, h2⟩ := h
  refine ⟨T, S, e, n, ?_, by rw [upd_ne n]; exact h2⟩
  rw [upd_ne fun z => by rw [z, hD] at h1; cases h1]
  exact h1
def rwd (r : Row) : PyData := rkd r.1 r.2.1 (nI r.2.2)
theorem rpl_rw {K : PySem.W.Frag} {D : Addr} {H : Hp} : ∀ {vs : List V} {rows : List Row}, All2 (RwR D H) vs rows → RpL K H vs (rows.map rwd)
  | _, _, .nil => .nil
  | _, _, .cons ⟨T, S, e, _, h1, h2⟩ r => by
    subst e
    exact .cons (rp_rkd h1 h2) (rpl_rw r)
theorem rkd_cl (b w : Int) (l : List Int) : (rkd b w l).canLay0 = true := by
  show (true && (true && (PyData.canLayAll0 (l.map PyData.int) && true))) = true
  rw [cl_int]
  rfl
theorem rkd_dp (b w : Int) (l : List Int) : (rkd b w l).depth = 2 := by
  show max 0 (max 0 (max (PyData.depthAll (l.map PyData.int) + 1) 0)) + 1 = 2
  rw [dp_int]
  rfl
theorem cl_rw : ∀ (rows : List Row), PyData.canLayAll0 (rows.map rwd) = true
  | [] => rfl
  | r :: rows => by
    show ((rwd r).canLay0 && PyData.canLayAll0 (rows.map rwd)) = true
    rw [cl_rw rows, show (rwd r).canLay0 = true from rkd_cl ..]
    rfl
theorem dp_rw : ∀ (rows : List Row), PyData.depthAll (rows.map rwd) ≤ 2
  | [] => Nat.zero_le _
  | r :: rows => by
    show max (rwd r).depth (PyData.depthAll (rows.map rwd)) ≤ 2
    rw [show (rwd r).depth = 2 from rkd_dp ..]
    have := dp_rw rows
    omega
theorem sh_rw (rows : List Row) : SeqAt.shaped (.list (rows.map rwd)) = true := by
  unfold SeqAt.shaped
  have e : (PyData.list (rows.map rwd)).depth = PyData.depthAll (rows.map rwd) + 1 := rfl
  have := dp_rw rows
  rw [show (PyData.list (rows.map rwd)).canLay0 = true from cl_rw rows, e, Bool.true_and]
  exact decide_eq_true (by omega)
theorem rk_rows {ms : List Pt} {H : Hp} {F : Addr} : ∀ {l : List Pt} {ps : List (V × Addr)}, All2 (fun m (p : V × Addr) => RkR ms H m p.1 p.2) l ps → (∀ p ∈ ps, p.2 ≠ F) → All2 (RwR F H) (ps.map (·.1)) (l.map (rkRow ms))
  | _, _, .nil, _ => .nil
  | _, _, .cons ⟨T, e, h1, h2⟩ t, n => .cons ⟨T, _, e, n _ List.mem_cons_self, h1, h2⟩ (rk_rows t fun p hp => n p (List.mem_cons_of_mem _ hp))
theorem in_nI' (j : Nat) (l : List Nat) : inV (.int (j : Int)) ((nI l).map V.int) = decide (j ∈ l) := by
  have := in_nI j l
  rw [Int.zero_add] at this
  exact this
theorem all2_nat : ∀ (l : List Nat), All2 (fun v (m : Nat) => v = V.int (m : Int)) ((nI l).map V.int) l
  | [] => .nil
  | _ :: l => .cons rfl (all2_nat l)
theorem ins_perm {o : List Nat} {t i : Nat} (pm : o.Perm (List.range i)) : (o.take t ++ i :: o.drop t).Perm (List.range (i + 1)) := by
  rw [List.range_succ]
  refine List.perm_middle.trans ?_
  rw [List.take_append_drop]
  exact (pm.cons i).trans (List.perm_append_comm (l₁ := [i]))
def sp_l_order (K : PySem.W.Frag) (ns : List Int) : Sp := fun vs H Q _ => match vs with
  | [.ref a, .int n] => SqL K H a (ns.map V.int) ∧ (0 ≤ n ∧ n ≤ 8) ∧ ∀ D (o : List Nat) H', Same H H' → H' D = some (.lst ((nI o).map V.int)) → o.Perm (List.range n.toNat) → Q (.ref D) H'
  | _ => False
theorem sc_l_order : FnScope ["_law_script", "_law_count", "_law_order_here", "_law_k"] ["_law_script", "_law_count"] (defScope s_l_order) := ⟨rfl, rfl, rfl, by decide +kernel, rfl, by decide +kernel, by decide +kernel⟩
theorem ok_l_order (d : Dfn K mg "_law_order" s_l_order ["_law_script", "_law_count"])  (n_range : mg "range" = none)  (c_l_draw : Cal P w K mg base "_law_draw" ["_law_script", "_law_k", "_law_many"] 2 (sp_l_draw K ns)) : Cal P w K mg base "_law_order" ["_law_script", "_law_count"] 3 (sp_l_order K ns) := by
  refine d.cal (k := 2) sc_l_order (fun vs H Q E h => ?_) (fun f cdv A outer s H vs Q E hr h => ?_)
  · match vs, h with
    | [.ref a, .int n], _ => rfl
  · match vs, h with
    | [.ref a, .int n], ⟨hS, ⟨n0, n8⟩, q⟩ =>
      refine ⟨_, (pss_cons (ps_set (i := 2) sc_l_order.nd rfl (by first | exact Or.inl rfl | exact Or.inr rfl) (pe_lst pa_nil))
      (pss_cons (ps_for PassesOwn.never rfl (pi_range1 (by rfl) n_range (pa_cons (dv 1) pa_nil)) (pg_name (i := 3) sc_l_order.nd rfl (by first | exact Or.inl rfl | exact Or.inr rfl)) (pss_one (ps_expr (pe_bm PySem.F.plainAttrs_list PySem.F.slot_list_insert PySem.F.type_list_insert mt_insert (dv 2) (pa_cons (e_call c_l_draw hr (by decide) (by rfl) (pa_cons (dv 0) (pa_cons (pe_op o_add pe_int (pe_op o_mul pe_int (dv 3))) (pa_cons (pe_op o_add (dv 3) pe_int) pa_nil)))) (pa_cons (dv 3) pa_nil))))))
      (pss_one (ps_ret (dv 2))))), ?_⟩
      refine ⟨Nat.zero_le _, fun D hD => ?_⟩
      refine ⟨n, rfl, by omega, by omega, for_range (lo := 0) (n := n.toNat) (fun i σ Hx => ∃ (o : List Nat) (o3 : Option V), σ = [some (.ref a), some (.int n), some (.ref D), o3] ∧ Same H Hx ∧ Hx D = some (.lst ((nI o).map V.int)) ∧ o.Perm (List.range i)) ⟨[], none, rfl, same_upd hD, upd_same, .nil⟩ ?_ ?_⟩
      · rintro i σ Hx hi ⟨o, o3, rfl, sx, eD, pm⟩
        have ol : o.length = i := by rw [pm.length_eq, List.length_range]
        have ml : ((nI o).map V.int).length = i := by rw [List.length_map, nI_len, ol]
        have d0 := draw_nn ns (40 + 3 * (0 + (i : Int))) (show (0 : Int) < 0 + (i : Int) + 1 by omega)
        have d1 := draw_lt ns (40 + 3 * (0 + (i : Int))) (show (0 : Int) < 0 + (i : Int) + 1 by omega)
        refine ⟨.inl ⟨rfl, _, SqL.of eD⟩, .inr (.inl ⟨by decide, by decide⟩), sx.seq hS, ⟨by omega, by omega, by omega⟩, D, _, _, _, rfl, rfl, eD, d0, by rw [ml]; omega, by rw [ml]; omega, ?_⟩
        obtain ⟨t, ht⟩ : ∃ t : Nat, (draw ns (40 + 3 * (0 + (i : Int))) (0 + (i : Int) + 1)).toNat = t := ⟨_, rfl⟩
        refine ⟨o.take t ++ i :: o.drop t, _, rfl, same_app' sx hD, ?_, ins_perm pm⟩
        rw [upd_same, ht]
        unfold insV nI
        rw [List.map_append, List.map_append, List.map_cons, List.map_cons, List.map_take, List.map_take, List.map_drop, List.map_drop, Int.zero_add]
      · rintro σ Hx ⟨o, o3, rfl, sx, eD, pm⟩
        exact q D o Hx sx eD pm
def rowD (rows : List Row) (k : Nat) : Row := rows.getD k (0, 0, [])
theorem row_at {D : Addr} {H : Hp} {us : List V} {rows : List Row} (a : All2 (RwR D H) us rows) {k : Nat} (h : k < rows.length) : ∃ T S, atI us (k : Int) = some (.ref T) ∧ S ≠ D ∧ H T = some (.tup [.int (rowD rows k).1, .int (rowD rows k).2.1, .ref S]) ∧ H S = some (.lst ((nI (rowD rows k).2.2).map V.int)) := by
  have hl := a.len
  obtain ⟨r, hr, T, S, e, n, h1, h2⟩ := a.get (List.getElem?_eq_getElem (show k < us.length by omega))
  have er : rowD rows k = r := by
    unfold rowD
    rw [List.getD_eq_getElem?_getD, hr]
    rfl
  rw [er]
  refine ⟨T, S, ?_, n, h1, h2⟩
  rw [← e]
  exact atI_nat (List.getElem?_eq_getElem (by omega))
def sp_l_put (K : PySem.W.Frag) (ns : List Int) : Sp := fun vs H Q _ => match vs with
  | [.ref F, .ref O] => ∃ (us : List V) (rows : List Row) (o : List Nat), (H F = some (.lst us) ∧ All2 (RwR F H) us rows ∧ H O = some (.lst ((nI o).map V.int)) ∧ (∀ j ∈ o, j < rows.length) ∧ o.length ≤ 8) ∧ ∀ D vs H', Same H H' → H' D = some (.lst vs) → All2 (RwR D H') vs (o.map fun k => ((rowD rows k).1, (rowD rows k).2.1, (List.range o.length).filter fun j => decide (o.getD j 0 ∈ (rowD rows k).2.2))) → Q (.ref D) H'
  | _ => False
theorem sc_l_put : FnScope ["_law_found", "_law_order_here", "_law_due", "_law_k"] ["_law_found", "_law_order_here"] (defScope s_l_put) := ⟨rfl, rfl, rfl, by decide +kernel, rfl, by decide +kernel, by decide +kernel⟩
theorem ok_l_put (d : Dfn K mg "_law_put" s_l_put ["_law_found", "_law_order_here"])  (n_range : mg "range" = none) (n_len : mg "len" = none)   : Cal P w K mg base "_law_put" ["_law_found", "_law_order_here"] 1 (sp_l_put K ns) := by
  refine d.cal (k := 0) sc_l_put (fun vs H Q E h => ?_) (fun f cdv A outer s H vs Q E hr h => ?_)
  · match vs, h with
    | [.ref F, .ref O], _ => rfl
  · match vs, h with
    | [.ref F, .ref O], ⟨us, rows, o, ⟨eF, aF, eO, hin, l8⟩, q⟩ =>
      refine ⟨_, (pss_cons (ps_set (i := 2) sc_l_put.nd rfl (by first | exact Or.inl rfl | exact Or.inr rfl) (pe_lst pa_nil))
      (pss_cons (ps_for PassesOwn.never rfl (pi_list (dv 1)) (pg_name (i := 3) sc_l_put.nd rfl (by first | exact Or.inl rfl | exact Or.inr rfl)) (pss_one (ps_expr (pe_bm PySem.F.plainAttrs_list PySem.F.slot_list_append PySem.F.type_list_append mt_append (dv 2) (pa_cons (e_tup (pa_cons (pe_ix i_tup (pe_ix (show IxR _ (dIxL K) from i_lst) (dv 0) (dv 3) (fun _ _ => rfl)) pe_int (fun _ _ => rfl)) (pa_cons (pe_ix i_tup (pe_ix (show IxR _ (dIxL K) from i_lst) (dv 0) (dv 3) (fun _ _ => rfl)) pe_int (fun _ _ => rfl)) (pa_cons (e_compIN ["_law_at"] ["_law_order_here", "_law_found", "_law_k"] [1, 0, 3] rfl (pi_range1 (by rfl) n_range (pa_cons (pe_callB c_len (by rfl) n_len (by decide +kernel) (pa_cons (dv 1) pa_nil)) pa_nil)) (fun C s H fp => (pg_name (i := 0) (show List.Nodup [("_law_at" : Str), ("_law_order_here" : Str), ("_law_found" : Str), ("_law_k" : Str)] by decide +kernel) rfl (by first | exact Or.inl rfl | exact Or.inr rfl))) (fun C s H fp => (t_cmp (show OpR _ _ (dInS K) from o_in) (pe_ix (show IxR _ (dIxL K) from i_lst) (dv 1) (dv 0) (fun _ _ => rfl)) (pe_ix i_tup (pe_ix (show IxR _ (dIxL K) from i_lst) (dv 2) (dv 3) (fun _ _ => rfl)) pe_int (fun _ _ => rfl)) (by with_unfolding_all rfl))) (fun C s H fp => (dv 0)) rfl rfl (by decide +kernel) (by decide +kernel) (by rfl) ⟨rfl, ⟨rfl, ⟨rfl, True.intro⟩⟩⟩ ⟨⟨rfl, rfl, rfl, rfl⟩, ⟨⟨rfl, rfl, rfl, rfl⟩, ⟨⟨rfl, rfl, rfl, rfl⟩, True.intro⟩⟩⟩) pa_nil)))) pa_nil)))))
      (pss_one (ps_ret (dv 2))))), ?_⟩
      refine ⟨Nat.zero_le _, fun D hD => ?_⟩
      have ml : ((nI o).map V.int).length = o.length := by rw [List.length_map, nI_len]
      obtain ⟨f, hf⟩ : ∃ f : Nat → Row, f = fun k => ((rowD rows k).1, (rowD rows k).2.1, (List.range o.length).filter fun j => decide (o.getD j 0 ∈ (rowD rows k).2.2)) := ⟨_, rfl⟩
      rw [← hf] at q
      refine ⟨O, rfl, ⟨_, SqL.of ((same_upd hD) _ _ eO)⟩, for_list (K := K) (a := O) (xs := (nI o).map V.int) (fun i σ Hx => ∃ (vs : List V) (o3 : Option V), σ = [some (.ref F), some (.ref O), some (.ref D), o3] ∧ Same H Hx ∧ Hx D = some (.lst vs) ∧ All2 (RwR D Hx) vs ((o.take i).map f)) ⟨[], none, rfl, same_upd hD, upd_same, .nil⟩ (fun i σ Hx _ ⟨_, _, _, s, _⟩ => SqL.of (s _ _ eO)) ?_ ?_⟩
      · rintro i v σ Hx hv ⟨vs, o3, rfl, sx, eD, aD⟩
        obtain ⟨c, hc, rfl⟩ : ∃ c, o[i]? = some c ∧ v = .int ((c : Nat) : Int) := by
          obtain ⟨c, hc, e⟩ := (all2_nat o).get hv
          exact ⟨c, hc, e⟩
        have hcl := hin c (List.mem_of_getElem? hc)
        have hi : i < o.length := (List.getElem?_eq_some_iff.mp hc).1
        obtain ⟨T, S, hat, _, eT, eS⟩ := row_at aF hcl
        have eFx := sx _ _ eF
        have eOx := sx _ _ eO
        have eTx := sx _ _ eT
        have eSx := sx _ _ eS
        refine ⟨.inl ⟨rfl, _, SqL.of eD⟩, _, _, SqL.of eFx, hat, _, eTx, _, _, SqL.of eFx, hat, _, eTx, _, .inl (SqL.of eOx), _, rfl, by omega, by omega, comp_rngI (n := ((nI o).map V.int).length) (fun j => decide (o.getD j 0 ∈ (rowD rows c).2.2)) (by omega) ?_ ?_⟩
        · intro j H2 hj s2 R R' hR hR'
          have hj : j < o.length := by omega
          have haj : atI ((nI o).map V.int) (0 + (j : Int)) = some (.int ((o.getD j 0 : Nat) : Int)) := by
            rw [Int.zero_add]
            refine atI_nat ?_
            unfold nI
            rw [List.getElem?_map, List.getElem?_map, List.getElem?_eq_getElem hj, List.getD_eq_getElem?_getD, List.getElem?_eq_getElem hj]
            rfl
          refine ⟨rfl, _, _, SqL.of (s2 _ _ eOx), haj, _, _, SqL.of (s2 _ _ eFx), hat, _, s2 _ _ eTx, _, .inl (SqL.of (s2 _ _ eSx)), rfl, flat_ints _, ?_⟩
          rw [in_nI']
          exact ⟨fun h => hR h _ (Same.refl _), fun h => hR' h _ (Same.refl _)⟩
        intro C H2 s2 nC e2 T3 H3 s3 e3
        have nCD : C ≠ D := fun z => by
          rw [z, eD] at nC
          cases nC
        have s23 := s2.trans s3
        have eD3 := s23 _ _ eD
        refine ⟨D, vs, _, rfl, rfl, eD3, ?_, vs ++ [.ref T3], _, rfl, same_app' (sx.trans s23) hD, upd_same, ?_⟩
        · rw [aD.len, List.length_map, List.length_take]
          exact Nat.lt_of_le_of_lt (Nat.min_le_left _ _) (Nat.lt_of_lt_of_le (show i < 100 by omega) (by decide))
        · rw [List.take_add_one, hc, List.map_append]
          refine All2.snoc (R := RwR D _) (a := .ref T3) (b := f c) ?_ ((aD.imp fun v r h => rw_same s23 h).imp fun v r h => rw_upd eD3 h)
          refine rw_upd eD3 ⟨T3, C, rfl, nCD, ?_, ?_⟩
          · rw [hf]
            exact e3
          · rw [hf]
            rw [s3 _ _ e2, ml]
            rfl
      · rintro σ Hx ⟨vs, o3, rfl, sx, eD, aD⟩
        rw [ml, List.take_length] at aD
        exact q D vs Hx sx eD aD
def sp_l_scaled (K : PySem.W.Frag) (ns : List Int) : Sp := fun vs H Q _ => match vs with
  | [.non, .ref b] => Q .non H
  | [.ref p, .ref b] => ∃ x s : Q2, (Fq 60 H p x.1 x.2 ∧ Fq 200 H b s.1 s.2) ∧ ∀ r H', Same H H' → Fq 900 H' r (scQ s x).1 (scQ s x).2 → Q (.ref r) H'
  | _ => False
theorem sc_l_scaled : FnScope ["_law_one", "_law_by"] ["_law_one", "_law_by"] (defScope s_l_scaled) := ⟨rfl, rfl, rfl, by decide +kernel, rfl, by decide +kernel, by decide +kernel⟩
theorem ok_l_scaled (d : Dfn K mg "_law_scaled" s_l_scaled ["_law_one", "_law_by"])    (c_l_low : Cal P w K mg base "_law_low" ["_law_top", "_law_bottom"] 2 (sp_l_low K ns)) : Cal P w K mg base "_law_scaled" ["_law_one", "_law_by"] 3 (sp_l_scaled K ns) := by
  refine d.cal (k := 2) sc_l_scaled (fun vs H Q E h => ?_) (fun f cdv A outer s H vs Q E hr h => ?_)
  · match vs, h with
    | [.non, .ref _], _ => rfl
    | [.ref _, .ref _], _ => rfl
  · refine ⟨_, (pss_cons (s_if (t_isN (dv 0)) (pss_one (ps_ret pe_non)) pss_nil)
      (pss_one (ps_ret (e_call c_l_low hr (by decide) (by rfl) (pa_cons (pe_op o_mul (pe_ix i_tup (dv 0) pe_int (fun _ _ => rfl)) (pe_ix i_tup (dv 1) pe_int (fun _ _ => rfl))) (pa_cons (pe_op o_mul (pe_ix i_tup (dv 0) pe_int (fun _ _ => rfl)) (pe_ix i_tup (dv 1) pe_int (fun _ _ => rfl))) pa_nil)))))), ?_⟩
    match vs, h with
    | [.non, .ref b], k => exact ⟨fun _ => k, fun h => absurd h (by simp)⟩
    | [.ref p, .ref b], ⟨x, s, ⟨h1, h2⟩, k⟩ =>
      have pb := Int.mul_pos h1.pos h2.pos
      have bb := h1.bb.mul h2.bb
      have bt := h1.ba.mul h2.ba
      exact ⟨fun h => absurd h (by simp), fun _ => ⟨_, h1.at', _, h2.at', cok h1.ba h2.ba (by decide) (by decide), _, h1.at', _, h2.at', cok h1.bb h2.bb (by decide) (by decide), ⟨pb, bb.mono (by decide)⟩, fun r H' s e => k r H' s (fq_low e pb (bt.mono (by decide)) (bb.mono (by decide)))⟩⟩

theorem low_le {t b : Int} {x : Q2} (hb : 0 < b) (h : t * x.2 ≤ x.1 * b) : ltQ x (lowT t b, lowB t b) = false := by
  refine ltQ_f.mpr ?_
  show lowT t b * x.2 ≤ x.1 * lowB t b
  have g := gcd_pos' t hb
  have e1 := lowT_mul t b
  have e2 := lowB_mul t b
  refine Int.le_of_mul_le_mul_right (a := (Int.gcd t b : Int)) ?_ g
  rw [Int.mul_right_comm, e1, Int.mul_assoc, e2]
  exact h
def amQ (x y : Q2) : Q2 := (lowT (x.1 * y.2 + y.1 * x.2) (2 * x.2 * y.2), lowB (x.1 * y.2 + y.1 * x.2) (2 * x.2 * y.2))
theorem am_btw {x y : Q2} (px : 0 < x.2) (py : 0 < y.2) (h : ltQ y x = false) : ltQ (amQ x y) x = false ∧ ltQ y (amQ x y) = false := by
  have pb : 0 < 2 * x.2 * y.2 := Int.mul_pos (Int.mul_pos (by decide) px) py
  have h := ltQ_f.mp h
  refine ⟨low_ge pb ?_, low_le pb ?_⟩
  · have h2 := Int.mul_le_mul_of_nonneg_right h (Int.le_of_lt px)
    have e1 : x.1 * (2 * x.2 * y.2) = x.1 * x.2 * y.2 + x.1 * y.2 * x.2 := by grind
    have e2 : (x.1 * y.2 + y.1 * x.2) * x.2 = x.1 * x.2 * y.2 + y.1 * x.2 * x.2 := by grind
    rw [e1, e2]
    omega
  · have h2 := Int.mul_le_mul_of_nonneg_right h (Int.le_of_lt py)
    have e1 : y.1 * (2 * x.2 * y.2) = y.1 * x.2 * y.2 + y.1 * x.2 * y.2 := by grind
    have e2 : (x.1 * y.2 + y.1 * x.2) * y.2 = x.1 * y.2 * y.2 + y.1 * x.2 * y.2 := by grind
    rw [e1, e2]
    omega
theorem nar_refl (m : Pt) : Nar m m := ⟨lt_self _, fun h e => ⟨h, e, lt_self _⟩⟩
def sp_l_narrower (K : PySem.W.Frag) (ns : List Int) : Sp := fun vs H Q _ => match vs with
  | [.ref a, .int k, .ref r] => SqL K H a (ns.map V.int) ∧ (0 ≤ k ∧ k < 900) ∧ ∃ m, (Pq 900 H r m.1 m.2 ∧ POk m ∧ Sm m) ∧ ∀ y m' H', Same H H' → PAt H' y m' → Nar m m' → POk m' → Q y H'
  | _ => False
theorem sc_l_narrower : FnScope ["_law_script", "_law_k", "_law_part", "_law_low_here", "_law_high", "_law_amid"] ["_law_script", "_law_k", "_law_part"] (defScope s_l_narrower) := ⟨rfl, rfl, rfl, by decide +kernel, rfl, by decide +kernel, by decide +kernel⟩
theorem ok_l_narrower (d : Dfn K mg "_law_narrower" s_l_narrower ["_law_script", "_law_k", "_law_part"])    (c_l_draw : Cal P w K mg base "_law_draw" ["_law_script", "_law_k", "_law_many"] 2 (sp_l_draw K ns)) (c_l_low : Cal P w K mg base "_law_low" ["_law_top", "_law_bottom"] 2 (sp_l_low K ns)) : Cal P w K mg base "_law_narrower" ["_law_script", "_law_k", "_law_part"] 3 (sp_l_narrower K ns) := by
  refine d.cal (k := 2) sc_l_narrower (fun vs H Q E h => ?_) (fun f cdv A outer s H vs Q E hr h => ?_)
  · match vs, h with
    | [.ref a, .int k, .ref r], _ => rfl
  · match vs, h with
    | [.ref a, .int k, .ref r], ⟨hS, ⟨k0, k1⟩, m, ⟨pq, om, sm⟩, q⟩ =>
      refine ⟨_, (pss_cons (ps_asg (dv 2) (pg_tup rfl (pgs_cons (pg_name (i := 3) sc_l_narrower.nd rfl (by first | exact Or.inl rfl | exact Or.inr rfl)) (pgs_cons (pg_name (i := 4) sc_l_narrower.nd rfl (by first | exact Or.inl rfl | exact Or.inr rfl)) pgs_nil))))
      (pss_cons (s_if (t_isN (dv 4)) (pss_cons (s_if (t_cmp o_eq (e_call c_l_draw hr (by decide) (by rfl) (pa_cons (dv 0) (pa_cons (dv 1) (pa_cons pe_int pa_nil)))) pe_int (nomark _)) (pss_one (ps_ret (dv 2))) pss_nil)
      (pss_one (ps_ret (e_tup (pa_cons (dv 3) (pa_cons (e_call c_l_low hr (by decide) (by rfl) (pa_cons (pe_op o_add (pe_ix i_tup (dv 3) pe_int (fun _ _ => rfl)) (pe_op o_mul (e_call c_l_draw hr (by decide) (by rfl) (pa_cons (dv 0) (pa_cons (pe_op o_add (dv 1) pe_int) (pa_cons pe_int pa_nil)))) (pe_ix i_tup (dv 3) pe_int (fun _ _ => rfl)))) (pa_cons (pe_ix i_tup (dv 3) pe_int (fun _ _ => rfl)) pa_nil))) pa_nil)))))) pss_nil)
      (pss_cons (ps_set (i := 5) sc_l_narrower.nd rfl (by first | exact Or.inl rfl | exact Or.inr rfl) (e_call c_l_low hr (by decide) (by rfl) (pa_cons (pe_op o_add (pe_op o_mul (pe_ix i_tup (dv 3) pe_int (fun _ _ => rfl)) (pe_ix i_tup (dv 4) pe_int (fun _ _ => rfl))) (pe_op o_mul (pe_ix i_tup (dv 4) pe_int (fun _ _ => rfl)) (pe_ix i_tup (dv 3) pe_int (fun _ _ => rfl)))) (pa_cons (pe_op o_mul (pe_op o_mul pe_int (pe_ix i_tup (dv 3) pe_int (fun _ _ => rfl))) (pe_ix i_tup (dv 4) pe_int (fun _ _ => rfl))) pa_nil))))
      (pss_one (ps_ret (pe_ix i_lst (e_lst (pa_cons (dv 2) (pa_cons (e_tup (pa_cons (dv 5) (pa_cons (dv 4) pa_nil))) (pa_cons (e_tup (pa_cons (dv 3) (pa_cons (dv 5) pa_nil))) (pa_cons (e_tup (pa_cons (dv 5) (pa_cons (dv 5) pa_nil))) pa_nil))))) (e_call c_l_draw hr (by decide) (by rfl) (pa_cons (dv 0) (pa_cons (dv 1) (pa_cons pe_int pa_nil)))) (fun _ _ => rfl))))))), ?_⟩
      obtain ⟨l, w, e, fl, hz⟩ := pq.ex
      refine ⟨r, _, rfl, SqT.of e, rfl, _, _, rfl, _, _, rfl, rfl, ?_⟩
      rcases hz with ⟨e1, rfl⟩ | ⟨h, y, e1, rfl, fh⟩
      · refine ⟨fun _ => ⟨hS, ⟨k0, by omega, by decide⟩, ⟨fun _ => q _ m H (Same.refl _) ⟨r, rfl, pq⟩ (nar_refl m) om, fun _ => ?_⟩⟩, fun h => absurd h (by simp)⟩
        have c0 := draw_nn ns (k + 1) (show (0 : Int) < 9 by decide)
        have c1 := draw_lt ns (k + 1) (show (0 : Int) < 9 by decide)
        have bc : Bd 8 (draw ns (k + 1) 9) := bd_of (b := 200) (by omega) (by omega) (bd_lit rfl)
        have bt : Bd 900 (m.1.1 + draw ns (k + 1) 9 * m.1.2) := (Bd.add (sm.t1.mono (show 60 ≤ 68 by decide)) ((bc.mul sm.b1).mono (show 8 + 60 ≤ 68 by decide))).mono (by decide)
        refine ⟨_, fl.at', hS, ⟨by omega, by omega, by decide⟩, _, fl.at', cok bc sm.b1 (by decide) (by decide), _, fl.at', ⟨fl.pos, sm.b1.mono (by decide)⟩, fun p H1 s1 e2 => fun T H2 s2 e3 => ?_⟩
        have f := fq_low e2 fl.pos bt (sm.b1.mono (by decide))
        have nn := Int.mul_nonneg c0 (Int.le_of_lt fl.pos)
        have hge : ltQ (lowT (m.1.1 + draw ns (k + 1) 9 * m.1.2) m.1.2, lowB (m.1.1 + draw ns (k + 1) 9 * m.1.2) m.1.2) m.1 = false := low_ge fl.pos (Int.mul_le_mul_of_nonneg_right (by omega) (Int.le_of_lt fl.pos))
        refine q _ (m.1, some (lowT (m.1.1 + draw ns (k + 1) 9 * m.1.2) m.1.2, lowB (m.1.1 + draw ns (k + 1) 9 * m.1.2) m.1.2)) H2 (s1.trans s2) ⟨T, rfl, l, _, e3, fl.up (s1.trans s2), .inr ⟨p, _, rfl, rfl, f.up s2⟩⟩ ⟨lt_self _, fun z ez => by rw [e1] at ez; cases ez⟩ ⟨om.nn, om.p1, om.g1, fun z ez => ?_⟩
        cases ez
        exact ⟨f.pos, low_gcd _ fl.pos, hge⟩
      · refine ⟨fun h => absurd h (by simp), fun _ => ?_⟩
        obtain ⟨g31, g32⟩ := sm.g3 y e1
        obtain ⟨y0, y1, y2⟩ := om.g2 y e1
        have two : Bd 2 2 := bd_lit rfl
        have pb : 0 < 2 * m.1.2 * y.2 := Int.mul_pos (Int.mul_pos (by decide) om.p1) y0
        have bb : Bd (2 + 60 + 60) (2 * m.1.2 * y.2) := (two.mul sm.b1).mul g32
        have bt : Bd (60 + 60 + 1) (m.1.1 * y.2 + y.1 * m.1.2) := Bd.add (sm.t1.mul g32) (g31.mul sm.b1)
        refine ⟨_, fl.at', _, fh.at', cok sm.t1 g32 (by decide) (by decide), _, fh.at', _, fl.at', cok g31 sm.b1 (by decide) (by decide), _, fl.at', cok two sm.b1 (by decide) (by decide), _, fh.at', cok (two.mul sm.b1) g32 (by decide) (by decide), ⟨pb, bb.mono (by decide)⟩, fun p H1 s1 e2 => ?_⟩
        have fa := fq_low (n := 900) e2 pb (bt.mono (by decide)) (bb.mono (by decide))
        obtain ⟨b1, b2⟩ := am_btw om.p1 y0 y2
        have ynn : 0 ≤ y.1 := by
          have z := ltQ_f.mp y2
          have z0 := Int.mul_nonneg om.nn (Int.le_of_lt y0)
          refine Int.le_of_mul_le_mul_right (a := m.1.2) ?_ om.p1
          rw [Int.zero_mul]
          omega
        have ann : 0 ≤ (amQ m.1 y).1 := lowT_nn pb (Int.add_nonneg (Int.mul_nonneg om.nn (Int.le_of_lt y0)) (Int.mul_nonneg ynn (Int.le_of_lt om.p1)))
        have ag : Int.gcd (amQ m.1 y).1 (amQ m.1 y).2 = 1 := low_gcd _ pb
        have fa : Fq 900 H1 p (amQ m.1 y).1 (amQ m.1 y).2 := fa
        have ap := fa.pos
        refine fun T1 H2 s2 e3 T2 H3 s3 e4 T3 H4 s4 e5 L H5 s5 e6 => ⟨(s1.trans (s2.trans (s3.trans (s4.trans s5)))).seq hS, ⟨k0, by omega, by decide⟩, ?_⟩
        have sA := s1.trans (s2.trans (s3.trans (s4.trans s5)))
        have sB := s2.trans (s3.trans (s4.trans s5))
        have fa5 := fa.up sB
        have fl5 := fl.up sA
        have fh5 := fh.up sA
        have d0 := draw_nn ns k (show (0 : Int) < 4 by decide)
        have d1 := draw_lt ns k (show (0 : Int) < 4 by decide)
        have : draw ns k 4 = 0 ∨ draw ns k 4 = 1 ∨ draw ns k 4 = 2 ∨ draw ns k 4 = 3 := by omega
        have case : ∃ v, atI [V.ref r, V.ref T1, V.ref T2, V.ref T3] (draw ns k 4) = some v ∧ Q v H5 := by
          rcases this with d | d | d | d <;> rw [d]
          · exact ⟨_, rfl, q _ m H5 sA ⟨r, rfl, pq.up sA⟩ (nar_refl m) om⟩
          · refine ⟨_, rfl, q _ (amQ m.1 y, some y) H5 sA ⟨T1, rfl, p, _, (s3.trans (s4.trans s5)) _ _ e3, fa5, .inr ⟨h, y, rfl, rfl, fh5⟩⟩ ⟨b1, fun z ez => ?_⟩ ⟨ann, ap, ag, fun z ez => ?_⟩⟩
            · rw [e1] at ez
              cases ez
              exact ⟨y, rfl, lt_self _⟩
            · cases ez
              exact ⟨y0, y1, b2⟩
          · refine ⟨_, rfl, q _ (m.1, some (amQ m.1 y)) H5 sA ⟨T2, rfl, l, _, (s4.trans s5) _ _ e4, fl5, .inr ⟨p, _, rfl, rfl, fa5⟩⟩ ⟨lt_self _, fun z ez => ?_⟩ ⟨om.nn, om.p1, om.g1, fun z ez => ?_⟩⟩
            · rw [e1] at ez
              cases ez
              exact ⟨_, rfl, b2⟩
            · cases ez
              exact ⟨ap, ag, b1⟩
          · refine ⟨_, rfl, q _ (amQ m.1 y, some (amQ m.1 y)) H5 sA ⟨T3, rfl, p, _, s5 _ _ e5, fa5, .inr ⟨p, _, rfl, rfl, fa5⟩⟩ ⟨b1, fun z ez => ?_⟩ ⟨ann, ap, ag, fun z ez => ?_⟩⟩
            · rw [e1] at ez
              cases ez
              exact ⟨_, rfl, b2⟩
            · cases ez
              exact ⟨ap, ag, lt_self _⟩
        obtain ⟨v, hv, qv⟩ := case
        exact ⟨_, v, SqL.of e6, hv, qv⟩
theorem all2_truN : ∀ {l : List Nat} {ys : List V}, All2 (fun (_ : Nat) y => y = V.bl true) l ys → ys = (l.map fun _ => true).map V.bl
  | _, _, .nil => rfl
  | _, _, .cons h t => by rw [h, all2_truN t]; rfl
theorem all_truN : ∀ (l : List Nat), (l.map fun _ => true).all id = true
  | [] => rfl
  | _ :: l => all_truN l
def sp_l_tighter (K : PySem.W.Frag) (ns : List Int) : Sp := fun vs H Q _ => match vs with
  | [.ref F, .ref G] => ∃ (us ws : List V) (rows rows' : List Row), (H F = some (.lst us) ∧ All2 (RwR F H) us rows ∧ H G = some (.lst ws) ∧ All2 (RwR G H) ws rows' ∧ (∀ r ∈ rows, r.2.2.length ≤ 20) ∧ All2 (fun (r r' : Row) => r.1 ≤ r'.1 ∧ r'.2.1 ≤ r.2.1 ∧ ∀ j ∈ r.2.2, j ∈ r'.2.2) rows rows') ∧ ∀ H', Same H H' → Q (.bl true) H'
  | _ => False
theorem sc_l_tighter : FnScope ["_law_found", "_law_other", "_law_one", "_law_two"] ["_law_found", "_law_other"] (defScope s_l_tighter) := ⟨rfl, rfl, rfl, by decide +kernel, rfl, by decide +kernel, by decide +kernel⟩
theorem ok_l_tighter (d : Dfn K mg "_law_tighter" s_l_tighter ["_law_found", "_law_other"])  (n_zip : mg "zip" = none) (n_all : mg "all" = none)   : Cal P w K mg base "_law_tighter" ["_law_found", "_law_other"] 1 (sp_l_tighter K ns) := by
  refine d.cal (k := 0) sc_l_tighter (fun vs H Q E h => ?_) (fun f cdv A outer s H vs Q E hr h => ?_)
  · match vs, h with
    | [.ref F, .ref G], _ => rfl
  · match vs, h with
    | [.ref F, .ref G], ⟨us, ws, rows, rows', ⟨eF, aF, eG, aG, l20, ar⟩, q⟩ =>
      refine ⟨_, (pss_cons (ps_for PassesOwn.never rfl (pi_zip true true (by rfl) n_zip (pa_cons (dv 0) (pa_cons (dv 1) pa_nil))) (pg_tup rfl (pgs_cons (pg_name (i := 2) sc_l_tighter.nd rfl (by first | exact Or.inl rfl | exact Or.inr rfl)) (pgs_cons (pg_name (i := 3) sc_l_tighter.nd rfl (by first | exact Or.inl rfl | exact Or.inr rfl)) pgs_nil))) (pss_cons (s_if (L2.PW.pt (w_or (t_cmp o_lt (pe_ix i_tup (dv 3) pe_int (fun _ _ => rfl)) (pe_ix i_tup (dv 2) pe_int (fun _ _ => rfl)) (nomark _)) (pw_or1 (t_cmp o_gt (pe_ix i_tup (dv 3) pe_int (fun _ _ => rfl)) (pe_ix i_tup (dv 2) pe_int (fun _ _ => rfl)) (nomark _))))) (pss_one (ps_ret pe_bl)) pss_nil)
      (pss_one (s_if (pt_not (t_val (pe_callB (c_all rfl) (by rfl) n_all (by decide +kernel) (pa_cons (e_compN ["_law_at"] ["_law_two"] [3] rfl (pi_list (pe_ix i_tup (dv 2) pe_int (fun _ _ => rfl))) (fun C s H fp => (pg_name (i := 0) (show List.Nodup [("_law_at" : Str), ("_law_two" : Str)] by decide +kernel) rfl (by first | exact Or.inl rfl | exact Or.inr rfl))) (fun C s H fp => (pe_cmpR (show OpR _ _ (dInS K) from o_in) (dv 0) (pe_ix i_tup (dv 1) pe_int (fun _ _ => rfl)) (by with_unfolding_all rfl))) rfl rfl (by decide +kernel) (by decide +kernel) (by rfl) ⟨rfl, True.intro⟩ ⟨⟨rfl, rfl, rfl, rfl⟩, True.intro⟩) pa_nil)))) (pss_one (ps_ret pe_bl)) pss_nil))))
      (pss_one (ps_ret pe_bl))), ?_⟩
      have l1 := aF.len
      have l2 := aG.len
      have l3 := ar.len
      refine ⟨⟨_, SqL.of eF⟩, ⟨_, SqL.of eG⟩, for_zip (k1 := true) (k2 := true) (K := K) (a := F) (b := G) (xs := us) (ys := ws) (fun i σ H' => ∃ (o2 o3 : Option V), σ = [some (.ref F), some (.ref G), o2, o3] ∧ Same H H') ⟨_, _, rfl, Same.refl _⟩ (fun i σ H' ⟨_, _, _, s⟩ => ⟨SqL.of (s _ _ eF), SqL.of (s _ _ eG)⟩) (by omega) ?_ ?_⟩
      · rintro i u v t σ H' hu hv ht ⟨o2, o3, rfl, s⟩
        obtain ⟨r, hr, T, S, rfl, _, eT, eS⟩ := aF.get hu
        obtain ⟨r', hr', T', S', rfl, _, eT', eS'⟩ := aG.get hv
        obtain ⟨r2, hr2, q1, q2, q3⟩ := ar.get hr
        rw [hr'] at hr2
        cases hr2
        have s' := s.trans (same_upd (o := .tup [.ref T, .ref T']) ht)
        have eT := s' _ _ eT
        have eS := s' _ _ eS
        have eT' := s' _ _ eT'
        have eS' := s' _ _ eS'
        refine ⟨t, _, rfl, SqT.of upd_same, rfl, _, _, rfl, _, _, rfl, rfl, ?_⟩
        refine ⟨_, eT', _, eT, ⟨fun h => ?_, fun _ => ⟨_, eT', _, eT, ⟨fun h => ?_, fun _ => ?_⟩⟩⟩⟩
        · have h := of_decide_eq_true h
          omega
        · have h := of_decide_eq_true h
          omega
        have ll := l20 r (List.mem_of_getElem? hr)
        refine ⟨_, eT, S, rfl, ⟨_, SqL.of eS⟩, comp_abs (fun _ v (j : Nat) => v = V.int (j : Int)) (fun _ _ _ _ _ h => h) (fun _ _ y => y = V.bl true) (fun _ _ _ _ _ h => h) (by rw [List.length_map, nI_len]; omega) (SqL.of eS) (all2_nat _) ?_ ?_⟩
        · intro v j H2 hM hj s2 R hR
          subst hM
          refine ⟨rfl, _, s2 _ _ eT', _, .inl (SqL.of (s2 _ _ eS')), rfl, flat_ints _, ?_⟩
          rw [in_nI', decide_eq_true (q3 j hj)]
          exact hR _ _ (Same.refl _) rfl
        intro C H2 ys s2 _ e2 a2
        have y2 := all2_truN a2
        rw [y2] at e2
        refine ⟨_, SqL.of e2, ?_⟩
        rw [all_truN]
        exact ⟨fun h => nb h, fun _ => ⟨_, _, rfl, s'.trans s2⟩⟩
      · rintro σ H' ⟨o2, o3, rfl, s⟩
        exact q H' s

theorem uns_int (o j : Nat) : (j : Int) - (if decide ((o : Int) < (j : Int)) = true then (1 : Int) else 0) = ((uns o j : Nat) : Int) := by
  unfold uns
  by_cases h : o < j
  · rw [if_pos h, if_pos (decide_eq_true (by omega))]
    omega
  · rw [if_neg h, if_neg (by rw [decide_eq_false (by omega)]; decide)]
    omega
theorem all2_uns {o : Nat} : ∀ {l : List Nat} {ys : List V}, All2 (fun (j : Nat) y => y = V.int ((uns o j : Nat) : Int)) l ys → ys = (nI (l.map (uns o))).map V.int
  | _, _, .nil => rfl
  | _, _, .cons h t => by rw [h, all2_uns t]; rfl
theorem out_list {ms : List Pt} {o : Nat} (h : o < ms.length) : ((List.range ms.length).filter fun j => decide (j ≠ o)).map (gt ms) = outM ms o := by
  rw [← shf_range h, List.map_map]
  refine List.ext_getElem? fun i => ?_
  rw [List.getElem?_map]
  by_cases hi : i < ms.length - 1
  · rw [List.getElem?_range hi, out_at h]
    have hs : shf o i < ms.length := by
      unfold shf
      split <;> omega
    rw [List.getElem?_eq_getElem hs]
    show some (gt ms (shf o i)) = _
    rw [gt_of (List.getElem?_eq_getElem hs)]
  · rw [List.getElem?_eq_none (by rw [List.length_range]; omega), List.getElem?_eq_none (by rw [out_len h]; omega)]
    rfl
def sp_l_without (K : PySem.W.Frag) (ns : List Int) : Sp := fun vs H Q _ => match vs with
  | [.ref F, .ref P, .int t] => ∃ (us : List V) (ms : List Pt) (o : Nat), (H F = some (.lst us) ∧ All2 (RwR F H) us (ms.map (rkRow ms)) ∧ PtsAt K H P ms ∧ t = (o : Int) ∧ o < ms.length ∧ ms.length ≤ 8) ∧ ∀ D vs H', Same H H' → H' D = some (.lst vs) → All2 (RwR D H') vs ((outM ms o).map (rkRow (outM ms o))) → Q (.ref D) H'
  | _ => False
theorem sc_l_without : FnScope ["_law_found", "_law_parts_here", "_law_out", "_law_due", "_law_k", "_law_higher", "_law_lower", "_law_apart"] ["_law_found", "_law_parts_here", "_law_out"] (defScope s_l_without) := ⟨rfl, rfl, rfl, by decide +kernel, rfl, by decide +kernel, by decide +kernel⟩
theorem ok_l_without (d : Dfn K mg "_law_without" s_l_without ["_law_found", "_law_parts_here", "_law_out"])  (n_range : mg "range" = none) (n_len : mg "len" = none) (n_int : mg "int" = none)  (c_l_less : Cal P w K mg base "_law_less" ["_law_one", "_law_other"] 1 (sp_l_less K ns)) : Cal P w K mg base "_law_without" ["_law_found", "_law_parts_here", "_law_out"] 2 (sp_l_without K ns) := by
  refine d.cal (k := 1) sc_l_without (fun vs H Q E h => ?_) (fun f cdv A outer s H vs Q E hr h => ?_)
  · match vs, h with
    | [.ref F, .ref P, .int t], _ => rfl
  · match vs, h with
    | [.ref F, .ref P, .int t], ⟨us, ms, o, ⟨eF, aF, ⟨vs, hP, aP⟩, et, ho, l8⟩, q⟩ =>
      refine ⟨_, (pss_cons (ps_set (i := 3) sc_l_without.nd rfl (by first | exact Or.inl rfl | exact Or.inr rfl) (pe_lst pa_nil))
      (pss_cons (ps_for PassesOwn.never rfl (pi_range1 (by rfl) n_range (pa_cons (pe_callB c_len (by rfl) n_len (by decide +kernel) (pa_cons (dv 1) pa_nil)) pa_nil)) (pg_name (i := 4) sc_l_without.nd rfl (by first | exact Or.inl rfl | exact Or.inr rfl)) (pss_one (s_if (t_cmp o_ne (dv 4) (dv 2) (nomark _)) (ss_cutE (ps_set (i := 5) sc_l_without.nd rfl (by first | exact Or.inl rfl | exact Or.inr rfl) (e_and (e_notN (pe_ix i_tup (pe_ix i_lst (dv 1) (dv 4) (fun _ _ => rfl)) pe_int (fun _ _ => rfl))) (pe_one (e_call c_l_less hr (by decide) (by rfl) (pa_cons (pe_ix i_tup (pe_ix i_lst (dv 1) (dv 4) (fun _ _ => rfl)) pe_int (fun _ _ => rfl)) (pa_cons (pe_ix i_tup (pe_ix i_lst (dv 1) (dv 2) (fun _ _ => rfl)) pe_int (fun _ _ => rfl)) pa_nil))))))
      (ss_cutE (ps_set (i := 6) sc_l_without.nd rfl (by first | exact Or.inl rfl | exact Or.inr rfl) (e_and (e_notN (pe_ix i_tup (pe_ix i_lst (dv 1) (dv 2) (fun _ _ => rfl)) pe_int (fun _ _ => rfl))) (pe_one (e_call c_l_less hr (by decide) (by rfl) (pa_cons (pe_ix i_tup (pe_ix i_lst (dv 1) (dv 2) (fun _ _ => rfl)) pe_int (fun _ _ => rfl)) (pa_cons (pe_ix i_tup (pe_ix i_lst (dv 1) (dv 4) (fun _ _ => rfl)) pe_int (fun _ _ => rfl)) pa_nil))))))
      (pss_cons (ps_compIN (i := 7) ["_law_at"] ["_law_out"] [2] rfl (pi_list (pe_ix i_tup (pe_ix i_lst (dv 0) (dv 4) (fun _ _ => rfl)) pe_int (fun _ _ => rfl))) (fun C s H fp => (pg_name (i := 0) (show List.Nodup [("_law_at" : Str), ("_law_out" : Str)] by decide +kernel) rfl (by first | exact Or.inl rfl | exact Or.inr rfl))) (fun C s H fp => (t_cmp o_ne (dv 0) (dv 1) (nomark _))) (fun C s H fp => (pe_op o_sub (dv 0) (pe_callTy c_intB (by rfl) n_int (by decide +kernel) (pa_cons (pe_cmpR o_gt (dv 0) (dv 1) (nomark _)) pa_nil)))) rfl rfl (by decide +kernel) (by decide +kernel) (by rfl) ⟨rfl, True.intro⟩ ⟨⟨rfl, rfl, rfl, rfl⟩, True.intro⟩ sc_l_without.nd rfl rfl)
      (pss_one (ps_expr (pe_bm PySem.F.plainAttrs_list PySem.F.slot_list_append PySem.F.type_list_append mt_append (dv 3) (pa_cons (e_tup (pa_cons (pe_op o_sub (pe_ix i_tup (pe_ix i_lst (dv 0) (dv 4) (fun _ _ => rfl)) pe_int (fun _ _ => rfl)) (pe_callTy c_intB (by rfl) n_int (by decide +kernel) (pa_cons (dv 5) pa_nil))) (pa_cons (pe_op o_sub (pe_ix i_tup (pe_ix i_lst (dv 0) (dv 4) (fun _ _ => rfl)) pe_int (fun _ _ => rfl)) (pe_callTy c_intB (by rfl) n_int (by decide +kernel) (pa_cons (e_not (dv 6)) pa_nil))) (pa_cons (dv 7) pa_nil)))) pa_nil))))))) pss_nil)))
      (pss_one (ps_ret (dv 3))))), ?_⟩
      subst et
      have lv := aP.len
      refine ⟨Nat.zero_le _, fun D hD => ?_⟩
      obtain ⟨f, hf⟩ : ∃ f : Nat → Row, f = fun k => rkRow (outM ms o) (gt ms k) := ⟨_, rfl⟩
      have part : ∀ {j : Nat} {H' : Hp}, j < ms.length → Same H H' → ∃ r l w, atI vs (j : Int) = some (.ref r) ∧ H' r = some (.tup [.ref l, w]) ∧ Fq 900 H' l (gt ms j).1.1 (gt ms j).1.2 ∧ ((gt ms j).2 = none ∧ w = .non ∨ ∃ q y, (gt ms j).2 = some y ∧ w = .ref q ∧ Fq 900 H' q y.1 y.2) := fun {j H'} hj s => by
        obtain ⟨y, hy, r, er, pq⟩ := aP.get (List.getElem?_eq_getElem (show j < vs.length by omega))
        obtain ⟨l, w, e, fl, hz⟩ := (pq.up s).ex
        rw [gt_of hy]
        refine ⟨r, l, w, ?_, e, fl, hz⟩
        rw [← er]
        exact atI_nat (List.getElem?_eq_getElem (by omega))
      refine ⟨_, .inl ((same_upd hD).seq hP), _, rfl, by omega, by omega, for_range (lo := 0) (n := vs.length) (fun i σ Hx => ∃ (ws : List V) (o4 o5 o6 o7 : Option V), σ = [some (.ref F), some (.ref P), some (.int (o : Int)), some (.ref D), o4, o5, o6, o7] ∧ Same H Hx ∧ Hx D = some (.lst ws) ∧ All2 (RwR D Hx) ws (((List.range i).filter fun j => decide (j ≠ o)).map f)) ⟨[], none, none, none, none, rfl, same_upd hD, upd_same, .nil⟩ ?_ ?_⟩
      · rintro i σ Hx hi ⟨ws, o4, o5, o6, o7, rfl, sx, eD, aD⟩
        have him : i < ms.length := by omega
        rw [Int.zero_add]
        refine ⟨fun hne => ?_, fun heq => ?_⟩
        · have hne : ¬ (i : Int) = (o : Int) := by simpa using hne
          have hio : i ≠ o := by omega
          obtain ⟨r, l, w, ar, er, fl, hz⟩ := part him sx
          obtain ⟨r', l', w', ar', er', fl', hz'⟩ := part ho sx
          refine ⟨fun σ Hy => σ = [some (.ref F), some (.ref P), some (.int (o : Int)), some (.ref D), some (.int (i : Int)), some (.bl (bnQ (gt ms i).2 (gt ms o).1)), o6, o7] ∧ Hy = Hx, ⟨_, _, sx.seq hP, ar, _, er, ?_⟩, ?_⟩
          · rcases hz with ⟨e1, rfl⟩ | ⟨h, y, e1, rfl, fh⟩
            · refine ⟨fun h => absurd h (by simp), fun _ => ⟨?_, rfl⟩⟩
              rw [e1]
              rfl
            · refine ⟨fun _ => ⟨_, _, sx.seq hP, ar, _, er, _, _, sx.seq hP, ar', _, er', y, _, fh.mono (by decide), fl'.mono (by decide), ?_, rfl⟩, fun h => absurd h (by simp)⟩
              rw [e1]
              rfl
          rintro σ Hy ⟨rfl, eH⟩
          have eH : Hx = Hy := eH.symm
          subst eH
          refine ⟨fun σ Hy => σ = [some (.ref F), some (.ref P), some (.int (o : Int)), some (.ref D), some (.int (i : Int)), some (.bl (bnQ (gt ms i).2 (gt ms o).1)), some (.bl (bnQ (gt ms o).2 (gt ms i).1)), o7] ∧ Hy = Hx, ⟨_, _, sx.seq hP, ar', _, er', ?_⟩, ?_⟩
          · rcases hz' with ⟨e1, rfl⟩ | ⟨h, y, e1, rfl, fh⟩
            · refine ⟨fun h => absurd h (by simp), fun _ => ⟨?_, rfl⟩⟩
              rw [e1]
              rfl
            · refine ⟨fun _ => ⟨_, _, sx.seq hP, ar', _, er', _, _, sx.seq hP, ar, _, er, y, _, fh.mono (by decide), fl.mono (by decide), ?_, rfl⟩, fun h => absurd h (by simp)⟩
              rw [e1]
              rfl
          rintro σ Hy ⟨rfl, eH⟩
          have eH : Hx = Hy := eH.symm
          subst eH
          -- apart
          obtain ⟨T, S, hat, _, eT, eS⟩ := row_at aF (k := i) (by rw [List.length_map]; exact him)
          have erow : rowD (ms.map (rkRow ms)) i = rkRow ms (gt ms i) := by
            unfold rowD
            rw [List.getD_eq_getElem?_getD, List.getElem?_map, List.getElem?_eq_getElem him, gt_of (List.getElem?_eq_getElem him)]
            rfl
          rw [erow] at eT eS
          have eFx := sx _ _ eF
          have eTx := sx _ _ eT
          have eSx := sx _ _ eS
          have la : (apt ms (gt ms i)).length ≤ ms.length := fl_len ..
          refine ⟨_, _, SqL.of eFx, hat, _, eTx, S, rfl, ⟨_, SqL.of eSx⟩, comp_absI (fun _ v (j : Nat) => v = V.int (j : Int)) (fun _ _ _ _ _ h => h) (fun _ j y => y = V.int ((uns o j : Nat) : Int)) (fun _ _ _ _ _ h => h) (fun j => decide (j ≠ o)) (by rw [List.length_map, nI_len]; show (apt ms (gt ms i)).length ≤ 1000; omega) (SqL.of eSx) (all2_nat _) ?_ ?_⟩
          · intro v j H2 hM hj s2 R R' hR hR'
            subst hM
            refine ⟨rfl, ⟨fun h => ?_, fun h => hR' ?_ _ (Same.refl _)⟩⟩
            · have h : ¬ (j : Int) = (o : Int) := by simpa using h
              refine hR (decide_eq_true (by omega)) _ _ (Same.refl _) ?_
              exact congrArg V.int (uns_int o j)
            · have h : (j : Int) = (o : Int) := by simpa using h
              exact decide_eq_false fun z => z (by omega)
          intro C H2 ys s2 nC e2 a2
          have y2 := all2_uns a2
          subst y2
          have nCD : C ≠ D := fun z => by
            rw [z, eD] at nC
            cases nC
          have eF2 := s2 _ _ eFx
          have eT2 := s2 _ _ eTx
          have eD2 := s2 _ _ eD
          refine ⟨.inl ⟨rfl, _, SqL.of eD2⟩, _, _, SqL.of eF2, hat, _, eT2, _, _, SqL.of eF2, hat, _, eT2, fun T3 H3 s3 e3 => ?_⟩
          have eD3 := s3 _ _ eD2
          have s23 := s2.trans s3
          have fr : f i = (rB ms (gt ms i) - (if bnQ (gt ms i).2 (gt ms o).1 = true then 1 else 0), rW ms (gt ms i) - (if bnQ (gt ms o).2 (gt ms i).1 = true then 0 else 1), ((apt ms (gt ms i)).filter fun j => decide (j ≠ o)).map (uns o)) := by
            rw [hf]
            exact out_row ho (gt ms i)
          refine ⟨D, ws, _, rfl, rfl, eD3, ?_, ws ++ [.ref T3], _, _, _, _, rfl, same_app' (sx.trans s23) hD, upd_same, ?_⟩
          · rw [aD.len, List.length_map]
            refine Nat.lt_of_le_of_lt (List.length_filter_le _ _) ?_
            rw [List.length_range]
            exact Nat.lt_of_lt_of_le (show i < 100 by omega) (by decide)
          · have e1 : [i].filter (fun j => decide (j ≠ o)) = [i] := by simp [hio]
            rw [List.range_succ, List.filter_append, e1, List.map_append]
            refine All2.snoc (R := RwR D _) (a := .ref T3) (b := f i) ?_ ((aD.imp fun v r h => rw_same s23 h).imp fun v r h => rw_upd eD3 h)
            refine rw_upd eD3 ⟨T3, C, rfl, nCD, ?_, ?_⟩
            · rw [fr, e3]
              cases bnQ (gt ms o).2 (gt ms i).1 <;> rfl
            · rw [fr]
              exact s3 _ _ e2
        · have heq : (i : Int) = (o : Int) := by simpa using heq
          refine ⟨ws, _, _, _, _, rfl, sx, eD, ?_⟩
          have hio : i = o := by omega
          have e1 : [i].filter (fun j => decide (j ≠ o)) = [] := by simp [hio]
          rw [List.range_succ, List.filter_append, e1, List.append_nil]
          exact aD
      · rintro σ Hx ⟨ws, o4, o5, o6, o7, rfl, sx, eD, aD⟩
        refine q D ws Hx sx eD ?_
        rw [lv] at aD
        rw [← out_list ho, List.map_map]
        rw [hf, ← out_list ho] at aD
        rw [out_list ho] at aD ⊢
        exact aD

/-- [e for j in range(n)], told by places -/
theorem comp_rngP {n : Nat} {g : TG} {te : TE} {k : Nat} {js : List Nat} {σ : L2.St} {H1 : Hp} {Q : VK} (R : Hp → Nat → V → Prop) (up : ∀ j y H H', Kt H H' → R H j y → R H' j y) (hz : n ≤ 1000)
    (hs : ∀ i H2, i < n → Same H1 H2 → ∀ P : VK, (∀ y H3, Same H2 H3 → R H3 i y → P y H3) → g (.int (0 + (i : Int))) (List.replicate k none ++ capσ js σ) H2 fun σ2 H3 => σ2.drop k = capσ js σ ∧ te σ2 H3 P)
    (hq : ∀ D H' ys, Same H1 H' → H1 D = none → H' D = some (.lst ys) → ys.length = n → (∀ (j : Nat) y, ys[j]? = some y → R H' j y) → Q (.ref D) H') : CGoal (Itr 0 n) g te k js σ H1 Q := by
  unfold CGoal
  intro D hD
  refine ⟨fun i m H => m = n - i ∧ i ≤ n ∧ Same H1 H ∧ ∃ ys, H D = some (.lst ys) ∧ ys.length = i ∧ ∀ (j : Nat) y, ys[j]? = some y → R H j y, ⟨n, by simp, Nat.zero_le _, same_upd hD, [], upd_same, rfl, fun j y h => by simp at h⟩, ?_⟩
  rintro i m H ⟨rfl, hi, sm, ys, hH, ly, ar⟩
  by_cases hlt : i < n
  · refine .inr ⟨hlt, fun x H' y => ?_⟩
    obtain ⟨rfl, rfl⟩ := y
    have yl : ys.length < sizeLine := by
      rw [ly]
      exact Nat.lt_of_lt_of_le hlt (Nat.le_trans hz (by decide))
    refine hs i _ hlt sm _ fun y H3 s3 r3 => ⟨ys, s3 _ _ hH, yl, n - (i + 1), by omega, rfl, hlt, same_app' (sm.trans s3) hD, ys ++ [y], upd_same, by rw [List.length_append, ly]; rfl, fun j z hz => ?_⟩
    have kt : Kt H3 (upd H3 D (.lst (ys ++ [y]))) := kt_upd (s3 _ _ hH)
    by_cases hj : j < ys.length
    · rw [List.getElem?_append_left hj] at hz
      exact up _ _ _ _ ((kt_of s3).trans kt) (ar j z hz)
    · have ej : j = i := by
        have := (List.getElem?_eq_some_iff.mp hz).1
        rw [List.length_append, List.length_singleton] at this
        omega
      subst ej
      rw [List.getElem?_append_right (by omega), ly, Nat.sub_self] at hz
      cases hz
      exact up _ _ _ _ kt r3
  · have e : i = n := by omega
    subst e
    exact .inl ⟨Nat.le_refl _, hq D _ ys sm hD hH ly ar⟩
theorem all2_get' {α β : Type} {R : α → β → Prop} : ∀ {l : List α} {m : List β}, l.length = m.length → (∀ (i : Nat) a b, l[i]? = some a → m[i]? = some b → R a b) → All2 R l m
  | [], [], _, _ => .nil
  | [], _ :: _, h, _ => by simp at h
  | _ :: _, [], h, _ => by simp at h
  | a :: l, b :: m, h, f => .cons (f 0 a b rfl rfl) (all2_get' (by simpa using h) fun i x y hx hy => f (i + 1) x y (by simpa using hx) (by simpa using hy))
theorem six_nat (n d k : Nat) : HT.sIx n d (some (k : Int)) = min k n := by
  unfold HT.sIx
  show (if (k : Int) < 0 then ((k : Int) + n).toNat else min (k : Int).toNat n) = min k n
  rw [if_neg (by omega), Int.toNat_natCast]
theorem cut_lo {l : List V} {j : Nat} (h : j ≤ l.length) : cutV l none (some (j : Int)) = l.take j := by
  unfold cutV
  rw [six_nat]
  show (l.drop 0).take (min j l.length - 0) = _
  rw [List.drop_zero, Nat.min_eq_left h]
  rfl
theorem cut_hi {l : List V} {j : Nat} (h : j ≤ l.length) : cutV l (some (j : Int)) none = l.drop j := by
  unfold cutV
  rw [six_nat, Nat.min_eq_left h]
  show (l.drop j).take (l.length - j) = _
  exact List.take_of_length_le (by rw [List.length_drop]; omega)

theorem a2_mapP {β : Type} {H : Hp} {f : β → Pt} : ∀ {l : List β} {ys : List V}, All2 (fun x y => PAt H y (f x)) l ys → All2 (PAt H) ys (l.map f)
  | _, _, .nil => .nil
  | _, _, .cons h t => .cons h (a2_mapP t)
theorem all2_nar {H : Hp} : ∀ {ys : List V} {ms : List Pt}, All2 (fun y m => ∃ m', PAt H y m' ∧ Nar m m' ∧ POk m') ys ms → ∃ ms', All2 (PAt H) ys ms' ∧ All2 (fun m m' => Nar m m' ∧ POk m') ms ms'
  | _, _, .nil => ⟨[], .nil, .nil⟩
  | _, _, .cons ⟨x, h1, h2⟩ t => by
    obtain ⟨xs, a, b⟩ := all2_nar t
    exact ⟨x :: xs, .cons h1 a, .cons h2 b⟩
theorem nar_all {ms ms' : List Pt} (a : All2 (fun m m' => Nar m m' ∧ POk m') ms ms') : ∀ m ∈ ms', POk m := fun m hm => by
  obtain ⟨y, _, r⟩ := (all2_flip a).mem hm
  exact r.2
theorem nar_rows {ms ms' : List Pt} (ok : ∀ m ∈ ms, POk m) (a : All2 (fun m m' => Nar m m' ∧ POk m') ms ms') : ∀ {l l' : List Pt}, All2 (fun m m' => Nar m m' ∧ POk m') l l' → (∀ m ∈ l, POk m) → All2 (fun (r r' : Row) => r.1 ≤ r'.1 ∧ r'.2.1 ≤ r.2.1 ∧ ∀ j ∈ r.2.2, j ∈ r'.2.2) (l.map (rkRow ms)) (l'.map (rkRow ms'))
  | _, _, .nil, _ => .nil
  | _, _, .cons h t, o => .cons (nar_row ok a (o _ List.mem_cons_self) h.2 h.1) (nar_rows ok a t fun m hm => o m (List.mem_cons_of_mem _ hm))
theorem lowT_pos' {t b : Int} (ht : 0 < t) (hb : 0 < b) : 0 < lowT t b := by
  have h := lowT_mul t b
  have g := gcd_pos' t hb
  refine Int.lt_of_not_ge fun c => ?_
  have := Int.mul_nonpos_of_nonpos_of_nonneg c (Int.le_of_lt g)
  omega
theorem row_gt {ms : List Pt} {k : Nat} (h : k < ms.length) : rowD (ms.map (rkRow ms)) k = rkRow ms (gt ms k) := by
  unfold rowD
  rw [List.getD_eq_getElem?_getD, List.getElem?_map, List.getElem?_eq_getElem h, gt_of (List.getElem?_eq_getElem h)]
  rfl
theorem one_row {m : Pt} (h : POk m) : rkRow [m] m = (1, 1, []) := by
  have b : bnQ m.2 m.1 = false := by
    cases e : m.2 with
    | none => rfl
    | some y => exact (h.g2 y e).2.2
  have g : gt [m] 0 = m := rfl
  unfold rkRow rB rW abv blw apt
  show (1 + (((List.range 1).filter fun j => bnQ m.2 (gt [m] j).1).length : Int), (1 : Int) - (((List.range 1).filter fun j => bnQ (gt [m] j).2 m.1).length : Int), (List.range 1).filter fun j => bnQ m.2 (gt [m] j).1 || bnQ (gt [m] j).2 m.1) = _
  have r1 : List.range 1 = [0] := rfl
  rw [r1]
  rw [List.filter_cons_of_neg (by rw [g, b]; decide), List.filter_cons_of_neg (by rw [g, b]; decide), List.filter_cons_of_neg (by rw [g, b]; decide)]
  rfl
theorem sc_law : FnScope ["_law_script", "_law_parts_here", "_law_found", "_law_kind", "_law_order_here", "_law_by", "_law_narrow", "_law_out"] ["_law_script"] (defScope s_law) := ⟨rfl, rfl, rfl, by decide +kernel, rfl, by decide +kernel, by decide +kernel⟩
theorem ok_law (d : Dfn K mg "law" s_law ["_law_script"])  (n_len : mg "len" = none) (n_range : mg "range" = none) (n_list : mg "list" = none)  (c_ranking : Cal P w K mg base "ranking" ["stretches"] 4 (sp_ranking K ns)) (c_l_without : Cal P w K mg base "_law_without" ["_law_found", "_law_parts_here", "_law_out"] 2 (sp_l_without K ns)) (c_l_draw : Cal P w K mg base "_law_draw" ["_law_script", "_law_k", "_law_many"] 2 (sp_l_draw K ns)) (c_l_tighter : Cal P w K mg base "_law_tighter" ["_law_found", "_law_other"] 1 (sp_l_tighter K ns)) (c_l_narrower : Cal P w K mg base "_law_narrower" ["_law_script", "_law_k", "_law_part"] 3 (sp_l_narrower K ns)) (c_l_scaled : Cal P w K mg base "_law_scaled" ["_law_one", "_law_by"] 3 (sp_l_scaled K ns)) (c_l_low : Cal P w K mg base "_law_low" ["_law_top", "_law_bottom"] 2 (sp_l_low K ns)) (c_l_cell_at : Cal P w K mg base "_law_cell_at" ["_law_script", "_law_k"] 1 (sp_l_cell_at K ns)) (c_l_put : Cal P w K mg base "_law_put" ["_law_found", "_law_order_here"] 1 (sp_l_put K ns)) (c_l_order : Cal P w K mg base "_law_order" ["_law_script", "_law_count"] 3 (sp_l_order K ns)) (c_l_parts : Cal P w K mg base "_law_parts" ["_law_script"] 3 (sp_l_parts K ns)) : Cal P w K mg base "law" ["_law_script"] 5 (sp_law K ns) := by
  refine d.cal (k := 4) sc_law (fun vs H Q E h => ?_) (fun f cdv A outer s H vs Q E hr h => ?_)
  · match vs, h with
    | [.ref a], _ => rfl
  · match vs, h with
    | [.ref a], ⟨hS, hl, k⟩ =>
      refine ⟨_, (pss_cons (ps_set (i := 1) sc_law.nd rfl (by first | exact Or.inl rfl | exact Or.inr rfl) (e_call c_l_parts hr (by decide) (by rfl) (pa_cons (dv 0) pa_nil)))
      (pss_cons (ps_set (i := 2) sc_law.nd rfl (by first | exact Or.inl rfl | exact Or.inr rfl) (e_call c_ranking hr (by decide) (by rfl) (pa_cons (pe_callTy c_list (by rfl) n_list (by decide +kernel) (pa_cons (dv 1) pa_nil)) pa_nil)))
      (pss_cons (ps_set (i := 3) sc_law.nd rfl (by first | exact Or.inl rfl | exact Or.inr rfl) (e_call c_l_draw hr (by decide) (by rfl) (pa_cons (dv 0) (pa_cons pe_int (pa_cons pe_int pa_nil)))))
      (pss_cons (s_if (t_cmp o_eq (dv 3) pe_int (nomark _)) (pss_cons (ps_set (i := 4) sc_law.nd rfl (by first | exact Or.inl rfl | exact Or.inr rfl) (e_call c_l_order hr (by decide) (by rfl) (pa_cons (dv 0) (pa_cons (pe_callB c_len (by rfl) n_len (by decide +kernel) (pa_cons (dv 1) pa_nil)) pa_nil))))
      (pss_one (ps_ret (pe_cmpR (o_eqD hr.units) (e_call c_ranking hr (by decide) (by rfl) (pa_cons (e_compN ["_law_k"] ["_law_parts_here"] [1] rfl (pi_list (dv 4)) (fun C s H fp => (pg_name (i := 0) (show List.Nodup [("_law_k" : Str), ("_law_parts_here" : Str)] by decide +kernel) rfl (by first | exact Or.inl rfl | exact Or.inr rfl))) (fun C s H fp => (pe_ix (show IxR _ (dIxL K) from i_lst) (dv 1) (dv 0) (fun _ _ => rfl))) rfl rfl (by decide +kernel) (by decide +kernel) (by rfl) ⟨rfl, True.intro⟩ ⟨⟨rfl, rfl, rfl, rfl⟩, True.intro⟩) pa_nil)) (e_call c_l_put hr (by decide) (by rfl) (pa_cons (dv 2) (pa_cons (dv 4) pa_nil))) (nomark _))))) pss_nil)
      (pss_cons (s_if (t_cmp o_eq (dv 3) pe_int (nomark _)) (pss_cons (ps_set (i := 5) sc_law.nd rfl (by first | exact Or.inl rfl | exact Or.inr rfl) (e_call c_l_low hr (by decide) (by rfl) (pa_cons (pe_op o_add pe_int (pe_op o_mod (pe_op o_mul (e_call c_l_cell_at hr (by decide) (by rfl) (pa_cons (dv 0) (pa_cons pe_int pa_nil))) pe_int) (pe_op o_pow pe_int pe_int))) (pa_cons (pe_op o_add pe_int (e_call c_l_draw hr (by decide) (by rfl) (pa_cons (dv 0) (pa_cons pe_int (pa_cons pe_int pa_nil))))) pa_nil))))
      (pss_one (ps_ret (pe_cmpR (o_eqD hr.units) (e_call c_ranking hr (by decide) (by rfl) (pa_cons (e_compN ["_law_low_here", "_law_high"] ["_law_by"] [5] rfl (pi_list (dv 1)) (fun C s H fp => (show PG _ _ (gTup K 2 _) from pg_tup rfl (pgs_cons (pg_name (i := 0) (show List.Nodup [("_law_low_here" : Str), ("_law_high" : Str), ("_law_by" : Str)] by decide +kernel) rfl (by first | exact Or.inl rfl | exact Or.inr rfl)) (pgs_cons (pg_name (i := 1) (show List.Nodup [("_law_low_here" : Str), ("_law_high" : Str), ("_law_by" : Str)] by decide +kernel) rfl (by first | exact Or.inl rfl | exact Or.inr rfl)) pgs_nil)))) (fun C s H fp => (e_tup (pa_cons (e_call c_l_scaled hr (by decide) (by rfl) (pa_cons (dv 0) (pa_cons (dv 2) pa_nil))) (pa_cons (e_call c_l_scaled hr (by decide) (by rfl) (pa_cons (dv 1) (pa_cons (dv 2) pa_nil))) pa_nil)))) rfl rfl (by decide +kernel) (by decide +kernel) (by rfl) ⟨rfl, True.intro⟩ ⟨⟨rfl, rfl, rfl, rfl⟩, True.intro⟩) pa_nil)) (dv 2) (nomark _))))) pss_nil)
      (pss_cons (s_if (t_cmp o_eq (dv 3) pe_int (nomark _)) (pss_cons (ps_compN (i := 6) ["_law_k"] ["_law_script", "_law_parts_here"] [0, 1] rfl (pi_range1 (by rfl) n_range (pa_cons (pe_callB c_len (by rfl) n_len (by decide +kernel) (pa_cons (dv 1) pa_nil)) pa_nil)) (fun C s H fp => (pg_name (i := 0) (show List.Nodup [("_law_k" : Str), ("_law_script" : Str), ("_law_parts_here" : Str)] by decide +kernel) rfl (by first | exact Or.inl rfl | exact Or.inr rfl))) (fun C s H fp => (e_call c_l_narrower hr (by decide) (by rfl) (pa_cons (dv 1) (pa_cons (pe_op o_add pe_int (pe_op o_mul pe_int (dv 0))) (pa_cons (pe_ix (show IxR _ (dIxL K) from i_lst) (dv 2) (dv 0) (fun _ _ => rfl)) pa_nil))))) rfl rfl (by decide +kernel) (by decide +kernel) (by rfl) ⟨rfl, ⟨rfl, True.intro⟩⟩ ⟨⟨rfl, rfl, rfl, rfl⟩, ⟨⟨rfl, rfl, rfl, rfl⟩, True.intro⟩⟩ sc_law.nd rfl rfl)
      (pss_one (ps_ret (e_and (pe_cmpR o_eq (pe_callB c_len (by rfl) n_len (by decide +kernel) (pa_cons (dv 2) pa_nil)) (pe_callB c_len (by rfl) n_len (by decide +kernel) (pa_cons (dv 1) pa_nil)) (nomark _)) (pe_one (e_call c_l_tighter hr (by decide) (by rfl) (pa_cons (dv 2) (pa_cons (e_call c_ranking hr (by decide) (by rfl) (pa_cons (dv 6) pa_nil)) pa_nil)))))))) pss_nil)
      (pss_cons (s_if (t_cmp o_eq (pe_callB c_len (by rfl) n_len (by decide +kernel) (pa_cons (dv 1) pa_nil)) pe_int (nomark _)) (pss_one (ps_ret (pe_cmpR (o_eqD hr.units) (dv 2) (e_lst (pa_cons (e_tup (pa_cons pe_int (pa_cons pe_int (pa_cons (e_lst pa_nil) pa_nil)))) pa_nil)) (nomark _)))) pss_nil)
      (ss_cutE (ps_set (i := 7) sc_law.nd rfl (by first | exact Or.inl rfl | exact Or.inr rfl) (e_call c_l_draw hr (by decide) (by rfl) (pa_cons (dv 0) (pa_cons pe_int (pa_cons (pe_callB c_len (by rfl) n_len (by decide +kernel) (pa_cons (dv 1) pa_nil)) pa_nil)))))
      (pss_one (ps_ret (pe_cmpR (o_eqD hr.units) (e_call c_ranking hr (by decide) (by rfl) (pa_cons (pe_op o_catL (pe_slice sl_lst (dv 1) po_none (po_some (dv 7))) (pe_slice sl_lst (dv 1) (po_some (pe_op o_add (dv 7) pe_int)) po_none)) pa_nil)) (e_call c_l_without hr (by decide) (by rfl) (pa_cons (dv 2) (pa_cons (dv 1) (pa_cons (dv 7) pa_nil)))) (nomark _)))))))))))), ?_⟩
      refine ⟨hS, fun P vs ms H1 s1 eP aP okS l0 l8 => ?_⟩
      have ok : ∀ m ∈ ms, POk m := fun m hm => (okS m hm).1
      have lv := aP.len
      refine ⟨_, .inl (SqL.of eP), fun Z H2 s2 eZ => ?_⟩
      have aP : All2 (PAt H2) vs ms := aP.imp fun v g r => p_up v g _ _ (kt_of s2) r
      refine ⟨ms, ⟨⟨vs, SqL.of eZ, aP⟩, by omega, ok⟩, fun F ps H3 s3 nF eF aF _ fr => ?_⟩
      have hS3 := (s1.trans (s2.trans s3)).seq hS
      have eP := s3 _ _ (s2 _ _ eP)
      have aP : All2 (PAt H3) vs ms := aP.imp fun v g r => p_up v g _ _ (kt_of s3) r
      have hP : PtsAt K H3 P ms := ⟨vs, SqL.of eP, aP⟩
      have aR : All2 (RwR F H3) (ps.map (·.1)) (ms.map (rkRow ms)) := rk_rows aF fun p hp => (fr p hp).2
      have lr := aR.len
      rw [List.length_map, List.length_map] at lr
      clear s1 s2 s3 hS eZ aF fr nF
      have fin : ∀ {H' : Hp} {rows : List Row} {Q' : VK}, (∀ H', Q' (.bl true) H') → Q' (.bl (PyData.eqv (.list (rows.map rwd)) (.list (rows.map rwd)))) H' := fun h => by
        rw [eqv_shaped (sh_rw _)]
        exact h _
      refine ⟨hS3, ⟨by decide, by decide, by decide⟩, ⟨fun _ => ?_, fun _ => ⟨fun _ => ?_, fun _ => ⟨fun _ => ?_, fun _ => ?_⟩⟩⟩⟩
      -- in another order
      · refine ⟨_, .inl (SqL.of eP), hS3, ⟨by omega, by omega⟩, fun O o H4 s4 eO pm => ?_⟩
        have pm : o.Perm (List.range ms.length) := by
          rw [← lv]
          exact pm
        have ol : o.length = ms.length := by rw [pm.length_eq, List.length_range]
        have hin : ∀ j ∈ o, j < ms.length := fun j hj => List.mem_range.mp (pm.mem_iff.mp hj)
        refine ⟨O, rfl, ⟨_, SqL.of eO⟩, comp_abs (fun _ v (j : Nat) => v = V.int (j : Int)) (fun _ _ _ _ _ h => h) (fun H j y => PAt H y (gt ms j)) (fun j y H H' kt h => p_up y _ H H' kt h) (by rw [List.length_map, nI_len]; omega) (SqL.of eO) (all2_nat _) ?_ ?_⟩
        · intro v j H5 hM hj s5 R hR
          subst hM
          obtain ⟨y, hy, r, er, pq⟩ := aP.get (List.getElem?_eq_getElem (show j < vs.length by rw [lv]; exact hin j hj))
          have hat : atI vs (j : Int) = some (.ref r) := by
            rw [← er]
            exact atI_nat (List.getElem?_eq_getElem _)
          refine ⟨rfl, _, _, SqL.of ((s4.trans s5) _ _ eP), hat, hR _ _ (Same.refl _) ⟨r, rfl, ?_⟩⟩
          rw [gt_of hy]
          exact pq.up (s4.trans s5)
        intro Y H5 ys s5 _ e5 a5
        have a5 : All2 (PAt H5) ys (ord ms o) := a2_mapP a5
        refine ⟨ord ms o, ⟨⟨ys, SqL.of e5, a5⟩, by unfold ord; rw [List.length_map]; omega, fun m hm => ?_⟩, fun G ps2 H6 s6 _ eG aG _ fr2 => ?_⟩
        · obtain ⟨j, hj, rfl⟩ := List.mem_map.mp hm
          exact ok _ (gt_mem (hin j hj))
        have s36 := s4.trans (s5.trans s6)
        have aG := rk_rows aG fun p hp => (fr2 p hp).2
        refine ⟨_, _, o, ⟨s36 _ _ eF, aR.imp fun v r h => rw_same s36 h, (s5.trans s6) _ _ eO, fun j hj => by rw [List.length_map]; exact hin j hj, by omega⟩, fun D ws H7 s7 eD aD => ?_⟩
        have er : (ord ms o).map (rkRow (ord ms o)) = o.map fun k => ((rowD (ms.map (rkRow ms)) k).1, (rowD (ms.map (rkRow ms)) k).2.1, (List.range o.length).filter fun j => decide (o.getD j 0 ∈ (rowD (ms.map (rkRow ms)) k).2.2)) := by
          show (o.map (gt ms)).map (rkRow (ord ms o)) = _
          rw [List.map_map]
          refine List.map_congr_left fun q hq => ?_
          show rkRow (ord ms o) (gt ms q) = _
          rw [ord_row pm, row_gt (hin q hq)]
          rfl
        rw [← er] at aD
        exact ⟨_, _, .lst (SqL.of (s7 _ _ eG)) (rpl_rw (aG.imp fun v r h => rw_same s7 h)), .lst (SqL.of eD) (rpl_rw aD), sh_rw _, sh_rw _, fin k⟩
      -- times a fraction
      · have p50 : (0 : Int) < 10 ^ Int.toNat 50 := by decide
        have z0 := Int.emod_nonneg (cell ns 40 * 982451653) (show (10 : Int) ^ Int.toNat 50 ≠ 0 by decide)
        have z1 := Int.emod_lt_of_pos (cell ns 40 * 982451653) p50
        have d0 := draw_nn ns 41 (show (0 : Int) < 1000 by decide)
        have d1 := draw_lt ns 41 (show (0 : Int) < 1000 by decide)
        have bt : Bd 200 (1 + cell ns 40 * 982451653 % 10 ^ Int.toNat 50) := by
          generalize cell ns 40 * 982451653 % 10 ^ Int.toNat 50 = y at z0 z1
          exact bd_of (b := 10 ^ Int.toNat 50) (by omega) (by omega) (bd_lit rfl)
        have bb : Bd 200 (1 + draw ns 41 1000) := bd_of (b := 1001) (by omega) (by omega) (bd_lit rfl)
        refine ⟨hS3, .inr (.inr ⟨by decide, by decide⟩), ⟨by decide, by decide, by decide⟩, p50, hS3, ⟨by decide, by decide, by decide⟩, ⟨by omega, bb.mono (by decide)⟩, fun B H4 s4 e4 => ?_⟩
        obtain ⟨s, fs, sp⟩ : ∃ s : Q2, Fq 200 H4 B s.1 s.2 ∧ 0 < s.1 := ⟨(_, _), fq_low e4 (by omega) bt bb, lowT_pos' (by omega) (by omega)⟩
        clear e4 bt bb z0 z1
        have aP4 : All2 (PAt H4) vs ms := aP.imp fun v g r => p_up v g _ _ (kt_of s4) r
        refine ⟨P, rfl, ⟨_, SqL.of (s4 _ _ eP)⟩, comp_abs PAt p_up (fun H m y => PAt H y (scM s m)) (fun m y H H' kt h => p_up y _ H H' kt h) (by omega) (SqL.of (s4 _ _ eP)) aP4 ?_ ?_⟩
        · intro v m H5 hM hm s5 R hR
          obtain ⟨r, rfl, pq⟩ := hM
          obtain ⟨l, w, e, fl, hz⟩ := pq.ex
          have sm := (okS m hm).2
          have fl60 : Fq 60 H5 l m.1.1 m.1.2 := ⟨fl.at', fl.pos, sm.t1, sm.b1⟩
          refine ⟨r, _, rfl, SqT.of e, rfl, _, _, rfl, _, _, rfl, rfl, rfl, m.1, s, ⟨fl60, fs.up s5⟩, fun p1 H6 s6 f6 => ?_⟩
          rcases hz with ⟨e1, rfl⟩ | ⟨h, y, e1, rfl, fh⟩
          · refine fun T H7 s7 e7 => hR _ _ (s6.trans s7) ⟨T, rfl, p1, _, e7, f6.up s7, .inl ⟨?_, rfl⟩⟩
            show m.2.map (scQ s) = none
            rw [e1]
            rfl
          · have fh60 : Fq 60 H6 h y.1 y.2 := ⟨s6 _ _ fh.at', fh.pos, (sm.g3 y e1).1, (sm.g3 y e1).2⟩
            refine ⟨y, s, ⟨fh60, (fs.up s5).up s6⟩, fun p2 H7 s7 f7 => fun T H8 s8 e8 => hR _ _ (s6.trans (s7.trans s8)) ⟨T, rfl, p1, _, e8, f6.up (s7.trans s8), .inr ⟨p2, _, ?_, rfl, f7.up s8⟩⟩⟩
            show m.2.map (scQ s) = some (scQ s y)
            rw [e1]
            rfl
        intro Y H5 ys s5 _ e5 a5
        have a5 : All2 (PAt H5) ys (ms.map (scM s)) := a2_mapP a5
        refine ⟨ms.map (scM s), ⟨⟨ys, SqL.of e5, a5⟩, by rw [List.length_map]; omega, fun m hm => ?_⟩, fun G ps2 H6 s6 _ eG aG _ fr2 => ?_⟩
        · obtain ⟨q, hq, rfl⟩ := List.mem_map.mp hm
          exact sc_ok sp fs.pos (ok q hq)
        have aG := rk_rows aG fun p hp => (fr2 p hp).2
        have er : (ms.map (scM s)).map (rkRow (ms.map (scM s))) = ms.map (rkRow ms) := by
          rw [List.map_map]
          refine List.map_congr_left fun q hq => ?_
          exact sc_row sp fs.pos ok (ok q hq)
        rw [er] at aG
        have s36 := s4.trans (s5.trans s6)
        exact ⟨_, _, .lst (SqL.of eG) (rpl_rw aG), .lst (SqL.of (s36 _ _ eF)) (rpl_rw (aR.imp fun v r h => rw_same s36 h)), sh_rw _, sh_rw _, fin k⟩
      -- narrower
      · refine ⟨_, .inl (SqL.of eP), _, rfl, by omega, by omega, comp_rngP (n := vs.length) (fun H j y => ∃ m', PAt H y m' ∧ Nar (gt ms j) m' ∧ POk m') (fun j y H H' kt ⟨x, h1, h2⟩ => ⟨x, p_up y x H H' kt h1, h2⟩) (by omega) ?_ ?_⟩
        · intro j H4 hj s4 R hR
          obtain ⟨y, hy, r, er, pq⟩ := aP.get (List.getElem?_eq_getElem hj)
          have hat : atI vs (0 + (j : Int)) = some (.ref r) := by
            rw [Int.zero_add, ← er]
            exact atI_nat (List.getElem?_eq_getElem hj)
          have oy := okS y (List.mem_of_getElem? hy)
          refine ⟨rfl, .inr (.inl ⟨by decide, by decide⟩), _, _, SqL.of (s4 _ _ eP), hat, s4.seq hS3, ⟨by omega, by omega⟩, y, ⟨pq.up s4, oy.1, oy.2⟩, fun v m' H5 s5 q5 n5 o5 => hR _ _ s5 ⟨m', q5, ?_, o5⟩⟩
          rw [gt_of hy]
          exact n5
        intro W H4 ys s4 _ e4 ly hy
        obtain ⟨ms', a4, an⟩ := all2_nar (H := H4) (all2_get' (R := fun y m => ∃ m', PAt H4 y m' ∧ Nar m m' ∧ POk m') (show ys.length = ms.length by omega) fun j y m h1 h2 => by
          have := hy j y h1
          rw [gt_of h2] at this
          exact this)
        have l4 := an.len
        refine ⟨_, .inl (SqL.of (s4 _ _ eF)), _, .inl (SqL.of (s4 _ _ eP)), ⟨fun _ => ?_, fun h => ?_⟩⟩
        · refine ⟨ms', ⟨⟨ys, SqL.of e4, a4⟩, by omega, nar_all an⟩, fun G ps2 H5 s5 _ eG aG _ fr2 => ?_⟩
          have s35 := s4.trans s5
          refine ⟨_, _, _, _, ⟨s35 _ _ eF, aR.imp fun v r h => rw_same s35 h, eG, rk_rows aG fun p hp => (fr2 p hp).2, fun r hr => ?_, nar_rows ok an an ok⟩, fun H6 s6 => k H6⟩
          obtain ⟨m, hm, rfl⟩ := List.mem_map.mp hr
          have : (apt ms m).length ≤ ms.length := fl_len ..
          show (apt ms m).length ≤ 20
          omega
        · rw [List.length_map, lr, lv] at h
          simp at h
      -- one taken out
      · refine ⟨_, .inl (SqL.of eP), ⟨fun h => ?_, fun h => ?_⟩⟩
        · have h : (vs.length : Int) = 1 := of_decide_eq_true h
          obtain ⟨m, rfl⟩ : ∃ m, ms = [m] := by
            have hlm : ms.length = 1 := by omega
            match ms, hlm with
            | [m], _ => exact ⟨m, rfl⟩
          refine fun L0 H4 s4 e4 T H5 s5 e5 L1 H6 s6 e6 => ?_
          have s36 := s4.trans (s5.trans s6)
          have er : [m].map (rkRow [m]) = [(1, 1, [])] := by
            rw [List.map_cons, one_row (ok m List.mem_cons_self)]
            rfl
          rw [er] at aR
          exact ⟨_, _, .lst (SqL.of (s36 _ _ eF)) (rpl_rw (aR.imp fun v r h => rw_same s36 h)), .lst (SqL.of e6) (.cons (rp_rkd (l := []) (s6 _ _ e5) ((s5.trans s6) _ _ e4)) .nil), sh_rw _, sh_rw [(1, 1, [])], fin (rows := [(1, 1, [])]) k⟩
        · have h : ¬ (vs.length : Int) = 1 := of_decide_eq_false h
          have d0 := draw_nn ns 40 (show (0 : Int) < (vs.length : Int) by omega)
          have d1 := draw_lt ns 40 (show (0 : Int) < (vs.length : Int) by omega)
          obtain ⟨o, ho⟩ : ∃ o : Nat, draw ns 40 (vs.length : Int) = o := ⟨(draw ns 40 (vs.length : Int)).toNat, by omega⟩
          generalize hkd : draw ns 0 4 = kd
          refine ⟨fun σ Hy => σ = [some (.ref a), some (.ref P), some (.ref F), some (.int kd), none, none, none, some (.int (o : Int))] ∧ Hy = H3, ⟨_, .inl (SqL.of eP), hS3, ⟨by decide, by decide, by omega⟩, by rw [← ho, ← hkd]; rfl, rfl⟩, ?_⟩
          rintro σ Hy ⟨rfl, eH⟩
          have eH : H3 = Hy := eH.symm
          subst eH
          have hol : o < ms.length := by omega
          refine ⟨_, rfl, _, SqL.of eP, fun C1 H4 s4 e4 => ⟨_, rfl, _, SqL.of (s4 _ _ eP), fun C2 H5 s5 e5 => ⟨_, _, s5 _ _ e4, e5, ?_, fun C3 H6 s6 e6 => ?_⟩⟩⟩
          · have c1 := cutV_length (xs := vs) (lo := none) (hi := some (o : Int))
            have c2 := cutV_length (xs := vs) (lo := some ((o : Int) + 1)) (hi := none)
            omega
          have s36 := s4.trans (s5.trans s6)
          have e6 : H6 C3 = some (.lst (vs.take o ++ vs.drop (o + 1))) := by
            rw [e6, cut_lo (by omega), show (o : Int) + 1 = ((o + 1 : Nat) : Int) by omega, cut_hi (by omega)]
          have a6 : All2 (PAt H6) (vs.take o ++ vs.drop (o + 1)) (outM ms o) := by
            have a := aP.imp fun v g r => p_up v g _ _ (kt_of s36) r
            exact (a.take o).app (a.drop (o + 1))
          refine ⟨outM ms o, ⟨⟨_, SqL.of e6, a6⟩, by rw [out_len hol]; omega, fun m hm => ?_⟩, fun G ps2 H7 s7 _ eG aG _ fr2 => ?_⟩
          · rcases List.mem_append.mp hm with z | z
            · exact ok m (List.mem_of_mem_take z)
            · exact ok m (List.mem_of_mem_drop z)
          have s37 := s36.trans s7
          have aG := rk_rows aG fun p hp => (fr2 p hp).2
          refine ⟨_, ms, o, ⟨s37 _ _ eF, aR.imp fun v r h => rw_same s37 h, hP.up s37, rfl, hol, l8⟩, fun D ws H8 s8 eD aD => ?_⟩
          exact ⟨_, _, .lst (SqL.of (s8 _ _ eG)) (rpl_rw (aG.imp fun v r h => rw_same s8 h)), .lst (SqL.of eD) (rpl_rw aD), sh_rw _, sh_rw _, fin k⟩

theorem ok_all {ns : List Int} (d_under : Dfn K mg "under" s_under ["one", "other"]) (d_beneath : Dfn K mg "beneath" s_beneath ["one", "other"]) (d_ranking : Dfn K mg "ranking" s_ranking ["stretches"]) (d_rank_of : Dfn K mg "rank_of" s_rank_of ["part", "stretches"]) (d_l_cell_at : Dfn K mg "_law_cell_at" s_l_cell_at ["_law_script", "_law_k"]) (d_l_draw : Dfn K mg "_law_draw" s_l_draw ["_law_script", "_law_k", "_law_many"]) (d_l_rest : Dfn K mg "_law_rest" s_l_rest ["_law_one", "_law_other"]) (d_l_low : Dfn K mg "_law_low" s_l_low ["_law_top", "_law_bottom"]) (d_l_less : Dfn K mg "_law_less" s_l_less ["_law_one", "_law_other"]) (d_l_parts : Dfn K mg "_law_parts" s_l_parts ["_law_script"]) (d_l_order : Dfn K mg "_law_order" s_l_order ["_law_script", "_law_count"]) (d_l_put : Dfn K mg "_law_put" s_l_put ["_law_found", "_law_order_here"]) (d_l_scaled : Dfn K mg "_law_scaled" s_l_scaled ["_law_one", "_law_by"]) (d_l_narrower : Dfn K mg "_law_narrower" s_l_narrower ["_law_script", "_law_k", "_law_part"]) (d_l_tighter : Dfn K mg "_law_tighter" s_l_tighter ["_law_found", "_law_other"]) (d_l_without : Dfn K mg "_law_without" s_l_without ["_law_found", "_law_parts_here", "_law_out"]) (d_law : Dfn K mg "law" s_law ["_law_script"])  (n_abs : mg "abs" = none) (n_all : mg "all" = none) (n_enumerate : mg "enumerate" = none) (n_int : mg "int" = none) (n_len : mg "len" = none) (n_list : mg "list" = none) (n_range : mg "range" = none) (n_sorted : mg "sorted" = none) (n_zip : mg "zip" = none)  : Cal P w K mg base "law" ["_law_script"] 5 (sp_law K ns) := by
  have c_under : Cal P w K mg base "under" ["one", "other"] 1 (sp_under K ns) := ok_under d_under 
  have c_l_cell_at : Cal P w K mg base "_law_cell_at" ["_law_script", "_law_k"] 1 (sp_l_cell_at K ns) := ok_l_cell_at d_l_cell_at n_len
  have c_l_rest : Cal P w K mg base "_law_rest" ["_law_one", "_law_other"] 1 (sp_l_rest K ns) := ok_l_rest d_l_rest 
  have c_l_less : Cal P w K mg base "_law_less" ["_law_one", "_law_other"] 1 (sp_l_less K ns) := ok_l_less d_l_less 
  have c_l_put : Cal P w K mg base "_law_put" ["_law_found", "_law_order_here"] 1 (sp_l_put K ns) := ok_l_put d_l_put n_range n_len
  have c_l_tighter : Cal P w K mg base "_law_tighter" ["_law_found", "_law_other"] 1 (sp_l_tighter K ns) := ok_l_tighter d_l_tighter n_zip n_all
  have c_beneath : Cal P w K mg base "beneath" ["one", "other"] 2 (sp_beneath K ns) := ok_beneath d_beneath c_under
  have c_l_draw : Cal P w K mg base "_law_draw" ["_law_script", "_law_k", "_law_many"] 2 (sp_l_draw K ns) := ok_l_draw d_l_draw c_l_cell_at
  have c_l_low : Cal P w K mg base "_law_low" ["_law_top", "_law_bottom"] 2 (sp_l_low K ns) := ok_l_low d_l_low n_abs c_l_rest
  have c_l_without : Cal P w K mg base "_law_without" ["_law_found", "_law_parts_here", "_law_out"] 2 (sp_l_without K ns) := ok_l_without d_l_without n_range n_len n_int c_l_less
  have c_rank_of : Cal P w K mg base "rank_of" ["part", "stretches"] 3 (sp_rank_of K ns) := ok_rank_of d_rank_of n_sorted n_len n_enumerate c_beneath
  have c_l_parts : Cal P w K mg base "_law_parts" ["_law_script"] 3 (sp_l_parts K ns) := ok_l_parts d_l_parts n_range n_len c_l_less c_l_draw c_l_low
  have c_l_order : Cal P w K mg base "_law_order" ["_law_script", "_law_count"] 3 (sp_l_order K ns) := ok_l_order d_l_order n_range c_l_draw
  have c_l_scaled : Cal P w K mg base "_law_scaled" ["_law_one", "_law_by"] 3 (sp_l_scaled K ns) := ok_l_scaled d_l_scaled c_l_low
  have c_l_narrower : Cal P w K mg base "_law_narrower" ["_law_script", "_law_k", "_law_part"] 3 (sp_l_narrower K ns) := ok_l_narrower d_l_narrower c_l_draw c_l_low
  have c_ranking : Cal P w K mg base "ranking" ["stretches"] 4 (sp_ranking K ns) := ok_ranking d_ranking c_rank_of
  have c_law : Cal P w K mg base "law" ["_law_script"] 5 (sp_law K ns) := ok_law d_law n_len n_range n_list c_ranking c_l_without c_l_draw c_l_tighter c_l_narrower c_l_scaled c_l_low c_l_cell_at c_l_put c_l_order c_l_parts
  exact c_law
end
theorem all_mk {l : PySem.W.OpenLaw} {w : World} {K : PySem.W.Frag} {h : Heap} {mg : Str → Option Value} {fa : Addr} {f0 : Addr} {od0 an0 : Option Addr} {sl0 : Array (Option Value)} {oc0 kV0 dc0 pm0 cd0 ct0 : Value} {f1 : Addr} {od1 an1 : Option Addr} {sl1 : Array (Option Value)} {oc1 kV1 dc1 pm1 cd1 ct1 : Value} {f2 : Addr} {od2 an2 : Option Addr} {sl2 : Array (Option Value)} {oc2 kV2 dc2 pm2 cd2 ct2 : Value} {f3 : Addr} {od3 an3 : Option Addr} {sl3 : Array (Option Value)} {oc3 kV3 dc3 pm3 cd3 ct3 : Value} {f4 : Addr} {od4 an4 : Option Addr} {sl4 : Array (Option Value)} {oc4 kV4 dc4 pm4 cd4 ct4 : Value} {f5 : Addr} {od5 an5 : Option Addr} {sl5 : Array (Option Value)} {oc5 kV5 dc5 pm5 cd5 ct5 : Value} {f6 : Addr} {od6 an6 : Option Addr} {sl6 : Array (Option Value)} {oc6 kV6 dc6 pm6 cd6 ct6 : Value} {f7 : Addr} {od7 an7 : Option Addr} {sl7 : Array (Option Value)} {oc7 kV7 dc7 pm7 cd7 ct7 : Value} {f8 : Addr} {od8 an8 : Option Addr} {sl8 : Array (Option Value)} {oc8 kV8 dc8 pm8 cd8 ct8 : Value} {f9 : Addr} {od9 an9 : Option Addr} {sl9 : Array (Option Value)} {oc9 kV9 dc9 pm9 cd9 ct9 : Value} {f10 : Addr} {od10 an10 : Option Addr} {sl10 : Array (Option Value)} {oc10 kV10 dc10 pm10 cd10 ct10 : Value} {f11 : Addr} {od11 an11 : Option Addr} {sl11 : Array (Option Value)} {oc11 kV11 dc11 pm11 cd11 ct11 : Value} {f12 : Addr} {od12 an12 : Option Addr} {sl12 : Array (Option Value)} {oc12 kV12 dc12 pm12 cd12 ct12 : Value} {f13 : Addr} {od13 an13 : Option Addr} {sl13 : Array (Option Value)} {oc13 kV13 dc13 pm13 cd13 ct13 : Value} {f14 : Addr} {od14 an14 : Option Addr} {sl14 : Array (Option Value)} {oc14 kV14 dc14 pm14 cd14 ct14 : Value} {f15 : Addr} {od15 an15 : Option Addr} {sl15 : Array (Option Value)} {oc15 kV15 dc15 pm15 cd15 ct15 : Value} {f16 : Addr} {od16 an16 : Option Addr} {sl16 : Array (Option Value)} {oc16 kV16 dc16 pm16 cd16 ct16 : Value} (X : K.In h) (G : h.Ns mainGlobals mg) (hfa : mg "law" = some (.ref fa)) (a0 : PySem.W.nsIn K mainGlobals "under" = some (some (.ref f0))) (l0 : K.lookup f0 = some ⟨oc0, od0, .func (PySem.W.fnOf "under" "under" (defArgs s_under) (defBody s_under) (defScope s_under) .none kV0 dc0 pm0 an0 cd0 ct0), sl0⟩) (e0 : PySem.W.codeIn K cd0 "under" = true) (k0 : PySem.W.keepIn K (.ref f0) = true) (a1 : PySem.W.nsIn K mainGlobals "beneath" = some (some (.ref f1))) (l1 : K.lookup f1 = some ⟨oc1, od1, .func (PySem.W.fnOf "beneath" "beneath" (defArgs s_beneath) (defBody s_beneath) (defScope s_beneath) .none kV1 dc1 pm1 an1 cd1 ct1), sl1⟩) (e1 : PySem.W.codeIn K cd1 "beneath" = true) (k1 : PySem.W.keepIn K (.ref f1) = true) (a2 : PySem.W.nsIn K mainGlobals "ranking" = some (some (.ref f2))) (l2 : K.lookup f2 = some ⟨oc2, od2, .func (PySem.W.fnOf "ranking" "ranking" (defArgs s_ranking) (defBody s_ranking) (defScope s_ranking) .none kV2 dc2 pm2 an2 cd2 ct2), sl2⟩) (e2 : PySem.W.codeIn K cd2 "ranking" = true) (k2 : PySem.W.keepIn K (.ref f2) = true) (a3 : PySem.W.nsIn K mainGlobals "rank_of" = some (some (.ref f3))) (l3 : K.lookup f3 = some ⟨oc3, od3, .func (PySem.W.fnOf "rank_of" "rank_of" (defArgs s_rank_of) (defBody s_rank_of) (defScope s_rank_of) .none kV3 dc3 pm3 an3 cd3 ct3), sl3⟩) (e3 : PySem.W.codeIn K cd3 "rank_of" = true) (k3 : PySem.W.keepIn K (.ref f3) = true) (a4 : PySem.W.nsIn K mainGlobals "_law_cell_at" = some (some (.ref f4))) (l4 : K.lookup f4 = some ⟨oc4, od4, .func (PySem.W.fnOf "_law_cell_at" "_law_cell_at" (defArgs s_l_cell_at) (defBody s_l_cell_at) (defScope s_l_cell_at) .none kV4 dc4 pm4 an4 cd4 ct4), sl4⟩) (e4 : PySem.W.codeIn K cd4 "_law_cell_at" = true) (k4 : PySem.W.keepIn K (.ref f4) = true) (a5 : PySem.W.nsIn K mainGlobals "_law_draw" = some (some (.ref f5))) (l5 : K.lookup f5 = some ⟨oc5, od5, .func (PySem.W.fnOf "_law_draw" "_law_draw" (defArgs s_l_draw) (defBody s_l_draw) (defScope s_l_draw) .none kV5 dc5 pm5 an5 cd5 ct5), sl5⟩) (e5 : PySem.W.codeIn K cd5 "_law_draw" = true) (k5 : PySem.W.keepIn K (.ref f5) = true) (a6 : PySem.W.nsIn K mainGlobals "_law_rest" = some (some (.ref f6))) (l6 : K.lookup f6 = some ⟨oc6, od6, .func (PySem.W.fnOf "_law_rest" "_law_rest" (defArgs s_l_rest) (defBody s_l_rest) (defScope s_l_rest) .none kV6 dc6 pm6 an6 cd6 ct6), sl6⟩) (e6 : PySem.W.codeIn K cd6 "_law_rest" = true) (k6 : PySem.W.keepIn K (.ref f6) = true) (a7 : PySem.W.nsIn K mainGlobals "_law_low" = some (some (.ref f7))) (l7 : K.lookup f7 = some ⟨oc7, od7, .func (PySem.W.fnOf "_law_low" "_law_low" (defArgs s_l_low) (defBody s_l_low) (defScope s_l_low) .none kV7 dc7 pm7 an7 cd7 ct7), sl7⟩) (e7 : PySem.W.codeIn K cd7 "_law_low" = true) (k7 : PySem.W.keepIn K (.ref f7) = true) (a8 : PySem.W.nsIn K mainGlobals "_law_less" = some (some (.ref f8))) (l8 : K.lookup f8 = some ⟨oc8, od8, .func (PySem.W.fnOf "_law_less" "_law_less" (defArgs s_l_less) (defBody s_l_less) (defScope s_l_less) .none kV8 dc8 pm8 an8 cd8 ct8), sl8⟩) (e8 : PySem.W.codeIn K cd8 "_law_less" = true) (k8 : PySem.W.keepIn K (.ref f8) = true) (a9 : PySem.W.nsIn K mainGlobals "_law_parts" = some (some (.ref f9))) (l9 : K.lookup f9 = some ⟨oc9, od9, .func (PySem.W.fnOf "_law_parts" "_law_parts" (defArgs s_l_parts) (defBody s_l_parts) (defScope s_l_parts) .none kV9 dc9 pm9 an9 cd9 ct9), sl9⟩) (e9 : PySem.W.codeIn K cd9 "_law_parts" = true) (k9 : PySem.W.keepIn K (.ref f9) = true) (a10 : PySem.W.nsIn K mainGlobals "_law_order" = some (some (.ref f10))) (l10 : K.lookup f10 = some ⟨oc10, od10, .func (PySem.W.fnOf "_law_order" "_law_order" (defArgs s_l_order) (defBody s_l_order) (defScope s_l_order) .none kV10 dc10 pm10 an10 cd10 ct10), sl10⟩) (e10 : PySem.W.codeIn K cd10 "_law_order" = true) (k10 : PySem.W.keepIn K (.ref f10) = true) (a11 : PySem.W.nsIn K mainGlobals "_law_put" = some (some (.ref f11))) (l11 : K.lookup f11 = some ⟨oc11, od11, .func (PySem.W.fnOf "_law_put" "_law_put" (defArgs s_l_put) (defBody s_l_put) (defScope s_l_put) .none kV11 dc11 pm11 an11 cd11 ct11), sl11⟩) (e11 : PySem.W.codeIn K cd11 "_law_put" = true) (k11 : PySem.W.keepIn K (.ref f11) = true) (a12 : PySem.W.nsIn K mainGlobals "_law_scaled" = some (some (.ref f12))) (l12 : K.lookup f12 = some ⟨oc12, od12, .func (PySem.W.fnOf "_law_scaled" "_law_scaled" (defArgs s_l_scaled) (defBody s_l_scaled) (defScope s_l_scaled) .none kV12 dc12 pm12 an12 cd12 ct12), sl12⟩) (e12 : PySem.W.codeIn K cd12 "_law_scaled" = true) (k12 : PySem.W.keepIn K (.ref f12) = true) (a13 : PySem.W.nsIn K mainGlobals "_law_narrower" = some (some (.ref f13))) (l13 : K.lookup f13 = some ⟨oc13, od13, .func (PySem.W.fnOf "_law_narrower" "_law_narrower" (defArgs s_l_narrower) (defBody s_l_narrower) (defScope s_l_narrower) .none kV13 dc13 pm13 an13 cd13 ct13), sl13⟩) (e13 : PySem.W.codeIn K cd13 "_law_narrower" = true) (k13 : PySem.W.keepIn K (.ref f13) = true) (a14 : PySem.W.nsIn K mainGlobals "_law_tighter" = some (some (.ref f14))) (l14 : K.lookup f14 = some ⟨oc14, od14, .func (PySem.W.fnOf "_law_tighter" "_law_tighter" (defArgs s_l_tighter) (defBody s_l_tighter) (defScope s_l_tighter) .none kV14 dc14 pm14 an14 cd14 ct14), sl14⟩) (e14 : PySem.W.codeIn K cd14 "_law_tighter" = true) (k14 : PySem.W.keepIn K (.ref f14) = true) (a15 : PySem.W.nsIn K mainGlobals "_law_without" = some (some (.ref f15))) (l15 : K.lookup f15 = some ⟨oc15, od15, .func (PySem.W.fnOf "_law_without" "_law_without" (defArgs s_l_without) (defBody s_l_without) (defScope s_l_without) .none kV15 dc15 pm15 an15 cd15 ct15), sl15⟩) (e15 : PySem.W.codeIn K cd15 "_law_without" = true) (k15 : PySem.W.keepIn K (.ref f15) = true) (a16 : PySem.W.nsIn K mainGlobals "law" = some (some (.ref f16))) (l16 : K.lookup f16 = some ⟨oc16, od16, .func (PySem.W.fnOf "law" "law" (defArgs s_law) (defBody s_law) (defScope s_law) .none kV16 dc16 pm16 an16 cd16 ct16), sl16⟩) (e16 : PySem.W.codeIn K cd16 "law" = true) (k16 : PySem.W.keepIn K (.ref f16) = true) (z_abs : PySem.W.nsIn K mainGlobals "abs" = some none) (z_all : PySem.W.nsIn K mainGlobals "all" = some none) (z_enumerate : PySem.W.nsIn K mainGlobals "enumerate" = some none) (z_int : PySem.W.nsIn K mainGlobals "int" = some none) (z_len : PySem.W.nsIn K mainGlobals "len" = some none) (z_list : PySem.W.nsIn K mainGlobals "list" = some none) (z_range : PySem.W.nsIn K mainGlobals "range" = some none) (z_sorted : PySem.W.nsIn K mainGlobals "sorted" = some none) (z_zip : PySem.W.nsIn K mainGlobals "zip" = some none) :
    ∃ fd : FuncData, (∀ (s : Shared) (v : Value), BindsTo s fd ⟨[v], []⟩ [("_law_script", v)]) ∧ ∀ base : Heap, K.In base → base.Ns mainGlobals mg → FnOk l.prog w K mg base (CXE l.prog w) 5 fa fd ["_law_script"] (sp_lawA K) := by
  have F0 := fun_mk (st := s_under) l0 e0 k0
  have d0 : Dfn K mg "under" s_under ["one", "other"] := ⟨⟨_, _, F0, PySem.W.mg_of X G a0, F0.binds fun _ _ _ _ _ _ us hl => match us, hl with | [_, _], _ => rfl⟩⟩
  have F1 := fun_mk (st := s_beneath) l1 e1 k1
  have d1 : Dfn K mg "beneath" s_beneath ["one", "other"] := ⟨⟨_, _, F1, PySem.W.mg_of X G a1, F1.binds fun _ _ _ _ _ _ us hl => match us, hl with | [_, _], _ => rfl⟩⟩
  have F2 := fun_mk (st := s_ranking) l2 e2 k2
  have d2 : Dfn K mg "ranking" s_ranking ["stretches"] := ⟨⟨_, _, F2, PySem.W.mg_of X G a2, F2.binds fun _ _ _ _ _ _ us hl => match us, hl with | [_], _ => rfl⟩⟩
  have F3 := fun_mk (st := s_rank_of) l3 e3 k3
  have d3 : Dfn K mg "rank_of" s_rank_of ["part", "stretches"] := ⟨⟨_, _, F3, PySem.W.mg_of X G a3, F3.binds fun _ _ _ _ _ _ us hl => match us, hl with | [_, _], _ => rfl⟩⟩
  have F4 := fun_mk (st := s_l_cell_at) l4 e4 k4
  have d4 : Dfn K mg "_law_cell_at" s_l_cell_at ["_law_script", "_law_k"] := ⟨⟨_, _, F4, PySem.W.mg_of X G a4, F4.binds fun _ _ _ _ _ _ us hl => match us, hl with | [_, _], _ => rfl⟩⟩
  have F5 := fun_mk (st := s_l_draw) l5 e5 k5
  have d5 : Dfn K mg "_law_draw" s_l_draw ["_law_script", "_law_k", "_law_many"] := ⟨⟨_, _, F5, PySem.W.mg_of X G a5, F5.binds fun _ _ _ _ _ _ us hl => match us, hl with | [_, _, _], _ => rfl⟩⟩
  have F6 := fun_mk (st := s_l_rest) l6 e6 k6
  have d6 : Dfn K mg "_law_rest" s_l_rest ["_law_one", "_law_other"] := ⟨⟨_, _, F6, PySem.W.mg_of X G a6, F6.binds fun _ _ _ _ _ _ us hl => match us, hl with | [_, _], _ => rfl⟩⟩
  have F7 := fun_mk (st := s_l_low) l7 e7 k7
  have d7 : Dfn K mg "_law_low" s_l_low ["_law_top", "_law_bottom"] := ⟨⟨_, _, F7, PySem.W.mg_of X G a7, F7.binds fun _ _ _ _ _ _ us hl => match us, hl with | [_, _], _ => rfl⟩⟩
  have F8 := fun_mk (st := s_l_less) l8 e8 k8
  have d8 : Dfn K mg "_law_less" s_l_less ["_law_one", "_law_other"] := ⟨⟨_, _, F8, PySem.W.mg_of X G a8, F8.binds fun _ _ _ _ _ _ us hl => match us, hl with | [_, _], _ => rfl⟩⟩
  have F9 := fun_mk (st := s_l_parts) l9 e9 k9
  have d9 : Dfn K mg "_law_parts" s_l_parts ["_law_script"] := ⟨⟨_, _, F9, PySem.W.mg_of X G a9, F9.binds fun _ _ _ _ _ _ us hl => match us, hl with | [_], _ => rfl⟩⟩
  have F10 := fun_mk (st := s_l_order) l10 e10 k10
  have d10 : Dfn K mg "_law_order" s_l_order ["_law_script", "_law_count"] := ⟨⟨_, _, F10, PySem.W.mg_of X G a10, F10.binds fun _ _ _ _ _ _ us hl => match us, hl with | [_, _], _ => rfl⟩⟩
  have F11 := fun_mk (st := s_l_put) l11 e11 k11
  have d11 : Dfn K mg "_law_put" s_l_put ["_law_found", "_law_order_here"] := ⟨⟨_, _, F11, PySem.W.mg_of X G a11, F11.binds fun _ _ _ _ _ _ us hl => match us, hl with | [_, _], _ => rfl⟩⟩
  have F12 := fun_mk (st := s_l_scaled) l12 e12 k12
  have d12 : Dfn K mg "_law_scaled" s_l_scaled ["_law_one", "_law_by"] := ⟨⟨_, _, F12, PySem.W.mg_of X G a12, F12.binds fun _ _ _ _ _ _ us hl => match us, hl with | [_, _], _ => rfl⟩⟩
  have F13 := fun_mk (st := s_l_narrower) l13 e13 k13
  have d13 : Dfn K mg "_law_narrower" s_l_narrower ["_law_script", "_law_k", "_law_part"] := ⟨⟨_, _, F13, PySem.W.mg_of X G a13, F13.binds fun _ _ _ _ _ _ us hl => match us, hl with | [_, _, _], _ => rfl⟩⟩
  have F14 := fun_mk (st := s_l_tighter) l14 e14 k14
  have d14 : Dfn K mg "_law_tighter" s_l_tighter ["_law_found", "_law_other"] := ⟨⟨_, _, F14, PySem.W.mg_of X G a14, F14.binds fun _ _ _ _ _ _ us hl => match us, hl with | [_, _], _ => rfl⟩⟩
  have F15 := fun_mk (st := s_l_without) l15 e15 k15
  have d15 : Dfn K mg "_law_without" s_l_without ["_law_found", "_law_parts_here", "_law_out"] := ⟨⟨_, _, F15, PySem.W.mg_of X G a15, F15.binds fun _ _ _ _ _ _ us hl => match us, hl with | [_, _, _], _ => rfl⟩⟩
  have F16 := fun_mk (st := s_law) l16 e16 k16
  have d16 : Dfn K mg "law" s_law ["_law_script"] := ⟨⟨_, _, F16, PySem.W.mg_of X G a16, F16.binds fun _ _ _ _ _ _ us hl => match us, hl with | [_], _ => rfl⟩⟩
  have e := hfa.symm.trans (PySem.W.mg_of X G a16)
  cases e
  exact ⟨PySem.W.fnOf "law" "law" (defArgs s_law) (defBody s_law) (defScope s_law) .none kV16 dc16 pm16 an16 cd16 ct16, fun s v => .of_eq rfl, fun base _ _ => law_fn F16 (PySem.W.mg_of X G a16) fun ns => ok_all (ns := ns) d0 d1 d2 d3 d4 d5 d6 d7 d8 d9 d10 d11 d12 d13 d14 d15 d16  (PySem.W.mg_none_of X G z_abs) (PySem.W.mg_none_of X G z_all) (PySem.W.mg_none_of X G z_enumerate) (PySem.W.mg_none_of X G z_int) (PySem.W.mg_none_of X G z_len) (PySem.W.mg_none_of X G z_list) (PySem.W.mg_none_of X G z_range) (PySem.W.mg_none_of X G z_sorted) (PySem.W.mg_none_of X G z_zip) ⟩
theorem walk {l : PySem.W.OpenLaw} {q : Program} {loose : List Str} {XP : (Str → Option Value) → Heap → Prop} {YP : World → Heap → Prop} {d : DefRec} {K : Params → PySem.W.Frag} (hn : l.most = some 63) (hdf : d.params.defaults = [])
    (hY : ∀ (w : World) (h : Heap), YP w h → (K w.params).In h)
    (F : ∀ (w : World) (mg : Str → Option Value) (fa : Addr) (h : Heap), (K w.params).In h → h.Ns mainGlobals mg → mg d.name = some (.ref fa) →
      ∃ fd : FuncData, (∀ (s : Shared) (u : Value), BindsTo s fd ⟨[u], []⟩ [("_law_script", u)]) ∧ ∀ base : Heap, (K w.params).In base → base.Ns mainGlobals mg → FnOk l.prog w (K w.params) mg base (CXE l.prog w) 5 fa fd ["_law_script"] (sp_lawA (K w.params))) :
    PySem.W.WalkO q loose XP YP l.row.toRowW d [] (fun f vs => PySem.call f vs) :=
  L2.walk_of (n := 63) (k := 5) (x := "_law_script") (CX := fun w => CXE l.prog w) (sp := fun w => sp_lawA (K w.params)) hn (by decide) hdf ⟨rfl, by decide, by decide⟩ hY F (fun _ _ a ns hl _ hS => ⟨ns, a, rfl, hS, hl, fun _ => rfl⟩) fun _ _ _ _ _ z => cxe0 z
end My
open PySem PySem.W PyProof.Rows
set_option maxRecDepth 100000 in
set_option maxHeartbeats 0 in
theorem PySem.Challenge.cw_ladderworth_k75_whole_rankings_changed_holds : PySem.Challenge.rw_ladderworth_k75_whole_rankings_changed.Holds := by
  w_on; o_law; k_head; (case hw => w_witness2)
  k_fill
  refine My.walk (l := PySem.Challenge.rw_ladderworth_k75_whole_rankings_changed) rfl rfl (fun w h Y => PySem.W.kIn_of Y) ?F
  case F =>
    intro w mg fa h KX G hmg
    refine' My.all_mk KX G hmg ?a0 ?l0 ?e0 ?k0 ?a1 ?l1 ?e1 ?k1 ?a2 ?l2 ?e2 ?k2 ?a3 ?l3 ?e3 ?k3 ?a4 ?l4 ?e4 ?k4 ?a5 ?l5 ?e5 ?k5 ?a6 ?l6 ?e6 ?k6 ?a7 ?l7 ?e7 ?k7 ?a8 ?l8 ?e8 ?k8 ?a9 ?l9 ?e9 ?k9 ?a10 ?l10 ?e10 ?k10 ?a11 ?l11 ?e11 ?k11 ?a12 ?l12 ?e12 ?k12 ?a13 ?l13 ?e13 ?k13 ?a14 ?l14 ?e14 ?k14 ?a15 ?l15 ?e15 ?k15 ?a16 ?l16 ?e16 ?k16 ?z_abs ?z_all ?z_enumerate ?z_int ?z_len ?z_list ?z_range ?z_sorted ?z_zip
    (case a0 => k_is)
    (case l0 => k_is)
    (case e0 => k_is)
    (case k0 => k_is)
    (case a1 => k_is)
    (case l1 => k_is)
    (case e1 => k_is)
    (case k1 => k_is)
    (case a2 => k_is)
    (case l2 => k_is)
    (case e2 => k_is)
    (case k2 => k_is)
    (case a3 => k_is)
    (case l3 => k_is)
    (case e3 => k_is)
    (case k3 => k_is)
    (case a4 => k_is)
    (case l4 => k_is)
    (case e4 => k_is)
    (case k4 => k_is)
    (case a5 => k_is)
    (case l5 => k_is)
    (case e5 => k_is)
    (case k5 => k_is)
    (case a6 => k_is)
    (case l6 => k_is)
    (case e6 => k_is)
    (case k6 => k_is)
    (case a7 => k_is)
    (case l7 => k_is)
    (case e7 => k_is)
    (case k7 => k_is)
    (case a8 => k_is)
    (case l8 => k_is)
    (case e8 => k_is)
    (case k8 => k_is)
    (case a9 => k_is)
    (case l9 => k_is)
    (case e9 => k_is)
    (case k9 => k_is)
    (case a10 => k_is)
    (case l10 => k_is)
    (case e10 => k_is)
    (case k10 => k_is)
    (case a11 => k_is)
    (case l11 => k_is)
    (case e11 => k_is)
    (case k11 => k_is)
    (case a12 => k_is)
    (case l12 => k_is)
    (case e12 => k_is)
    (case k12 => k_is)
    (case a13 => k_is)
    (case l13 => k_is)
    (case e13 => k_is)
    (case k13 => k_is)
    (case a14 => k_is)
    (case l14 => k_is)
    (case e14 => k_is)
    (case k14 => k_is)
    (case a15 => k_is)
    (case l15 => k_is)
    (case e15 => k_is)
    (case k15 => k_is)
    (case a16 => k_is)
    (case l16 => k_is)
    (case e16 => k_is)
    (case k16 => k_is)
    (case z_abs => k_is)
    (case z_all => k_is)
    (case z_enumerate => k_is)
    (case z_int => k_is)
    (case z_len => k_is)
    (case z_list => k_is)
    (case z_range => k_is)
    (case z_sorted => k_is)
    (case z_zip => k_is)
#print axioms PySem.Challenge.cw_ladderworth_k75_whole_rankings_changed_holds

