import PyProof.Rows.All
import Wide.All
import OpenK.AllK
import Wide.FinOn
import Lean
import PyProof.EqAt
import PyProof.EqKinds
import PyProof.TupleCall
import PySem.Challenge.RW_ladderworth_k18_whole_no_worths_or_ways
set_option Elab.async false
set_option linter.all false
set_option maxRecDepth 100000
namespace L2
open PySem PySem.Spec PyProof.Rows
abbrev Key := Sum Int Str
def keyIs : Key → Value → Bool
  | .inl k, v => Value.isInt k v
  | .inr x, v => Value.isStrOf x v
def keyH (w : World) : Key → Int
  | .inl k => hashInt k
  | .inr x => hashStr w x
theorem keyIs_shape : ∀ {k : Key} {v : Value}, keyIs k v = true → (∃ i t, k = Sum.inl i ∧ v = Value.int i t) ∨ (∃ x t, k = Sum.inr x ∧ v = Value.str x t)
  | .inl i, v, h => by
    obtain ⟨t, e⟩ := Value.isInt_shape (k := i) (v := v) h
    exact .inl ⟨i, t, rfl, e⟩
  | .inr x, v, h => by
    obtain ⟨t, e⟩ := Value.isStrOf_shape (x := x) (v := v) h
    exact .inr ⟨x, t, rfl, e⟩
theorem keyIs_int (i : Int) (t : Tok) : keyIs (.inl i) (.int i t) = true := by simp [keyIs, Value.isInt]
theorem keyIs_str (x : Str) (t : Tok) : keyIs (.inr x) (.str x t) = true := by simp [keyIs, Value.isStrOf]
theorem key_ll (a b : Int) : decide ((Sum.inl a : Key) = Sum.inl b) = (a == b) := by
  by_cases e : a = b
  · subst e; simp
  · have h : ¬ (Sum.inl a : Key) = Sum.inl b := fun q => e (Sum.inl.inj q)
    rw [decide_eq_false h]
    exact (beq_eq_false_iff_ne.mpr e).symm
theorem key_rr (a b : Str) : decide ((Sum.inr a : Key) = Sum.inr b) = decide (a = b) := by
  by_cases e : a = b
  · subst e; simp
  · have h : ¬ (Sum.inr a : Key) = Sum.inr b := fun q => e (Sum.inr.inj q)
    rw [decide_eq_false h, decide_eq_false e]
theorem key_lr (a : Int) (b : Str) : decide ((Sum.inl a : Key) = Sum.inr b) = false := decide_eq_false (fun q => nomatch q)
theorem key_rl (a : Str) (b : Int) : decide ((Sum.inr a : Key) = Sum.inl b) = false := decide_eq_false (fun q => nomatch q)
def mixKind (prog : Program) (w : World) : PySem.KeyKind prog w Key where
  is := keyIs
  hash := keyH w
  inj := fun v a b ha hb => by
    rcases keyIs_shape ha with ⟨i, t, rfl, rfl⟩ | ⟨x, t, rfl, rfl⟩
    · rcases keyIs_shape hb with ⟨j, u, rfl, e⟩ | ⟨y, u, rfl, e⟩
      · injection e with e1 _; rw [e1]
      · exact nomatch e
    · rcases keyIs_shape hb with ⟨j, u, rfl, e⟩ | ⟨y, u, rfl, e⟩
      · exact nomatch e
      · injection e with e1 _; rw [e1]
  byValue := fun k v h => by
    rcases keyIs_shape h with ⟨i, t, rfl, rfl⟩ | ⟨x, t, rfl, rfl⟩ <;> rfl
  pyHash := fun hv h => by
    rcases keyIs_shape hv with ⟨i, t, rfl, rfl⟩ | ⟨x, t, rfl, rfl⟩
    · exact wpAny_pyHash_int h
    · exact wpAny_pyHash_str h
  eqBool := fun hu hv h => by
    rcases keyIs_shape hu with ⟨i, t, rfl, rfl⟩ | ⟨x, t, rfl, rfl⟩
    · rcases keyIs_shape hv with ⟨j, u, rfl, rfl⟩ | ⟨y, u, rfl, rfl⟩
      · rw [key_ll] at h; exact wpAny_eqBool_int h
      · rw [key_lr] at h; exact SeqAt.EqAt.int_str i t y u _ _ _ _ h
    · rcases keyIs_shape hv with ⟨j, u, rfl, rfl⟩ | ⟨y, u, rfl, rfl⟩
      · rw [key_rl] at h; exact SeqAt.EqAt.str_int x t j u _ _ _ _ h
      · rw [key_rr] at h; exact wpAny_eqBool_str h
  «strs» := fun k x t v h => by
    rcases keyIs_shape h with ⟨i, u, rfl, e⟩ | ⟨y, u, rfl, e⟩
    · exact nomatch e
    · injection e with e1 _
      subst e1
      cases v <;> rfl
theorem mixKind_int (prog : Program) (w : World) (i : Int) (t : Tok) : (mixKind prog w).is (.inl i) (.int i t) = true := keyIs_int i t
theorem mixKind_str (prog : Program) (w : World) (x : Str) (t : Tok) : (mixKind prog w).is (.inr x) (.str x t) = true := keyIs_str x t
end L2
namespace L2
open PySem PySem.Spec PyProof.Rows
inductive V where
  | non | bl (b : Bool) | int (i : Int) | str (x : Str) | byt (b : Array UInt8) | flt (b : UInt64) | ref (a : Addr) | ty (n : String)
  deriving DecidableEq
def RelV : V → Value → Prop
  | .non, u => u = Value.none
  | .bl b, u => u = Value.bool b
  | .int i, u => ∃ t, u = Value.int i t
  | .str x, u => ∃ t, u = Value.str x t
  | .byt b, u => ∃ t, u = Value.bytes b t
  | .flt b, u => ∃ t, u = Value.float b t
  | .ref a, u => u = Value.ref a
  | .ty n, u => u = Value.type n
abbrev Vals : List V → List Value → Prop := Paired RelV
theorem Vals.length {xs : List V} {us : List Value} (r : Vals xs us) : xs.length = us.length := Paired.length r
theorem Vals.get : ∀ {xs : List V} {us : List Value} {i : Nat} {x : V}, Vals xs us → xs[i]? = some x → ∃ u, us[i]? = some u ∧ RelV x u
  | _, _, _, _, .nil, e => by simp at e
  | _, _, 0, _, .cons r _, e => by simp at e; subst e; exact ⟨_, rfl, r⟩
  | _, _, i + 1, x, .cons _ t, e => by
    obtain ⟨u, h1, h2⟩ := Vals.get (i := i) (x := x) t (by simpa using e)
    exact ⟨u, by simpa using h1, h2⟩
theorem Vals.append : ∀ {xs ys : List V} {us ws : List Value}, Vals xs us → Vals ys ws → Vals (xs ++ ys) (us ++ ws)
  | _, _, _, _, .nil, s => s
  | _, _, _, _, .cons r t, s => .cons r (Vals.append t s)
theorem Vals.take : ∀ {xs : List V} {us : List Value} (n : Nat), Vals xs us → Vals (xs.take n) (us.take n)
  | _, _, 0, _ => .nil
  | _, _, _ + 1, .nil => .nil
  | _, _, n + 1, .cons r t => .cons r (Vals.take n t)
theorem Vals.drop : ∀ {xs : List V} {us : List Value} (n : Nat), Vals xs us → Vals (xs.drop n) (us.drop n)
  | _, _, 0, r => r
  | _, _, _ + 1, .nil => .nil
  | _, _, n + 1, .cons _ t => Vals.drop n t
def RelO : Option V → Option Value → Prop
  | some v, some u => RelV v u
  | none, none => True
  | _, _ => False
def KV {κ : Type} : List (κ × V) → List (κ × Value) → Prop := Paired fun (p : κ × V) (q : κ × Value) => p.1 = q.1 ∧ RelV p.2 q.2
def kV : Key → V
  | .inl i => .int i
  | .inr x => .str x
inductive HO where
  | lst (xs : List V)
  | tup (xs : List V)
  | dK (kvs : List (Key × V)) | dT (kvs : List (List Key × V))
  | set (S : Int → Bool) (n : Nat)
  | ins (C dx : Addr) (fs : List (Str × V))
  | own (x : Addr)
  | xd (fs : List (Str × V))
  | met (f x : Addr)
  | rng (lo hi : Int)
  | frz (o : Obj) (u : HO)
  | tbl (ps : Array Value)
  | ext (φ : Heap → Prop)
abbrev Hp := Addr → Option HO
def upd (H : Hp) (a : Addr) (o : HO) : Hp := fun b => if b = a then some o else H b
theorem upd_same {H : Hp} {a : Addr} {o : HO} : upd H a o a = some o := by unfold upd; rw [if_pos rfl]
theorem upd_ne {H : Hp} {a b : Addr} {o : HO} (h : b ≠ a) : upd H a o b = H b := by unfold upd; rw [if_neg h]
theorem upd_upd {H : Hp} {a : Addr} {o u : HO} : upd (upd H a o) a u = upd H a u := by
  funext b; unfold upd; split <;> rfl
theorem ne_of {H : Hp} {a b : Addr} {o u : HO} (h : H a = some o) (h' : H b = some u) (d : o ≠ u) : a ≠ b := by
  intro e; subst e; rw [h] at h'; exact d (Option.some.inj h')
theorem ne_of_none {H : Hp} {a b : Addr} {o : HO} (h : H a = some o) (h' : H b = none) : a ≠ b := by
  intro e; subst e; rw [h] at h'; cases h'
section
variable (P : Program) (w : World)
def ObjOk (H : Hp) (h : Heap) (a : Addr) : HO → Prop
  | .lst xs => xs.length ≤ sizeLine ∧ ∃ (its : List Value) (n : Nat), Vals xs its ∧ h.get? a = some { cls := .type "list", data := .seq its.toArray n }
  | .tup xs => xs.length ≤ sizeLine ∧ ∃ its : List Value, Vals xs its ∧ IsTup h a its.toArray
  | .dK kvs => kvs.length ≤ sizeLine ∧ (a == sysModules) = false ∧ ∃ vs, KV kvs vs ∧ h.DictOf (mixKind P w) a vs
  | .dT kvs => kvs.length ≤ sizeLine ∧ (a == sysModules) = false ∧ ∃ xs : List (List Key × Addr × Value),
      Paired (fun (p : List Key × V) (q : List Key × Addr × Value) => p.1 = q.1 ∧ H q.2.1 = some (.tup (p.1.map kV)) ∧ RelV p.2 q.2.2) kvs xs ∧
      ∃ o es ep, h.get? a = some o ∧ o.ExactDict ∧ o.data = .dict es ep ∧ es.toList = xs.map (entryOfKey (tupleKind (mixKind P w))) ∧ (xs.map (·.1)).Nodup
  | .set S n => h.SetOf (intKind P w) a S n
  | .ins C dx fs => H dx = some (.own a) ∧ fs.length ≤ 1000 ∧ dx ≠ a ∧ h.get? a = some (PySem.W.instObj C dx) ∧
      ∃ mA, h.Ns1 dx mA ∧ (∀ f, RelO (fs.lookup f) (mA f)) ∧ PySem.Within mA (fs.map (·.1))
  | .own _ => ∃ o, h.get? a = some o
  | .xd fs => ∃ mA, h.Ns1 a mA ∧ ∀ f, RelO (fs.lookup f) (mA f)
  | .rng lo hi => ∃ t u v, h.get? a = some { cls := .type "range", data := .fields #[.int lo t, .int hi u, .int 1 v] }
  | .frz o u => h.get? a = some o ∧ ObjOk H h a u
  | .tbl ps => h.get? a = some { cls := .none, data := .fields ps }
  | .met f x => h.get? a = some (PySem.W.methodObj (.ref f) (.ref x))
  | .ext φ => φ h ∧ (∃ o, h.get? a = some o) ∧ ∀ h1 h2 : Heap, φ h1 → (∀ o, h1.get? a = some o → h2.get? a = some o) → φ h2
def HOk (H : Hp) (h : Heap) : Prop := ∀ a o, H a = some o → ObjOk P w H h a o
end
section
variable {P : Program} {w : World} {H H' : Hp} {h h' : Heap} {a : Addr} {o : HO}
theorem ObjOk.lt (x : ObjOk P w H h a o) : a < h.objs.size := by
  cases o with
  | lst xs => obtain ⟨_, _, _, _, e⟩ := x; exact Heap.lt_size e
  | tup xs => obtain ⟨_, _, _, p⟩ := x; exact p.lt
  | dK kvs => obtain ⟨_, _, _, _, o, _, _, e, _⟩ := x; exact Heap.lt_size e
  | dT kvs => obtain ⟨_, _, _, _, o, _, _, e, _⟩ := x; exact Heap.lt_size e
  | set S n => obtain ⟨o, _, _, _, e, _⟩ := x; exact Heap.lt_size e
  | ins C dx fs => obtain ⟨_, _, _, e, _⟩ := x; exact Heap.lt_size e
  | own y => obtain ⟨_, e⟩ := x; exact Heap.lt_size e
  | xd fs => obtain ⟨_, ⟨_, _, _, e, _⟩, _⟩ := x; exact Heap.lt_size e
  | rng lo hi => obtain ⟨_, _, _, e⟩ := x; exact Heap.lt_size e
  | frz ob u => obtain ⟨e, _⟩ := x; exact Heap.lt_size e
  | tbl ps => exact Heap.lt_size (show h.get? a = some _ from x)
  | met f y => exact Heap.lt_size (show h.get? a = some _ from x)
  | ext φ => obtain ⟨_, ⟨_, e⟩, _⟩ := x; exact Heap.lt_size e
theorem Paired.mapP {α β : Type} {F G : α → β → Prop} : ∀ {l₁ : List α} {l₂ : List β}, Paired F l₁ l₂ → (∀ a b, F a b → G a b) → Paired G l₁ l₂
  | _, _, .nil, _ => .nil
  | _, _, .cons r t, f => .cons (f _ _ r) (Paired.mapP t f)
theorem ObjOk.stay (x : ObjOk P w H h a o) (k : ∀ b u, (b = a ∨ H b = some (.own a)) → h.get? b = some u → h'.get? b = some u)
    (ho : ∀ b, H b = some (.own a) → H' b = some (.own a)) (ht : ∀ b xs, H b = some (.tup xs) → H' b = some (.tup xs)) : ObjOk P w H' h' a o := by
  induction o with
  | lst xs => obtain ⟨z, its, n, r, e⟩ := x; exact ⟨z, its, n, r, k _ _ (.inl rfl) e⟩
  | tup xs => obtain ⟨z, its, r, ob, e, c⟩ := x; exact ⟨z, its, r, ob, k _ _ (.inl rfl) e, c⟩
  | dK kvs => obtain ⟨z, y, vs, r, ob, es, ep, e, c⟩ := x; exact ⟨z, y, vs, r, ob, es, ep, k _ _ (.inl rfl) e, c⟩
  | dT kvs =>
    obtain ⟨z, y, xs, r, ob, es, ep, e, c⟩ := x
    exact ⟨z, y, xs, Paired.mapP r fun p q z => ⟨z.1, ht _ _ z.2.1, z.2.2⟩, ob, es, ep, k _ _ (.inl rfl) e, c⟩
  | set S n => obtain ⟨ob, es, ep, t, e, c⟩ := x; exact ⟨ob, es, ep, t, k _ _ (.inl rfl) e, c⟩
  | ins C dx fs =>
    obtain ⟨d, z, ne, e, mA, ⟨od, es, ep, e2, c⟩, r⟩ := x
    exact ⟨ho _ d, z, ne, k _ _ (.inl rfl) e, mA, ⟨od, es, ep, k _ _ (.inr d) e2, c⟩, r⟩
  | own y => obtain ⟨ob, e⟩ := x; exact ⟨ob, k _ _ (.inl rfl) e⟩
  | xd fs => obtain ⟨mA, ⟨od, es, ep, e, c⟩, r⟩ := x; exact ⟨mA, ⟨od, es, ep, k _ _ (.inl rfl) e, c⟩, r⟩
  | rng lo hi => obtain ⟨t, u, v, e⟩ := x; exact ⟨t, u, v, k _ _ (.inl rfl) e⟩
  | frz ob u ih => obtain ⟨e, q⟩ := x; exact ⟨k _ _ (.inl rfl) e, ih q⟩
  | tbl ps =>
    have e : h.get? a = some { cls := .none, data := .fields ps } := x
    show h'.get? a = some { cls := .none, data := .fields ps }
    exact k a _ (.inl rfl) e
  | met f y =>
    have e : h.get? a = some (PySem.W.methodObj (.ref f) (.ref y)) := x
    show h'.get? a = some (PySem.W.methodObj (.ref f) (.ref y))
    exact k a _ (.inl rfl) e
  | ext φ => obtain ⟨p, ⟨o, e⟩, st⟩ := x; exact ⟨st _ _ p fun o q => k _ _ (.inl rfl) q, ⟨o, k _ _ (.inl rfl) e⟩, st⟩
theorem HOk.lt (x : HOk P w H h) (e : H a = some o) : a < h.objs.size := (x a o e).lt
theorem HOk.fresh (x : HOk P w H h) (e : h.objs.size ≤ a) : H a = none := by
  cases q : H a with
  | none => rfl
  | some u => exact absurd (Nat.lt_of_lt_of_le (x.lt q) e) (Nat.lt_irrefl _)
theorem HOk.kept (x : HOk P w H h) (k : ∀ b u, h.get? b = some u → h'.get? b = some u) : HOk P w H h' := fun a o e =>
  (x a o e).stay (fun b u _ q => k b u q) (fun _ q => q) fun _ _ q => q
theorem HOk.laid (x : HOk P w H h) (k : ∀ b u, h.get? b = some u → h'.get? b = some u) (hp : h.objs.size ≤ a) (new : ObjOk P w (upd H a o) h' a o) : HOk P w (upd H a o) h' := fun b u e => by
  have hn := x.fresh hp
  by_cases hb : b = a
  · subst hb; rw [upd_same] at e; cases e; exact new
  · rw [upd_ne hb] at e
    exact (x b u e).stay (fun c v _ q => k c v q) (fun c q => by rw [upd_ne (ne_of_none q hn)]; exact q) fun c xs q => by rw [upd_ne (ne_of_none q hn)]; exact q
end
def Rd (H : Hp) (a : Addr) (u : HO) : Prop := H a = some u ∨ ∃ o, H a = some (.frz o u)
theorem Rd.ok {P : Program} {w : World} {H : Hp} {h : Heap} {a : Addr} {u : HO} (r : Rd H a u) (x : HOk P w H h) : ObjOk P w H h a u := by
  rcases r with r | ⟨o, r⟩
  · exact x a u r
  · obtain ⟨_, q⟩ := x a _ r
    exact q
def Mut : Option HO → Prop
  | some (.lst _) => True
  | some (.dK _) => True
  | some (.dT _) => True
  | some (.set _ _) => True
  | some (.ins _ _ _) => True
  | some (.ext _) => True
  | _ => False
section
variable {P : Program} {w : World} {H : Hp} {h h' : Heap} {x e : Addr} {o' : HO}
theorem HOk.write (ok : HOk P w H h) (mu : Mut (H x)) (he : e = x ∨ H e = some (.own x)) (k : ∀ b u, b ≠ e → h.get? b = some u → h'.get? b = some u) (heo : ∃ u, h'.get? e = some u)
    (new : ObjOk P w (upd H x o') h' x o') : HOk P w (upd H x o') h' := fun b u q => by
  have nown : ∀ c y, H c = some (.own y) → c ≠ x := fun c y r z => by subst z; rw [r] at mu; exact mu
  have ntup : ∀ c xs, H c = some (.tup xs) → c ≠ x := fun c xs r z => by subst z; rw [r] at mu; exact mu
  by_cases hb : b = x
  · subst hb; rw [upd_same] at q; cases q; exact new
  · rw [upd_ne hb] at q
    by_cases hbe : b = e
    · have q' : H b = some (.own x) := by
        rcases he with z | z
        · exact absurd (hbe.trans z) hb
        · rw [hbe]; exact z
      rw [q] at q'; cases q'
      obtain ⟨v, hv⟩ := heo
      exact ⟨v, by rw [hbe]; exact hv⟩
    · refine (ok b u q).stay (fun c v hc r => k c v ?_ r) (fun c r => by rw [upd_ne (nown c b r)]; exact r) fun c xs r => by rw [upd_ne (ntup c xs r)]; exact r
      rcases hc with rfl | hc
      · exact hbe
      · rintro rfl
        rcases he with z | z
        · exact nown c b hc z
        · rw [hc] at z; cases z; exact hb rfl
end
structure Un (fs ex : List Addr) (H H' : Hp) (h h' : Heap) : Prop where
  keep : ∀ b o, h.get? b = some o → H b = none → b ∉ fs → b ∉ ex → h'.get? b = some o
  slot : ∀ b o, h.get? b = some o → H b = none → b ∈ fs → b ∉ ex → ∃ sl, h'.get? b = some { o with slots := sl }
  free : ∀ b o, h.get? b = some o → H b = none → b ∉ ex → H' b = none
  there : ∀ b o, h.get? b = some o → b ∉ ex → ∃ o', h'.get? b = some o'
  tups : ∀ b xs, H b = some (.tup xs) → H' b = some (.tup xs)
  frzs : ∀ b o u, H b = some (.frz o u) → H' b = some (.frz o u)
  tbls : ∀ b ps, H b = some (.tbl ps) → ∃ more, H' b = some (.tbl (ps ++ more))
section
variable {fs fs' ex ex' : List Addr} {H H1 H2 : Hp} {h h1 h2 h' : Heap} {a x e : Addr} {o : HO}
theorem Un.any (u : Un fs ex H H1 h h1) {b : Addr} {ob : Obj} (q : h.get? b = some ob) (n : H b = none) (hx : b ∉ ex) : ∃ sl, h1.get? b = some { ob with slots := sl } := by
  by_cases hb : b ∈ fs
  · exact u.slot b ob q n hb hx
  · exact ⟨ob.slots, u.keep b ob q n hb hx⟩
theorem Un.kept (k : ∀ b u, h.get? b = some u → h'.get? b = some u) : Un fs ex H H h h' :=
  ⟨fun b ob q _ _ _ => k b ob q, fun b ob q _ _ _ => ⟨ob.slots, k b ob q⟩, fun _ _ _ n _ => n, fun b ob q _ => ⟨ob, k b ob q⟩, fun _ _ q => q, fun _ _ _ q => q, fun _ ps q => ⟨#[], by rw [q]; simp⟩⟩
theorem Un.refl : Un fs ex H H h h := Un.kept fun _ _ q => q
theorem Un.laid (k : ∀ b u, h.get? b = some u → h'.get? b = some u) (hp : h.objs.size ≤ a) (hn : H a = none) : Un fs ex H (upd H a o) h h' where
  keep := fun b u q _ _ _ => k b u q
  slot := fun b u q _ _ _ => ⟨u.slots, k b u q⟩
  free := fun b u q n _ => by rw [upd_ne (Nat.ne_of_lt (Nat.lt_of_lt_of_le (Heap.lt_size q) hp))]; exact n
  there := fun b u q _ => ⟨u, k b u q⟩
  tups := fun b xs q => by rw [upd_ne (ne_of_none q hn)]; exact q
  frzs := fun b u xs q => by rw [upd_ne (ne_of_none q hn)]; exact q
  tbls := fun b ps q => ⟨#[], by rw [upd_ne (ne_of_none q hn), q]; simp⟩
theorem Un.write (mu : Mut (H x)) (he : e = x ∨ H e = some (.own x)) (k : ∀ b u, b ≠ e → h.get? b = some u → h'.get? b = some u) (heo : ∃ u, h'.get? e = some u) : Un fs ex H (upd H x o) h h' := by
  have hx : ∀ b, H b = none → b ≠ x := fun b n z => by subst z; rw [n] at mu; exact mu
  have hb : ∀ b, H b = none → b ≠ e := fun b n z => by
    subst z
    rcases he with r | r
    · exact hx b n r
    · rw [n] at r; cases r
  have hm : ∀ b u, H b = some u → ¬ Mut (some u) → b ≠ x := fun b u q nm z => by subst z; rw [q] at mu; exact nm mu
  refine ⟨fun b u q n _ _ => k b u (hb b n) q, fun b u q n _ _ => ⟨u.slots, k b u (hb b n) q⟩, fun b u q n _ => by rw [upd_ne (hx b n)]; exact n, fun b u q _ => ?_,
    fun b xs q => by rw [upd_ne (hm b _ q fun z => z)]; exact q, fun b u xs q => by rw [upd_ne (hm b _ q fun z => z)]; exact q, fun b ps q => ⟨#[], by rw [upd_ne (hm b _ q fun z => z), q]; simp⟩⟩
  by_cases hbe : b = e
  · subst hbe; exact heo
  · exact ⟨u, k b u hbe q⟩
end
def trk (h : Heap) (H : Hp) : List Addr := (List.range h.objs.size).filter fun a => (H a).isSome
def hidT (h : Heap) (H : Hp) : Heap := PySem.W.hideAll h (trk h H)
theorem hidT_size (h : Heap) (H : Hp) : (hidT h H).objs.size = h.objs.size := PySem.W.hideAll_size _ _
theorem hidT_get {h : Heap} {H : Hp} {b : Addr} {o : Obj} (e : h.get? b = some o) (n : H b = none) : (hidT h H).get? b = some o :=
  PySem.W.hideAll_get _ e fun hm => by
    have q : (H b).isSome = true := (List.mem_filter.mp hm).2
    rw [n] at q; simp at q
theorem of_hidT {h : Heap} {H : Hp} {b : Addr} {o : Obj} (e : (hidT h H).get? b = some o) : h.get? b = some o ∧ H b = none := by
  have e' : h.get? b = some o := PySem.W.of_hideAll (trk h H) e
  refine ⟨e', ?_⟩
  cases q : H b with
  | none => rfl
  | some x =>
    have hm : b ∈ trk h H := List.mem_filter.mpr ⟨List.mem_range.mpr (Heap.lt_size e'), by simp [q]⟩
    have z : (hidT h H).get? b = none := PySem.W.hideAll_none (trk h H) hm
    rw [z] at e; cases e
def allNews (g h : Heap) (L : Addr) : List (Addr × Obj) := (List.range h.objs.size).filterMap fun a => if a = L ∨ (g.get? a).isSome = true then none else (h.get? a).map fun o => (a, o)
def rest (g h : Heap) (L d : Addr) : List (Addr × Obj) := (allNews g h L).filter fun p => decide (p.1 ≠ d)
end L2
namespace L2
open PySem PySem.Spec PyProof.Rows
structure Mod (K : PySem.W.Frag) (mg : Str → Option Value) (base : Heap) : Prop where
  kin : K.In base
  glob : base.Ns mainGlobals mg
  blt : ∃ mb, base.Ns builtinsNs mb ∧ ∀ x : Str, x ≠ "__name__" → mb x = bootBuiltins x
  nolimit : base.NoLimit
/-- the context: a def's body (or a comprehension's block) running. base: fixed through the whole law; s₀, H₀: the entry; outer: the frames whose slots others may change (a def's callers); stack: all frames that run;
   ex: iterators that were made ahead of the entry and are walked here (a comprehension's); fn: the names whose cells were made at the entry (a def: all; a comprehension's block: its own); calm: not within an except suite; pn: pins that every state bears; xe: what is wanted of an exception that leaves the code -/
structure Cx where
  prog : Program
  w : World
  K : PySem.W.Frag
  mg : Str → Option Value
  base : Heap
  A : Around
  N : List Str
  s₀ : Shared
  H₀ : Hp
  env : Env
  outer : List Env
  stack : List Env
  ex : List Addr
  fn : Str → Bool
  calm : Bool
  pn : List (Addr × Obj)
  xe : Value → Shared → Prop
def frs (l : List Env) : List Addr := l.filterMap (·.frame)
abbrev Cx.fs (X : Cx) : List Addr := frs X.outer
def Vis (sc : Scope) (x : Str) : Prop := sc.names.lookup x = some .local ∨ sc.names.lookup x = some .cell ∨ sc.names.lookup x = some .free
def Loc (sc : Scope) (x : Str) : Prop := sc.names.lookup x = some .local ∨ sc.names.lookup x = some .cell
def Look (env : Env) (h : Heap) (m : Str → Option Value) (x : Str) (u : Value) : Prop :=
  (env.kindOf x = some .local ∧ m x = some u) ∨ ((env.kindOf x = some .cell ∨ env.kindOf x = some .free) ∧ ∃ c, env.cells.lookup x = some c ∧ h.IsCell c (some u))
structure Cx.Ok (X : Cx) : Prop where
  mod : Mod X.K X.mg X.base
  kind : X.env.scope.kind = .function
  glob : X.env.globals = mainGlobals
  blt : X.env.builtins = builtinsNs
  above : X.s₀.heap.objs.size ≤ X.env.locals
  inj : ∀ x y c, X.env.cells.lookup x = some c → X.env.cells.lookup y = some c → x = y
  has : ∀ x, (X.env.kindOf x = some .cell ∨ X.env.kindOf x = some .free) → ∃ c, X.env.cells.lookup x = some c
  cab : ∀ x c, X.fn x = true → X.env.cells.lookup x = some c → X.s₀.heap.objs.size ≤ c
  hd : X.calm = true → X.A.handled = none
  frames : X.A.frames = some X.stack
  stk : X.stack = X.outer ∨ (X.stack = X.env :: X.outer ∧ X.env.frame = some X.env.locals)
  exf : ∀ b ∈ X.ex, b ≠ X.env.locals ∧ ∀ x c, X.env.cells.lookup x = some c → c ≠ b
  bs : ∀ b o, X.base.get? b = some o → X.s₀.heap.get? b = some o ∧ X.H₀ b = none
  bsz : X.base.objs.size ≤ X.s₀.heap.objs.size
  noex : ∀ b o, X.base.get? b = some o → b ∉ X.ex
  exfs : ∀ b ∈ X.ex, b ∉ X.fs
  funs : X.s₀.heap.FunFrames X.base X.outer
  frf : ∀ b ∈ X.fs, X.H₀ b = none
structure Inv (X : Cx) (pins : List (Addr × Obj)) (σ : List (Option V)) (H : Hp) (s : Shared) : Prop where
  ok : X.Ok
  os : s.os = X.s₀.os
  bare : AllBare s.gens
  base : Un X.fs X.ex X.H₀ H X.s₀.heap s.heap
  loc : ∃ m, s.heap.Ns X.env.locals m ∧ ∀ (i : Nat) (x : Str) (v : V), X.N[i]? = some x → σ[i]? = some (some v) → Vis X.env.scope x → ∃ u, RelV v u ∧ Look X.env s.heap m x u
  cell : ∀ x c, X.env.cells.lookup x = some c → ∃ v, s.heap.IsCell c v
  free : H X.env.locals = none
  freeC : ∀ x c, X.env.cells.lookup x = some c → H c = none
  pin : ∀ p ∈ X.pn ++ pins, s.heap.get? p.1 = some p.2 ∧ H p.1 = none ∧ p.1 ≠ X.env.locals ∧ p.1 ∉ X.fs ∧ ∀ v, p.2.data ≠ .cell v
  hok : HOk X.prog X.w H s.heap
  len : σ.length = X.N.length
section
variable {X : Cx} {pins : List (Addr × Obj)} {σ : List (Option V)} {H H' : Hp} {s : Shared} {h' : Heap}
theorem Cx.Ok.nofr (ok : X.Ok) {b : Addr} {o : Obj} (e : X.base.get? b = some o) : b ∉ X.fs := fun hb => by
  have := (ok.funs.mem hb).1
  rw [e] at this; cases this
theorem Inv.bs (I : Inv X pins σ H s) : ∀ b o, X.base.get? b = some o → s.heap.get? b = some o ∧ H b = none := fun b o e =>
  ⟨I.base.keep b o (I.ok.bs b o e).1 (I.ok.bs b o e).2 (I.ok.nofr e) (I.ok.noex b o e), I.base.free b o (I.ok.bs b o e).1 (I.ok.bs b o e).2 (I.ok.noex b o e)⟩
theorem Inv.bk (I : Inv X pins σ H s) : ∀ b o, X.base.get? b = some o → s.heap.get? b = some o := fun b o e => (I.bs b o e).1
theorem Inv.mod (I : Inv X pins σ H s) : Mod X.K X.mg X.base := I.ok.mod
theorem Inv.kIn (I : Inv X pins σ H s) : X.K.In s.heap := I.ok.mod.kin.keeps I.bk
theorem Inv.lt (I : Inv X pins σ H s) : X.env.locals < s.heap.objs.size := let ⟨_, hn, _⟩ := I.loc; hn.lt
theorem Inv.sz (I : Inv X pins σ H s) : X.s₀.heap.objs.size ≤ s.heap.objs.size := Nat.le_trans I.ok.above (Nat.le_of_lt I.lt)
theorem Inv.nofs (I : Inv X pins σ H s) {a : Addr} (h : s.heap.objs.size ≤ a) : a ∉ X.fs := fun hb => by
  obtain ⟨_, o, ho, _⟩ := I.ok.funs.mem hb
  exact absurd (Nat.lt_of_lt_of_le (Heap.lt_size ho) (Nat.le_trans I.sz h)) (Nat.lt_irrefl _)
theorem Inv.cne (I : Inv X pins σ H s) : ∀ x c, X.env.cells.lookup x = some c → c ≠ X.env.locals := fun x c e z => by
  obtain ⟨v, o, ho, hd⟩ := I.cell x c e
  obtain ⟨m, ⟨o', es, ep, ho', hd', _⟩, _⟩ := I.loc
  rw [z, ho'] at ho; cases ho; rw [hd'] at hd; cases hd
theorem Inv.funs (I : Inv X pins σ H s) : s.heap.FunFrames X.base X.outer := by
  have all : ∀ (l : List Env), (∀ b ∈ frs l, b ∈ X.fs) → X.s₀.heap.FunFrames X.base l → s.heap.FunFrames X.base l := by
    intro l
    induction l with
    | nil => intro _ _; trivial
    | cons env r ih =>
      intro hs hl
      obtain ⟨hk, ⟨L, o, hf, hn, ho, hd⟩, hr⟩ := hl
      have hL : L ∈ X.fs := hs L (by unfold frs; rw [List.filterMap_cons, hf]; exact List.mem_cons_self)
      obtain ⟨sl, e⟩ := I.base.slot L o ho (I.ok.frf L hL) hL fun z => I.ok.exfs L z hL
      exact ⟨hk, ⟨L, _, hf, hn, e, hd⟩, ih (fun b hb => hs b (by unfold frs; rw [List.filterMap_cons, hf]; exact List.mem_cons_of_mem _ hb)) hr⟩
  exact all X.outer (fun _ hb => hb) I.ok.funs
theorem Inv.stack (I : Inv X pins σ H s) : s.heap.FunFrames X.base X.stack := by
  rcases I.ok.stk with e | ⟨e, hf⟩
  · rw [e]; exact I.funs
  · rw [e]
    obtain ⟨m, hn, _⟩ := I.loc
    refine .cons (by rw [I.ok.kind]; decide) hf hn ?_ I.funs
    exact Heap.get?_none_of_le (Nat.le_trans I.ok.bsz I.ok.above)
theorem Inv.stkSub (I : Inv X pins σ H s) : ∀ b ∈ frs X.stack, b ∈ X.env.locals :: X.fs := fun b hb => by
  rcases I.ok.stk with e | ⟨e, hf⟩
  · rw [e] at hb; exact List.mem_cons_of_mem _ hb
  · rw [e] at hb
    unfold frs at hb
    rw [List.filterMap_cons, hf] at hb
    exact hb
theorem Inv.stkFree (I : Inv X pins σ H s) : ∀ b ∈ frs X.stack, H b = none := fun b hb => by
  rcases List.mem_cons.mp (I.stkSub b hb) with e | hb
  · rw [e]; exact I.free
  · obtain ⟨_, o, ho, _⟩ := I.ok.funs.mem hb
    exact I.base.free b o ho (I.ok.frf b hb) fun z => I.ok.exfs b z hb
theorem Inv.step {g' : Array GenState} {t' : Nat} {d' : Drawn} {ch : List Addr} (I : Inv X pins σ H s)
    (hch : ∀ b ∈ ch, (b ∈ X.ex ∨ X.s₀.heap.objs.size ≤ b) ∧ b ≠ X.env.locals ∧ (∀ x c, X.env.cells.lookup x = some c → c ≠ b) ∧ ∀ p ∈ X.pn ++ pins, p.1 ≠ b)
    (keep : ∀ b o, b ≠ X.env.locals → b ∉ X.fs → b ∉ ch → s.heap.get? b = some o → H b = none → h'.get? b = some o)
    (slot : ∀ b o, b ≠ X.env.locals → b ∈ X.fs → b ∉ ch → s.heap.get? b = some o → H b = none → ∃ sl, h'.get? b = some { o with slots := sl }) (free : ∀ b o, b ∉ ch → s.heap.get? b = some o → H b = none → H' b = none)
    (there : ∀ b o, b ∉ ch → s.heap.get? b = some o → ∃ o', h'.get? b = some o')
    (tups : ∀ b xs, H b = some (.tup xs) → H' b = some (.tup xs)) (frzs : ∀ b o u, H b = some (.frz o u) → H' b = some (.frz o u)) (tbls : ∀ b ps, H b = some (.tbl ps) → ∃ more, H' b = some (.tbl (ps ++ more)))
    (ns : ∀ m, s.heap.Ns X.env.locals m → h'.Ns X.env.locals m) (hok : HOk X.prog X.w H' h') (hg : AllBare g') :
    Inv X pins σ H' { s with heap := h', gens := g', drawn := d', toks := t' } := by
  have neL : ∀ b o, X.s₀.heap.get? b = some o → b ≠ X.env.locals := fun b o e => Nat.ne_of_lt (Nat.lt_of_lt_of_le (Heap.lt_size e) I.ok.above)
  have neC : ∀ b o, X.s₀.heap.get? b = some o → b ∉ X.ex → b ∉ ch := fun b o e hx hb => by
    rcases (hch b hb).1 with z | z
    · exact hx z
    · exact absurd (Nat.lt_of_lt_of_le (Heap.lt_size e) z) (Nat.lt_irrefl _)
  have cellK : ∀ x c, X.env.cells.lookup x = some c → ∀ v, s.heap.IsCell c v → h'.IsCell c v := fun x c e v ⟨o, ho, hd⟩ => by
    have nch : c ∉ ch := fun z => (hch c z).2.2.1 x c e rfl
    by_cases hc : c ∈ X.fs
    · obtain ⟨sl, q⟩ := slot c o (I.cne x c e) hc nch ho (I.freeC x c e)
      exact ⟨_, q, hd⟩
    · exact ⟨o, keep c o (I.cne x c e) hc nch ho (I.freeC x c e), hd⟩
  refine ⟨I.ok, I.os, hg, ⟨fun b o e n hb hx => ?_, fun b o e n hb hx => ?_, fun b o e n hx => ?_, fun b o e hx => ?_, fun b xs e => tups b xs (I.base.tups b xs e), fun b o xs e => frzs b o xs (I.base.frzs b o xs e), fun b ps e => ?_⟩, ?_, fun x c e => ?_, ?_, fun x c e => ?_, fun p hp => ?_, hok, I.len⟩
  · exact keep b o (neL b o e) hb (neC b o e hx) (I.base.keep b o e n hb hx) (I.base.free b o e n hx)
  · obtain ⟨sl, e1⟩ := I.base.slot b o e n hb hx
    obtain ⟨sl', e2⟩ := slot b _ (neL b o e) hb (neC b o e hx) e1 (I.base.free b o e n hx)
    exact ⟨sl', e2⟩
  · obtain ⟨o', e1⟩ := I.base.there b o e hx
    exact free b o' (neC b o e hx) e1 (I.base.free b o e n hx)
  · obtain ⟨o', e1⟩ := I.base.there b o e hx
    exact there b o' (neC b o e hx) e1
  · obtain ⟨m1, e1⟩ := I.base.tbls b ps e
    obtain ⟨m2, e2⟩ := tbls b _ e1
    exact ⟨m1 ++ m2, by rw [e2, Array.append_assoc]⟩
  · obtain ⟨m, hn, hl⟩ := I.loc
    refine ⟨m, ns m hn, fun i x v e1 e2 e3 => ?_⟩
    obtain ⟨u, r, l⟩ := hl i x v e1 e2 e3
    refine ⟨u, r, ?_⟩
    rcases l with l | ⟨k, c, e, z⟩
    · exact .inl l
    · exact .inr ⟨k, c, e, cellK x c e _ z⟩
  · obtain ⟨v, z⟩ := I.cell x c e
    exact ⟨v, cellK x c e v z⟩
  · obtain ⟨m, ⟨o, _, _, ho, _⟩, _⟩ := I.loc
    exact free _ o (fun z => (hch _ z).2.1 rfl) ho I.free
  · obtain ⟨v, o, ho, hd⟩ := I.cell x c e
    exact free c o (fun z => (hch c z).2.2.1 x c e rfl) ho (I.freeC x c e)
  · obtain ⟨e, n, ne, nf, d⟩ := I.pin p hp
    have nch : p.1 ∉ ch := fun z => (hch p.1 z).2.2.2 p hp rfl
    exact ⟨keep p.1 p.2 ne nf nch e n, free p.1 p.2 nch e n, ne, nf, d⟩
theorem Inv.un {t' : Nat} (I : Inv X pins σ H s) (u : Un X.fs [] H H' s.heap h') (hok : HOk X.prog X.w H' h') : Inv X pins σ H' { s with heap := h', toks := t' } := by
  obtain ⟨m, ⟨o, es, ep, ho, r⟩, _⟩ := id I.loc
  obtain ⟨sl, hL⟩ := u.any ho I.free (by simp)
  exact I.step (g' := s.gens) (d' := s.drawn) (ch := []) (fun _ z => nomatch z) (fun b o _ hb _ e n => u.keep b o e n hb (by simp)) (fun b o _ hb _ e n => u.slot b o e n hb (by simp)) (fun b o _ e n => u.free b o e n (by simp)) (fun b o _ e => u.there b o e (by simp)) u.tups u.frzs u.tbls (fun m' hm => by
    obtain ⟨o', es', ep', ho', r'⟩ := hm
    rw [ho] at ho'; cases ho'
    exact ⟨_, es', ep', hL, r'⟩) hok I.bare
theorem Inv.call {g' : Array GenState} {t' : Nat} {d' : Drawn} {ch : List Addr} (I : Inv X pins σ H s) (u : Un (frs X.stack) ch H H' s.heap h') (hok : HOk X.prog X.w H' h') (hg : AllBare g')
    (hch : ∀ b ∈ ch, (b ∈ X.ex ∨ X.s₀.heap.objs.size ≤ b) ∧ b ≠ X.env.locals ∧ (∀ x c, X.env.cells.lookup x = some c → c ≠ b) ∧ ∀ p ∈ X.pn ++ pins, p.1 ≠ b) :
    Inv X pins σ H' { s with heap := h', gens := g', drawn := d', toks := t' } := by
  obtain ⟨m, ⟨o, es, ep, ho, r⟩, _⟩ := id I.loc
  obtain ⟨sl, hL⟩ := u.any ho I.free fun z => (hch _ z).2.1 rfl
  exact I.step (ch := ch) hch (fun b o hL hb hc e n => u.keep b o e n (fun z => (List.mem_cons.mp (I.stkSub b z)).elim hL hb) hc) (fun b o _ _ hc e n => u.any e n hc) (fun b o hc e n => u.free b o e n hc) (fun b o hc e => u.there b o e hc) u.tups u.frzs u.tbls (fun m' hm => by
    obtain ⟨o', es', ep', ho', r'⟩ := hm
    rw [ho] at ho'; cases ho'
    exact ⟨_, es', ep', hL, r'⟩) hok hg
theorem Inv.turned {t' : Nat} {it : Addr} (I : Inv X pins σ H s) (k : ∀ b o, b ≠ it → s.heap.get? b = some o → h'.get? b = some o) (hn : H it = none) (hL : it ≠ X.env.locals)
    (h1 : it ∈ X.ex ∨ X.s₀.heap.objs.size ≤ it) (h2 : ∀ x c, X.env.cells.lookup x = some c → c ≠ it) (h3 : ∀ p ∈ X.pn ++ pins, p.1 ≠ it) : Inv X pins σ H { s with heap := h', toks := t' } := by
  have nit : ∀ b u, H b = some u → b ≠ it := fun b u e z => by rw [z, hn] at e; cases e
  refine I.step (g' := s.gens) (d' := s.drawn) (ch := [it]) (fun b hb => ?_) (fun b o _ _ hc e _ => k b o (fun z => hc (by simp [z])) e) (fun b o _ _ hc e _ => ⟨o.slots, k b o (fun z => hc (by simp [z])) e⟩) (fun _ _ _ _ n => n)
    (fun b o hc e => ⟨o, k b o (fun z => hc (by simp [z])) e⟩) (fun _ _ e => e) (fun _ _ _ e => e) (fun b ps e => ⟨#[], by rw [e]; simp⟩) (fun m hm => ?_) (fun b u e => ?_) I.bare
  · have e : b = it := by simpa using hb
    subst e
    exact ⟨h1, hL, h2, h3⟩
  · obtain ⟨o, es, ep, ho, r⟩ := hm
    exact ⟨o, es, ep, k _ o (Ne.symm hL) ho, r⟩
  · refine (I.hok b u e).stay (fun c v hc q => k c v ?_ q) (fun _ q => q) fun _ _ q => q
    rcases hc with z | z
    · rw [z]; exact nit b u e
    · exact nit c _ z
theorem Inv.tok (I : Inv X pins σ H s) (t : Nat) : Inv X pins σ H { s with toks := t } := I.un (h' := s.heap) (t' := t) Un.refl I.hok
theorem Inv.kept {t' : Nat} (I : Inv X pins σ H s) (k : ∀ b u, s.heap.get? b = some u → h'.get? b = some u) : Inv X pins σ H { s with heap := h', toks := t' } := I.un (Un.kept k) (I.hok.kept k)
theorem Inv.laid {a : Addr} {o : HO} {t' : Nat} (I : Inv X pins σ H s) (k : ∀ b u, s.heap.get? b = some u → h'.get? b = some u) (hp : s.heap.objs.size ≤ a) (new : ObjOk X.prog X.w (upd H a o) h' a o) :
    Inv X pins σ (upd H a o) { s with heap := h', toks := t' } := I.un (Un.laid k hp (I.hok.fresh hp)) (I.hok.laid k hp new)
theorem Inv.write {x e : Addr} {o : HO} {t' : Nat} (I : Inv X pins σ H s) (mu : Mut (H x)) (he : e = x ∨ H e = some (.own x)) (k : ∀ b u, b ≠ e → s.heap.get? b = some u → h'.get? b = some u) (heo : ∃ u, h'.get? e = some u)
    (new : ObjOk X.prog X.w (upd H x o) h' x o) : Inv X pins σ (upd H x o) { s with heap := h', toks := t' } := I.un (Un.write mu he k heo) (I.hok.write mu he k heo new)
theorem Inv.weak {σ' : List (Option V)} (I : Inv X pins σ H s) (hl : σ'.length = σ.length) (w : ∀ (i : Nat) v, σ'[i]? = some (some v) → σ[i]? = some (some v)) : Inv X pins σ' H s :=
  ⟨I.ok, I.os, I.bare, I.base, let ⟨m, hn, hl'⟩ := I.loc; ⟨m, hn, fun i x v e1 e2 e3 => hl' i x v e1 (w i v e2) e3⟩, I.cell, I.free, I.freeC, I.pin, I.hok, hl.trans I.len⟩
theorem Inv.pins_of {pins' : List (Addr × Obj)} (I : Inv X pins σ H s) (h : ∀ p ∈ pins', s.heap.get? p.1 = some p.2 ∧ H p.1 = none ∧ p.1 ≠ X.env.locals ∧ p.1 ∉ X.fs ∧ ∀ v, p.2.data ≠ .cell v) : Inv X pins' σ H s :=
  ⟨I.ok, I.os, I.bare, I.base, I.loc, I.cell, I.free, I.freeC, fun p hp => (List.mem_append.mp hp).elim (fun z => I.pin p (List.mem_append_left _ z)) (h p), I.hok, I.len⟩
theorem nodup_ix {N : List Str} (hN : N.Nodup) {i j : Nat} {x : Str} (a : N[i]? = some x) (b : N[j]? = some x) : i = j := by
  obtain ⟨h1, e1⟩ := List.getElem?_eq_some_iff.mp a
  obtain ⟨h2, e2⟩ := List.getElem?_eq_some_iff.mp b
  exact (List.getElem_inj hN).mp (e1.trans e2.symm)
theorem store_ok2 {M : Model} {A : Around} {E : Value → Shared → Prop} {i : Nat} {x : Str} {v : V} {u : Value} {Q : Unit → Shared → Prop} (I : Inv X pins σ H s) (hN : X.N.Nodup) (hi : X.N[i]? = some x) (hx : Loc X.env.scope x) (r : RelV v u)
    (h : ∀ s', Inv X pins (σ.set i (some v)) H s' → (∃ a, Heap.SameBut a s.heap s'.heap ∧ (a = X.env.locals ∨ X.env.cells.lookup x = some a)) → Q () s') (hf : X.fn x = true ∨ X.env.scope.names.lookup x = some .local := by first | exact .inl rfl | exact .inr rfl | assumption) : wpAny M A (storeName X.env x u) Q E s := by
  obtain ⟨m, hn, hl⟩ := id I.loc
  have hcls : (X.env.scope.kind == .class || (X.env.scope.kind == .module && X.env.locals != X.env.globals)) = false := by rw [I.ok.kind]; rfl
  have hiσ : i < σ.length := by rw [I.len]; exact (List.getElem?_eq_some_iff.mp hi).1
  have cne := I.cne
  have tracked : ∀ {a : Addr} {h' : Heap}, (∃ o, s.heap.get? a = some o ∧ H a = none) → Heap.SameBut a s.heap h' → HOk X.prog X.w H h' := fun {a h'} ha hs b ob e => by
    obtain ⟨_, _, hfree⟩ := ha
    refine (I.hok b ob e).stay (fun c w' hc q => (hs.2 c ?_).trans q) (fun _ q => q) fun _ _ q => q
    rintro rfl
    rcases hc with rfl | hc
    · rw [hfree] at e; cases e
    · rw [hfree] at hc; cases hc
  rcases hx with hk | hk
  · refine wpAny_storeName_local hk hn (fun h' hn' hs => ?_) hcls
    obtain ⟨oL, _, _, hoL, _⟩ := id hn
    refine h _ ⟨I.ok, I.os, I.bare, ⟨fun b o e n hb hx => ?_, fun b o e n hb hx => ?_, I.base.free, fun b o e hx => ?_, I.base.tups, I.base.frzs, I.base.tbls⟩, ⟨_, hn', fun j y v' e1 e2 e3 => ?_⟩, fun y c e => ?_, I.free, I.freeC, fun p hp => ?_, tracked ⟨oL, hoL, I.free⟩ hs, by simpa using I.len⟩ ⟨_, hs, .inl rfl⟩
    · exact (hs.2 b (Nat.ne_of_lt (Nat.lt_of_lt_of_le (Heap.lt_size e) I.ok.above))).trans (I.base.keep b o e n hb hx)
    · obtain ⟨sl, e1⟩ := I.base.slot b o e n hb hx
      exact ⟨sl, (hs.2 b (Nat.ne_of_lt (Nat.lt_of_lt_of_le (Heap.lt_size e) I.ok.above))).trans e1⟩
    · obtain ⟨o', e1⟩ := I.base.there b o e hx
      exact ⟨o', (hs.2 b (Nat.ne_of_lt (Nat.lt_of_lt_of_le (Heap.lt_size e) I.ok.above))).trans e1⟩
    · by_cases hj : j = i
      · subst hj
        rw [hi] at e1; cases e1
        rw [List.getElem?_set_self hiσ] at e2
        cases e2
        exact ⟨u, r, .inl ⟨hk, by simp⟩⟩
      · rw [List.getElem?_set_ne (Ne.symm hj)] at e2
        obtain ⟨u', r', q⟩ := hl j y v' e1 e2 e3
        refine ⟨u', r', ?_⟩
        rcases q with ⟨k, e⟩ | ⟨k, c, e, z⟩
        · refine .inl ⟨k, ?_⟩
          have : y ≠ x := fun e => hj (nodup_ix hN e1 (e ▸ hi))
          simp [this, e]
        · exact .inr ⟨k, c, e, z.sameBut hs (cne y c e)⟩
    · obtain ⟨w', z⟩ := I.cell y c e
      exact ⟨w', z.sameBut hs (cne y c e)⟩
    · obtain ⟨e, n, ne, nf, d⟩ := I.pin p hp
      exact ⟨(hs.2 p.1 ne).trans e, n, ne, nf, d⟩
  · have hfn : X.fn x = true := by
      rcases hf with z | z
      · exact z
      · rw [z] at hk; cases hk
    obtain ⟨c, hc⟩ := I.ok.has x (.inl hk)
    obtain ⟨w', z⟩ := I.cell x c hc
    refine wpAny_storeName_cell I.ok.kind hk hc z (fun h' hc' hs => ?_)
    obtain ⟨oc, hoc, hocd⟩ := id z
    refine h { s with heap := h' } ⟨I.ok, I.os, I.bare, ⟨fun b o e n hb hx => ?_, fun b o e n hb hx => ?_, I.base.free, fun b o e hx => ?_, I.base.tups, I.base.frzs, I.base.tbls⟩, ⟨m, hn.sameBut hs (Ne.symm (cne x c hc)), fun j y v' e1 e2 e3 => ?_⟩, fun y c' e => ?_, I.free, I.freeC, fun p hp => ?_, tracked ⟨oc, hoc, I.freeC x c hc⟩ hs, by simpa using I.len⟩ ⟨c, hs, .inr hc⟩
    · exact (hs.2 b (Nat.ne_of_lt (Nat.lt_of_lt_of_le (Heap.lt_size e) (I.ok.cab x c hfn hc)))).trans (I.base.keep b o e n hb hx)
    · obtain ⟨sl, e1⟩ := I.base.slot b o e n hb hx
      exact ⟨sl, (hs.2 b (Nat.ne_of_lt (Nat.lt_of_lt_of_le (Heap.lt_size e) (I.ok.cab x c hfn hc)))).trans e1⟩
    · obtain ⟨o', e1⟩ := I.base.there b o e hx
      exact ⟨o', (hs.2 b (Nat.ne_of_lt (Nat.lt_of_lt_of_le (Heap.lt_size e) (I.ok.cab x c hfn hc)))).trans e1⟩
    · by_cases hj : j = i
      · subst hj
        rw [hi] at e1; cases e1
        rw [List.getElem?_set_self hiσ] at e2
        cases e2
        exact ⟨u, r, .inr ⟨.inl hk, c, hc, hc'⟩⟩
      · rw [List.getElem?_set_ne (Ne.symm hj)] at e2
        obtain ⟨u', r', q⟩ := hl j y v' e1 e2 e3
        refine ⟨u', r', ?_⟩
        rcases q with q | ⟨k, c', e, z'⟩
        · exact .inl q
        · refine .inr ⟨k, c', e, z'.sameBut hs ?_⟩
          rintro rfl
          exact hj (nodup_ix hN e1 (I.ok.inj _ _ _ e hc ▸ hi))
    · by_cases hcc : c' = c
      · subst hcc; exact ⟨_, hc'⟩
      · obtain ⟨w2, z2⟩ := I.cell y c' e
        exact ⟨w2, z2.sameBut hs hcc⟩
    · obtain ⟨e, n, ne, nf, d⟩ := I.pin p hp
      refine ⟨(hs.2 p.1 ?_).trans e, n, ne, nf, d⟩
      intro q
      rw [q, hoc] at e
      have q' : oc = p.2 := Option.some.inj e
      exact d w' (by rw [← q']; exact hocd)
theorem store_ok {M : Model} {A : Around} {E : Value → Shared → Prop} {i : Nat} {x : Str} {v : V} {u : Value} {Q : Unit → Shared → Prop} (I : Inv X pins σ H s) (hN : X.N.Nodup) (hi : X.N[i]? = some x) (hx : Loc X.env.scope x) (r : RelV v u)
    (h : ∀ s', Inv X pins (σ.set i (some v)) H s' → Q () s') (hf : X.fn x = true ∨ X.env.scope.names.lookup x = some .local := by first | exact .inl rfl | exact .inr rfl | assumption) : wpAny M A (storeName X.env x u) Q E s :=
  store_ok2 I hN hi hx r (fun s' I' _ => h s' I') hf
theorem Inv.call' {s' : Shared} {ch : List Addr} (I : Inv X pins σ H s) (ho : s'.os = s.os) (u : Un (frs X.stack) ch H H' s.heap s'.heap) (hok : HOk X.prog X.w H' s'.heap) (hg : AllBare s'.gens)
    (hch : ∀ b ∈ ch, (b ∈ X.ex ∨ X.s₀.heap.objs.size ≤ b) ∧ b ≠ X.env.locals ∧ (∀ x c, X.env.cells.lookup x = some c → c ≠ b) ∧ ∀ p ∈ X.pn ++ pins, p.1 ≠ b) : Inv X pins σ H' s' := by
  obtain ⟨h', g', d', t', o'⟩ := s'
  have e : o' = s.os := ho
  subst e
  exact I.call (g' := g') (t' := t') (d' := d') u hok hg hch
end
abbrev XK := Value → Option Addr → Hp → Prop
abbrev St := List (Option V)
abbrev VK := V → Hp → Prop
abbrev TE := St → Hp → VK → Prop
abbrev TT := St → Hp → (Bool → Hp → Prop) → Prop
abbrev TA := St → Hp → (List V → Hp → Prop) → Prop
structure Ends where
  nx : St → Hp → Prop
  rt : VK
  bk : St → Hp → Prop := fun _ _ => False
  ct : St → Hp → Prop := fun _ _ => False
abbrev TS := Ends → St → Hp → Prop
def EP (X : Cx) (pins : List (Addr × Obj)) (σ : St) (Q : VK) (u : Value) (s' : Shared) : Prop := ∃ v H', Inv X pins σ H' s' ∧ RelV v u ∧ Q v H'
def TP (X : Cx) (pins : List (Addr × Obj)) (σ : St) (Q : Bool → Hp → Prop) (b : Bool) (s' : Shared) : Prop := ∃ H', Inv X pins σ H' s' ∧ Q b H'
def AP (X : Cx) (pins : List (Addr × Obj)) (σ : St) (Q : List V → Hp → Prop) (us : List Value) (s' : Shared) : Prop := ∃ vs H', Inv X pins σ H' s' ∧ Vals vs us ∧ Q vs H'
def SP (X : Cx) (pins : List (Addr × Obj)) (D : Ends) (f : Flow) (s' : Shared) : Prop :=
  match f with
  | .next => ∃ σ' H', Inv X pins σ' H' s' ∧ D.nx σ' H'
  | .brk => ∃ σ' H', Inv X pins σ' H' s' ∧ D.bk σ' H'
  | .cont => ∃ σ' H', Inv X pins σ' H' s' ∧ D.ct σ' H'
  | .ret u => ∃ v σ' H', Inv X pins σ' H' s' ∧ RelV v u ∧ D.rt v H'
def PE (X : Cx) (e : Expr) (t : TE) : Prop :=
  ∀ (pins : List (Addr × Obj)) (s : Shared) (σ : St) (H : Hp) (Q : VK), Inv X pins σ H s → t σ H Q → wpAny (model X.prog X.w) X.A (eval e X.env) (EP X pins σ Q) X.xe s
def PT (X : Cx) (e : Expr) (t : TT) : Prop :=
  ∀ (pins : List (Addr × Obj)) (s : Shared) (σ : St) (H : Hp) (Q : Bool → Hp → Prop), Inv X pins σ H s → t σ H Q → wpAny (model X.prog X.w) X.A (isTrue e X.env (eval e X.env)) (TP X pins σ Q) X.xe s
def PW (X : Cx) (e : Expr) (t : TT) : Prop :=
  ∀ (whole : Sem Value) (pins : List (Addr × Obj)) (s : Shared) (σ : St) (H : Hp) (Q : Bool → Hp → Prop), Inv X pins σ H s → t σ H Q → wpAny (model X.prog X.w) X.A (isTrue e X.env whole) (TP X pins σ Q) X.xe s
theorem PW.pt {X : Cx} {e : Expr} {t : TT} (h : PW X e t) : PT X e t := h _
def PA (X : Cx) (es : List Expr) (t : TA) : Prop :=
  ∀ (pos : Pos) (pins : List (Addr × Obj)) (s : Shared) (σ : St) (H : Hp) (Q : List V → Hp → Prop), Inv X pins σ H s → t σ H Q → wpAny (model X.prog X.w) X.A (spliced (backTo pos (starEach es X.env))) (AP X pins σ Q) X.xe s
def PS (X : Cx) (st : Stmt) (t : TS) : Prop :=
  ∀ (pins : List (Addr × Obj)) (s : Shared) (σ : St) (H : Hp) (D : Ends), Inv X pins σ H s → t D σ H → wpAny (model X.prog X.w) X.A (exec st X.env) (SP X pins D) X.xe s
def PSs (X : Cx) (st : List Stmt) (t : TS) : Prop :=
  ∀ (pins : List (Addr × Obj)) (s : Shared) (σ : St) (H : Hp) (D : Ends), Inv X pins σ H s → t D σ H → wpAny (model X.prog X.w) X.A (execs st X.env) (SP X pins D) X.xe s
theorem thn {α : Type} {t : Sem α} {Q Q' : α → Shared → Prop} {M : Model} {A : Around} {E : Value → Shared → Prop} {s : Shared} (h : wpAny M A t Q E s) (hQ : ∀ a s, Q a s → Q' a s) : wpAny M A t Q' E s := wpAny_mono h hQ fun _ _ x => x
end L2
namespace L2
open PySem PySem.Spec PyProof.Rows
section
variable {X : Cx}
def tVar (i : Nat) : TE := fun σ H Q => ∃ v, σ[i]? = some (some v) ∧ Q v H
def tC (v : V) : TE := fun _ H Q => Q v H
theorem pe_var {i : Nat} {x : Str} {pos : Pos} (hN : X.N[i]? = some x) (hv : Vis X.env.scope x) (hd : (x == ("__debug__" : Str)) = false := by decide) (hcd : (x == ("__classdict__" : Str)) = false := by decide) : PE X (.Name x pos) (tVar i) := by
  intro pins s σ H Q I h
  obtain ⟨v, e, h⟩ := h
  obtain ⟨m, hn, hl⟩ := I.loc
  obtain ⟨u, r, l⟩ := hl i x v hN e hv
  have fin : EP X pins σ Q u s := ⟨v, H, I, r, h⟩
  rcases l with ⟨hk, hm⟩ | ⟨hk, c, hc, hcell⟩
  · exact wpAny_Name (wpAny_loadName_local I.ok.kind hk hn hm fin) hd
  · rcases hk with hk | hk
    · exact wpAny_Name (wpAny_loadName_cell I.ok.kind hk hc hcell fin) hd
    · exact wpAny_Name (wpAny_loadName_free I.ok.kind hk hc hcell fin hcd) hd
theorem pe_int {i j pos} : PE X (.Constant (.int i) j pos) (tC (.int i)) := fun _ _ _ H _ I h => wpAny_Constant_int ⟨.int i, H, I.tok _, ⟨_, rfl⟩, h⟩
theorem pe_bl {b j pos} : PE X (.Constant (.bool b) j pos) (tC (.bl b)) := fun _ _ _ H _ I h => Constant_bool ⟨.bl b, H, I, rfl, h⟩
theorem pe_str {x j pos} : PE X (.Constant (.str x) j pos) (tC (.str x)) := fun _ _ _ H _ I h => Calls.Constant_str ⟨.str x, H, I.tok _, ⟨_, rfl⟩, h⟩
def Gl (X : Cx) (x : Str) : Prop := X.env.kindOf x = some .globalImplicit
theorem ld_glob {E : Value → Shared → Prop} {pins : List (Addr × Obj)} {s : Shared} {σ : St} {H : Hp} {x : Str} {u : Value} {pos : Pos} {Q : Value → Shared → Prop} (I : Inv X pins σ H s) (hg : Gl X x) (hm : X.mg x = some u) (h : Q u s)
    (hd : (x == ("__debug__" : Str)) = false := by decide) : wpAny (model X.prog X.w) X.A (eval (.Name x pos) X.env) Q E s :=
  Calls.Name_function_global I.ok.kind hg (Calls.loadGlobal_global (by rw [I.ok.glob]; exact I.mod.glob.keeps I.bk) hm h) hd
theorem ld_blt {E : Value → Shared → Prop} {pins : List (Addr × Obj)} {s : Shared} {σ : St} {H : Hp} {x : Str} {u : Value} {pos : Pos} {Q : Value → Shared → Prop} (I : Inv X pins σ H s) (hg : Gl X x) (hm : X.mg x = none) (hv : bootBuiltins x = some u) (h : Q u s)
    (hn : x ≠ "__name__" := by decide) (hd : (x == ("__debug__" : Str)) = false := by decide) : wpAny (model X.prog X.w) X.A (eval (.Name x pos) X.env) Q E s := by
  obtain ⟨mb, h1, h2⟩ := I.mod.blt
  exact Calls.Name_function_global I.ok.kind hg (Calls.loadGlobal_builtin (by rw [I.ok.glob]; exact I.mod.glob.keeps I.bk) hm (by rw [I.ok.blt]; exact h1.keeps I.bk) ((h2 x hn).trans hv) h) hd
theorem pe_bltn {x : Str} {v : V} {u : Value} {pos : Pos} (hg : Gl X x) (hm : X.mg x = none) (hv : bootBuiltins x = some u) (r : RelV v u) (hn : x ≠ "__name__" := by decide) (hd : (x == ("__debug__" : Str)) = false := by decide) : PE X (.Name x pos) (tC v) :=
  fun _ _ _ H _ I h => ld_blt I hg hm hv ⟨v, H, I, r, h⟩ hn hd
def t2I (ta tb : TE) (k : Int → Int → Hp → Prop) : St → Hp → Prop := fun σ H => ta σ H fun x H1 => tb σ H1 fun y H2 => ∃ i j, x = .int i ∧ y = .int j ∧ k i j H2
def tAdd (ta tb : TE) : TE := fun σ H Q => t2I ta tb (fun i j H2 => Q (.int (i + j)) H2) σ H
def tSub (ta tb : TE) : TE := fun σ H Q => t2I ta tb (fun i j H2 => Q (.int (i - j)) H2) σ H
def tMul (ta tb : TE) : TE := fun σ H Q => t2I ta tb (fun i j H2 => (-(2 ^ 64) < i ∧ i < 2 ^ 64) ∧ Q (.int (i * j)) H2) σ H
variable {a b : Expr} {ta tb : TE} {pos : Pos}
def PC (X : Cx) (op : CmpOp) (a b : Expr) (t : TE) : Prop :=
  ∀ (pins : List (Addr × Obj)) (s : Shared) (σ : St) (H : Hp) (Q : VK), Inv X pins σ H s → t σ H Q →
    wpAny (model X.prog X.w) X.A (eval a X.env) (fun v s₁ => wpAny (model X.prog X.w) X.A (eval b X.env) (fun u s₂ => wpAny (model X.prog X.w) X.A (compareOp op v u) (EP X pins σ Q) X.xe s₂) X.xe s₁) X.xe s
def tCmp (p : Int → Int → Bool) (ta tb : TE) : TE := fun σ H Q => t2I ta tb (fun i j H2 => Q (.bl (p i j)) H2) σ H
abbrev tLt : TE → TE → TE := tCmp fun i j => decide (i < j)
abbrev tLe : TE → TE → TE := tCmp fun i j => decide (i ≤ j)
abbrev tGt : TE → TE → TE := tCmp fun i j => decide (j < i)
abbrev tGe : TE → TE → TE := tCmp fun i j => decide (j ≤ i)
abbrev tEqI : TE → TE → TE := tCmp fun i j => decide (i = j)
abbrev tNeI : TE → TE → TE := tCmp fun i j => !decide (i = j)
def tIsN (ta : TE) : TE := fun σ H Q => ta σ H fun x H1 => Q (.bl (decide (x = .non))) H1
def tNotN (ta : TE) : TE := fun σ H Q => ta σ H fun x H1 => Q (.bl (!decide (x = .non))) H1
def tB (t : TE) : TT := fun σ H Q => t σ H fun x H1 => ∃ c, x = .bl c ∧ Q c H1
theorem pt_cmp {op : CmpOp} {t : TE} (h : PC X op a b t) (h1 : behindInMarks op b = false := by first | exact nobehind _ (by decide) (by decide) | rfl) : PT X (.Compare a [op] [b] pos) (tB t) := by
  intro pins s σ H Q I hw
  refine wpAny_isTrue_Compare1 (thn (h pins s σ H _ I hw) fun v s1 h1 => thn h1 fun u s2 h2 => thn h2 fun c s3 ⟨x, H1, I1, r1, q1⟩ => ?_) h1
  obtain ⟨d, rfl, q⟩ := q1
  cases r1
  exact wpAny_truthy_bool ⟨H1, I1, q⟩
theorem pt_val {e : Expr} {t : TE} (h : PE X e t) (he : ∀ whole, isTrue e X.env whole = (do let v ← whole; standAt e.pos; holding [v] (truthy v)) := by intro _; rfl) : PT X e (tB t) := by
  intro pins s σ H Q I hw
  refine isTrue_plain (thn (h pins s σ H _ I hw) fun v s1 ⟨x, H1, I1, r1, q1⟩ => ?_) (he _)
  obtain ⟨d, rfl, q⟩ := q1
  cases r1
  exact wpAny_truthy_bool ⟨H1, I1, q⟩
variable {tA tB' : TT} {rest : List Expr}
def tAnd (t u : TT) : TT := fun σ H Q => t σ H fun c H1 => if c = true then u σ H1 Q else Q false H1
def tOr (t u : TT) : TT := fun σ H Q => t σ H fun c H1 => if c = true then Q true H1 else u σ H1 Q
def tNot (t : TT) : TT := fun σ H Q => t σ H fun c H1 => Q (!c) H1
theorem pw_and1 (ha : PT X a tA) : PW X (.BoolOp .And [a] pos) tA := by
  intro wh pins s σ H Q I h
  refine isTrue_and (thn (ha pins s σ H Q I h) fun c s1 e => ?_)
  cases c with
  | true => exact isTrue_and_nil e
  | false => exact e
theorem pw_or1 (ha : PT X a tA) : PW X (.BoolOp .Or [a] pos) tA := by
  intro wh pins s σ H Q I h
  refine isTrue_or (thn (ha pins s σ H Q I h) fun c s1 e => ?_)
  cases c with
  | false => exact isTrue_or_nil e
  | true => exact e
theorem pw_and (ha : PT X a tA) (hb : PW X (.BoolOp .And (b :: rest) pos) tB') : PW X (.BoolOp .And (a :: b :: rest) pos) (tAnd tA tB') := by
  intro wh pins s σ H Q I h
  refine isTrue_and (thn (ha pins s σ H _ I h) fun c s1 ⟨H1, I1, q1⟩ => ?_)
  cases c with
  | true => exact hb wh pins s1 σ H1 Q I1 q1
  | false => exact ⟨H1, I1, q1⟩
theorem pw_or (ha : PT X a tA) (hb : PW X (.BoolOp .Or (b :: rest) pos) tB') : PW X (.BoolOp .Or (a :: b :: rest) pos) (tOr tA tB') := by
  intro wh pins s σ H Q I h
  refine isTrue_or (thn (ha pins s σ H _ I h) fun c s1 ⟨H1, I1, q1⟩ => ?_)
  cases c with
  | true => exact ⟨H1, I1, q1⟩
  | false => exact hb wh pins s1 σ H1 Q I1 q1
theorem pt_not (ha : PT X a tA) : PT X (.UnaryOp .Not a pos) (tNot tA) := by
  intro pins s σ H Q I h
  exact isTrue_not (ha pins s σ H (fun c H1 => Q (!c) H1) I h)
def tAndV (ta tb : TE) : TE := fun σ H Q => ta σ H fun x H1 => ∃ c, x = .bl c ∧ if c = true then tb σ H1 Q else Q (.bl false) H1
def tOrV (ta tb : TE) : TE := fun σ H Q => ta σ H fun x H1 => ∃ c, x = .bl c ∧ if c = true then Q (.bl true) H1 else tb σ H1 Q
def tNotV (ta : TE) : TE := fun σ H Q => ta σ H fun x H1 => ∃ c, x = .bl c ∧ Q (.bl (!c)) H1
theorem pe_one {op} {t : TE} (h : PE X a t) : PE X (.BoolOp op [a] pos) t := fun pins s σ H Q I hw => BoolOp_one (h pins s σ H Q I hw)
theorem pe_and (ha : PE X a ta) (hb : PE X (.BoolOp .And (b :: rest) pos) tb) : PE X (.BoolOp .And (a :: b :: rest) pos) (tAndV ta tb) := by
  intro pins s σ H Q I h
  refine BoolOp_and (thn (ha pins s σ H _ I h) fun v s1 ⟨x, H1, I1, r1, q1⟩ => ?_)
  obtain ⟨c, rfl, q1⟩ := q1
  cases r1
  refine wpAny_truthy_bool ?_
  cases c with
  | true => exact hb pins s1 σ H1 Q I1 q1
  | false => exact ⟨.bl false, H1, I1, rfl, q1⟩
def tIf (t : TT) (ta tb : TE) : TE := fun σ H Q => t σ H fun c H1 => if c = true then ta σ H1 Q else tb σ H1 Q
theorem pe_ifExp {c : Expr} (hc : PT X c tA) (ha : PE X a ta) (hb : PE X b tb) : PE X (.IfExp c a b pos) (tIf tA ta tb) := by
  intro pins s σ H Q I h
  refine wpAny_IfExp (thn (hc pins s σ H _ I h) fun d s1 ⟨H1, I1, q1⟩ => ?_)
  cases d with
  | true => exact ha pins s1 σ H1 Q I1 q1
  | false => exact hb pins s1 σ H1 Q I1 q1
end
end L2
namespace L2
open PySem PySem.Spec PyProof.Rows
def SqL (K : PySem.W.Frag) (H : Hp) (a : Addr) (xs : List V) : Prop :=
  Rd H a (.lst xs) ∨
    ∃ (o : Obj) (its : Array Value) (n : Nat), K.lookup a = some o ∧ o.cls = .type "list" ∧ o.dict = none ∧ o.data = .seq its n ∧ its.size ≤ sizeLine ∧ Vals xs its.toList
def SqT (K : PySem.W.Frag) (H : Hp) (a : Addr) (xs : List V) : Prop :=
  Rd H a (.tup xs) ∨
    ∃ (o : Obj) (its : Array Value) (n : Nat), K.lookup a = some o ∧ o.cls = .type "tuple" ∧ o.data = .seq its n ∧ its.size ≤ sizeLine ∧ Vals xs its.toList
def absV : Value → Option V
  | .none => some .non
  | .bool b => some (.bl b)
  | .int i _ => some (.int i)
  | .str x _ => some (.str x)
  | .bytes b _ => some (.byt b)
  | .float b _ => some (.flt b)
  | .ref a => some (.ref a)
  | .type n => some (.ty n)
  | _ => none
theorem RelV.abs {x : V} {u : Value} (r : RelV x u) : absV u = some x := by
  cases x with
  | non => cases r; rfl
  | bl _ => cases r; rfl
  | int _ => obtain ⟨t, rfl⟩ := r; rfl
  | str _ => obtain ⟨t, rfl⟩ := r; rfl
  | byt _ => obtain ⟨t, rfl⟩ := r; rfl
  | flt _ => obtain ⟨t, rfl⟩ := r; rfl
  | ref _ => cases r; rfl
  | ty _ => cases r; rfl
theorem RelV.inj {x y : V} {u : Value} (r : RelV x u) (q : RelV y u) : x = y := Option.some.inj (r.abs.symm.trans q.abs)
theorem Vals.inj : ∀ {xs ys : List V} {us : List Value}, Vals xs us → Vals ys us → xs = ys
  | _, _, _, .nil, .nil => rfl
  | _, _, _, .cons r t, .cons r' t' => by rw [r.inj r', Vals.inj t t']
section
variable {X : Cx} {pins : List (Addr × Obj)} {σ : St} {H : Hp} {s : Shared} {a : Addr} {xs ys : List V}
theorem SqL.of {K : PySem.W.Frag} (h : H a = some (.lst xs)) : SqL K H a xs := .inl (.inl h)
theorem SqT.of {K : PySem.W.Frag} (h : H a = some (.tup xs)) : SqT K H a xs := .inl (.inl h)
theorem Inv.list (I : Inv X pins σ H s) (h : SqL X.K H a xs) : ∃ its : List Value, Vals xs its ∧ PlainL s.heap a its.toArray ∧ xs.length ≤ sizeLine := by
  rcases h with h | ⟨o, its, n, hk, hc, hd, hs, hz, r⟩
  · obtain ⟨z, its, n, r, e⟩ := h.ok I.hok
    exact ⟨its, r, ⟨_, n, e, rfl, rfl, rfl⟩, z⟩
  · refine ⟨its.toList, r, ⟨o, n, I.kIn a o hk, hc, hd, by simpa using hs⟩, ?_⟩
    have e := r.length
    simp only [Array.length_toList] at e
    omega
theorem Inv.tuple (I : Inv X pins σ H s) (h : SqT X.K H a xs) : ∃ its : List Value, Vals xs its ∧ IsTup s.heap a its.toArray ∧ xs.length ≤ sizeLine := by
  rcases h with h | ⟨o, its, n, hk, hc, hs, hz, r⟩
  · obtain ⟨z, its, r, p⟩ := h.ok I.hok
    exact ⟨its, r, p, z⟩
  · refine ⟨its.toList, r, ⟨o, I.kIn a o hk, hc, n, by simpa using hs⟩, ?_⟩
    have e := r.length
    simp only [Array.length_toList] at e
    omega
theorem Inv.list_inj (I : Inv X pins σ H s) (h : SqL X.K H a xs) (h' : SqL X.K H a ys) : xs = ys := by
  obtain ⟨its, r, ⟨o, n, e, _, _, d⟩, _⟩ := I.list h
  obtain ⟨its', r', ⟨o', n', e', _, _, d'⟩, _⟩ := I.list h'
  rw [e] at e'; cases e'
  rw [d] at d'
  injection d' with d1 _
  have : its = its' := by simpa using congrArg Array.toList d1
  subst this
  exact r.inj r'
end
abbrev Cx.wish (X : Cx) (E : Value → Shared → Prop) : Cx := { X with xe := E }
abbrev Cx.nox (X : Cx) : Cx := X.wish fun _ _ => False
theorem Cx.Ok.wish {X : Cx} (ok : X.Ok) (E : Value → Shared → Prop) : (X.wish E).Ok :=
  ⟨ok.mod, ok.kind, ok.glob, ok.blt, ok.above, ok.inj, ok.has, ok.cab, ok.hd, ok.frames, ok.stk, ok.exf, ok.bs, ok.bsz, ok.noex, ok.exfs, ok.funs, ok.frf⟩
theorem Cx.Ok.unwish {X : Cx} {E : Value → Shared → Prop} (ok : (X.wish E).Ok) : X.Ok :=
  ⟨ok.mod, ok.kind, ok.glob, ok.blt, ok.above, ok.inj, ok.has, ok.cab, ok.hd, ok.frames, ok.stk, ok.exf, ok.bs, ok.bsz, ok.noex, ok.exfs, ok.funs, ok.frf⟩
section
variable {X : Cx} {pins : List (Addr × Obj)} {σ : St} {H : Hp} {s : Shared} {E : Value → Shared → Prop}
theorem Inv.wish (I : Inv X pins σ H s) (E : Value → Shared → Prop) : Inv (X.wish E) pins σ H s := ⟨I.ok.wish E, I.os, I.bare, I.base, I.loc, I.cell, I.free, I.freeC, I.pin, I.hok, I.len⟩
theorem Inv.unwish (I : Inv (X.wish E) pins σ H s) : Inv X pins σ H s := ⟨I.ok.unwish, I.os, I.bare, I.base, I.loc, I.cell, I.free, I.freeC, I.pin, I.hok, I.len⟩
theorem SP.unwish {D : Ends} {f : Flow} {s' : Shared} (h : SP (X.wish E) pins D f s') : SP X pins D f s' := by
  cases f with
  | next => obtain ⟨σ', H', I, q⟩ := h; exact ⟨σ', H', I.unwish, q⟩
  | brk => obtain ⟨σ', H', I, q⟩ := h; exact ⟨σ', H', I.unwish, q⟩
  | cont => obtain ⟨σ', H', I, q⟩ := h; exact ⟨σ', H', I.unwish, q⟩
  | ret u => obtain ⟨v, σ', H', I, r, q⟩ := h; exact ⟨v, σ', H', I.unwish, r, q⟩
theorem PSs.nox {st : List Stmt} {t : TS} (h : PSs X.nox st t) : PSs X st t := fun pins s σ H D I hw =>
  wpAny_mono (h pins s σ H D (I.wish _) hw) (fun _ _ q => q.unwish) fun _ _ z => False.elim z
end
section
variable {X : Cx} {st : Stmt} {rest : List Stmt} {t u : TS} {e : Expr} {te : TE} {pos : Pos}
def tNext : TS := fun D σ H => D.nx σ H
def tSeq (t u : TS) : TS := fun D σ H => t { D with nx := u D } σ H
theorem pss_nil : PSs X [] tNext := fun _ _ σ H _ I h => wpAny_execs_nil ⟨σ, H, I, h⟩
theorem pss_cons (h1 : PS X st t) (h2 : PSs X rest u) : PSs X (st :: rest) (tSeq t u) := by
  intro pins s σ H D I h
  refine wpAny_execs_cons (thn (h1 pins s σ H { D with nx := u D } I h) fun f s1 q => ?_)
  cases f with
  | next =>
    obtain ⟨σ', H', I', q⟩ := q
    exact h2 pins s1 σ' H' D I' q
  | ret v => exact q
  | brk => exact q
  | cont => exact q
theorem pss_one (h1 : PS X st t) : PSs X [st] t := by
  intro pins s σ H D I h
  refine wpAny_execs_cons (thn (h1 pins s σ H D I h) fun f s1 q => ?_)
  cases f with
  | next => exact wpAny_execs_nil q
  | ret v => exact q
  | brk => exact q
  | cont => exact q
def tBreak : TS := fun D σ H => D.bk σ H
def tCont : TS := fun D σ H => D.ct σ H
theorem Inv.quiet {pins : List (Addr × Obj)} {σ : St} {H : Hp} {s : Shared} (I : Inv X pins σ H s) : interactive X.env = false := by simp [interactive, I.ok.kind]
def tDrop (te : TE) : TS := fun D σ H => te σ H fun _ H1 => D.nx σ H1
theorem ps_expr (he : PE X e te) (hs : swapsWith e none pos.line X.env = pure false := by rfl) : PS X (.Expr e pos) (tDrop te) := by
  intro pins s σ H D I h
  exact wpAny_Expr_any (thn (he pins s σ H _ I h) fun v s1 ⟨x, H1, I1, r1, q1⟩ => ⟨σ, H1, I1, q1⟩) I.quiet hs
def tRet (te : TE) : TS := fun D σ H => te σ H D.rt
theorem ps_ret (he : PE X e te) : PS X (.Return (some e) pos) (tRet te) := by
  intro pins s σ H D I h
  exact wpAny_Return_some (thn (he pins s σ H _ I h) fun v s1 ⟨x, H1, I1, r1, q1⟩ => ⟨x, σ, H1, I1, r1, q1⟩)
def tRetN : TS := fun D _ H => D.rt .non H
def tIfS (c : TT) (t u : TS) : TS := fun D σ H => c σ H fun b H1 => if b = true then t D σ H1 else u D σ H1
theorem ps_if {c : Expr} {a b : List Stmt} {tc : TT} (hc : PT X c tc) (ha : PSs X a t) (hb : PSs X b u) : PS X (.If c a b pos) (tIfS tc t u) := by
  intro pins s σ H D I h
  refine wpAny_If (thn (hc pins s σ H _ I h) fun d s1 ⟨H1, I1, q1⟩ => ?_)
  cases d with
  | true => exact ha pins s1 σ H1 D I1 q1
  | false => exact hb pins s1 σ H1 D I1 q1
def tNever : TS := fun _ _ _ => False
end
abbrev TG := V → St → Hp → (St → Hp → Prop) → Prop
abbrev TGs := List V → St → Hp → (St → Hp → Prop) → Prop
def PG (X : Cx) (target : Expr) (t : TG) : Prop :=
  ∀ (pins : List (Addr × Obj)) (s : Shared) (σ : St) (H : Hp) (v : V) (u : Value) (Q : St → Hp → Prop), Inv X pins σ H s → RelV v u → t v σ H Q →
    wpAny (model X.prog X.w) X.A (assign target X.env u) (fun _ s' => ∃ σ' H', Inv X pins σ' H' s' ∧ Q σ' H') X.xe s
def PGs (X : Cx) (ts : List Expr) (t : TGs) : Prop :=
  ∀ (pins : List (Addr × Obj)) (s : Shared) (σ : St) (H : Hp) (vs : List V) (us : List Value) (Q : St → Hp → Prop), Inv X pins σ H s → Vals vs us → t vs σ H Q →
    wpAny (model X.prog X.w) X.A (assignInOrder ((assignEach ts X.env).map (·.2)) us) (fun _ s' => ∃ σ' H', Inv X pins σ' H' s' ∧ Q σ' H') X.xe s
abbrev TSet := V → V → V → Hp → (Hp → Prop) → Prop
def PSet (X : Cx) (t : TSet) : Prop :=
  ∀ (pins : List (Addr × Obj)) (s : Shared) (σ : St) (H : Hp) (o i v : V) (ov iv u : Value) (Q : Hp → Prop), Inv X pins σ H s → RelV o ov → RelV i iv → RelV v u → t o i v H Q →
    wpAny (model X.prog X.w) X.A (setItem ov iv u) (fun _ s' => ∃ H', Inv X pins σ H' s' ∧ Q H') X.xe s
abbrev TIp := V → V → Hp → VK → Prop
def PIp (X : Cx) (op : Operator) (t : TIp) : Prop :=
  ∀ (pins : List (Addr × Obj)) (s : Shared) (σ : St) (H : Hp) (x y : V) (v u : Value) (Q : VK), Inv X pins σ H s → RelV x v → RelV y u → t x y H Q →
    wpAny (model X.prog X.w) X.A (inplaceOp op v u) (EP X pins σ Q) X.xe s
section
variable {X : Cx} {pos : Pos}
def gName (i : Nat) : TG := fun v σ H Q => Q (σ.set i (some v)) H
theorem pg_name {i : Nat} {x : Str} (hN : X.N.Nodup) (hi : X.N[i]? = some x) (hx : Loc X.env.scope x) (hf : X.fn x = true ∨ X.env.scope.names.lookup x = some .local := by first | exact .inl rfl | exact .inr rfl | assumption) : PG X (.Name x pos) (gName i) := by
  intro pins s σ H v u Q I r h
  exact wpAny_assign_Name (store_ok I hN hi hx r (fun s' I' => ⟨_, H, I', h⟩) hf)
def gNil : TGs := fun vs σ H Q => vs = [] ∧ Q σ H
def gCons (t : TG) (u : TGs) : TGs := fun vs σ H Q => ∃ v r, vs = v :: r ∧ t v σ H fun σ' H' => u r σ' H' Q
theorem pgs_nil : PGs X [] gNil := by
  intro pins s σ H vs us Q I r h
  obtain ⟨e, h⟩ := h
  subst e
  cases r
  exact assignInOrder_nil ⟨σ, H, I, h⟩
theorem pgs_cons {e : Expr} {es : List Expr} {t : TG} {u : TGs} (h1 : PG X e t) (h2 : PGs X es u)
    (hs : (assignEach (e :: es) X.env).map (·.2) = assign e X.env :: (assignEach es X.env).map (·.2) := by rfl) : PGs X (e :: es) (gCons t u) := by
  intro pins s σ H vs us Q I r h
  obtain ⟨v, vr, e1, h⟩ := h
  subst e1
  cases r with
  | cons r rr =>
    rw [hs]
    refine assignInOrder_cons (thn (h1 pins s σ H _ _ _ I r h) fun _ s1 ⟨σ1, H1, I1, q1⟩ => ?_)
    exact h2 pins s1 σ1 H1 _ _ Q I1 rr q1
def gTup (K : PySem.W.Frag) (n : Nat) (t : TGs) : TG := fun v σ H Q => ∃ a xs, v = .ref a ∧ SqT K H a xs ∧ xs.length = n ∧ t xs σ H Q
theorem pg_tup {es : List Expr} {k : Nat} {t : TGs} {n : Nat} (hc : X.calm = true) (h : PGs X es t)
    (hn : (assignEach es X.env).length = n := by rfl) (hst : (assignEach es X.env).findIdx? (·.1) = none := by rfl) : PG X (.Tuple es k pos) (gTup X.K n t) := by
  intro pins s σ H v u Q I r hw
  obtain ⟨a, xs, e1, hq, hl, hw⟩ := hw
  subst e1
  cases r
  obtain ⟨its, rv, ht, hz⟩ := I.tuple hq
  refine assign_Tuple_tuple (I.ok.hd hc) ht (by simp [hn, ← hl, rv.length]) hst fun h' hx => ?_
  have I1 : Inv X pins σ H { s with heap := h' } := I.kept (t' := s.toks) fun b o e => hx b o (Nat.ne_of_lt (Heap.lt_size e)) e
  exact h pins _ σ H xs _ Q I1 (by simpa using rv) hw
def gSub (to ti : TE) (t : TSet) : TG := fun v σ H Q => to σ H fun o H1 => ti σ H1 fun i H2 => t o i v H2 fun H3 => Q σ H3
def tAsg (te : TE) (g : TG) : TS := fun D σ H => te σ H fun x H1 => g x σ H1 D.nx
theorem ps_set {i : Nat} {x : Str} {e : Expr} {te : TE} {pos' : Pos} (hN : X.N.Nodup) (hi : X.N[i]? = some x) (hx : Loc X.env.scope x) (he : PE X e te) (hs : swapsWith e (some (.Name x pos')) pos.line X.env = pure false := by rfl) (hf : X.fn x = true ∨ X.env.scope.names.lookup x = some .local := by first | exact .inl rfl | exact .inr rfl | assumption) :
    PS X (.Assign [.Name x pos'] e pos) (tAsg te (gName i)) := by
  intro pins s σ H D I h
  refine wpAny_Assign_Name (thn (he pins s σ H _ I h) fun v s1 ⟨y, H1, I1, r1, q1⟩ => ?_) hs
  exact store_ok I1 hN hi hx r1 (fun s2 I2 => ⟨_, H1, I2, q1⟩) hf
def tPar (i j : Nat) (ta : TA) : TS := fun D σ H => ta σ H fun vs H1 => ∃ v w, vs = [v, w] ∧ D.nx ((σ.set i (some v)).set j (some w)) H1
def tAug (i : Nat) (te : TE) (ti : TIp) : TS := fun D σ H => ∃ x, σ[i]? = some (some x) ∧ te σ H fun y H1 => ti x y H1 fun z H2 => D.nx (σ.set i (some z)) H2
def tAugS (to ti te : TE) (tget : V → V → Hp → VK → Prop) (tip : TIp) (tset : TSet) : TS := fun D σ H => to σ H fun o H1 => ti σ H1 fun i H2 => tget o i H2 fun x H3 => te σ H3 fun y H4 => tip x y H4 fun z H5 => tset o i z H5 fun H6 => D.nx σ H6
def PGet (X : Cx) (t : V → V → Hp → VK → Prop) : Prop :=
  ∀ (pins : List (Addr × Obj)) (s : Shared) (σ : St) (H : Hp) (o i : V) (ov iv : Value) (Q : VK), Inv X pins σ H s → RelV o ov → RelV i iv → t o i H Q →
    wpAny (model X.prog X.w) X.A (getItem ov iv) (EP X pins σ Q) X.xe s
def ipI (f : Int → Int → Int) : TIp := fun x y H Q => ∃ i j, x = .int i ∧ y = .int j ∧ Q (.int (f i j)) H
end
section
variable {X : Cx} {pos : Pos}
def tWhile (c : TT) (tb : TS) : TS := fun D σ H => ∃ W : Nat → St → Hp → Prop, (∃ m, W m σ H) ∧ ∀ m σ H, W m σ H →
  c σ H fun b H1 => if b = true then ∃ N : St → Hp → Prop, (∀ σ' H', N σ' H' → ∃ m', m' < m ∧ W m' σ' H') ∧ tb { D with nx := N, ct := N, bk := D.nx } σ H1 else D.nx σ H1
end
structure It where
  go : Nat → Hp → Prop
  yld : Nat → Hp → V → Hp → Prop
  stop : Nat → Hp → Prop
def FpOk (X : Cx) (pins : List (Addr × Obj)) (H : Hp) (b : Addr) : Prop :=
  H b = none ∧ b ≠ X.env.locals ∧ b ∉ X.fs ∧ (b ∈ X.ex ∨ X.s₀.heap.objs.size ≤ b) ∧ (∀ x c, X.env.cells.lookup x = some c → c ≠ b) ∧ ∀ p ∈ X.pn ++ pins, p.1 ≠ b
theorem Inv.fpOk {X : Cx} {pins : List (Addr × Obj)} {σ : St} {H H' : Hp} {s : Shared} {b : Addr} (I : Inv X pins σ H s) (hb : s.heap.objs.size ≤ b) (hn : H' b = none) : FpOk X pins H' b := by
  refine ⟨hn, Nat.ne_of_gt (Nat.lt_of_lt_of_le I.lt hb), I.nofs hb, .inr (Nat.le_trans I.sz hb), fun x c e z => ?_, fun p hp z => ?_⟩
  · obtain ⟨v, q⟩ := I.cell x c e
    exact absurd (Nat.lt_of_lt_of_le q.lt (by rw [z]; exact hb)) (Nat.lt_irrefl _)
  · exact absurd (Nat.lt_of_lt_of_le (Heap.lt_size (I.pin p hp).1) (by rw [z]; exact hb)) (Nat.lt_irrefl _)
structure Turn (P : Program) (w : World) (K : PySem.W.Frag) (tg : Expr) (J : It) (fp : List Addr) (it : Addr) (tn : Nat → Heap → Prop) : Prop where
  mem : it ∈ fp
  obj : ∀ i h, tn i h → ∀ b ∈ fp, ∃ o, h.get? b = some o ∧ ∀ v, o.data ≠ .cell v
  keep : ∀ i h h', tn i h → (∀ b ∈ fp, ∀ o, h.get? b = some o → h'.get? b = some o) → tn i h'
  item : ∀ (X : Cx), X.prog = P → X.w = w → X.K = K → X.calm = true → ∀ (i : Nat) (pins : List (Addr × Obj)) (s : Shared) (σ : St) (H : Hp) (E : Value → Shared → Prop), Inv X pins σ H s → (∀ b ∈ fp, FpOk X pins H b) → tn i s.heap → J.go i H →
    wpAny (model P w) X.A (pyNext (.ref it)) (fun r s1 => ∃ u, r = some u ∧
      wpAny (model P w) X.A (letOwnedTupleGo tg (.ref it) u) (fun _ s2 => ∃ x H', Inv X pins σ H' s2 ∧ RelV x u ∧ J.yld i H x H' ∧ tn (i + 1) s2.heap ∧ ∀ b ∈ fp, H' b = none) E s1) E s
  done : ∀ (X : Cx), X.prog = P → X.w = w → X.K = K → X.calm = true → ∀ (i : Nat) (pins : List (Addr × Obj)) (s : Shared) (σ : St) (H : Hp) (E : Value → Shared → Prop), Inv X pins σ H s → (∀ b ∈ fp, FpOk X pins H b) → tn i s.heap → J.stop i H →
    wpAny (model P w) X.A (pyNext (.ref it)) (fun r s1 => r = none ∧ Inv X pins σ H s1) E s
  self : ∀ (A : Around) (i : Nat) (s : Shared) (Q : Value → Shared → Prop) (E : Value → Shared → Prop), tn i s.heap → Q (.ref it) s → wpAny (model P w) A (pyIter (.ref it)) Q E s
abbrev TI := St → Hp → (It → Hp → Prop) → Prop
def PIE (X : Cx) (pins : List (Addr × Obj)) (σ : St) (tg : Expr) (R : It → Hp → Prop) (itv : Value) (s2 : Shared) : Prop :=
  ∃ (it : Addr) (fp : List Addr) (tn : Nat → Heap → Prop) (J : It) (H' : Hp), itv = .ref it ∧ Inv X pins σ H' s2 ∧ Turn X.prog X.w X.K tg J fp it tn ∧ tn 0 s2.heap ∧ (∀ b ∈ fp, FpOk X pins H' b) ∧ R J H'
def PI (X : Cx) (tg iter : Expr) (wi : TI) : Prop :=
  ∀ (pins : List (Addr × Obj)) (s : Shared) (σ : St) (H : Hp) (R : It → Hp → Prop), Inv X pins σ H s → wi σ H R →
    wpAny (model X.prog X.w) X.A (eval iter X.env) (fun v s1 => wpAny (model X.prog X.w) X.A (pyIter v) (PIE X pins σ tg R) X.xe s1) X.xe s
theorem go_of {M : Model} {A : Around} {E : Value → Shared → Prop} {s : Shared} {tg : Expr} {it : Addr} {u : Value} {o : Obj} {n : String} {vs : Array Value} {Q : Unit → Shared → Prop} (ho : s.heap.get? it = some o) (hc : o.cls = .type n) (hd : o.data = .fields vs)
    (hn : ["enumerate", "zip", "dict_itemiterator", "dict_reverseitemiterator", "odict_iterator", "itertools.zip_longest", "itertools.pairwise"].contains n = false) (hQ : Q () s) : wpAny M A (letOwnedTupleGo tg (.ref it) u) Q E s := by
  unfold letOwnedTupleGo
  cases tg <;> first
    | exact wpAny_pure hQ
    | (cases u <;> first
        | exact wpAny_pure hQ
        | (refine wpAny_bind (wpAny_load ho ?_)
           rw [hc, hd]
           show wpAny M A (if (["enumerate", "zip", "dict_itemiterator", "dict_reverseitemiterator", "odict_iterator", "itertools.zip_longest", "itertools.pairwise"].contains n && vs[0]? == some (rawInt _)) = true then _ else _) Q E s
           rw [if_neg (by intro h; rw [hn, Bool.false_and] at h; cases h)]
           exact wpAny_pure hQ))
def Itl (K : PySem.W.Frag) (a : Addr) : It :=
  ⟨fun i H => ∃ xs x, SqL K H a xs ∧ xs[i]? = some x, fun i H x H' => H' = H ∧ ∀ xs, SqL K H a xs → xs[i]? = some x, fun i H => ∃ xs, SqL K H a xs ∧ xs.length ≤ i⟩
def Itt (K : PySem.W.Frag) (a : Addr) : It :=
  ⟨fun i H => ∃ xs x, SqT K H a xs ∧ xs[i]? = some x, fun i H x H' => H' = H ∧ ∀ xs, SqT K H a xs → xs[i]? = some x, fun i H => ∃ xs, SqT K H a xs ∧ xs.length ≤ i⟩
def Itr (lo : Int) (n : Nat) : It := ⟨fun i _ => i < n, fun i H x H' => H' = H ∧ x = .int (lo + i), fun i _ => n ≤ i⟩
theorem turn_list {P : Program} {w : World} {K : PySem.W.Frag} {tg : Expr} (a it : Addr) : Turn P w K tg (Itl K a) [it] it (fun i h => h.IsListIter it a i) where
  mem := by simp
  obj := fun i h st b hb => by
    have e : b = it := by simpa using hb
    subst e
    obtain ⟨o, e, c, d⟩ := st
    exact ⟨o, e, fun v z => by rw [d] at z; cases z⟩
  keep := fun i h h' st k => st.at fun o e => k it (by simp) o e
  item := by
    intro X hP hw hK hc i pins s σ H E I hf st hg
    subst hP hw hK
    obtain ⟨xs, x, hq, hx⟩ := hg
    obtain ⟨its, rv, p, hz⟩ := I.list hq
    obtain ⟨u, hu, ru⟩ := rv.get hx
    obtain ⟨f0, f1, f2, f3, f4, f5⟩ := hf it (by simp)
    refine wpAny_pyNext_list_item st p.isList (x := u) (by simpa using hu) fun h' st' sb => ?_
    have I1 : Inv X pins σ H { s with heap := h' } := I.turned (t' := s.toks) (fun b o hb e => (sb.2 b hb).trans e) f0 f1 f3 f4 f5
    obtain ⟨o, e, c, d⟩ := id st'
    exact ⟨u, rfl, go_of (s := { s with heap := h' }) e c d (by decide) ⟨x, H, I1, ru, ⟨rfl, fun ys hy => by rw [I.list_inj hy hq]; exact hx⟩, st', fun b hb => (hf b hb).1⟩⟩
  done := by
    intro X hP hw hK hc i pins s σ H E I hf st hg
    subst hP hw hK
    obtain ⟨xs, hq, hx⟩ := hg
    obtain ⟨its, rv, p, hz⟩ := I.list hq
    obtain ⟨f0, f1, f2, f3, f4, f5⟩ := hf it (by simp)
    have hl := rv.length
    exact wpAny_pyNext_list_end (I.ok.hd hc) st p.isList (by simp; omega) fun h' eb => ⟨rfl, I.turned (t' := s.toks) (fun b o hb e => eb b o hb e) f0 f1 f3 f4 f5⟩
  self := fun _ _ _ _ _ st h => wpAny_pyIter_listiter st h
theorem turn_range {P : Program} {w : World} {K : PySem.W.Frag} {tg : Expr} (it : Addr) (lo : Int) (n : Nat) : Turn P w K tg (Itr lo n) [it] it (fun i h => IsRangeIter h it (lo + (i : Nat) * 1) ((n : Int) - (i : Nat)) 1) where
  mem := by simp
  obj := fun i h st b hb => by
    have e : b = it := by simpa using hb
    subst e
    exact ⟨_, st, fun v z => by
      have z' : Data.fields _ = Data.cell v := z
      cases z'⟩
  keep := fun i h h' st k => k it (by simp) _ st
  item := by
    intro X hP hw hK hc i pins s σ H E I hf st hg
    subst hP hw hK
    obtain ⟨f0, f1, f2, f3, f4, f5⟩ := hf it (by simp)
    have W := Walks.range (prog := X.prog) (w := X.w) (I.ok.hd hc) it lo 1 n
    refine W.item i s _ _ hg st fun v h' tk hv st' kk => ?_
    obtain ⟨t, rfl⟩ := hv
    have I1 : Inv X pins σ H { s with heap := h', toks := tk } := I.turned (fun b o hb e => kk b o (by simpa using hb) e) f0 f1 f3 f4 f5
    refine ⟨_, rfl, go_of (s := { s with heap := h', toks := tk }) (n := "range_iterator") st' rfl rfl (by decide) ⟨.int (lo + i), H, I1, ⟨t, ?_⟩, ⟨rfl, rfl⟩, st', fun b hb => (hf b hb).1⟩⟩
    rw [Int.mul_one]
  done := by
    intro X hP hw hK hc i pins s σ H E I hf st hg
    subst hP hw hK
    obtain ⟨f0, f1, f2, f3, f4, f5⟩ := hf it (by simp)
    exact wpAny_pyNext_range_end (I.ok.hd hc) st (by have : n ≤ i := hg; omega) fun h' eb => ⟨rfl, I.turned (t' := s.toks) (fun b o hb e => eb b o hb e) f0 f1 f3 f4 f5⟩
  self := fun _ _ _ _ _ st h => wpAny_pyIter_rangeiter st h
end L2
namespace L2
open PySem PySem.Spec PyProof.Rows
section
variable {X : Cx} {tg : Expr}
def iList (K : PySem.W.Frag) (tl : TE) : TI := fun σ H R => tl σ H fun x H1 => ∃ a, x = .ref a ∧ (∃ xs, SqL K H1 a xs) ∧ R (Itl K a) H1
def iTup (K : PySem.W.Frag) (tl : TE) : TI := fun σ H R => tl σ H fun x H1 => ∃ a, x = .ref a ∧ (∃ xs, SqT K H1 a xs) ∧ R (Itt K a) H1
theorem pi_list {l : Expr} {tl : TE} (hl : PE X l tl) : PI X tg l (iList X.K tl) := by
  intro pins s σ H R I h
  refine thn (hl pins s σ H _ I h) fun v s1 ⟨x, H1, I1, r1, q1⟩ => ?_
  obtain ⟨a, e, ⟨xs, hq⟩, q⟩ := q1
  subst e
  cases r1
  obtain ⟨its, rv, p, hz⟩ := I1.list hq
  refine wpAny_pyIter_list p.isList ?_
  refine ⟨s1.heap.objs.size, [s1.heap.objs.size], _, _, H1, rfl, I1.kept (t' := s1.toks) fun b o e => Heap.get?_push_of_some _ e, turn_list a _, ⟨_, Heap.get?_push_size _ rfl, rfl, rfl⟩, fun b hb => ?_, q⟩
  have e : b = s1.heap.objs.size := by simpa using hb
  subst e
  exact I1.fpOk (Nat.le_refl _) (I1.hok.fresh (Nat.le_refl _))
theorem range_it {pins : List (Addr × Obj)} {σ : St} {H : Hp} {s : Shared} {R : It → Hp → Prop} {E : Value → Shared → Prop} {lo hi : Int} {t u v : Tok} {tk : Nat} (I : Inv X pins σ H s) (h1 : -(2 ^ 62) ≤ lo) (h2 : lo < 2 ^ 62) (h3 : -(2 ^ 62) ≤ hi) (h4 : hi < 2 ^ 62)
    (q : R (Itr lo (hi - lo).toNat) H) : wpAny (model X.prog X.w) X.A (pyIter (.ref s.heap.objs.size)) (PIE X pins σ tg R) E { s with heap := s.heap.push { cls := .type "range", data := .fields #[.int lo t, .int hi u, .int 1 v] }, toks := tk } := by
  refine wpAny_pyIter_range (IsRange.new ..) (small_one h1 h2 h3 h4) ?_
  have I1 : Inv X pins σ H { s with heap := s.heap.push { cls := .type "range", data := .fields #[.int lo t, .int hi u, .int 1 v] }, toks := tk } := I.kept fun b o e => Heap.get?_push_of_some _ e
  refine ⟨(s.heap.push { cls := .type "range", data := .fields #[.int lo t, .int hi u, .int 1 v] }).objs.size, [(s.heap.push { cls := .type "range", data := .fields #[.int lo t, .int hi u, .int 1 v] }).objs.size], _, _, H, rfl,
    I1.kept (t' := tk) fun b o e => Heap.get?_push_of_some _ e, turn_range _ lo (hi - lo).toNat, ?_, fun b hb => ?_, q⟩
  · have e1 : lo + ((0 : Nat) : Int) * 1 = lo := by simp
    have e2 : (((hi - lo).toNat : Nat) : Int) - ((0 : Nat) : Int) = Builtin.Range.rangeSize lo hi 1 := by rw [rangeSize_one]; split <;> omega
    show IsRangeIter _ _ (lo + ((0 : Nat) : Int) * 1) ((((hi - lo).toNat : Nat) : Int) - ((0 : Nat) : Int)) 1
    rw [e1, e2]
    exact Heap.get?_push_size _ rfl
  · have e : b = (s.heap.push { cls := .type "range", data := .fields #[.int lo t, .int hi u, .int 1 v] }).objs.size := by simpa using hb
    subst e
    exact I1.fpOk (Nat.le_refl _) (I1.hok.fresh (Nat.le_refl _))
def iRng1 (ta : TA) : TI := fun σ H R => ta σ H fun vs H1 => ∃ j : Int, vs = [.int j] ∧ -(2 ^ 62) ≤ j ∧ j < 2 ^ 62 ∧ R (Itr 0 j.toNat) H1
def iRng2 (ta : TA) : TI := fun σ H R => ta σ H fun vs H1 => ∃ i j : Int, vs = [.int i, .int j] ∧ (-(2 ^ 62) ≤ i ∧ i < 2 ^ 62 ∧ -(2 ^ 62) ≤ j ∧ j < 2 ^ 62) ∧ R (Itr i (j - i).toNat) H1
theorem pi_range1 {a : Expr} {ta : TA} {p pos : Pos} (hg : Gl X "range") (hm : X.mg "range" = none) (ha : PA X [a] ta) (hs : starEach [a] X.env = [(false, eval a X.env)] := by rfl) : PI X tg (.Call (.Name "range" p) [a] [] pos) (iRng1 ta) := by
  intro pins s σ H R I h
  refine Call_ (ld_blt I hg hm boot_range (PyProof.Rows.callWith_type1 (thn (ha pos pins s σ H _ I h) fun us s1 ⟨vs, H1, I1, r1, q1⟩ => ?_) hs rfl))
  obtain ⟨j, e, q1, q2, q⟩ := q1
  subst e
  cases r1 with
  | cons r rr =>
    cases rr
    obtain ⟨t, rfl⟩ := r
    exact call_range_1 (range_it I1 (by omega) (by omega) q1 q2 (by simpa using q))
theorem pi_range2 {a b : Expr} {ta : TA} {p pos : Pos} (hg : Gl X "range") (hm : X.mg "range" = none) (ha : PA X [a, b] ta) (hs : starEach [a, b] X.env = [(false, eval a X.env), (false, eval b X.env)] := by rfl) (hs2 : starEach [b] X.env = [(false, eval b X.env)] := by rfl) :
    PI X tg (.Call (.Name "range" p) [a, b] [] pos) (iRng2 ta) := by
  intro pins s σ H R I h
  refine Call_ (ld_blt I hg hm boot_range (PyProof.Rows.callWith_type1 (thn (ha pos pins s σ H _ I h) fun us s1 ⟨vs, H1, I1, r1, q1⟩ => ?_) (by rw [hs, hs2]) (by rw [hs2]; rfl)))
  obtain ⟨i, j, e, ⟨q1, q2, q3, q4⟩, q⟩ := q1
  subst e
  cases r1 with
  | cons r rr =>
    cases rr with
    | cons r' rr =>
      cases rr
      obtain ⟨t, rfl⟩ := r
      obtain ⟨t', rfl⟩ := r'
      exact call_range_2 (range_it I1 q1 q2 q3 q4 q)
def tFor (wi : TI) (g : TG) (tb : TS) : TS := fun D σ H => wi σ H fun J H1 => ∃ W : Nat → Nat → St → Hp → Prop, (∃ m, W 0 m σ H1) ∧ ∀ i m σ H, W i m σ H →
  (J.stop i H ∧ D.nx σ H) ∨ (J.go i H ∧ ∃ N : St → Hp → Prop, (∀ σ' H', N σ' H' → ∃ m', m' < m ∧ W (i + 1) m' σ' H') ∧ ∀ x H', J.yld i H x H' → g x σ H' fun σ2 H2 => tb { D with nx := N, ct := N, bk := D.nx } σ2 H2)
def pinsAt (fp : List Addr) (h : Heap) : List (Addr × Obj) := fp.filterMap fun b => (h.get? b).map fun o => (b, o)
theorem mem_pinsAt {fp : List Addr} {h : Heap} {b : Addr} {o : Obj} (hb : b ∈ fp) (e : h.get? b = some o) : (b, o) ∈ pinsAt fp h := List.mem_filterMap.mpr ⟨b, hb, by rw [e]; rfl⟩
theorem of_pinsAt {fp : List Addr} {h : Heap} {p : Addr × Obj} (hp : p ∈ pinsAt fp h) : p.1 ∈ fp ∧ h.get? p.1 = some p.2 := by
  obtain ⟨b, hb, e⟩ := List.mem_filterMap.mp hp
  cases q : h.get? b with
  | none => rw [q] at e; cases e
  | some o =>
    rw [q] at e
    have e' : (b, o) = p := Option.some.inj e
    subst e'
    exact ⟨hb, q⟩
theorem Inv.pinned {pins : List (Addr × Obj)} {σ : St} {H : Hp} {s : Shared} {fp : List Addr} (I : Inv X pins σ H s) (hf : ∀ b ∈ fp, FpOk X pins H b) (ho : ∀ b ∈ fp, ∃ o, s.heap.get? b = some o ∧ ∀ v, o.data ≠ .cell v) : Inv X (pins ++ pinsAt fp s.heap) σ H s :=
  I.pins_of fun p hp => (List.mem_append.mp hp).elim (fun z => I.pin p (List.mem_append_right _ z)) fun z => by
    obtain ⟨hb, e⟩ := of_pinsAt z
    obtain ⟨f0, f1, f2, _⟩ := hf p.1 hb
    obtain ⟨o, e', d⟩ := ho p.1 hb
    rw [e] at e'; cases e'
    exact ⟨e, f0, f1, f2, d⟩
theorem Inv.unpinned {pins pl : List (Addr × Obj)} {σ : St} {H : Hp} {s : Shared} (I : Inv X (pins ++ pl) σ H s) : Inv X pins σ H s := I.pins_of fun p hp => I.pin p (List.mem_append_right _ (List.mem_append_left _ hp))
theorem ps_for {iter : Expr} {body : List Stmt} {wi : TI} {g : TG} {tb : TS} {pos : Pos} (hp : PassesOwn (model X.prog X.w) X.A X.env X.xe) (hc : X.calm = true) (hi : PI X tg iter wi) (hg : PG X tg g) (hb : PSs X body tb)
    (hs : ∀ x, foldedSetIterable iter X.env x = pure x := by intro _; rfl) : PS X (.For tg iter body [] pos) (tFor wi g tb) := by
  intro pins s σ H D I h
  refine wpAny_For (thn (hi pins s σ H _ I h) fun v s1 h1 => thn h1 fun itv s2 h2 => ?_) hs
  obtain ⟨it, fp, tn, J, H2, e, I2, T, st2, f2, W, ⟨m0, w0⟩, turn⟩ := h2
  subst e
  have stat : ∀ {H' : Hp}, (∀ b ∈ fp, H' b = none) → ∀ b ∈ fp, FpOk X pins H' b := fun hn b hb => ⟨hn b hb, (f2 b hb).2⟩
  refine codeAny_forLoop_any (fun n s' => ∃ i σ' H', Inv X pins σ' H' s' ∧ tn i s'.heap ∧ (∀ b ∈ fp, H' b = none) ∧ W i n σ' H') ?_ m0 ⟨0, σ, H2, I2, st2, fun b hb => (f2 b hb).1, w0⟩
  rintro n s3 ⟨i, σ3, H3, I3, st3, fr3, w3⟩
  rcases turn i n σ3 H3 w3 with ⟨stop, qn⟩ | ⟨go, N, hN, step⟩
  · refine wpAny_passesOwn hp (thn (T.done X rfl rfl rfl hc i pins s3 σ3 H3 X.xe I3 (stat fr3) st3 stop) fun r s4 ⟨hr, I4⟩ => ?_)
    subst hr
    exact wpAny_execs_nil ⟨σ3, H3, I4, qn⟩
  · refine wpAny_passesOwn hp (thn (T.item X rfl rfl rfl hc i pins s3 σ3 H3 X.xe I3 (stat fr3) st3 go) fun r s4 ⟨u, hr, h4⟩ => ?_)
    subst hr
    refine wpAny_passesOwn hp (thn h4 fun _ s5 ⟨x, H5, I5, r5, y5, st5, fr5⟩ => ?_)
    have I5' := I5.pinned (stat fr5) (T.obj _ _ st5)
    refine wpAny_passesOwn hp (thn (hg _ s5 σ3 H5 x u _ I5' r5 (step x H5 y5)) fun _ s6 ⟨σ6, H6, I6, q6⟩ => ?_)
    refine wpAny_passesOwn hp (thn (hb _ s6 σ6 H6 _ I6 q6) fun f s7 q7 => ?_)
    have again : ∀ {σ7 : St} {H7 : Hp}, Inv X (pins ++ pinsAt fp s5.heap) σ7 H7 s7 → N σ7 H7 → ∃ m, m < n ∧ ∃ i σ' H', Inv X pins σ' H' s7 ∧ tn i s7.heap ∧ (∀ b ∈ fp, H' b = none) ∧ W i m σ' H' := fun {σ7 H7} I7 n7 => by
      obtain ⟨m', hm, w7⟩ := hN σ7 H7 n7
      refine ⟨m', hm, i + 1, σ7, H7, I7.unpinned, T.keep _ _ _ st5 fun b hb o e => (I7.pin (b, o) (List.mem_append_right _ (List.mem_append_right _ (mem_pinsAt hb e)))).1, fun b hb => ?_, w7⟩
      obtain ⟨o, e, d⟩ := T.obj _ _ st5 b hb
      exact (I7.pin (b, o) (List.mem_append_right _ (List.mem_append_right _ (mem_pinsAt hb e)))).2.1
    cases f with
    | next => obtain ⟨σ7, H7, I7, n7⟩ := q7; exact again I7 n7
    | cont => obtain ⟨σ7, H7, I7, n7⟩ := q7; exact again I7 n7
    | brk => obtain ⟨σ7, H7, I7, q7⟩ := q7; exact ⟨σ7, H7, I7.unpinned, q7⟩
    | ret v => obtain ⟨x7, σ7, H7, I7, r7, q7⟩ := q7; exact ⟨x7, σ7, H7, I7.unpinned, r7, q7⟩
end
theorem for_list {K : PySem.W.Frag} {a : Addr} {xs : List V} {g : TG} {tb : TS} {D : Ends} {σ : St} {H : Hp} (Pv : Nat → St → Hp → Prop) (h0 : Pv 0 σ H) (hl : ∀ i σ H, i ≤ xs.length → Pv i σ H → SqL K H a xs)
    (hs : ∀ i x σ H, xs[i]? = some x → Pv i σ H → g x σ H fun σ2 H2 => tb { D with nx := Pv (i + 1), ct := Pv (i + 1), bk := D.nx } σ2 H2) (hd : ∀ σ H, Pv xs.length σ H → D.nx σ H) :
    ∃ W : Nat → Nat → St → Hp → Prop, (∃ m, W 0 m σ H) ∧ ∀ i m σ H, W i m σ H →
      ((Itl K a).stop i H ∧ D.nx σ H) ∨ ((Itl K a).go i H ∧ ∃ N : St → Hp → Prop, (∀ σ' H', N σ' H' → ∃ m', m' < m ∧ W (i + 1) m' σ' H') ∧ ∀ x H', (Itl K a).yld i H x H' → g x σ H' fun σ2 H2 => tb { D with nx := N, ct := N, bk := D.nx } σ2 H2) := by
  refine ⟨fun i m σ H => m = xs.length - i ∧ i ≤ xs.length ∧ Pv i σ H, ⟨xs.length, by simp, Nat.zero_le _, h0⟩, ?_⟩
  rintro i m σ H ⟨rfl, hi, p⟩
  have q := hl i σ H hi p
  by_cases hlt : i < xs.length
  · refine .inr ⟨⟨xs, xs[i], q, by simp [hlt]⟩, Pv (i + 1), fun σ' H' p' => ⟨xs.length - (i + 1), by omega, rfl, hlt, p'⟩, fun x H' y => ?_⟩
    obtain ⟨e, y⟩ := y
    subst e
    exact hs i x σ _ (y xs q) p
  · have e : i = xs.length := by omega
    subst e
    exact .inl ⟨⟨xs, q, Nat.le_refl _⟩, hd σ H p⟩
theorem for_range {lo : Int} {n : Nat} {g : TG} {tb : TS} {D : Ends} {σ : St} {H : Hp} (Pv : Nat → St → Hp → Prop) (h0 : Pv 0 σ H)
    (hs : ∀ i σ H, i < n → Pv i σ H → g (.int (lo + i)) σ H fun σ2 H2 => tb { D with nx := Pv (i + 1), ct := Pv (i + 1), bk := D.nx } σ2 H2) (hd : ∀ σ H, Pv n σ H → D.nx σ H) :
    ∃ W : Nat → Nat → St → Hp → Prop, (∃ m, W 0 m σ H) ∧ ∀ i m σ H, W i m σ H →
      ((Itr lo n).stop i H ∧ D.nx σ H) ∨ ((Itr lo n).go i H ∧ ∃ N : St → Hp → Prop, (∀ σ' H', N σ' H' → ∃ m', m' < m ∧ W (i + 1) m' σ' H') ∧ ∀ x H', (Itr lo n).yld i H x H' → g x σ H' fun σ2 H2 => tb { D with nx := N, ct := N, bk := D.nx } σ2 H2) := by
  refine ⟨fun i m σ H => m = n - i ∧ i ≤ n ∧ Pv i σ H, ⟨n, by simp, Nat.zero_le _, h0⟩, ?_⟩
  rintro i m σ H ⟨rfl, hi, p⟩
  by_cases hlt : i < n
  · refine .inr ⟨hlt, Pv (i + 1), fun σ' H' p' => ⟨n - (i + 1), by omega, rfl, hlt, p'⟩, fun x H' y => ?_⟩
    obtain ⟨e, y⟩ := y
    subst e y
    exact hs i σ _ hlt p
  · have e : i = n := by omega
    subst e
    exact .inl ⟨Nat.le_refl _, hd σ H p⟩
end L2
namespace L2
open PySem PySem.Spec PyProof.Rows
abbrev R2 := V → V → Hp → VK → Prop
def OpR (X : Cx) (f : Value → Value → Sem Value) (r : R2) : Prop :=
  ∀ (pins : List (Addr × Obj)) (s : Shared) (σ : St) (H : Hp) (x y : V) (v u : Value) (Q : VK), Inv X pins σ H s → RelV x v → RelV y u → r x y H Q →
    wpAny (model X.prog X.w) X.A (f v u) (EP X pins σ Q) X.xe s
def UnR (X : Cx) (f : Value → Sem Value) (r : V → Hp → VK → Prop) : Prop :=
  ∀ (pins : List (Addr × Obj)) (s : Shared) (σ : St) (H : Hp) (x : V) (v : Value) (Q : VK), Inv X pins σ H s → RelV x v → r x H Q →
    wpAny (model X.prog X.w) X.A (f v) (EP X pins σ Q) X.xe s
def CallR (X : Cx) (f : Value) (r : List V → Hp → VK → Prop) : Prop :=
  ∀ (pins : List (Addr × Obj)) (s : Shared) (σ : St) (H : Hp) (xs : List V) (us : List Value) (Q : VK), Inv X pins σ H s → Vals xs us → r xs H Q →
    wpAny (model X.prog X.w) X.A (call f us) (EP X pins σ Q) X.xe s
def TruR (X : Cx) (r : V → Hp → (Bool → Hp → Prop) → Prop) : Prop :=
  ∀ (pins : List (Addr × Obj)) (s : Shared) (σ : St) (H : Hp) (x : V) (v : Value) (Q : Bool → Hp → Prop), Inv X pins σ H s → RelV x v → r x H Q →
    wpAny (model X.prog X.w) X.A (truthy v) (TP X pins σ Q) X.xe s
def tOp (r : R2) (ta tb : TE) : TE := fun σ H Q => ta σ H fun x H1 => tb σ H1 fun y H2 => r x y H2 Q
def tUn (r : V → Hp → VK → Prop) (ta : TE) : TE := fun σ H Q => ta σ H fun x H1 => r x H1 Q
def rI (C : Int → Int → Prop) (g : Int → Int → V) : R2 := fun x y H Q => ∃ i j, x = .int i ∧ y = .int j ∧ C i j ∧ Q (g i j) H
def rI0 (g : Int → Int → V) : R2 := fun x y H Q => ∃ i j, x = .int i ∧ y = .int j ∧ Q (g i j) H
def rU (g : Int → V) : V → Hp → VK → Prop := fun x H Q => ∃ i, x = .int i ∧ Q (g i) H
section
variable {X : Cx} {a b c : Expr} {ta tb tc : TE} {pos : Pos}
theorem binT (ha : PE X a ta) (hb : PE X b tb) {pins : List (Addr × Obj)} {s : Shared} {σ : St} {H : Hp} {R : V → V → Hp → Prop} (I : Inv X pins σ H s)
    (h : ta σ H fun x H1 => tb σ H1 fun y H2 => R x y H2) {Q : Value → Shared → Prop} {f : Value → Value → Sem Value}
    (hf : ∀ v u s2 x y H2, Inv X pins σ H2 s2 → RelV x v → RelV y u → R x y H2 → wpAny (model X.prog X.w) X.A (f v u) Q X.xe s2) :
    wpAny (model X.prog X.w) X.A (eval a X.env) (fun v s₁ => wpAny (model X.prog X.w) X.A (eval b X.env) (fun u s₂ => wpAny (model X.prog X.w) X.A (f v u) Q X.xe s₂) X.xe s₁) X.xe s := by
  refine thn (ha pins s σ H _ I h) fun v s1 ⟨x, H1, I1, r1, q1⟩ => ?_
  refine thn (hb pins s1 σ H1 _ I1 q1) fun u s2 ⟨y, H2, I2, r2, q2⟩ => ?_
  exact hf v u s2 x y H2 I2 r1 r2 q2
theorem pe_op {op : Operator} {r : R2} (ho : OpR X (binaryOp op) r) (ha : PE X a ta) (hb : PE X b tb) : PE X (.BinOp a op b pos) (tOp r ta tb) := by
  intro pins s σ H Q I h
  exact wpAny_BinOp (binT ha hb I h fun v u s2 x y H2 I2 rx ry q => ho pins s2 σ H2 x y v u Q I2 rx ry q)
theorem pe_un {op : UnaryOp} {r : V → Hp → VK → Prop} (ho : UnR X (unaryOp op) r) (ha : PE X a ta) : PE X (.UnaryOp op a pos) (tUn r ta) := by
  intro pins s σ H Q I h
  exact UnaryOp_ (thn (ha pins s σ H _ I h) fun v s1 ⟨x, H1, I1, r1, q1⟩ => ho pins s1 σ H1 x v Q I1 r1 q1)
theorem opI {f : Value → Value → Sem Value} {C : Int → Int → Prop} {g : Int → Int → Int}
    (rule : ∀ (i j : Int) (t u : Tok) (s : Shared) (Q : Value → Shared → Prop) (E : Value → Shared → Prop), C i j → Q (.int (g i j) s.toks) { s with toks := s.toks + 1 } → wpAny (model X.prog X.w) X.A (f (.int i t) (.int j u)) Q E s) :
    OpR X f (rI C fun i j => .int (g i j)) := by
  intro pins s σ H x y v u Q I rx ry h
  obtain ⟨i, j, rfl, rfl, hc, q⟩ := h
  obtain ⟨t, rfl⟩ := rx
  obtain ⟨t', rfl⟩ := ry
  exact rule i j t t' s _ _ hc ⟨.int (g i j), H, I.tok _, ⟨_, rfl⟩, q⟩
theorem opI0 {f : Value → Value → Sem Value} {g : Int → Int → Int}
    (rule : ∀ (i j : Int) (t u : Tok) (s : Shared) (Q : Value → Shared → Prop) (E : Value → Shared → Prop), Q (.int (g i j) s.toks) { s with toks := s.toks + 1 } → wpAny (model X.prog X.w) X.A (f (.int i t) (.int j u)) Q E s) :
    OpR X f (rI0 fun i j => .int (g i j)) := by
  intro pins s σ H x y v u Q I rx ry h
  obtain ⟨i, j, rfl, rfl, q⟩ := h
  obtain ⟨t, rfl⟩ := rx
  obtain ⟨t', rfl⟩ := ry
  exact rule i j t t' s _ _ ⟨.int (g i j), H, I.tok _, ⟨_, rfl⟩, q⟩
theorem opB0 {f : Value → Value → Sem Value} {g : Int → Int → Bool}
    (rule : ∀ (i j : Int) (t u : Tok) (s : Shared) (Q : Value → Shared → Prop) (E : Value → Shared → Prop), Q (.bool (g i j)) s → wpAny (model X.prog X.w) X.A (f (.int i t) (.int j u)) Q E s) :
    OpR X f (rI0 fun i j => .bl (g i j)) := by
  intro pins s σ H x y v u Q I rx ry h
  obtain ⟨i, j, rfl, rfl, q⟩ := h
  obtain ⟨t, rfl⟩ := rx
  obtain ⟨t', rfl⟩ := ry
  exact rule i j t t' s _ _ ⟨.bl (g i j), H, I, rfl, q⟩
def CDiv (i j : Int) : Prop := 0 < j ∧ j < 1073741824
def CDivN (i j : Int) : Prop := j ≠ 0 ∧ j.natAbs < 1073741824
def CPow (i j : Int) : Prop := 0 ≤ j ∧ j ≤ 1000000 ∧ i.natAbs < 2 ^ 64
def CMul (i j : Int) : Prop := (-(2 ^ 64) < i ∧ i < 2 ^ 64) ∨ (-(2 ^ 64) < j ∧ j < 2 ^ 64)
theorem CMul.ok {i j : Int} (h : CMul i j) : IntMulOk i j := by
  rcases h with ⟨h1, h2⟩ | ⟨h1, h2⟩
  · exact .of_left (intBits_le_64 h1 h2)
  · exact .of_right (intBits_le_64 h1 h2)
theorem op_add : OpR X (binaryOp .Add) (rI0 fun i j => .int (i + j)) := opI0 fun _ _ _ _ _ _ _ q => add_int q
theorem op_sub : OpR X (binaryOp .Sub) (rI0 fun i j => .int (i - j)) := opI0 fun _ _ _ _ _ _ _ q => sub_int q
theorem op_mod : OpR X (binaryOp .Mod) (rI (fun _ j => 0 < j) fun i j => .int (i % j)) := opI fun i j _ _ _ _ _ hc q => by
  have h1 : (0 : Int) < j := hc
  exact mod_int' (by omega) (by rw [Int.fmod_eq_emod_of_nonneg i (by omega)]; exact q)
theorem op_pow : OpR X (binaryOp .Pow) (rI CPow fun i j => .int (i ^ j.toNat)) := opI fun _ _ _ _ _ _ _ hc q => pow_int_small hc.1 hc.2.1 hc.2.2 q
theorem unI {f : Value → Sem Value} {g : Int → Int}
    (rule : ∀ (i : Int) (t : Tok) (s : Shared) (Q : Value → Shared → Prop) (E : Value → Shared → Prop), Q (.int (g i) s.toks) { s with toks := s.toks + 1 } → wpAny (model X.prog X.w) X.A (f (.int i t)) Q E s) :
    UnR X f (rU fun i => .int (g i)) := by
  intro pins s σ H x v Q I rx h
  obtain ⟨i, rfl, q⟩ := h
  obtain ⟨t, rfl⟩ := rx
  exact rule i t s _ _ ⟨.int (g i), H, I.tok _, ⟨_, rfl⟩, q⟩
theorem un_neg : UnR X (unaryOp .USub) (rU fun i => .int (-i)) := unI fun _ _ _ _ _ q => neg_int q
end
def scal : V → V → Bool
  | .non, .non => true | .non, .int _ => true | .int _, .non => true | .non, .bl _ => true | .bl _, .non => true | .non, .str _ => true | .str _, .non => true
  | .int _, .int _ => true | .bl _, .bl _ => true | .str _, .str _ => true | .byt _, .byt _ => true
  | .int _, .str _ => true | .str _, .int _ => true | .bl _, .str _ => true | .str _, .bl _ => true
  | _, _ => false
def rEq : R2 := fun x y H Q => scal x y = true ∧ Q (.bl (decide (x = y))) H
def rNe : R2 := fun x y H Q => scal x y = true ∧ Q (.bl (!decide (x = y))) H
theorem dec_int {i j : Int} : decide (V.int i = V.int j) = (i == j) := by
  rw [Bool.eq_iff_iff]
  simp
theorem dec_bl {i j : Bool} : decide (V.bl i = V.bl j) = (i == j) := by
  rw [Bool.eq_iff_iff]
  simp
theorem dec_str {i j : Str} : decide (V.str i = V.str j) = (i == j) := by
  rw [Bool.eq_iff_iff]
  simp
theorem dec_byt {i j : Array UInt8} : decide (V.byt i = V.byt j) = (i.toList == j.toList) := by
  rw [Bool.eq_iff_iff]
  cases i
  cases j
  simp
section
variable {X : Cx} {a b c : Expr} {ta tb tc : TE} {pos : Pos}
theorem fin_bl {pins : List (Addr × Obj)} {σ : St} {H : Hp} {s : Shared} {Q : VK} {k k' : Bool} (I : Inv X pins σ H s) (q : Q (.bl k) H) (e : k = k') : EP X pins σ Q (.bool k') s := by
  subst e
  exact ⟨.bl k, H, I, rfl, q⟩
theorem op_eq : OpR X (compareOp .Eq) rEq := by
  intro pins s σ H x y v u Q I rx ry h
  obtain ⟨hs, q⟩ := h
  cases x with
  | non =>
    cases rx
    cases y with
    | non => cases ry; exact PySem.EqNone.eq_none_none (fin_bl I q (by simp))
    | bl j => cases ry; exact PySem.EqNone.eq_none_bool (fin_bl I q (by simp))
    | int j => obtain ⟨t', rfl⟩ := ry; exact PySem.EqNone.eq_none_int (fin_bl I q (by simp))
    | str j => obtain ⟨t', rfl⟩ := ry; exact PySem.EqNone.eq_none_str (fin_bl I q (by simp))
    | _ => exact absurd (show false = true from hs) Bool.false_ne_true
  | bl i =>
    cases rx
    cases y with
    | non => cases ry; exact PySem.EqNone.eq_bool_none (fin_bl I q (by simp))
    | bl j => cases ry; exact eq_bool (fin_bl I q dec_bl)
    | str j => obtain ⟨t', rfl⟩ := ry; exact PySem.EqMixed.eq_bool_str (fin_bl I q (by simp))
    | _ => exact absurd (show false = true from hs) Bool.false_ne_true
  | int i =>
    obtain ⟨t, rfl⟩ := rx
    cases y with
    | non => cases ry; exact PySem.EqNone.eq_int_none (fin_bl I q (by simp))
    | int j => obtain ⟨t', rfl⟩ := ry; exact eq_int (fin_bl I q dec_int)
    | str j => obtain ⟨t', rfl⟩ := ry; exact PySem.EqMixed.eq_int_str (fin_bl I q (by simp))
    | _ => exact absurd (show false = true from hs) Bool.false_ne_true
  | str i =>
    obtain ⟨t, rfl⟩ := rx
    cases y with
    | non => cases ry; exact PySem.EqNone.eq_str_none (fin_bl I q (by simp))
    | bl j => cases ry; exact PySem.EqMixed.eq_str_bool (fin_bl I q (by simp))
    | int j => obtain ⟨t', rfl⟩ := ry; exact PySem.EqMixed.eq_str_int (fin_bl I q (by simp))
    | str j => obtain ⟨t', rfl⟩ := ry; exact eq_str (fin_bl I q dec_str)
    | _ => exact absurd (show false = true from hs) Bool.false_ne_true
  | byt i =>
    obtain ⟨t, rfl⟩ := rx
    cases y with
    | byt j => obtain ⟨t', rfl⟩ := ry; exact PySem.W.eq_bytes (fin_bl I q dec_byt)
    | _ => exact absurd (show false = true from hs) Bool.false_ne_true
  | _ => cases y <;> exact absurd (show false = true from hs) Bool.false_ne_true
theorem op_ne : OpR X (compareOp .NotEq) rNe := by
  intro pins s σ H x y v u Q I rx ry h
  obtain ⟨hs, q⟩ := h
  cases x with
  | non =>
    cases rx
    cases y with
    | non => cases ry; exact PySem.EqNone.ne_none_none (fin_bl I q (by simp))
    | bl j => cases ry; exact PySem.EqNone.ne_none_bool (fin_bl I q (by simp))
    | int j => obtain ⟨t', rfl⟩ := ry; exact PySem.EqNone.ne_none_int (fin_bl I q (by simp))
    | str j => obtain ⟨t', rfl⟩ := ry; exact PySem.EqNone.ne_none_str (fin_bl I q (by simp))
    | _ => exact absurd (show false = true from hs) Bool.false_ne_true
  | bl i =>
    cases rx
    cases y with
    | non => cases ry; exact PySem.EqNone.ne_bool_none (fin_bl I q (by simp))
    | bl j => cases ry; exact ne_bool (fin_bl I q (congrArg not dec_bl))
    | str j => obtain ⟨t', rfl⟩ := ry; exact PySem.EqMixed.ne_bool_str (fin_bl I q (by simp))
    | _ => exact absurd (show false = true from hs) Bool.false_ne_true
  | int i =>
    obtain ⟨t, rfl⟩ := rx
    cases y with
    | non => cases ry; exact PySem.EqNone.ne_int_none (fin_bl I q (by simp))
    | int j => obtain ⟨t', rfl⟩ := ry; exact ne_int (fin_bl I q (congrArg not dec_int))
    | str j => obtain ⟨t', rfl⟩ := ry; exact PySem.EqMixed.ne_int_str (fin_bl I q (by simp))
    | _ => exact absurd (show false = true from hs) Bool.false_ne_true
  | str i =>
    obtain ⟨t, rfl⟩ := rx
    cases y with
    | non => cases ry; exact PySem.EqNone.ne_str_none (fin_bl I q (by simp))
    | bl j => cases ry; exact PySem.EqMixed.ne_str_bool (fin_bl I q (by simp))
    | int j => obtain ⟨t', rfl⟩ := ry; exact PySem.EqMixed.ne_str_int (fin_bl I q (by simp))
    | str j => obtain ⟨t', rfl⟩ := ry; exact ne_str (fin_bl I q (congrArg not dec_str))
    | _ => exact absurd (show false = true from hs) Bool.false_ne_true
  | byt i =>
    obtain ⟨t, rfl⟩ := rx
    cases y with
    | byt j => obtain ⟨t', rfl⟩ := ry; exact PySem.W.ne_bytes (fin_bl I q (congrArg not dec_byt))
    | _ => exact absurd (show false = true from hs) Bool.false_ne_true
  | _ => cases y <;> exact absurd (show false = true from hs) Bool.false_ne_true
theorem op_lt : OpR X (compareOp .Lt) (rI0 fun i j => .bl (decide (i < j))) := opB0 fun _ _ _ _ _ _ _ q => lt_int q
theorem op_gt : OpR X (compareOp .Gt) (rI0 fun i j => .bl (decide (j < i))) := opB0 fun _ _ _ _ _ _ _ q => gt_int q
def isObj : HO → Bool
  | .lst _ => true
  | .ins _ _ _ => true
  | _ => false
theorem nomark (b : Expr) {op : CmpOp} (h : op ≠ .In := by decide) (h2 : op ≠ .NotIn := by decide) : behindInMarks op b = false := by
  have e1 : (op == CmpOp.In) = false := by cases op <;> first | rfl | exact absurd rfl h
  have e2 : (op == CmpOp.NotIn) = false := by cases op <;> first | rfl | exact absurd rfl h2
  cases b <;> simp [behindInMarks, e1, e2]
theorem pe_cmpR {op : CmpOp} {r : R2} (ho : OpR X (compareOp op) r) (ha : PE X a ta) (hb : PE X b tb) (hm : behindInMarks op b = false) : PE X (.Compare a [op] [b] pos) (tOp r ta tb) := by
  intro pins s σ H Q I h
  exact wpAny_Compare1 (binT ha hb I h fun v u s2 x y H2 I2 rx ry q => ho pins s2 σ H2 x y v u Q I2 rx ry q) hm
def tTest (t : TE) : TT := fun σ H Q => t σ H fun x H' => ∃ k, x = .bl k ∧ Q k H'
theorem pt_cmpR {op : CmpOp} {r : R2} (ho : OpR X (compareOp op) r) (ha : PE X a ta) (hb : PE X b tb) (hm : behindInMarks op b = false) : PT X (.Compare a [op] [b] pos) (tTest (tOp r ta tb)) := by
  intro pins s σ H Q I h
  refine wpAny_isTrue_Compare1 (thn (ha pins s σ H _ I h) fun v s1 ⟨x, H1, I1, r1, q1⟩ => thn (hb pins s1 σ H1 _ I1 q1) fun u s2 ⟨y, H2, I2, r2, q2⟩ =>
    thn (ho pins s2 σ H2 x y v u _ I2 r1 r2 q2) fun c s3 ⟨z, H3, I3, r3, k, e, q3⟩ => ?_) hm
  subst e
  cases r3
  exact wpAny_truthy_bool ⟨H3, I3, q3⟩
def tChain (r r' : R2) (ta tb tc : TE) : TE := fun σ H Q => ta σ H fun x H1 => tb σ H1 fun y H2 => r x y H2 fun z H3 => ∃ k, z = .bl k ∧
  (if k = true then tc σ H3 fun w' H4 => r' y w' H4 Q else Q (.bl false) H3)
def TruV (K : PySem.W.Frag) (x : V) (H : Hp) (k : Bool) : Prop :=
  match x with
  | .non => k = false
  | .bl b => k = b
  | .int i => k = (i != 0)
  | .str y => y.length ≤ sizeLine ∧ k = ((y.length : Int) != 0)
  | .byt y => y.size ≤ sizeLine ∧ k = ((y.size : Int) != 0)
  | .ref p => (∃ xs, SqL K H p xs ∧ k = !xs.isEmpty) ∨ (∃ xs, SqT K H p xs ∧ k = !xs.isEmpty) ∨ ∃ kvs, H p = some (.dK kvs) ∧ k = !kvs.isEmpty
  | _ => False
theorem line63 : (sizeLine : Nat) < 2 ^ 63 := by rw [sizeLine_eq]; decide
theorem op_add_str : OpR X (binaryOp .Add) (fun x y H Q => ∃ i j, x = .str i ∧ y = .str j ∧ i.length + j.length ≤ sizeLine ∧ Q (.str (i ++ j)) H) := by
  intro pins s σ H x y v u Q I rx ry h
  obtain ⟨i, j, rfl, rfl, hz, q⟩ := h
  obtain ⟨t, rfl⟩ := rx
  obtain ⟨t', rfl⟩ := ry
  exact add_str (fun t' tk => ⟨.str (i ++ j), H, I.tok _, ⟨_, rfl⟩, q⟩) hz
def PlainIxT (b : Expr) : Prop := ∀ o i, subscripted b false o i = operate [o, i] (getItem o i)
theorem vals1 {x : V} {us : List Value} (r : Vals [x] us) : ∃ u, us = [u] ∧ RelV x u := by
  cases r with
  | cons r1 r2 => cases r2; exact ⟨_, rfl, r1⟩
theorem vals2 {x y : V} {us : List Value} (r : Vals [x, y] us) : ∃ u w', us = [u, w'] ∧ RelV x u ∧ RelV y w' := by
  cases r with
  | cons r1 r2 =>
    cases r2 with
    | cons r3 r4 => cases r4; exact ⟨_, _, rfl, r1, r3⟩
def LenV (K : PySem.W.Frag) (x : V) (H : Hp) (n : Nat) : Prop :=
  match x with
  | .str y => y.length ≤ sizeLine ∧ n = y.length
  | .byt y => y.size ≤ sizeLine ∧ n = y.size
  | .ref p => (∃ xs, SqL K H p xs ∧ n = xs.length) ∨ ∃ xs, SqT K H p xs ∧ n = xs.length
  | _ => False
end
end L2
namespace L2
open PySem PySem.Spec PyProof.Rows
structure ObjM (h : Heap) (x dx C : Addr) (mA : Str → Option Value) : Prop where
  obj : h.get? x = some (PySem.W.instObj C dx)
  ns : h.Ns1 dx mA
  ne : dx ≠ x
theorem lookIn_ns {h : Heap} {dx : Addr} {mA : Str → Option Value} (n : h.Ns1 dx mA) : ∃ od, h.get? dx = some od ∧ ∀ name, PySem.W.lookIn name od = some (mA name) := by
  obtain ⟨o, es, ep, ho, hd, hk, _, hm⟩ := n
  refine ⟨o, ho, fun name => ?_⟩
  have e := hm name
  unfold nsFind findBy at e
  rw [← Array.find?_toList] at e
  unfold PySem.W.lookIn
  rw [hd]
  dsimp only
  split
  · rename_i y q
    rw [q] at e
    exact congrArg some e
  · rename_i q
    rw [q] at e
    have a : es.toList.any (·.refKey) = false := by
      rw [List.any_eq_false]
      intro y hy
      obtain ⟨z, t, hkey⟩ := hk y (Array.mem_toList_iff.mp hy)
      simp [DictEntry.refKey, hkey]
    have a' : ¬ es.toList.any (·.refKey) = true := by rw [a]; exact Bool.false_ne_true
    rw [if_neg a']
    exact congrArg some e
theorem ObjM.look {h : Heap} {x dx C : Addr} {mA : Str → Option Value} (I : ObjM h x dx C mA) : ∃ od, PySem.W.InstAt h x (PySem.W.instObj C dx) C (some od) ∧ ∀ name, PySem.W.lookIn name od = some (mA name) :=
  let ⟨od, ho, hl⟩ := lookIn_ns I.ns
  ⟨od, ⟨I.obj, rfl, rfl, ho⟩, hl⟩
section
variable {prog : Program} {w : World} {A : Around} {E : Value → Shared → Prop} {s : Shared} {K : PySem.W.Frag} {x dx C f : Addr} {mA : Str → Option Value} {name : Str} {v : Value}
end
def putF (f : Str) (v : V) : List (Str × V) → List (Str × V)
  | [] => [(f, v)]
  | (g, x) :: r => if g = f then (g, v) :: r else (g, x) :: putF f v r
theorem RelO.some_of {v : V} {o : Option Value} (r : RelO (some v) o) : ∃ u, o = some u ∧ RelV v u := by
  cases o with
  | none => exact (show False from r).elim
  | some u => exact ⟨u, rfl, r⟩
section
variable {P : Program} {w : World} {H H' : Hp} {h h' : Heap} {a C dx : Addr} {fs fs' : List (Str × V)}
theorem ins_get (hok : HOk P w H h) (e : H a = some (.ins C dx fs)) : ∃ mA, ObjM h a dx C mA ∧ (∀ f, RelO (fs.lookup f) (mA f)) ∧ PySem.Within mA (fs.map (·.1)) ∧ fs.length ≤ 1000 ∧ H dx = some (.own a) := by
  obtain ⟨d, z, ne, ob, mA, n, r, q⟩ := (show ObjOk P w H h a (.ins C dx fs) from hok a _ e)
  exact ⟨mA, ⟨ob, n, ne⟩, r, q, z, d⟩
end
structure Cls (K : PySem.W.Frag) (C : Addr) : Prop where
  pg : PySem.W.plainGet K C Str.empty = true
  hd : PySem.W.hasDictIn K C = true
  po : PySem.W.plainOver K C = true
  sa : PySem.W.findIn K (.ref C) "__setattr__" = some (some (.builtin "object.__setattr__"))
theorem Cls.get {K : PySem.W.Frag} {C : Addr} (c : Cls K C) (f : Str) : PySem.W.plainGet K C f = true := c.pg
def NoAttr (K : PySem.W.Frag) (C : Addr) (f : Str) : Prop := PySem.W.findIn K (.ref C) f = some none
structure Con (K : PySem.W.Frag) (C : Addr) (f : Str) (v : V) (u : Value) : Prop where
  at_ : PySem.W.findIn K (.ref C) f = some (some u)
  rel : RelV v u
  get : PySem.W.specialIn K u "__get__" = some none
  cp : PySem.W.copiedNames.contains f = false
structure Meth (K : PySem.W.Frag) (C : Addr) (m : Str) (f : Addr) : Prop where
  at_ : PySem.W.findIn K (.ref C) m = some (some (.ref f))
  fn : PySem.W.isFn K (.ref f) = true
  kp : PySem.W.keepIn K (.ref f) = true
section
variable {X : Cx} {pins : List (Addr × Obj)} {σ : St} {H : Hp} {s : Shared} {a C dx : Addr} {fs : List (Str × V)} {f : Str} {v : V} {A : Around} {E : Value → Shared → Prop}
end
def tFld (K : PySem.W.Frag) (ta : TE) (f : Str) : TE := fun σ H Q => ta σ H fun x H1 => ∃ a C dx fs v, x = .ref a ∧ H1 a = some (.ins C dx fs) ∧ Cls K C ∧ NoAttr K C f ∧ fs.lookup f = some v ∧ Q v H1
def tCon (K : PySem.W.Frag) (ta : TE) (f : Str) : TE := fun σ H Q => ta σ H fun x H1 => ∃ a C dx fs v u, x = .ref a ∧ H1 a = some (.ins C dx fs) ∧ Cls K C ∧ Con K C f v u ∧ fs.lookup f = none ∧ Q v H1
def sFld (K : PySem.W.Frag) (ta tv : TE) (f : Str) : TS := fun D σ H => tv σ H fun y H1 => ta σ H1 fun x H2 => ∃ a C dx fs, x = .ref a ∧ H2 a = some (.ins C dx fs) ∧ Cls K C ∧ NoAttr K C f ∧ fs.length < 1000 ∧
  D.nx σ (upd H2 a (.ins C dx (putF f y fs)))
def InOp (X : Cx) (op : Operator) (rd : V → V → Hp → VK → Prop) : Prop :=
  ∀ (pins : List (Addr × Obj)) (s : Shared) (σ : St) (H : Hp) (x y : V) (u v : Value) (Q : VK), Inv X pins σ H s → RelV x u → RelV y v → rd x y H Q → wpAny (model X.prog X.w) X.A (inplaceOp op u v) (EP X pins σ Q) X.xe s
def sFldAug (K : PySem.W.Frag) (ta tv : TE) (rd : V → V → Hp → VK → Prop) (f : Str) : TS := fun D σ H => ta σ H fun x H1 => ∃ a C dx fs v, x = .ref a ∧ H1 a = some (.ins C dx fs) ∧ Cls K C ∧ NoAttr K C f ∧ fs.lookup f = some v ∧
  tv σ H1 fun y H2 => rd v y H2 fun z H3 => ∃ dx' fs', H3 a = some (.ins C dx' fs') ∧ fs'.length < 1000 ∧ D.nx σ (upd H3 a (.ins C dx' (putF f z fs')))
section
variable {X : Cx} {o e value : Expr} {f : Str} {pos pos' tpos : Pos} {ta tv : TE}
def rAdd : V → V → Hp → VK → Prop := fun x y H Q => ∃ i j, x = .int i ∧ y = .int j ∧ Q (.int (i + j)) H
def rSub : V → V → Hp → VK → Prop := fun x y H Q => ∃ i j, x = .int i ∧ y = .int j ∧ Q (.int (i - j)) H
end
section
variable {X : Cx} {pins : List (Addr × Obj)} {σ : St} {H : Hp} {s : Shared} {A : Around} {E : Value → Shared → Prop} {Q : Value → Shared → Prop} {c : Value} {b : Bool}
inductive TyOf (K : PySem.W.Frag) (H : Hp) : V → Value → Prop where
  | non : TyOf K H .non (.type "NoneType")
  | bl (x : Bool) : TyOf K H (.bl x) (.type "bool")
  | int (i : Int) : TyOf K H (.int i) (.type "int")
  | str (x : Str) : TyOf K H (.str x) (.type "str")
  | flt (x : UInt64) : TyOf K H (.flt x) (.type "float")
  | lst {a : Addr} {xs : List V} (e : H a = some (.lst xs)) : TyOf K H (.ref a) (.type "list")
  | frz {a : Addr} {o : Obj} {xs : List V} (e : H a = some (.frz o (.lst xs))) : TyOf K H (.ref a) (.type "list")
  | tup {a : Addr} {xs : List V} (e : H a = some (.tup xs)) : TyOf K H (.ref a) (.type "tuple")
  | dK {a : Addr} {kvs : List (Key × V)} (e : H a = some (.dK kvs)) : TyOf K H (.ref a) (.type "dict")
  | dT {a : Addr} {kvs : List (List Key × V)} (e : H a = some (.dT kvs)) : TyOf K H (.ref a) (.type "dict")
  | ins {a C dx : Addr} {fs : List (Str × V)} (e : H a = some (.ins C dx fs)) (cl : Cls K C) (ha : PySem.W.findIn K (.ref C) "__class__" = some (some (.builtin "object.__class__")))
      (hn : PySem.W.specialIn K (.builtin "object.__class__") "__get__" = some (some (.builtin "getset_descriptor.__get__"))) (htk : PySem.W.takesIn K (.builtin "object.__class__") = some true)
      (hm : PySem.W.mroIn K C (.type "object") = some true) : TyOf K H (.ref a) (.ref C)
theorem isinst_ok {x : V} {u t : Value} (I : Inv X pins σ H s) (rx : RelV x u) (ty : TyOf X.K H x t) (e : PySem.W.kitOne X.K t c = some b) (h : ∀ tk, Q (.bool b) { s with toks := tk }) :
    wpAny (model X.prog X.w) A (call (.builtin "isinstance") [u, c]) Q E s := by
  cases ty with
  | non => cases (show u = Value.none from rx); exact PySem.W.kia_one PySem.W.kitx_none I.kIn True.intro e (fun z => nomatch z) h
  | bl y => cases (show u = Value.bool y from rx); exact PySem.W.kia_one PySem.W.kitx_bool I.kIn True.intro e (fun z => nomatch z) h
  | int i => obtain ⟨t, q⟩ := (show ∃ t, u = Value.int i t from rx); cases q; exact PySem.W.kia_one PySem.W.kitx_int I.kIn True.intro e (fun z => nomatch z) h
  | str y => obtain ⟨t, q⟩ := (show ∃ t, u = Value.str y t from rx); cases q; exact PySem.W.kia_one PySem.W.kitx_str I.kIn True.intro e (fun z => nomatch z) h
  | flt y => obtain ⟨t, q⟩ := (show ∃ t, u = Value.float y t from rx); cases q; exact PySem.W.kia_one PySem.W.kitx_float I.kIn True.intro e (fun z => nomatch z) h
  | @lst a xs ea =>
    cases (show u = Value.ref a from rx)
    obtain ⟨_, _, n, _, h1⟩ := (show ObjOk X.prog X.w H s.heap a (.lst xs) from I.hok a _ ea)
    exact PySem.W.kia_one PySem.W.kitx_list I.kIn ⟨_, h1, rfl⟩ e (fun z => nomatch z) h
  | @frz a ob xs ea =>
    cases (show u = Value.ref a from rx)
    obtain ⟨_, _, _, n, _, h1⟩ := (show ObjOk X.prog X.w H s.heap a (.frz ob (.lst xs)) from I.hok a _ ea)
    exact PySem.W.kia_one PySem.W.kitx_list I.kIn ⟨_, h1, rfl⟩ e (fun z => nomatch z) h
  | @tup a xs ea =>
    cases (show u = Value.ref a from rx)
    obtain ⟨_, _, _, p⟩ := (show ObjOk X.prog X.w H s.heap a (.tup xs) from I.hok a _ ea)
    obtain ⟨o, h1, h2, _⟩ := p
    exact PySem.W.kia_one PySem.W.kitx_tuple I.kIn ⟨o, h1, h2⟩ e (fun z => nomatch z) h
  | @dK a kvs ea =>
    cases (show u = Value.ref a from rx)
    obtain ⟨_, _, vs, _, p⟩ := (show ObjOk X.prog X.w H s.heap a (.dK kvs) from I.hok a _ ea)
    obtain ⟨o, es, ep, h1, h2, _⟩ := p
    exact PySem.W.kia_one PySem.W.kitx_dict I.kIn ⟨o, h1, h2.1⟩ e (fun z => nomatch z) h
  | @dT a kvs ea =>
    cases (show u = Value.ref a from rx)
    obtain ⟨_, _, xs, _, o, es, ep, h1, h2, _⟩ := (show ObjOk X.prog X.w H s.heap a (.dT kvs) from I.hok a _ ea)
    exact PySem.W.kia_one PySem.W.kitx_dict I.kIn ⟨o, h1, h2.1⟩ e (fun z => nomatch z) h
  | @ins a C dx fs ea cl ha hn htk hm =>
    cases (show u = Value.ref a from rx)
    obtain ⟨mA, O, _⟩ := ins_get I.hok ea
    obtain ⟨od, J, _⟩ := O.look
    exact PySem.W.kia_one (PySem.W.kitx_own (cl.get _) cl.hd ha hn htk hm) I.kIn J e (fun z => nomatch z) h
end
end L2
namespace L2
open PySem PySem.Spec PyProof.Rows
structure Room (k : Nat) (A : Around) : Prop where
  hd : A.handled = none
  dp : A.depth + 3 * k + 5 < recursionLimit
  un : A.units + 16 * k + 200 < cLine
theorem Room.mono {j k : Nat} {A : Around} (r : Room k A) (h : j ≤ k) : Room j A := ⟨r.hd, by have := r.dp; omega, by have := r.un; omega⟩
theorem Room.deeper {k : Nat} {A : Around} (r : Room (k + 1) A) (env : Env) : Room k (A.deeper env) :=
  ⟨r.hd, by have := r.dp; show A.depth + 1 + 3 * k + 5 < _; omega, by have := r.un; show A.units + 3 + 16 * k + 200 < _; omega⟩
theorem Room.depth {k : Nat} {A : Around} (r : Room k A) : A.depth < recursionLimit := by have := r.dp; omega
theorem Room.units {k : Nat} {A : Around} (r : Room k A) : A.units + 64 < cLine := by have := r.un; omega
def tNil : TA := fun _ H Q => Q [] H
def tCons (ta : TE) (tr : TA) : TA := fun σ H Q => ta σ H fun x H1 => tr σ H1 fun xs H2 => Q (x :: xs) H2
section
variable {X : Cx} {e : Expr} {es : List Expr} {te : TE} {t : TA} {pos : Pos}
theorem pa_nil : PA X [] tNil := fun _ _ _ _ H Q I h => Calls.spliced_nil ⟨[], H, I, .nil, h⟩
theorem pa_cons (ha : PE X e te) (hr : PA X es t) (hs : starEach (e :: es) X.env = (false, eval e X.env) :: starEach es X.env := by rfl) : PA X (e :: es) (tCons te t) := by
  intro pos pins s σ H Q I h
  rw [hs]
  show wpAny _ _ (spliced ((false, eval e X.env) :: backTo pos (starEach es X.env))) _ _ s
  refine Calls.spliced_cons (thn (ha pins s σ H _ I h) fun u s1 ⟨x, H1, I1, r1, q1⟩ => ?_)
  exact thn (hr pos pins s1 σ H1 _ I1 q1) fun us s2 ⟨xs, H2, I2, r2, q2⟩ => ⟨x :: xs, H2, I2, .cons r1 r2, q2⟩
def tTup (t : TA) : TE := fun σ H Q => t σ H fun xs H1 => xs.length ≤ sizeLine ∧ ∀ p, H1 p = none → Q (.ref p) (upd H1 p (.tup xs))
def tLst (t : TA) : TE := fun σ H Q => t σ H fun xs H1 => xs.length ≤ sizeLine ∧ ∀ p, H1 p = none → Q (.ref p) (upd H1 p (.lst xs))
theorem pe_lst (h : PA X es t) : PE X (.List es pos) (tLst t) := by
  intro pins s σ H Q I hq
  refine wpAny_List_spliced (thn (h pos pins s σ H _ I hq) fun us s1 ⟨xs, H1, I1, r, z, q⟩ => ⟨by rw [← r.length]; exact z, ?_⟩)
  have hf : H1 s1.heap.objs.size = none := I1.hok.fresh (Nat.le_refl _)
  refine ⟨.ref s1.heap.objs.size, upd H1 s1.heap.objs.size (.lst xs), I1.laid (t' := s1.toks) (fun b u e => Heap.get?_push_of_some _ e) (Nat.le_refl _) ?_, rfl, q _ hf⟩
  exact ⟨z, us, 0, r, Heap.get?_push_size _ rfl⟩
end
abbrev Sp := List V → Hp → VK → XK → Prop
abbrev CXT := List Env → Hp → Shared → XK → Value → Shared → Prop
structure Env0 (P : Program) (w : World) (K : PySem.W.Frag) (mg : Str → Option Value) (base : Heap) (A : Around) (outer : List Env) (s : Shared) (H : Hp) : Prop where
  frames : A.frames = some outer
  mod : Mod K mg base
  bs : ∀ b o, base.get? b = some o → s.heap.get? b = some o ∧ H b = none
  bsz : base.objs.size ≤ s.heap.objs.size
  funs : s.heap.FunFrames base outer
  frf : ∀ b ∈ frs outer, H b = none
  hok : HOk P w H s.heap
  bare : AllBare s.gens
def CE (outer : List Env) (P : Program) (w : World) (H : Hp) (s : Shared) (Q : VK) (u : Value) (s' : Shared) : Prop :=
  ∃ v H', s'.os = s.os ∧ AllBare s'.gens ∧ Un (frs outer) [] H H' s.heap s'.heap ∧ HOk P w H' s'.heap ∧ RelV v u ∧ Q v H'
def CR (CX : CXT) (outer : List Env) (P : Program) (w : World) (H : Hp) (s : Shared) (Q : VK) (E : XK) (r : Result) (s' : Shared) : Prop :=
  match r with
  | .ok (.ret u) => CE outer P w H s Q u s'
  | .ok _ => False
  | .error e => CX outer H s E e s'
structure FnOk (P : Program) (w : World) (K : PySem.W.Frag) (mg : Str → Option Value) (base : Heap) (CX : CXT) (k : Nat) (f : Addr) (fd : FuncData) (ps : List Str) (sp : Sp) : Prop where
  len : ∀ vs H Q E, sp vs H Q E → vs.length = ps.length
  run : ∀ (A : Around) (outer : List Env) (s : Shared) (H : Hp) (args : Args) (us : List Value) (vs : List V) (Q : VK) (E : XK), Room k A → Env0 P w K mg base A outer s H → BindsTo s fd args (ps.zip us) → Vals vs us → sp vs H Q E →
    codeAny (model P w) A (.call (.ref f) args) (CR CX outer P w H s Q E) s
theorem FnOk.mono {P : Program} {w : World} {K : PySem.W.Frag} {mg : Str → Option Value} {base : Heap} {CX : CXT} {j k : Nat} {f : Addr} {fd : FuncData} {ps : List Str} {sp : Sp} (F : FnOk P w K mg base CX j f fd ps sp) (h : j ≤ k) :
    FnOk P w K mg base CX k f fd ps sp := ⟨F.len, fun A outer s H args us vs Q E hr => F.run A outer s H args us vs Q E (hr.mono h)⟩
section
variable {X : Cx} {pins : List (Addr × Obj)} {σ : St} {H : Hp} {s s' : Shared}
theorem Inv.env0 (I : Inv X pins σ H s) : Env0 X.prog X.w X.K X.mg X.base X.A X.stack s H :=
  ⟨I.ok.frames, I.ok.mod, I.bs, Nat.le_trans I.ok.bsz I.sz, I.stack, I.stkFree, I.hok, I.bare⟩
theorem Inv.after {Q : VK} {u : Value} (I : Inv X pins σ H s) (h : CE X.stack X.prog X.w H s Q u s') : EP X pins σ Q u s' := by
  obtain ⟨v, H', os, bare, un, hok, r, q⟩ := h
  obtain ⟨hh, g, d, t, os'⟩ := s'
  obtain rfl : os' = s.os := os
  exact ⟨v, H', I.call (h' := hh) (g' := g) (d' := d) (t' := t) (ch := []) un hok bare (fun b z => absurd z (by simp)), r, q⟩
end
def tCall (sp : Sp) (dvs : List V) (E : XK) (t : TA) : TE := fun σ H Q => t σ H fun vs H1 => sp (vs ++ dvs) H1 Q E
def tMeth (C : Addr) (m : Str) (sp : Sp) (dvs : List V) (E : XK) (ta : TE) (t : TA) : TE := fun σ H Q => ta σ H fun x H1 => ∃ a dx fs, x = .ref a ∧ H1 a = some (.ins C dx fs) ∧ fs.lookup m = none ∧
  t σ H1 fun vs H2 => sp (x :: (vs ++ dvs)) H2 Q E
def tMake (C : Addr) (sp : Sp) (dvs : List V) (E : XK) (t : TA) : TE := fun σ H Q => t σ H fun vs H1 => ∀ x dx, H1 x = none → H1 dx = none → dx ≠ x →
  sp (.ref x :: (vs ++ dvs)) (upd (upd H1 dx (.own x)) x (.ins C dx [])) (fun v H2 => v = .non ∧ Q (.ref x) H2) E
def Binds (K : PySem.W.Frag) (fd : FuncData) (ps : List Str) (ds : List Value) : Prop :=
  ∀ (s : Shared) (us : List Value), K.In s.heap → (us ++ ds).length = ps.length → BindsTo s fd ⟨us, []⟩ (ps.zip (us ++ ds))
theorem Binds.all {K : PySem.W.Frag} {fd : FuncData} {ps : List Str} (h : ∀ us : List Value, us.length = ps.length → bindArgs fd ⟨us, []⟩ = pure (ps.zip us)) : Binds K fd ps [] := fun s us _ hl => by
  rw [List.append_nil] at hl ⊢
  exact .of_eq (h us hl)
def Passes (CX : CXT) (X : Cx) (E : XK) : Prop := ∀ (pins : List (Addr × Obj)) (σ : St) (H : Hp) (s : Shared) (e : Value) (s' : Shared), Inv X pins σ H s → CX X.stack H s E e s' → X.xe e s'
section
variable {X : Cx} {CX : CXT} {k : Nat} {f C : Addr} {fd : FuncData} {ps : List Str} {sp : Sp} {dvs : List V} {ds : List Value} {E : XK} {x m : Str} {p pos apos : Pos} {e o : Expr} {es : List Expr} {ta : TE} {t : TA}
theorem run_fn {pins : List (Addr × Obj)} {σ : St} {H : Hp} {s : Shared} {Q : VK} {us : List Value} {vs : List V} (F : FnOk X.prog X.w X.K X.mg X.base CX k f fd ps sp) (hr : Room k X.A) (hb : Binds X.K fd ps ds) (hd : Vals dvs ds) (hx : Passes CX X E)
    (I : Inv X pins σ H s) (r : Vals vs us) (h : sp (vs ++ dvs) H Q E) : wpAny (model X.prog X.w) X.A (call (.ref f) us) (EP X pins σ Q) X.xe s := by
  have r2 : Vals (vs ++ dvs) (us ++ ds) := r.append hd
  have hl : (us ++ ds).length = ps.length := by rw [← r2.length]; exact F.len _ _ _ _ h
  refine wpAny_call (codeAny_mono (F.run X.A X.stack s H ⟨us, []⟩ (us ++ ds) (vs ++ dvs) Q E hr I.env0 (hb s us I.kIn hl) r2 h) fun r s' hq => ?_)
  cases r with
  | error e => exact hx pins σ H s e s' I hq
  | ok fl =>
    cases fl with
    | ret u => exact I.after hq
    | next => exact False.elim hq
    | brk => exact False.elim hq
    | cont => exact False.elim hq
theorem pe_call (F : FnOk X.prog X.w X.K X.mg X.base CX k f fd ps sp) (hr : Room k X.A) (hg : Gl X x) (hm : X.mg x = some (.ref f)) (hk : PySem.W.keepIn X.K (.ref f) = true) (hb : Binds X.K fd ps ds) (hd : Vals dvs ds) (hx : Passes CX X E)
    (ha : PA X (e :: es) t) (hdb : (x == ("__debug__" : Str)) = false := by decide) (he : starEach (e :: es) X.env = (false, eval e X.env) :: starEach es X.env := by rfl) (hpl : (backTo pos (starEach es X.env)).any (·.1) = false := by rfl) :
    PE X (.Call (.Name x p) (e :: es) [] pos) (tCall sp dvs E t) := by
  intro pins s σ H Q I h
  refine wpAny_Call_Name_kw (ld_glob I hg hm ?_ hdb)
  refine PySem.W.callWith_K (h₀ := X.base) I.ok.mod.kin hk (thn (ha pos pins s σ H _ I h) fun us s1 ⟨vs, H1, I1, r, q⟩ => ⟨I1.kIn, ?_⟩) he hpl
  exact run_fn F hr hb hd hx I1 r q
structure Mk (K : PySem.W.Frag) (C f : Addr) : Prop where
  makes : PySem.W.makesIn K C = true
  init : PySem.W.findIn K (.ref C) "__init__" = some (some (.ref f))
  fn : PySem.W.isFn K (.ref f) = true
  kp : PySem.W.keepIn K (.ref C) = true
end
def PK (X : Cx) (kws : List Keyword) (t : TA) : Prop :=
  ∀ (pos : Pos) (pins : List (Addr × Obj)) (s : Shared) (σ : St) (H : Hp) (Q : List V → Hp → Prop), Inv X pins σ H s → t σ H Q → wpAny (model X.prog X.w) X.A (evalAll ((backToKw pos (keywordEach kws X.env)).map (·.2))) (AP X pins σ Q) X.xe s
section
variable {X : Cx} {CX : CXT} {k : Nat} {f C : Addr} {fd : FuncData} {ps ks : List Str} {sp : Sp} {E : XK} {x m : Str} {p pos apos kpos : Pos} {e o : Expr} {es : List Expr} {kws : List Keyword} {te ta : TE} {t tk : TA} {nm : Option Str}
structure KBinds (K : PySem.W.Frag) (fd : FuncData) (ps ks : List Str) (g : List Value → List Value → List Value) (gV : List V → List V → List V) : Prop where
  to : ∀ (s : Shared) (us ws : List Value), K.In s.heap → (g us ws).length = ps.length → BindsTo s fd ⟨us, ks.zip ws⟩ (ps.zip (g us ws))
  rel : ∀ {vs : List V} {us : List Value} {zs : List V} {ws : List Value}, Vals vs us → Vals zs ws → Vals (gV vs zs) (g us ws)
def tCallK (sp : Sp) (gV : List V → List V → List V) (E : XK) (t tk : TA) : TE := fun σ H Q => t σ H fun vs H1 => tk σ H1 fun zs H2 => sp (gV vs zs) H2 Q E
variable {g : List Value → List Value → List Value} {gV : List V → List V → List V}
end
structure FnScope (N P : List Str) (sc : Scope) : Prop where
  kind : sc.kind = .function
  co : sc.isCoroutine = false
  gen : sc.isGenerator = false
  nd : N.Nodup
  pre : N.take P.length = P
  par : ∀ x ∈ P, sc.names.lookup x = some .local ∨ sc.names.lookup x = some .cell
  nofree : ∀ y ∈ sc.names, y.2 ≠ .free
theorem bindL_out {kindOf : Str → Option NameKind} {x : Str} : ∀ {binds : List (Str × Value)} {m : Str → Option Value}, (∀ v, (x, v) ∉ binds) → bindL kindOf binds m x = m x
  | [], _, _ => rfl
  | (n, v) :: r, m, h => by
    unfold bindL
    rw [bindL_out fun w hw => h w (List.mem_cons_of_mem _ hw)]
    split
    · have : x ≠ n := by rintro rfl; exact h v List.mem_cons_self
      simp [this]
    · rfl
theorem bindC_out {kindOf : Str → Option NameKind} {x : Str} : ∀ {binds : List (Str × Value)} {m : Str → Option Value}, (∀ v, (x, v) ∉ binds) → bindC kindOf binds m x = m x
  | [], _, _ => rfl
  | (n, v) :: r, m, h => by
    unfold bindC
    rw [bindC_out fun w hw => h w (List.mem_cons_of_mem _ hw)]
    split
    · rfl
    · have : x ≠ n := by rintro rfl; exact h v List.mem_cons_self
      simp [this]
theorem bindL_get {kindOf : Str → Option NameKind} {x : Str} {v : Value} : ∀ {P : List Str} {vs : List Value} {i : Nat} {m : Str → Option Value}, P.Nodup → P[i]? = some x → vs[i]? = some v → kindOf x = some .local →
    bindL kindOf (P.zip vs) m x = some v
  | [], _, _, _, _, h, _, _ => by simp at h
  | _ :: _, [], _, _, _, _, h, _ => by simp at h
  | p :: P, w :: vs, 0, m, nd, h1, h2, hk => by
    simp at h1 h2; subst h1; subst h2
    show bindL kindOf ((p, w) :: P.zip vs) m p = _
    unfold bindL
    rw [bindL_out fun v hv => (List.nodup_cons.mp nd).1 (List.of_mem_zip hv).1, if_pos hk]
    simp
  | p :: P, w :: vs, i + 1, m, nd, h1, h2, hk => by
    show bindL kindOf ((p, w) :: P.zip vs) m x = _
    unfold bindL
    exact bindL_get (i := i) (List.nodup_cons.mp nd).2 (by simpa using h1) (by simpa using h2) hk
theorem bindC_get {kindOf : Str → Option NameKind} {x : Str} {v : Value} : ∀ {P : List Str} {vs : List Value} {i : Nat} {m : Str → Option Value}, P.Nodup → P[i]? = some x → vs[i]? = some v → kindOf x ≠ some .local →
    bindC kindOf (P.zip vs) m x = some v
  | [], _, _, _, _, h, _, _ => by simp at h
  | _ :: _, [], _, _, _, _, h, _ => by simp at h
  | p :: P, w :: vs, 0, m, nd, h1, h2, hk => by
    simp at h1 h2; subst h1; subst h2
    show bindC kindOf ((p, w) :: P.zip vs) m p = _
    unfold bindC
    rw [bindC_out fun v hv => (List.nodup_cons.mp nd).1 (List.of_mem_zip hv).1, if_neg hk]
    simp
  | p :: P, w :: vs, i + 1, m, nd, h1, h2, hk => by
    show bindC kindOf ((p, w) :: P.zip vs) m x = _
    unfold bindC
    exact bindC_get (i := i) (List.nodup_cons.mp nd).2 (by simpa using h1) (by simpa using h2) hk
def start (N : List Str) (vs : List V) : St := vs.map some ++ List.replicate (N.length - vs.length) none
def cxOf (CX : CXT) (P : Program) (w : World) (K : PySem.W.Frag) (mg : Str → Option Value) (base : Heap) (N : List Str) (qual : Str) (scope : Scope) (f : Addr) (cd : Value) (A : Around) (outer : List Env) (s : Shared) (H : Hp) (E : XK) : Cx where
  prog := P
  w := w
  K := K
  mg := mg
  base := base
  A := A.deeper (envOfC qual scope s.heap.objs.size f cd)
  N := N
  s₀ := s
  H₀ := H
  env := envOfC qual scope s.heap.objs.size f cd
  outer := outer
  stack := envOfC qual scope s.heap.objs.size f cd :: outer
  ex := []
  calm := true
  fn := fun _ => true
  pn := []
  xe := fun e s' => wpAny (model P w) (A.deeper (envOfC qual scope s.heap.objs.size f cd)) (leaving (envOfC qual scope s.heap.objs.size f cd) e) (fun _ s'' => CX outer H s E e s'') (fun e' s'' => CX outer H s E e' s'') s'
theorem cell_has {sc : Scope} {n : Nat} {x : Str} (h : sc.names.lookup x = some .cell) : ∃ c, (cellsFrom n sc.names []).lookup x = some c := by
  have q := PySem.W.cellsFrom_some sc.names n [] (.inl h)
  exact Option.isSome_iff_exists.mp q
theorem inv_start {CX : CXT} {P : Program} {w : World} {K : PySem.W.Frag} {mg : Str → Option Value} {base : Heap} {N ps : List Str} {qual : Str} {scope : Scope} {f : Addr} {cd : Value} {A : Around} {outer : List Env} {s s1 : Shared} {H : Hp} {E : XK} {us : List Value} {vs : List V}
    (S : FnScope N ps scope) (hd : A.handled = none) (e0 : Env0 P w K mg base A outer s H) (hl : vs.length = ps.length) (r : Vals vs us)
    (x : InCallC s s.heap.objs.size (bindL (envOfC qual scope s.heap.objs.size f cd).kindOf (ps.zip us) fun _ => none) (cellsFrom (s.heap.objs.size + 1) scope.names []) (bindC (envOfC qual scope s.heap.objs.size f cd).kindOf (ps.zip us) fun _ => none) s1) :
    Inv (cxOf CX P w K mg base N qual scope f cd A outer s H E) [] (start N vs) H s1 := by
  have hpl : ps.length ≤ N.length := by have := congrArg List.length S.pre; rw [List.length_take] at this; omega
  obtain ⟨h1, tk, rfl, hk⟩ := x.done
  have noA : ∀ b : Addr, b ∉ (cxOf CX P w K mg base N qual scope f cd A outer s H E).ex := fun b z => absurd (show b ∈ ([] : List Addr) from z) (by simp)
  refine ⟨⟨e0.mod, S.kind, rfl, rfl, Nat.le_refl _, fun y z c h1 h2 => ?_, fun y hy => ?_, fun y c _ h => ?_, fun _ => hd, Around.frames_deeper e0.frames, .inr ⟨rfl, rfl⟩, fun b z => absurd z (noA b), e0.bs, e0.bsz, fun b _ _ => noA b, fun b z => absurd z (noA b), e0.funs, e0.frf⟩,
    rfl, e0.bare, Un.kept hk, ⟨_, x.toInCall.ns, fun i y v h1 h2 h3 => ?_⟩, fun y c h => ⟨_, x.cell y c h⟩, e0.hok.fresh (Nat.le_refl _), fun y c h => ?_, fun p hp => absurd (show p ∈ ([] : List (Addr × Obj)) from hp) (by simp), e0.hok.kept hk, ?_⟩
  · exact name_of_addr x.apart (PySem.mem_of_lookup h1) (PySem.mem_of_lookup h2)
  · have hy : scope.names.lookup y = some .cell ∨ scope.names.lookup y = some .free := hy
    rcases hy with hy | hy
    · exact cell_has hy
    · exact absurd rfl (S.nofree _ (PySem.mem_of_lookup hy))
  · exact Nat.le_of_lt (x.above y c (PySem.mem_of_lookup h))
  · have hi : i < vs.length := by
      unfold start at h2
      by_cases hi : i < vs.length
      · exact hi
      · rw [List.getElem?_append_right (by simpa using hi)] at h2
        rw [List.getElem?_replicate] at h2
        split at h2 <;> cases h2
    have ha : vs[i]? = some v := by
      unfold start at h2
      rw [List.getElem?_append_left (by simpa using hi), List.getElem?_map] at h2
      cases e : vs[i]? with
      | none => rw [e] at h2; cases h2
      | some a => rw [e] at h2; cases h2; rfl
    obtain ⟨u, hu, rv⟩ := r.get ha
    have hp : ps[i]? = some y := by
      rw [← S.pre, List.getElem?_take_of_lt (by omega)]; exact h1
    have ndP : ps.Nodup := by rw [← S.pre]; exact S.nd.sublist (List.take_sublist _ _)
    refine ⟨u, rv, ?_⟩
    rcases S.par y (List.mem_of_getElem? hp) with k | k
    · exact .inl ⟨k, bindL_get ndP hp hu k⟩
    · obtain ⟨c, e⟩ := cell_has (n := s.heap.objs.size + 1) k
      refine .inr ⟨.inl k, c, e, ?_⟩
      have q := x.cell y c e
      rw [bindC_get ndP hp hu (by show scope.names.lookup y ≠ _; rw [k]; decide)] at q
      exact q
  · exact e0.hok.fresh (Nat.le_of_lt (x.above y c (PySem.mem_of_lookup h)))
  · unfold start
    show _ = N.length
    rw [List.length_append, List.length_map, List.length_replicate]
    omega
theorem fn_of {CX : CXT} {P : Program} {w : World} {K : PySem.W.Frag} {mg : Str → Option Value} {base : Heap} {k : Nat} {f : Addr} {name qual : Str} {params : Arguments} {body : List Stmt} {scope : Scope} {dV kV doc pm cdv ct oc : Value} {an od : Option Addr}
    {osl : Array (Option Value)} {N ps : List Str} {sp : Sp} (lk : K.lookup f = some ⟨oc, od, .func (PySem.W.fnOf name qual params body scope dV kV doc pm an cdv ct), osl⟩) (hcd : PySem.W.codeIn K cdv qual = true) (S : FnScope N ps scope)
    (len : ∀ vs H Q E, sp vs H Q E → vs.length = ps.length)
    (hbody : ∀ (A : Around) (outer : List Env) (s : Shared) (H : Hp) (vs : List V) (Q : VK) (E : XK), Room k (A.deeper (envOfC qual scope s.heap.objs.size f cdv)) → sp vs H Q E →
      ∃ t, PSs (cxOf CX P w K mg base N qual scope f cdv A outer s H E) body t ∧ t { nx := fun _ H' => Q .non H', rt := Q } (start N vs) H) :
    FnOk P w K mg base CX (k + 1) f (PySem.W.fnOf name qual params body scope dV kV doc pm an cdv ct) ps sp := by
  refine ⟨len, fun A outer s H args us vs Q E hr e0 hb r hsp => ?_⟩
  have hl := len _ _ _ _ hsp
  have KX : K.In s.heap := e0.mod.kin.keeps fun b o e => (e0.bs b o e).1
  have lim : s.heap.NoLimit := e0.mod.nolimit.keeps fun b o e => (e0.bs b o e).1
  have hkind : ∀ y ∈ ps.zip us, scope.names.lookup y.1 = some .local ∨ (scope.names.lookup y.1 = some .cell ∧ ((cellsFrom (s.heap.objs.size + 1) scope.names []).lookup y.1).isSome = true) := fun ⟨n, v⟩ hy => by
    rcases S.par n (List.of_mem_zip hy).1 with q | q
    · exact .inl q
    · exact .inr ⟨q, PySem.W.cellsFrom_some _ _ _ (.inl q)⟩
  refine codeAny_call_function hr.depth (KX _ _ lk) rfl S.co S.gen rfl (PySem.W.codeRec_of KX hcd) (hb _ _ _ _ ?_)
  refine wpAny_newFunctionEnv_cells S.kind hkind fun env he s1 x => ?_
  subst he
  refine ⟨lim.keeps x.toInCall.keep, codeAny_func ?_⟩
  obtain ⟨t, ht, hq⟩ := hbody A outer s H vs Q E (hr.deeper _) hsp
  have I : Inv (cxOf CX P w K mg base N qual scope f cdv A outer s H E) [] (start N vs) H s1 := inv_start S hr.hd e0 hl r x
  refine wpAny_mono (ht [] s1 (start N vs) H _ I hq) (fun fl s' hs => ?_) fun e s' hs => hs
  have fin : ∀ {σ' : St} {H' : Hp} {v : V} {u : Value}, Inv (cxOf CX P w K mg base N qual scope f cdv A outer s H E) [] σ' H' s' → RelV v u → Q v H' → CE outer P w H s Q u s' :=
    fun {σ' H' v u} J rv q => ⟨v, H', J.os, J.bare, J.base, J.hok, rv, q⟩
  cases fl with
  | ret u =>
    obtain ⟨v, σ', H', J, rv, q⟩ := hs
    exact fin J rv q
  | next =>
    obtain ⟨σ', H', J, q⟩ := hs
    exact fin (v := V.non) (u := Value.none) J rfl q
  | brk =>
    obtain ⟨_, _, _, q⟩ := hs
    exact False.elim q
  | cont =>
    obtain ⟨_, _, _, q⟩ := hs
    exact False.elim q
end L2
namespace L2
open PySem PySem.Spec PyProof.Rows
section
variable {X : Cx} {x : Str} {p pos : Pos} {e : Expr} {es : List Expr} {t : TA} {id T : String} {r : List V → Hp → VK → Prop}
def tCB (r : List V → Hp → VK → Prop) (t : TA) : TE := fun σ H Q => t σ H fun vs H1 => r vs H1 Q
theorem pe_callB (hc : CallR X (.builtin id) r) (hg : Gl X x) (hm : X.mg x = none) (hv : bootBuiltins x = some (.builtin id)) (ha : PA X (e :: es) t) (hn : x ≠ "__name__" := by decide) (hdb : (x == ("__debug__" : Str)) = false := by decide)
    (he : starEach (e :: es) X.env = (false, eval e X.env) :: starEach es X.env := by rfl) (hpl : (backTo pos (starEach es X.env)).any (·.1) = false := by rfl) : PE X (.Call (.Name x p) (e :: es) [] pos) (tCB r t) := by
  intro pins s σ H Q I h
  refine wpAny_Call_Name_kw (ld_blt I hg hm hv ?_ hn hdb)
  exact PyProof.Rows.callWith_builtin1 (thn (ha pos pins s σ H _ I h) fun us s1 ⟨vs, H1, I1, r1, q1⟩ => hc pins s1 σ H1 vs us Q I1 r1 q1) he hpl
theorem pe_callTy (hc : CallR X (.type T) r) (hg : Gl X x) (hm : X.mg x = none) (hv : bootBuiltins x = some (.type T)) (ha : PA X (e :: es) t) (hn : x ≠ "__name__" := by decide) (hdb : (x == ("__debug__" : Str)) = false := by decide)
    (he : starEach (e :: es) X.env = (false, eval e X.env) :: starEach es X.env := by rfl) (hpl : (backTo pos (starEach es X.env)).any (·.1) = false := by rfl) : PE X (.Call (.Name x p) (e :: es) [] pos) (tCB r t) := by
  intro pins s σ H Q I h
  refine wpAny_Call_Name_kw (ld_blt I hg hm hv ?_ hn hdb)
  exact PyProof.Rows.callWith_type1 (thn (ha pos pins s σ H _ I h) fun us s1 ⟨vs, H1, I1, r1, q1⟩ => hc pins s1 σ H1 vs us Q I1 r1 q1) he hpl
end
end L2
namespace HT
open PySem PyProof.Rows
def lexLt : List Int → List Int → Bool
  | [], [] => false
  | [], _ :: _ => true
  | _ :: _, [] => false
  | x :: xs, y :: ys => if x = y then lexLt xs ys else decide (x < y)
section
open PySem.SeqAt
open PySem.AutoSeq1 (wpAny_loadPart')
open PySem.MeetsSeq PySem.MeetsSeq2 PySem.MeetsSeq3
end
section
variable {prog : Program} {w : World} {A : Around} {E : Value → Shared → Prop} {s : Shared}
def sIx (n d : Nat) : Option Int → Nat
  | none => d
  | some v => if v < 0 then (v + (n : Int)).toNat else min v.toNat n
theorem sIx_none (n d : Nat) : sIx n d none = d := rfl
theorem sIx_nat (n d k : Nat) : sIx n d (some (k : Int)) = min k n := by
  show (if (k : Int) < 0 then ((k : Int) + (n : Int)).toNat else min (k : Int).toNat n) = min k n
  rw [if_neg (by omega), Int.toNat_natCast]
theorem sIx_le (n d : Nat) (hd : d ≤ n) (o : Option Int) : sIx n d o ≤ n := by
  cases o with
  | none => exact hd
  | some v =>
    show (if v < 0 then (v + (n : Int)).toNat else min v.toNat n) ≤ n
    by_cases hv : v < 0
    · rw [if_pos hv]; omega
    · rw [if_neg hv]; exact Nat.min_le_right _ _
theorem clip_eq (v : Int) (n d : Nat) : (if v < 0 then max (v + (n : Int)) 0 else min v (n : Int)) = ((sIx n d (some v) : Nat) : Int) := by
  show (if v < 0 then max (v + (n : Int)) 0 else min v (n : Int)) = (((if v < 0 then (v + (n : Int)).toNat else min v.toNat n) : Nat) : Int)
  by_cases hv : v < 0
  · simp only [if_pos hv]; omega
  · simp only [if_neg hv]; omega
theorem adjust_gen (lo hi : Option Int) (n : Nat) : Builtin.Slice.sliceAdjust lo hi 1 (n : Int) = (((sIx n 0 lo : Nat) : Int), ((sIx n n hi : Nat) : Int)) := by
  have h1 : ¬ ((1 : Int) < 0) := by omega
  unfold Builtin.Slice.sliceAdjust
  simp only [h1, if_false]
  refine Prod.ext ?_ ?_
  · cases lo with
    | none => rfl
    | some v => exact clip_eq v n 0
  · cases hi with
    | none => rfl
    | some v => exact clip_eq v n n
theorem places_gen (i j : Nat) : Builtin.Slice.slicePlaces (i : Int) (j : Int) 1 = j - i := by
  unfold Builtin.Slice.slicePlaces
  have h1 : (1 : Int) > 0 := by omega
  simp only [h1, if_true, Int.ediv_one]
  split <;> omega
theorem slicePart_ {v : Value} {o : Option Int} {Q : Option Int → Shared → Prop} (p : IsPart v o) (h : Q o s) : wpAny (model prog w) A (Builtin.Slice.slicePartIndex v) Q E s := by
  cases p with
  | none => exact slicePart_none h
  | int i t => exact slicePart_int h
theorem sliceApplied_gen {sl : Addr} {vl vu : Value} {lo hi : Option Int} {n : Nat} {Q : Int × Int × Nat → Shared → Prop} (hs : s.heap.IsSliceOf sl vl vu .none) (pl : IsPart vl lo) (pu : IsPart vu hi)
    (h : Q (((sIx n 0 lo : Nat) : Int), 1, sIx n n hi - sIx n 0 lo) s) : wpAny (model prog w) A (Builtin.Slice.sliceApplied (.ref sl) (pure (n : Int))) Q E s := by
  obtain ⟨os, hos, hcs, hds⟩ := id hs
  unfold Builtin.Slice.sliceApplied Builtin.Slice.sliceFields
  refine wpAny_bind (wpAny_bind (wpAny_field hos hds (x := vl) rfl (wpAny_bind (wpAny_field hos hds (x := vu) rfl (wpAny_bind (wpAny_field hos hds (x := .none) rfl (wpAny_pure ?_)))))))
  refine wpAny_bind (slicePart_none ?_)
  show wpAny _ _ (if ((1 : Int) == 0) = true then _ else _) _ _ s
  rw [if_neg (by decide)]
  refine wpAny_bind (slicePart_ pl (wpAny_bind (slicePart_ pu (wpAny_bind (wpAny_pure ?_)))))
  show wpAny _ _ (match Builtin.Slice.sliceAdjust lo hi 1 (n : Int) with | (lo, hi) => pure (lo, (1 : Int), Builtin.Slice.slicePlaces lo hi 1)) _ _ s
  rw [adjust_gen lo hi n]
  show wpAny _ _ (pure (((sIx n 0 lo : Nat) : Int), (1 : Int), Builtin.Slice.slicePlaces ((sIx n 0 lo : Nat) : Int) ((sIx n n hi : Nat) : Int) 1)) _ _ s
  rw [places_gen]
  exact wpAny_pure h
theorem pick_gen (xs : Array Value) (i k : Nat) : ((List.range k).filterMap fun (m : Nat) => xs[((i : Int) + (m : Int) * 1).toNat]?).toArray = ((xs.toList.drop i).take k).toArray := by
  have e : (fun (m : Nat) => xs[((i : Int) + (m : Int) * 1).toNat]?) = fun m => xs[i + m]? := by
    funext m
    have : ((i : Int) + (m : Int) * 1).toNat = i + m := by omega
    rw [this]
  rw [e]
  have := pick_run xs i k
  rw [List.filterMap_map] at this
  have e2 : ((fun x => xs[x]?) ∘ fun x => i + x) = fun m => xs[i + m]? := rfl
  rw [e2] at this
  rw [this]
theorem getItem_tuple_cut {t sl : Addr} {items : Array Value} {vl vu : Value} {lo hi : Option Int} {Q : Value → Shared → Prop} (ht : IsTup s.heap t items) (hs : s.heap.IsSliceOf sl vl vu .none) (pl : IsPart vl lo) (pu : IsPart vu hi)
    (hw : ¬ (sIx items.size 0 lo = 0 ∧ sIx items.size items.size hi = items.size))
    (h : Q (.ref s.heap.objs.size) { s with heap := s.heap.push { cls := .type "tuple", data := .seq ((items.toList.drop (sIx items.size 0 lo)).take (sIx items.size items.size hi - sIx items.size 0 lo)).toArray } })
    (hsz : items.size ≤ sizeLine) : wpAny (model prog w) A (getItem (.ref t) (.ref sl)) Q E s := by
  have htake : sizeOk (.seq ((items.toList.drop (sIx items.size 0 lo)).take (sIx items.size items.size hi - sIx items.size 0 lo)).toArray) := by
    show ((items.toList.drop (sIx items.size 0 lo)).take (sIx items.size items.size hi - sIx items.size 0 lo)).toArray.size ≤ sizeLine
    rw [List.size_toArray, List.length_take, List.length_drop, Array.length_toList]
    omega
  have hj : sIx items.size items.size hi ≤ items.size := sIx_le _ _ (Nat.le_refl _) hi
  obtain ⟨os, hos, hcs, hds⟩ := id hs
  have hTs : s.TypeIs (.ref sl) "slice" := ⟨os, hos, hcs⟩
  unfold getItem
  try with_reducible refine wpAny_holding ?_
  first | refine wpAny_bind (wpAny_pure ?_) | skip
  refine wpAny_bind (wpAny_sequenceKey ht.typeIs (by decide) ?_)
  refine wpAny_bind (wpAny_callSpecial?_slot (name := Str.ofString "__getitem__") ht.typeIs PyProof.Rows.slot_tuple_getitem
    (wpAny_call_entry PyProof.Rows.slot_tuple_getitem ht.typeIs entry_tuple_getitem ?_ (args_tuple_getitem _ _)))
  show wpAny _ _ (Builtin.Tuple.tupleItemsOf (.ref t) >>= _) _ _ s
  refine wpAny_bind (tupleItemsOf_ ht ?_)
  refine wpAny_bind (wpAny_typeOf hTs ?_)
  rw [if_pos (by decide)]
  refine wpAny_bind (sliceApplied_gen hs pl pu ?_)
  have hno : ¬ ((((sIx items.size 0 lo : Nat) : Int) == 0 && (1 : Int) == 1 && (sIx items.size items.size hi - sIx items.size 0 lo) == items.size) = true) := by
    intro q
    rw [Bool.and_eq_true, Bool.and_eq_true] at q
    have q1 : ((sIx items.size 0 lo : Nat) : Int) = 0 := eq_of_beq q.1.1
    have q2 : sIx items.size items.size hi - sIx items.size 0 lo = items.size := eq_of_beq q.2
    exact hw ⟨by omega, by omega⟩
  show wpAny _ _ (if (((sIx items.size 0 lo : Nat) : Int) == 0 && (1 : Int) == 1 && (sIx items.size items.size hi - sIx items.size 0 lo) == items.size) = true then _ else _) _ _ s
  rw [if_neg hno, pick_gen]
  first
    | exact wpAny_bind (m := Builtin.Tuple.tupleExact _) (wpAny_newObj_type (wpAny_pure ⟨_, rfl, wpAny_pure h⟩) htake)
    | exact wpAny_bind (m := Builtin.Tuple.tupleExact _) (wpAny_newObj_type (wpAny_bind (wpAny_pure (wpAny_pure ⟨_, rfl, wpAny_pure h⟩))) htake)
    | exact wpAny_bind (wpAny_bind (m := Builtin.Tuple.tupleExact _) (wpAny_newObj_type (wpAny_pure (wpAny_pure ⟨_, rfl, wpAny_pure h⟩)) htake))
    | exact wpAny_bind (wpAny_bind (m := Builtin.Tuple.tupleExact _) (wpAny_newObj_type (wpAny_pure ⟨_, rfl, wpAny_pure h⟩) htake))
end
end HT
namespace L2
open PySem PySem.Spec PyProof.Rows
abbrev TO := St → Hp → (Option Int → Hp → Prop) → Prop
def PO (X : Cx) (e : Option Expr) (t : TO) : Prop :=
  ∀ (pins : List (Addr × Obj)) (s : Shared) (σ : St) (H : Hp) (Q : Option Int → Hp → Prop), Inv X pins σ H s → t σ H Q →
    wpAny (model X.prog X.w) X.A (evalPart e X.env) (fun u s' => ∃ o H', Inv X pins σ H' s' ∧ IsPart u o ∧ Q o H') X.xe s
def tNoPart : TO := fun _ H Q => Q none H
def tPart (t : TE) : TO := fun σ H Q => t σ H fun x H1 => ∃ i, x = .int i ∧ Q (some i) H1
section
variable {X : Cx} {e : Expr} {te : TE} {lo hi : Option Expr} {tl th : TO} {pos p2 : Pos}
theorem po_none : PO X none tNoPart := by
  intro pins s σ H Q I h
  rw [evalPart_none]
  exact wpAny_pure ⟨none, H, I, .none, h⟩
theorem po_some (h : PE X e te) : PO X (some e) (tPart te) := by
  intro pins s σ H Q I hw
  rw [evalPart_some]
  refine thn (h pins s σ H _ I hw) fun u s1 ⟨x, H1, I1, r1, q1⟩ => ?_
  obtain ⟨i, rfl, q⟩ := q1
  obtain ⟨t, rfl⟩ := r1
  exact ⟨some i, H1, I1, .int i t, q⟩
def SlR (X : Cx) (r : V → Option Int → Option Int → Hp → VK → Prop) : Prop :=
  ∀ (pins : List (Addr × Obj)) (s : Shared) (σ : St) (H : Hp) (x : V) (v vl vu : Value) (lo hi : Option Int) (sl : Addr) (Q : VK), Inv X pins σ H s → RelV x v → s.heap.IsSliceOf sl vl vu .none → IsPart vl lo → IsPart vu hi → r x lo hi H Q →
    ∃ T id, typeLookup (.type T) "__getitem__" = pure (some (.builtin id)) ∧ s.TypeIs v T ∧ wpAny (model X.prog X.w) X.A (getItem v (.ref sl)) (EP X pins σ Q) X.xe s
def tSl (r : V → Option Int → Option Int → Hp → VK → Prop) (te : TE) (tl th : TO) : TE := fun σ H Q => te σ H fun x H1 => tl σ H1 fun l H2 => th σ H2 fun u H3 => r x l u H3 Q
theorem pe_slice {r : V → Option Int → Option Int → Hp → VK → Prop} (hr : SlR X r) (he : PE X e te) (hl : PO X lo tl) (hu : PO X hi th) : PE X (.Subscript e (.Slice lo hi none p2) pos) (tSl r te tl th) := by
  intro pins s σ H Q I h
  refine Subscript_ (thn (he pins s σ H _ I h) fun v s1 ⟨x, H1, I1, r1, q1⟩ => ?_)
  refine wpAny_Slice (thn (hl pins s1 σ H1 _ I1 q1) fun vl s2 ⟨l, H2, I2, pl, q2⟩ => thn (hu pins s2 σ H2 _ I2 q2) fun vu s3 ⟨u, H3, I3, pu, q3⟩ => ?_)
  rw [evalPart_none]
  refine wpAny_pure ?_
  have I4 : Inv X pins σ H3 { s3 with heap := s3.heap.push { cls := .type "slice", data := .fields #[vl, vu, .none] } } := I3.kept (t' := s3.toks) fun b ob q => Heap.get?_push_of_some _ q
  obtain ⟨T, id, hT, ht, hg⟩ := hr pins { s3 with heap := s3.heap.push { cls := .type "slice", data := .fields #[vl, vu, .none] } } σ H3 x v vl vu l u s3.heap.objs.size Q I4 r1 (Heap.IsSliceOf.new ..) pl pu q3
  show wpAny (model X.prog X.w) X.A (subscriptTail e (.Slice lo hi none p2) v (.ref s3.heap.objs.size)) (EP X pins σ Q) X.xe { s3 with heap := s3.heap.push { cls := .type "slice", data := .fields #[vl, vu, .none] } }
  exact tail_any (ops := [.ref s3.heap.objs.size, v]) ht hT hg (by with_unfolding_all rfl)
def cutV (xs : List V) (lo hi : Option Int) : List V := (xs.drop (HT.sIx xs.length 0 lo)).take (HT.sIx xs.length xs.length hi - HT.sIx xs.length 0 lo)
theorem cutV_length (xs : List V) (lo hi : Option Int) : (cutV xs lo hi).length ≤ xs.length := by
  unfold cutV
  rw [List.length_take, List.length_drop]
  omega
def rSlT (K : PySem.W.Frag) : V → Option Int → Option Int → Hp → VK → Prop := fun x lo hi H Q => ∃ a xs, x = .ref a ∧ SqT K H a xs ∧
  ¬ (HT.sIx xs.length 0 lo = 0 ∧ HT.sIx xs.length xs.length hi = xs.length) ∧ ∀ p, H p = none → Q (.ref p) (upd H p (.tup (cutV xs lo hi)))
theorem sl_tup : SlR X (rSlT X.K) := by
  intro pins s σ H x v vl vu lo hi sl Q I rx hs pl pu h
  obtain ⟨a, xs, rfl, hx, hw, q⟩ := h
  cases rx
  obtain ⟨its, r, ht, hz⟩ := I.tuple hx
  have hlen : its.toArray.size = xs.length := by rw [List.size_toArray]; exact r.length.symm
  refine ⟨"tuple", _, PyProof.Rows.slot_tuple_getitem.lookup, ht.typeIs, ?_⟩
  refine HT.getItem_tuple_cut ht hs pl pu (by rw [hlen]; exact hw) ?_ (by rw [hlen]; exact hz)
  rw [hlen]
  refine ⟨.ref s.heap.objs.size, _, I.laid (t' := s.toks) (o := .tup (cutV xs lo hi)) (fun b ob q => Heap.get?_push_of_some _ q) (Nat.le_refl _) ?_, rfl, q _ (I.hok.fresh (Nat.le_refl _))⟩
  exact ⟨Nat.le_trans (cutV_length xs lo hi) hz, _, (r.drop (HT.sIx xs.length 0 lo)).take (HT.sIx xs.length xs.length hi - HT.sIx xs.length 0 lo), IsTup.new _ _⟩
def rLtT (K : PySem.W.Frag) : R2 := fun x y H Q => ∃ a b ns ms, x = .ref a ∧ y = .ref b ∧ SqT K H a (ns.map V.int) ∧ SqT K H b (ms.map V.int) ∧ Q (.bl (HT.lexLt ns ms)) H
def rCatT (K : PySem.W.Frag) : R2 := fun x y H Q => ∃ a b xs ys, x = .ref a ∧ y = .ref b ∧ SqT K H a xs ∧ SqT K H b ys ∧ xs ≠ [] ∧ xs.length + ys.length ≤ sizeLine ∧
  (ys = [] → Q (.ref a) H) ∧ (ys ≠ [] → ∀ p, H p = none → Q (.ref p) (upd H p (.tup (xs ++ ys))))
end
end L2
namespace L2
open PySem PySem.Spec PyProof.Rows
def ixN (n : Nat) (i : Int) : Option Nat := if 0 ≤ i then (if i < n then some i.toNat else none) else if -(n : Int) ≤ i then some (i + n).toNat else none
def atI {α : Type} (xs : List α) (i : Int) : Option α := (ixN xs.length i).bind fun j => xs[j]?
theorem ixN_seq {n : Nat} {i : Int} {j : Nat} (h : ixN n i = some j) : seqIndex? i n = some j ∧ j < n ∧ -(n : Int) ≤ i ∧ i < n := by
  unfold ixN at h
  by_cases h0 : 0 ≤ i
  · rw [if_pos h0] at h
    by_cases h1 : i < n
    · rw [if_pos h1] at h
      have e : i.toNat = j := Option.some.inj h
      exact ⟨by rw [seqIndex_of h0 h1, e], by omega, by omega, h1⟩
    · rw [if_neg h1] at h; cases h
  · rw [if_neg h0] at h
    by_cases h1 : -(n : Int) ≤ i
    · rw [if_pos h1] at h
      have e : (i + n).toNat = j := Option.some.inj h
      exact ⟨by rw [seqIndex_neg (by omega) h1, e], by omega, h1, by omega⟩
    · rw [if_neg h1] at h; cases h
theorem atI_get {α : Type} {xs : List α} {i : Int} {v : α} (h : atI xs i = some v) : ∃ j, seqIndex? i xs.length = some j ∧ xs[j]? = some v ∧ j < xs.length ∧ -(xs.length : Int) ≤ i ∧ i < xs.length := by
  unfold atI at h
  cases e : ixN xs.length i with
  | none => rw [e] at h; cases h
  | some j =>
    rw [e] at h
    obtain ⟨h1, h2, h3, h4⟩ := ixN_seq e
    exact ⟨j, h1, h, h2, h3, h4⟩
theorem atI_nat {α : Type} {xs : List α} {j : Nat} {v : α} (h : xs[j]? = some v) : atI xs (j : Int) = some v := by
  have hj : j < xs.length := (List.getElem?_eq_some_iff.mp h).1
  have e : ixN xs.length (j : Int) = some j := by
    unfold ixN
    rw [if_pos (by omega), if_pos (by omega)]; simp
  unfold atI; rw [e]; exact h
def PlainIx (b : Expr) : Prop := ∀ o i, subscripted b false o i = operate [o, i] (getItem o i)
def IxR (X : Cx) (r : R2) : Prop :=
  ∀ (value slice : Expr) (pins : List (Addr × Obj)) (s : Shared) (σ : St) (H : Hp) (x y : V) (v u : Value) (Q : VK), Inv X pins σ H s → RelV x v → RelV y u → r x y H Q →
    subscripted slice false v u = operate [v, u] (getItem v u) → wpAny (model X.prog X.w) X.A (subscriptTail value slice v u) (EP X pins σ Q) X.xe s
def MtR (X : Cx) (id : String) (r : V → List V → Hp → VK → Prop) : Prop :=
  ∀ (pins : List (Addr × Obj)) (s : Shared) (σ : St) (H : Hp) (x : V) (xs : List V) (v : Value) (us : List Value) (Q : VK), Inv X pins σ H s → RelV x v → Vals xs us → r x xs H Q →
    wpAny (model X.prog X.w) X.A (call (.builtin id) (v :: us)) (EP X pins σ Q) X.xe s
section
variable {X : Cx} {a b : Expr} {ta tb : TE} {pos : Pos}
theorem pe_ix {r : R2} (hr : IxR X r) (ha : PE X a ta) (hb : PE X b tb) (hs : PlainIx b) : PE X (.Subscript a b pos) (tOp r ta tb) := by
  intro pins s σ H Q I h
  exact Subscript_ (binT ha hb I h fun v u s2 x y H2 I2 rx ry q => hr a b pins s2 σ H2 x y v u Q I2 rx ry q (hs _ _))
def rIxL (K : PySem.W.Frag) : R2 := fun x y H Q => ∃ p xs i v, x = .ref p ∧ y = .int i ∧ SqL K H p xs ∧ atI xs i = some v ∧ Q v H
def rIxT (K : PySem.W.Frag) : R2 := fun x y H Q => ∃ p xs i v, x = .ref p ∧ y = .int i ∧ SqT K H p xs ∧ atI xs i = some v ∧ Q v H
def rIxS : R2 := fun x y H Q => ∃ z i c, x = .str z ∧ y = .int i ∧ z.length ≤ sizeLine ∧ atI z.cps.toList i = some c ∧ Q (.str ⟨#[c]⟩) H
theorem ix_list : IxR X (rIxL X.K) := by
  intro value slice pins s σ H x y v u Q I rx ry h hs
  obtain ⟨p, xs, i, z, rfl, rfl, hq, he, q⟩ := h
  cases rx
  obtain ⟨t, rfl⟩ := ry
  obtain ⟨its, r, pl, hz⟩ := I.list hq
  obtain ⟨j, h1, h2, h3, h4, h5⟩ := atI_get he
  obtain ⟨w, ew, rw'⟩ := r.get h2
  have hl := r.length
  have hn := line63
  have fin : EP X pins σ Q w s := ⟨z, H, I, rw', q⟩
  by_cases h0 : 0 ≤ i
  · have hj : i.toNat = j := by
      rw [seqIndex_of h0 h5] at h1
      exact Option.some.inj h1
    exact item_listR pl.isList h0 (by omega) (by rw [hj]; simpa using ew) fin hs
  · have hj : (i + (its.toArray.size : Int)).toNat = j := by
      rw [seqIndex_neg (by omega) h4] at h1
      rw [List.size_toArray, ← hl]
      exact Option.some.inj h1
    exact subscriptTail_builtinR (x := w) pl.isList.typeIs slot_list_getitem.lookup
      (wpAny_getItem_list_neg (Q := fun r s' => r = w ∧ EP X pins σ Q r s') pl.isList (by omega) (by rw [List.size_toArray] <;> omega) (by omega) (by rw [hj]; simpa using ew) ⟨rfl, fin⟩) hs
theorem ix_tup : IxR X (rIxT X.K) := by
  intro value slice pins s σ H x y v u Q I rx ry h hs
  obtain ⟨p, xs, i, z, rfl, rfl, hq, he, q⟩ := h
  cases rx
  obtain ⟨t, rfl⟩ := ry
  obtain ⟨its, r, pl, hz⟩ := I.tuple hq
  obtain ⟨j, h1, h2, h3, h4, h5⟩ := atI_get he
  obtain ⟨w, ew, rw'⟩ := r.get h2
  have hl := r.length
  have hn := line63
  have fin : EP X pins σ Q w s := ⟨z, H, I, rw', q⟩
  exact subscriptTail_builtinR (x := w) pl.typeIs slot_tuple_getitem.lookup
    (getItem_tuple (j := j) (Q := fun r s' => r = w ∧ EP X pins σ Q r s') pl (by omega) (by omega) (by rw [List.size_toArray, ← hl]; exact h1) (by simpa using ew) ⟨rfl, fin⟩) hs
theorem ix_str : IxR X rIxS := by
  intro value slice pins s σ H x y v u Q I rx ry h hs
  obtain ⟨z, i, c, rfl, rfl, hz, he, q⟩ := h
  obtain ⟨t, rfl⟩ := rx
  obtain ⟨t', rfl⟩ := ry
  obtain ⟨j, h1, h2, h3, h4, h5⟩ := atI_get he
  have hl : z.cps.toList.length = z.length := by simp [Str.length]
  rw [hl] at h1 h4 h5
  have hn := line63
  exact tail_any (typeIs_str s z t) slot_str_getitem.lookup (getItem_str (c := c) (by
    have e1 : decide (i < -(2 ^ 63 : Int)) = false := decide_eq_false (by omega)
    have e2 : decide (i ≥ 2 ^ 63) = false := decide_eq_false (by omega)
    rw [e1, e2, Bool.or_false]) (by rw [h1]; simpa using h2) ⟨.str ⟨#[c]⟩, H, I.tok _, ⟨_, rfl⟩, q⟩) hs
def rIx (K : PySem.W.Frag) : R2 := fun x y H Q => rIxL K x y H Q ∨ rIxT K x y H Q ∨ rIxS x y H Q
def rSetL : V → V → V → Hp → (Hp → Prop) → Prop := fun o i v H Q => ∃ p xs k j, o = .ref p ∧ i = .int k ∧ H p = some (.lst xs) ∧ ixN xs.length k = some j ∧ Q (upd H p (.lst (xs.set j v)))
theorem slice_bounds (lo hi : Option Int) (n : Nat) : (sliceBounds lo hi none n).1 = ((HT.sIx n 0 lo : Nat) : Int) ∧ (sliceBounds lo hi none n).2.1 = ((HT.sIx n n hi : Nat) : Int) ∧ (sliceBounds lo hi none n).2.2 = 1 := by
  refine ⟨?_, ?_, rfl⟩
  · cases lo with
    | none => simp [sliceBounds, HT.sIx]
    | some i =>
      simp only [sliceBounds, HT.sIx, Option.getD_none, show (1 : Int) > 0 by decide, if_true]
      by_cases h : i < 0
      · simp only [h, if_true] <;> omega
      · simp only [h, if_false] <;> omega
  · cases hi with
    | none => simp [sliceBounds, HT.sIx]
    | some i =>
      simp only [sliceBounds, HT.sIx, Option.getD_none, show (1 : Int) > 0 by decide, if_true]
      by_cases h : i < 0
      · simp only [h, if_true] <;> omega
      · simp only [h, if_false] <;> omega
theorem slicePick_cut (its : List Value) (lo hi : Option Int) : slicePick its.toArray lo hi none = ((its.drop (HT.sIx its.length 0 lo)).take (HT.sIx its.length its.length hi - HT.sIx its.length 0 lo)).toArray := by
  obtain ⟨h1, h2, h3⟩ := slice_bounds lo hi its.toArray.size
  unfold slicePick
  rw [h1, h2, h3]
  simp only [sliceRange_one, pick_run, List.size_toArray] <;> rfl
def rSlL (K : PySem.W.Frag) : V → Option Int → Option Int → Hp → VK → Prop := fun x lo hi H Q => ∃ a xs, x = .ref a ∧ SqL K H a xs ∧ ∀ p, H p = none → Q (.ref p) (upd H p (.lst (cutV xs lo hi)))
theorem sl_list : SlR X (rSlL X.K) := by
  intro pins s σ H x v vl vu lo hi sl Q I rx hs pl pu h
  obtain ⟨a, xs, rfl, hx, q⟩ := h
  cases rx
  obtain ⟨its, r, ht, hz⟩ := I.list hx
  have hlen := r.length
  refine ⟨"list", _, slot_list_getitem.lookup, ht.isList.typeIs, ?_⟩
  refine wpAny_getItem_list_slice ht.isList hs pl pu .none (by simp) ?_ (by rw [List.size_toArray] <;> omega)
  rw [slicePick_cut, ← hlen]
  refine ⟨.ref s.heap.objs.size, _, I.laid (t' := s.toks) (o := .lst (cutV xs lo hi)) (fun b ob q => Heap.get?_push_of_some _ q) (Nat.le_refl _) ?_, rfl, q _ (I.hok.fresh (Nat.le_refl _))⟩
  exact ⟨Nat.le_trans (cutV_length xs lo hi) hz, _, 0, (r.drop (HT.sIx xs.length 0 lo)).take (HT.sIx xs.length xs.length hi - HT.sIx xs.length 0 lo), Heap.get?_push_size _ rfl⟩
def flatV : V → Bool
  | .non => true
  | .bl _ => true
  | .int _ => true
  | .str _ => true
  | _ => false
def eqV : V → V → Bool
  | .non, .non => true
  | .bl a, .bl b => a == b
  | .bl a, .int b => (if a then 1 else 0) == b
  | .int a, .bl b => a == (if b then 1 else 0)
  | .int a, .int b => a == b
  | .str a, .str b => a == b
  | _, _ => false
theorem eqAt_V {A : Around} {s : Shared} {y x : V} {u v : Value} (ry : RelV y u) (rx : RelV x v) (fy : flatV y = true) (fx : flatV x = true) : SeqAt.EqAt A s u v (eqV y x) := by
  cases y with
  | non =>
    cases ry
    cases x with
    | non => cases rx; exact SeqAt.EqAt.same _
    | bl b => cases rx; exact SeqAt.EqAt.none_bool b
    | int b => obtain ⟨t, rfl⟩ := rx; exact SeqAt.EqAt.none_int b t
    | str b => obtain ⟨t, rfl⟩ := rx; exact SeqAt.EqAt.none_str b t
    | _ => exact absurd (show false = true from fx) Bool.false_ne_true
  | bl a =>
    cases ry
    cases x with
    | non => cases rx; exact SeqAt.EqAt.bool_none a
    | bl b => cases rx; exact SeqAt.EqAt.bool_bool a b
    | int b => obtain ⟨t, rfl⟩ := rx; exact SeqAt.EqAt.bool_int a b t
    | str b => obtain ⟨t, rfl⟩ := rx; exact SeqAt.EqAt.bool_str a b t
    | _ => exact absurd (show false = true from fx) Bool.false_ne_true
  | int a =>
    obtain ⟨t', rfl⟩ := ry
    cases x with
    | non => cases rx; exact SeqAt.EqAt.int_none a t'
    | bl b => cases rx; exact SeqAt.EqAt.int_bool a t' b
    | int b => obtain ⟨t, rfl⟩ := rx; exact SeqAt.EqAt.int_int a t' b t
    | str b => obtain ⟨t, rfl⟩ := rx; exact SeqAt.EqAt.int_str a t' b t
    | _ => exact absurd (show false = true from fx) Bool.false_ne_true
  | str a =>
    obtain ⟨t', rfl⟩ := ry
    cases x with
    | non => cases rx; exact SeqAt.EqAt.str_none a t'
    | bl b => cases rx; exact SeqAt.EqAt.str_bool a t' b
    | int b => obtain ⟨t, rfl⟩ := rx; exact SeqAt.EqAt.str_int a t' b t
    | str b => obtain ⟨t, rfl⟩ := rx; exact SeqAt.EqAt.str_str a t' b t
    | _ => exact absurd (show false = true from fx) Bool.false_ne_true
  | _ => exact absurd (show false = true from fy) Bool.false_ne_true
def eqU (x : V) (u : Value) : Bool := match u with
  | .none => eqV .non x
  | .bool b => eqV (.bl b) x
  | .int i _ => eqV (.int i) x
  | .str z _ => eqV (.str z) x
  | _ => false
theorem eqU_of {x y : V} {u : Value} (r : RelV y u) (f : flatV y = true) : eqU x u = eqV y x := by
  cases y with
  | non => cases r; rfl
  | bl b => cases r; rfl
  | int i => obtain ⟨t, rfl⟩ := r; rfl
  | str z => obtain ⟨t, rfl⟩ := r; rfl
  | _ => exact absurd (show false = true from f) Bool.false_ne_true
theorem any_eqU {x : V} : ∀ {xs : List V} {us : List Value}, Vals xs us → xs.all flatV = true → us.any (eqU x) = xs.any fun y => eqV y x
  | _, _, .nil, _ => rfl
  | y :: xs, u :: us, .cons r t, f => by
    rw [List.all_cons, Bool.and_eq_true] at f
    rw [List.any_cons, List.any_cons, eqU_of r f.1, any_eqU t f.2]
theorem mem_eqAt {A : Around} {s : Shared} {x : V} {v : Value} (rx : RelV x v) (fx : flatV x = true) : ∀ {xs : List V} {us : List Value}, Vals xs us → xs.all flatV = true → ∀ u ∈ us, SeqAt.EqAt A s u v (eqU x u)
  | _, _, .nil, _ => fun u hu => by cases hu
  | y :: xs, u :: us, .cons r t, f => fun u' hu => by
    rw [List.all_cons, Bool.and_eq_true] at f
    rcases List.mem_cons.mp hu with rfl | hu
    · rw [eqU_of r f.1]; exact eqAt_V r rx f.1 fx
    · exact mem_eqAt rx fx t f.2 u' hu
def inV (x : V) (xs : List V) : Bool := xs.any fun y => eqV y x
def rIn (K : PySem.W.Frag) (neg : Bool) : R2 := fun x y H Q => ∃ p xs, y = .ref p ∧ (SqL K H p xs ∨ SqT K H p xs) ∧ flatV x = true ∧ xs.all flatV = true ∧ Q (.bl (if neg then !inV x xs else inV x xs)) H
theorem op_in_seq : OpR X (compareOp .In) (rIn X.K false) := by
  intro pins s σ H x y v u Q I rx ry h
  obtain ⟨p, xs, rfl, hq, fx, fs, q⟩ := h
  cases ry
  rcases hq with hq | hq
  · obtain ⟨its, r, pl, hz⟩ := I.list hq
    refine SeqAt.in_listAt (eqU x) pl.isList (fun w hw => mem_eqAt rx fx r fs w (by simpa using hw)) ⟨.bl _, H, I, rfl, ?_⟩
    rw [show its.toArray.any (eqU x) = its.any (eqU x) by simp, any_eqU r fs]
    exact q
  · obtain ⟨its, r, pl, hz⟩ := I.tuple hq
    refine SeqAt.in_tupleAt (eqU x) pl (fun w hw => mem_eqAt rx fx r fs w (by simpa using hw)) ⟨.bl _, H, I, rfl, ?_⟩
    rw [show its.toArray.any (eqU x) = its.any (eqU x) by simp, any_eqU r fs]
    exact q
theorem op_notIn_seq : OpR X (compareOp .NotIn) (rIn X.K true) := by
  intro pins s σ H x y v u Q I rx ry h
  obtain ⟨p, xs, rfl, hq, fx, fs, q⟩ := h
  cases ry
  rcases hq with hq | hq
  · obtain ⟨its, r, pl, hz⟩ := I.list hq
    refine SeqAt.notIn_listAt (eqU x) pl.isList (fun w hw => mem_eqAt rx fx r fs w (by simpa using hw)) ⟨.bl _, H, I, rfl, ?_⟩
    rw [show its.toArray.any (eqU x) = its.any (eqU x) by simp, any_eqU r fs]
    exact q
  · obtain ⟨its, r, pl, hz⟩ := I.tuple hq
    refine SeqAt.notIn_tupleAt (eqU x) pl (fun w hw => mem_eqAt rx fx r fs w (by simpa using hw)) ⟨.bl _, H, I, rfl, ?_⟩
    rw [show its.toArray.any (eqU x) = its.any (eqU x) by simp, any_eqU r fs]
    exact q
theorem call_len_seq : CallR X (.builtin "len") (fun xs H Q => ∃ p ys, xs = [.ref p] ∧ (SqL X.K H p ys ∨ SqT X.K H p ys) ∧ Q (.int ys.length) H) := by
  intro pins s σ H xs us Q I r h
  obtain ⟨p, ys, rfl, hq, q⟩ := h
  obtain ⟨u, rfl, rx⟩ := vals1 r
  cases rx
  have hn := line63
  rcases hq with hq | hq
  · obtain ⟨its, r', pl, hz⟩ := I.list hq
    have hlen := r'.length
    exact Calls.call_len_list pl.isList (by simp only [List.size_toArray] <;> omega) ⟨.int ys.length, H, I.tok _, ⟨s.toks + 1, by rw [List.size_toArray, hlen]⟩, q⟩
  · obtain ⟨its, r', pl, hz⟩ := I.tuple hq
    have hlen := r'.length
    exact len_tuple pl (by simp only [List.size_toArray] <;> omega) ⟨.int ys.length, H, I.tok _, ⟨s.toks + 1, by rw [List.size_toArray, hlen]⟩, q⟩
theorem call_len_str : CallR X (.builtin "len") (fun xs H Q => ∃ z, xs = [.str z] ∧ z.length ≤ sizeLine ∧ Q (.int z.length) H) := by
  intro pins s σ H xs us Q I r h
  obtain ⟨z, rfl, hz, q⟩ := h
  obtain ⟨u, rfl, t, rfl⟩ := vals1 r
  have hn := line63
  exact len_str (by omega) ⟨.int z.length, H, I.tok _, ⟨_, rfl⟩, q⟩
theorem call_list_of : CallR X (.type "list") (fun xs H Q => ∃ p ys, xs = [.ref p] ∧ (SqL X.K H p ys ∨ SqT X.K H p ys) ∧ ∀ l, H l = none → Q (.ref l) (upd H l (.lst ys))) := by
  intro pins s σ H xs us Q I r h
  obtain ⟨p, ys, rfl, hq, q⟩ := h
  obtain ⟨u, rfl, rx⟩ := vals1 r
  cases rx
  have fin : ∀ (its : List Value), Vals ys its → ys.length ≤ sizeLine → ∀ (h' : Heap) (c' : Nat), (∀ b o', s.heap.get? b = some o' → h'.get? b = some o') →
      h'.get? s.heap.objs.size = some { cls := .type "list", dict := none, data := .seq its.toArray c', slots := #[] } → EP X pins σ Q (.ref s.heap.objs.size) { s with heap := h' } := fun its r' hz h' c' kp e =>
    ⟨.ref s.heap.objs.size, _, I.laid (t' := s.toks) kp (Nat.le_refl _) (show ObjOk X.prog X.w _ h' _ (.lst ys) from ⟨hz, its, c', r', e⟩), rfl, q _ (I.hok.fresh (Nat.le_refl _))⟩
  rcases hq with hq | hq
  · obtain ⟨its, r', pl, hz⟩ := I.list hq
    have hlen := r'.length
    obtain ⟨o, ho, hc, n, hd⟩ := pl.isList
    exact call_list_seq p (.inl rfl) ho hc hd (fun h' c' kp e => fin its r' hz h' c' kp e) (by simp only [List.size_toArray] <;> omega)
  · obtain ⟨its, r', pl, hz⟩ := I.tuple hq
    have hlen := r'.length
    obtain ⟨o, ho, hc, n, hd⟩ := pl
    exact call_list_seq p (.inr rfl) ho hc hd (fun h' c' kp e => fin its r' hz h' c' kp e) (by simp only [List.size_toArray] <;> omega)
def tyV (K : PySem.W.Frag) (T : String) (x : V) (H : Hp) : Prop := match x with
  | .str _ => T = "str"
  | .int _ => T = "int"
  | .ref p => (T = "list" ∧ ∃ xs, SqL K H p xs) ∨ (T = "tuple" ∧ ∃ o, K.lookup p = some o ∧ o.cls = .type "tuple" ∧ o.dict = none) ∨
      (T = "dict" ∧ ((∃ kvs, H p = some (.dK kvs)) ∨ ∃ kvs, H p = some (.dT kvs))) ∨ (T = "set" ∧ ∃ S n, H p = some (.set S n))
  | _ => False
theorem tyV_is {pins : List (Addr × Obj)} {σ : St} {H : Hp} {s : Shared} {T : String} {x : V} {v : Value} (I : Inv X pins σ H s) (r : RelV x v) (ty : tyV X.K T x H) :
    s.TypeIs v T ∧ ∀ a, v = .ref a → ∃ ob, s.heap.get? a = some ob ∧ ob.dict = none := by
  cases x with
  | str z =>
    obtain ⟨t, rfl⟩ := r
    cases (show T = "str" from ty)
    exact ⟨typeIs_str s z t, fun _ e => nomatch e⟩
  | int i =>
    obtain ⟨t, rfl⟩ := r
    cases (show T = "int" from ty)
    exact ⟨typeIs_int s i t, fun _ e => nomatch e⟩
  | ref p =>
    cases r
    rcases ty with ⟨rfl, xs, hq⟩ | ⟨rfl, o, hk, hc, hd⟩ | ⟨rfl, hk⟩ | ⟨rfl, S, n, hk⟩
    · obtain ⟨its, _, pl, _⟩ := I.list hq
      refine ⟨pl.isList.typeIs, fun a e => ?_⟩
      cases e
      obtain ⟨o, n, e, c, hd, _⟩ := pl
      exact ⟨o, e, hd⟩
    · refine ⟨⟨o, I.kIn p o hk, hc⟩, fun a e => ?_⟩
      cases e
      exact ⟨o, I.kIn _ o hk, hd⟩
    · have z : ∃ o, s.heap.get? p = some o ∧ o.ExactDict := by
        rcases hk with ⟨kvs, hk⟩ | ⟨kvs, hk⟩
        · obtain ⟨_, _, _, _, o, _, _, e, ex, _⟩ := I.hok p _ hk
          exact ⟨o, e, ex⟩
        · obtain ⟨_, _, _, _, o, _, _, e, ex, _⟩ := I.hok p _ hk
          exact ⟨o, e, ex⟩
      obtain ⟨o, e, ex⟩ := z
      refine ⟨⟨o, e, ex.1⟩, fun a e2 => ?_⟩
      cases e2
      exact ⟨o, e, ex.2.1⟩
    · obtain ⟨o, _, _, _, e, ex, _⟩ := I.hok p _ hk
      refine ⟨⟨o, e, ex.1⟩, fun a e2 => ?_⟩
      cases e2
      exact ⟨o, e, ex.2.1⟩
  | _ => exact False.elim ty
def tBM0 (K : PySem.W.Frag) (T : String) (r : V → List V → Hp → VK → Prop) (to : TE) : TE := fun σ H Q => to σ H fun x H1 => tyV K T x H1 ∧ r x [] H1 Q
def tBM (K : PySem.W.Frag) (T : String) (r : V → List V → Hp → VK → Prop) (to : TE) (t : TA) : TE := fun σ H Q => to σ H fun x H1 => tyV K T x H1 ∧ t σ H1 fun xs H2 => r x xs H2 Q
variable {o e : Expr} {es : List Expr} {to : TE} {t : TA} {name : Str} {apos cpos : Pos} {T id : String} {r : V → List V → Hp → VK → Prop}
theorem pe_bm (pa : PlainAttrs T) (slot : Slot T name id) (hty : typeOf (.builtin id) = pure (.type "method_descriptor")) (hm : MtR X id r) (ho : PE X o to) (ha : PA X (e :: es) t)
    (hbase : attributeBase o name X.env (eval o X.env) = eval o X.env := by rfl)
    (hfew : ((backTo cpos (starEach (e :: es) X.env)).all (fun x => !x.1) && (backToKw cpos (keywordEach [] X.env)).all (fun x => x.1.isSome)
      && decide ((e :: es).length + ([] : List Keyword).length + (if ([] : List Keyword).isEmpty then 0 else 1) < 30)) = true := by rfl)
    (hline : (apos.endLine == cpos.line) = true := by rfl) (hs : starEach (e :: es) X.env = (false, eval e X.env) :: starEach es X.env := by rfl) (hplain : (backTo cpos (starEach es X.env)).any (·.1) = false := by rfl) :
    PE X (.Call (.Attribute o name apos) (e :: es) [] cpos) (tBM X.K T r to t) := by
  intro pins s σ H Q I h
  refine wpAny_Call_method_late hbase hfew hline rfl (thn (ho pins s σ H _ I h) fun v s1 ⟨x, H1, I1, r1, ty, q1⟩ => ?_)
  obtain ⟨h1, h2⟩ := tyV_is I1 r1 ty
  refine ⟨T, id, pa, slot, hty, h1, h2, ?_⟩
  have hA := ha cpos pins s1 σ H1 _ I1 q1
  rw [hs] at hA ⊢
  refine Calls.callWith_builtin (by show (false || (backTo cpos (starEach es X.env)).any (·.1)) = false; rw [hplain] <;> rfl) (Calls.evalArgs_plain ?_)
  exact thn hA fun us s2 ⟨vs, H2, I2, r2, q2⟩ => hm pins s2 σ H2 x vs v us Q I2 r1 r2 q2
/- xs.append(e), list.index on a module's tuple .. are MtR facts of 06m -/
end
end L2
namespace L2
open PySem PySem.Spec PyProof.Rows
def MtM (X : Cx) (id : String) (r : V → List V → Hp → VK → Prop) : Prop :=
  ∀ (pins : List (Addr × Obj)) (s : Shared) (σ : St) (H : Hp) (x : V) (xs : List V) (v : Value) (us : List Value) (Q : VK), Inv X pins σ H s → RelV x v → Vals xs us → r x xs H Q →
    wpAny (model X.prog X.w) X.A (call (.builtin id) (v :: us)) (EP X pins σ Q) X.xe s
theorem Vals.one : ∀ {x : V} {us : List Value}, Vals [x] us → ∃ u, us = [u] ∧ RelV x u
  | _, _, .cons r .nil => ⟨_, rfl, r⟩
section
variable {X : Cx} {pins : List (Addr × Obj)} {σ : St} {H : Hp} {s : Shared} {l b : Addr} {xs ys zs : List V}
theorem Inv.lset {its its' : List Value} {n : Nat} {f : Array Value → Array Value} {t' : Nat} (I : Inv X pins σ H s) (hH : H l = some (.lst xs))
    (e : s.heap.get? l = some { cls := .type "list", data := .seq its.toArray n }) (hf : f its.toArray = its'.toArray) (hv : Vals ys its') (hz : ys.length ≤ sizeLine) :
    Inv X pins σ (upd H l (.lst ys)) { s with heap := s.heap.update l (Obj.mapSeq f), toks := t' } := by
  have q := PySem.IsL.update e f
  rw [hf] at q
  refine I.write (x := l) (e := l) (by rw [hH]; exact trivial) (.inl rfl) (fun b' u hb hu => (Heap.get?_update_other s.heap (Obj.mapSeq f) (Ne.symm hb)).trans hu) ⟨_, q⟩ ?_
  exact ⟨hz, its', _, hv, q⟩
theorem Inv.lnew {its : List Value} {t' : Nat} (I : Inv X pins σ H s) (hv : Vals ys its) (hz : ys.length ≤ sizeLine) :
    Inv X pins σ (upd H s.heap.objs.size (.lst ys)) { s with heap := s.heap.push { cls := .type "list", data := .seq its.toArray }, toks := t' } :=
  I.laid (fun _ _ q => Heap.get?_push_of_some _ q) (Nat.le_refl _) ⟨hz, its, 0, hv, Heap.get?_push_size _ rfl⟩
theorem Inv.fresh (I : Inv X pins σ H s) : H s.heap.objs.size = none := I.hok.fresh (Nat.le_refl _)
theorem Inv.lstM (I : Inv X pins σ H s) (hH : H l = some (.lst xs)) : xs.length ≤ sizeLine ∧ ∃ (its : List Value) (n : Nat), Vals xs its ∧ xs.length = its.length ∧ s.heap.get? l = some { cls := .type "list", data := .seq its.toArray n } := by
  obtain ⟨z, its, n, r, e⟩ := I.hok l _ hH
  exact ⟨z, its, n, r, r.length, e⟩
theorem notLongL {n : Nat} (h : n ≤ sizeLine) : Builtin.List.listTooLong n = false := by
  unfold Builtin.List.listTooLong
  exact decide_eq_false (by omega)
end
section
variable {X : Cx}
def rAppend : V → List V → Hp → VK → Prop := fun x vs H Q => ∃ l xs y, x = .ref l ∧ vs = [y] ∧ H l = some (.lst xs) ∧ xs.length < sizeLine ∧ Q .non (upd H l (.lst (xs ++ [y])))
theorem mt_append : MtM X "list.append" rAppend := by
  intro pins s σ H x vs v us Q I rx rv h
  obtain ⟨l, xs, y, rfl, rfl, hH, hz, q⟩ := h
  cases rx
  obtain ⟨u, rfl, ru⟩ := rv.one
  obtain ⟨z, its, n, r, hl, e⟩ := I.lstM hH
  refine call_meets F.slot_list_append ⟨_, e, rfl⟩ F.entry_list_append (F.args_list_append_2 _ _) (PySem.list_append l its.toArray n u (by rw [List.size_toArray]; omega)) ⟨e, ?_⟩
  refine ⟨.non, _, I.lset (its' := its ++ [u]) hH e (by simp) (r.append (.cons ru .nil)) ?_, rfl, q⟩
  rw [List.length_append, List.length_singleton]
  omega
def rExtend : V → List V → Hp → VK → Prop := fun x vs H Q => ∃ l b xs zs, x = .ref l ∧ vs = [.ref b] ∧ H l = some (.lst xs) ∧ H b = some (.lst zs) ∧ xs.length + zs.length ≤ sizeLine ∧ Q .non (upd H l (.lst (xs ++ zs)))
def rPop : V → List V → Hp → VK → Prop := fun x vs H Q => ∃ l xs y, x = .ref l ∧ vs = [] ∧ H l = some (.lst xs) ∧ xs[xs.length - 1]? = some y ∧ Q y (upd H l (.lst xs.dropLast))
def rPopAt : V → List V → Hp → VK → Prop := fun x vs H Q => ∃ l xs i k y, x = .ref l ∧ vs = [.int i] ∧ H l = some (.lst xs) ∧ -(2 ^ 63) ≤ i ∧ i < 2 ^ 63 ∧ seqIndex? i xs.length = some k ∧ xs[k]? = some y ∧ Q y (upd H l (.lst (xs.eraseIdx k)))
def rReverse : V → List V → Hp → VK → Prop := fun x vs H Q => ∃ l xs, x = .ref l ∧ vs = [] ∧ H l = some (.lst xs) ∧ Q .non (upd H l (.lst xs.reverse))
def rClear : V → List V → Hp → VK → Prop := fun x vs H Q => ∃ l xs, x = .ref l ∧ vs = [] ∧ H l = some (.lst xs) ∧ Q .non (upd H l (.lst []))
def rCat : R2 := fun x y H Q => ∃ l b xs zs, x = .ref l ∧ y = .ref b ∧ H l = some (.lst xs) ∧ H b = some (.lst zs) ∧ xs.length + zs.length ≤ sizeLine ∧ ∀ p, H p = none → Q (.ref p) (upd H p (.lst (xs ++ zs)))
theorem op_cat : OpR X (binaryOp .Add) rCat := by
  intro pins s σ H x y v u Q I rx ry h
  obtain ⟨l, b, xs, zs, rfl, rfl, hH, hB, hz, q⟩ := h
  cases rx
  cases ry
  obtain ⟨z, its, n, r, hl, e⟩ := I.lstM hH
  obtain ⟨z2, its2, n2, r2, hl2, e2⟩ := I.lstM hB
  refine PySem.P.add_list e e2 ?_ (by rw [List.size_toArray, List.size_toArray]; omega)
  have ea : its.toArray ++ its2.toArray = (its ++ its2).toArray := by simp
  rw [ea]
  exact ⟨.ref _, _, I.lnew (t' := s.toks) (r.append r2) (by rw [List.length_append]; omega), rfl, q _ I.fresh⟩
def rRep : R2 := fun x y H Q => ∃ l k xs, x = .ref l ∧ y = .int k ∧ H l = some (.lst xs) ∧ -(2 ^ 63) ≤ k ∧ k < 2 ^ 63 ∧ xs.length * k.toNat ≤ sizeLine ∧
  ∀ p, H p = none → Q (.ref p) (upd H p (.lst (List.replicate k.toNat xs).flatten))
end
section
variable {prog : Program} {w : World} {A : Around} {E : Value → Shared → Prop} {s : Shared}
set_option maxRecDepth 100000 in
end
section
variable {X : Cx}
end
end L2
namespace Att
open PySem PySem.W PySem.Calls PyProof.Rows
theorem ints_of_wellAll {P : Params} {h : Heap} : ∀ (ns : List Int) (vs : List Value), WellAll P h vs (ns.map WData.int) → IntsAre vs ns := by
  intro ns
  induction ns with
  | nil =>
    intro vs w
    rw [List.map_nil] at w
    cases w
    exact .nil
  | cons n ns ih =>
    intro vs w
    rw [List.map_cons] at w
    cases w with
    | cons a b =>
      cases a
      exact .cons _ _ (ih _ b)
theorem script_of {l : OpenLaw} {n : Nat} (hn : l.most = some n) {P : Params} {h : Heap} {args : List WData} {vals : List Value}
    (hpre : l.row.toRowW.claim.pre args = true) (hwl : WellAll P h vals args) :
    ∃ a vs ns, vals = [Value.ref a] ∧ args = [WData.list (ns.map WData.int)] ∧ h.get? a = some { cls := .type "list", data := .seq vs.toArray } ∧ IntsAre vs ns ∧ ns.length ≤ n := by
  have hsh : WShape.hasAll [] args [.list .int] = true := (pre_splitW hpre).1
  have hc : l.pre.holds [] { args := args } = true := (pre_splitW hpre).2
  obtain ⟨d, r, rfl, h1, h2⟩ := hasAllW_cons hsh
  obtain rfl := hasAllW_nil h2
  obtain ⟨xs, rfl, h3⟩ := hasW_list h1
  obtain ⟨ns, rfl⟩ := items_int h3
  have hlen : ns.length ≤ n := by
    unfold OpenLaw.pre at hc
    have h4 : (WTm.not (.lt (.lit (.int (n : Int))) (.len (.arg 0)))).holds [] { args := [.list (ns.map .int)] } = true := by
      have h4 := (holds_andW hc).1
      rw [hn] at h4
      exact h4
    have h5 := condW_of h4 (w_not (w_lt w_lit (w_len_list (w_arg rfl))))
    rw [List.length_map] at h5
    refine Nat.le_of_not_lt fun q => ?_
    have q' : (n : Int) < ((ns.length : Nat) : Int) := by omega
    first
      | (rw [decide_eq_true q'] at h5; exact absurd h5 (by decide))
      | (simp at h5; omega)
  cases hwl with
  | cons w1 w2 =>
    cases w2
    cases w1 with
    | list ho hall => exact ⟨_, _, ns, rfl, rfl, ho, ints_of_wellAll ns _ hall, hlen⟩
theorem post_true (l : OpenLaw) (args : List WData) : l.row.toRowW.claim.post args (.bool true) args = true :=
  postW_of (r := l.row.toRowW) (X := (true == true))
    (show WShape.has [] (.bool true) .bool = true by first | rfl | decide | simp [WShape.has, WShape.arms, WShape.armsAll])
    (show (WTm.eq .res (.lit (.bool true))).value [] { args := args, res := some (.bool true), after := args } = some (.bool (true == true)) from w_eq_bool (w_res rfl) w_lit) rfl
theorem attach_call {l : OpenLaw} {n : Nat} {q : Program} {loose : List Str} {XP : (Str → Option Value) → Heap → Prop} {YP : World → Heap → Prop} {d : DefRec}
    (hn : l.most = some n) (hdf : d.params.defaults = [])
    (call : ∀ (w : World) (s₀ s₁ : Shared) (mg mb : Str → Option Value) (fa : Addr) (o : Obj) (pm cd doc : Value) (a : Addr) (vs : List Value) (ns : List Int),
      Ground q loose [] XP w s₀ mg mb s₁.heap → YP w s₁.heap →
      s₁.heap.get? fa = some o → o.data = .func (docDef d.name d.params d.body d.scope pm cd doc) → s₁.heap.CodeRec cd d.name → mg d.name = some (.ref fa) →
      s₁.heap.get? a = some { cls := .type "list", data := .seq vs.toArray } → IntsAre vs ns → ns.length ≤ n → s₁.gens = #[] →
      codeAny (model l.prog w) callerA (.call (.ref fa) ⟨[.ref a], []⟩) (fun r s' => r = .ok (.ret (.bool true)) ∧ OldK s₁.heap s'.heap ∧ s'.os = s₁.os ∧ AllBare s'.gens) s₁) :
    WalkO q loose XP YP l.row.toRowW d [] (fun f vs => PySem.call f vs) := by
  intro w s₀ s₁ mg mb G Y fa o pm cd doc dV kV ho hd hcd hD hmg hg args vals as hpre hlay hrd hwl hlo
  obtain rfl : dV = .none := Dflts.none hD hdf
  obtain rfl : kV = .none := Dflts.noKw hD
  obtain ⟨a, vs, ns, rfl, rfl, hobj, hints, hlen⟩ := script_of hn hpre hwl
  refine enter_call (codeAny_mono (call w s₀ s₁ mg mb fa o pm cd doc a vs ns G Y ho (fd_plain hd) hcd hmg hobj hints hlen hg) fun r s' hq => ?_)
  obtain ⟨rfl, h2, h3, h4⟩ := hq
  exact ⟨.inl ⟨.bool true, .bool true, [], rfl, fun _ => rfl, .bool true, post_true l _, fun _ => ⟨List.Pairwise.nil, fun _ hm => (nomatch hm)⟩⟩, h2, h3, h4⟩
section
variable {prog : Program} {w : World} {A : Around} {E : Value → Shared → Prop} {s : Shared} {K : Frag}
def noObjs (h : Heap) : Heap := { h with objs := #[] }
def ledger (h : Heap) (L d : Addr) : List (Addr × Obj) := (List.range h.objs.size).filterMap fun a => if a = L ∨ a = d then none else (h.get? a).map fun o => (a, o)
end
end Att
namespace L2
open PySem PySem.Spec PyProof.Rows
theorem vals_ints : ∀ {vs : List Value} {ns : List Int}, IntsAre vs ns → Vals (ns.map V.int) vs
  | _, _, .nil => .nil
  | _, _, .cons n t h => .cons ⟨t, rfl⟩ (vals_ints h)
def Only (H : Hp) : Prop := ∀ b, H b = none ∨ ∃ o xs, H b = some (.frz o (.lst xs))
theorem law_call {P : Program} {w : World} {K : PySem.W.Frag} {mg mb : Str → Option Value} {CX : CXT} {k : Nat} {fa a : Addr} {fd : FuncData} {x : Str} {sp : Sp} {s₁ : Shared} {vs : List Value} {ns : List Int}
    (KX : K.In s₁.heap) (hns : s₁.heap.Ns mainGlobals mg) (hb : s₁.heap.Ns builtinsNs mb) (hbb : ∀ x : Str, x ≠ "__name__" → mb x = bootBuiltins x) (hlim : s₁.heap.NoLimit) (hg : s₁.gens = #[])
    (ha : s₁.heap.get? a = some { cls := .type "list", data := .seq vs.toArray }) (hi : IntsAre vs ns) (hl : ns.length ≤ sizeLine) (hr : Room k callerA)
    (F : ∀ base : Heap, K.In base → base.Ns mainGlobals mg → FnOk P w K mg base CX k fa fd [x] sp) (hbind : ∀ (s : Shared) (u : Value), BindsTo s fd ⟨[u], []⟩ [(x, u)])
    (hsp : ∀ H : Hp, Only H → SqL K H a (ns.map V.int) → sp [.ref a] H (fun v _ => v = .bl true) fun _ _ _ => False)
    (hCX : ∀ H e s', CX [] H s₁ (fun _ _ _ => False) e s' → False) :
    codeAny (model P w) callerA (.call (.ref fa) ⟨[.ref a], []⟩) (fun r s' => r = .ok (.ret (.bool true)) ∧ OldK s₁.heap s'.heap ∧ s'.os = s₁.os ∧ AllBare s'.gens) s₁ := by
  have rv := vals_ints hi
  have lenV := hi.length
  have core : ∀ H : Hp, Only H → SqL K H a (ns.map V.int) → HOk P w H s₁.heap → (∀ b, H b ≠ none → b = a) → (H a ≠ none → K.lookup a = none) →
      codeAny (model P w) callerA (.call (.ref fa) ⟨[.ref a], []⟩) (fun r s' => r = .ok (.ret (.bool true)) ∧ OldK s₁.heap s'.heap ∧ s'.os = s₁.os ∧ AllBare s'.gens) s₁ := by
    intro H hO hS hok hA hK
    have base_of : ∀ {b : Addr} {o : Obj}, s₁.heap.get? b = some o → H b = none → (hidT s₁.heap H).get? b = some o := fun e n => hidT_get e n
    have noA : ∀ {b : Addr} {o : Obj} {es : Array DictEntry} {ep : Nat}, s₁.heap.get? b = some o → o.data = .dict es ep → H b = none := fun {b o es ep} e d => by
      cases q : H b with
      | none => rfl
      | some u =>
        have e' : b = a := hA b (by rw [q]; simp)
        subst e'
        rw [ha] at e; cases e
        have d' : Data.seq vs.toArray _ = Data.dict es ep := d
        cases d'
    have nsK : ∀ {b : Addr} {m : Str → Option Value}, s₁.heap.Ns b m → (hidT s₁.heap H).Ns b m := fun {b m} ⟨o, es, ep, e, d, r⟩ => ⟨o, es, ep, base_of e (noA e d), d, r⟩
    have hKb : K.In (hidT s₁.heap H) := fun b o e => base_of (KX b o e) (by
      cases q : H b with
      | none => rfl
      | some u =>
        have e' : b = a := hA b (by rw [q]; simp)
        subst e'
        rw [hK (by rw [q]; simp)] at e; cases e)
    have hM : Mod K mg (hidT s₁.heap H) := ⟨hKb, nsK hns, ⟨mb, nsK hb, hbb⟩, let ⟨mc, h1, h2⟩ := hlim; ⟨mc, nsK h1, h2⟩⟩
    have e0 : Env0 P w K mg (hidT s₁.heap H) callerA [] s₁ H := ⟨rfl, hM, fun b o e => of_hidT e, Nat.le_of_eq (hidT_size _ _), trivial, fun b hb => absurd (show b ∈ ([] : List Addr) from hb) (by simp), hok, .of_eq hg⟩
    refine codeAny_mono ((F _ hKb (nsK hns)).run callerA [] s₁ H ⟨[.ref a], []⟩ [.ref a] [.ref a] _ _ hr e0 (hbind s₁ (.ref a)) (.cons rfl .nil) (hsp H hO hS)) fun r s' h => ?_
    cases r with
    | error e => exact (hCX H e s' h).elim
    | ok fl =>
      cases fl with
      | next => exact False.elim h
      | brk => exact False.elim h
      | cont => exact False.elim h
      | ret u =>
        obtain ⟨v, H', os, bare, un, hok', r', q⟩ := h
        have q' : v = .bl true := q
        subst q'
        obtain rfl : u = Value.bool true := r'
        refine ⟨rfl, OldK.of_keep fun b o e => ?_, os, bare⟩
        cases q : H b with
        | none => exact un.keep b o e q (by intro z; exact absurd (show b ∈ ([] : List Addr) from z) (by simp)) (by simp)
        | some u =>
          rcases hO b with z | ⟨ob, xs, z⟩
          · rw [q] at z; cases z
          · have z2 := un.frzs b ob _ z
            obtain ⟨e1, _⟩ := hok b _ z
            obtain ⟨e2, _⟩ := hok' b _ z2
            rw [e] at e1; cases e1
            exact e2
  cases hk : K.lookup a with
  | some o =>
    have e := KX a o hk
    rw [ha] at e
    cases e
    refine core (fun _ => none) (fun _ => .inl rfl) (.inr ⟨_, vs.toArray, _, hk, rfl, rfl, rfl, by rw [List.size_toArray, lenV]; exact hl, by simpa using rv⟩) (fun b u z => by have z' : (none : Option HO) = some u := z; cases z') (fun b z => absurd rfl z) fun z => absurd rfl z
  | none =>
    refine core (fun b => if b = a then some (.frz { cls := .type "list", data := .seq vs.toArray } (.lst (ns.map V.int))) else none) (fun b => ?_) (.inl (.inr ⟨{ cls := .type "list", data := .seq vs.toArray }, if_pos rfl⟩)) (fun b u z => ?_) (fun b z => ?_) fun _ => hk
    · by_cases hb : b = a
      · exact .inr ⟨_, _, if_pos hb⟩
      · exact .inl (if_neg hb)
    · by_cases hb : b = a
      · have z' := (if_pos hb).symm.trans z
        cases z'
        subst hb
        exact ⟨ha, by rw [List.length_map]; exact hl, vs, _, rv, ha⟩
      · have z' := (if_neg hb).symm.trans z
        cases z'
    · by_cases hb : b = a
      · exact hb
      · exact absurd (if_neg hb) z
end L2
namespace L2
open PySem PySem.Spec PyProof.Rows
abbrev KOf {K : PySem.W.Frag} {h : Heap} (_ : K.In h) : PySem.W.Frag := K
theorem walk_of {l : PySem.W.OpenLaw} {n k : Nat} {q : Program} {loose : List Str} {XP : (Str → Option Value) → Heap → Prop} {YP : World → Heap → Prop} {d : DefRec} {K : Params → PySem.W.Frag} {CX : World → CXT} {sp : World → Sp} {x : Str}
    (hn : l.most = some n) (hn2 : n ≤ sizeLine) (hdf : d.params.defaults = []) (hr : Room k callerA)
    (hY : ∀ (w : World) (h : Heap), YP w h → (K w.params).In h)
    (F : ∀ (w : World) (mg : Str → Option Value) (fa : Addr) (h : Heap), (K w.params).In h → h.Ns mainGlobals mg → mg d.name = some (.ref fa) →
      ∃ fd : FuncData, (∀ (s : Shared) (u : Value), BindsTo s fd ⟨[u], []⟩ [(x, u)]) ∧
        ∀ base : Heap, (K w.params).In base → base.Ns mainGlobals mg → FnOk l.prog w (K w.params) mg base (CX w) k fa fd [x] (sp w))
    (hsp : ∀ (w : World) (H : Hp) (a : Addr) (ns : List Int), ns.length ≤ n → Only H → SqL (K w.params) H a (ns.map V.int) → sp w [.ref a] H (fun v _ => v = .bl true) fun _ _ _ => False)
    (hCX : ∀ (w : World) (H : Hp) (s : Shared) (e : Value) (s' : Shared), CX w [] H s (fun _ _ _ => False) e s' → False) :
    PySem.W.WalkO q loose XP YP l.row.toRowW d [] (fun f vs => PySem.call f vs) := by
  refine Att.attach_call hn hdf fun w s₀ s₁ mg mb fa o pm cd doc a vs ns G Y ho hd hcd hmg hobj hints hlen hg => ?_
  have KX := hY w _ Y
  obtain ⟨fd, hb, hF⟩ := F w mg fa _ KX G.T.g hmg
  exact law_call KX G.T.g G.T.b G.T.builtins G.T.nolimit hg hobj hints (Nat.le_trans hlen hn2) hr hF hb (fun H hO hS => hsp w H a ns hlen hO hS) fun H e s' => hCX w H s₁ e s'
end L2
/- THE LAST THEOREM (shape; LID, My.* are yours):
   My.Adr: a structure of the addresses that your layer names (classes, functions); My.Txt K t: a structure (Prop) of the equations over K;
   My.txt_mk : {K} {implicit addresses ..} (e1 : nsIn K mainGlobals "law" = some (some (.ref f))) (e2 : K.lookup f = some ⟨oc, od, .func (fnOf "law" "law" params body scope dV kV doc pm an cdv ct), sl⟩) (e3 : codeIn K cdv "law" = true) .. : ∃ t, My.Txt K t
set_option maxRecDepth 100000 in
set_option maxHeartbeats 0 in
(the tactic k_is has no namespace: write k_is) -/
namespace L2
open PySem PySem.Spec PyProof.Rows
def inClass (s : Stmt) (j : Nat) : Stmt := match s with
  | .ClassDef _ _ _ body _ _ _ _ _ _ _ => body.getD j (.Pass ⟨0, 0, 0, 0⟩)
  | _ => .Pass ⟨0, 0, 0, 0⟩
def defArgs (s : Stmt) : Arguments := match s with
  | .FunctionDef _ a _ _ _ _ _ _ _ _ => a
  | _ => { posonlyargs := [], args := [], vararg := none, kwonlyargs := [], kw_defaults := [], kwarg := none, defaults := [] }
def defBody (s : Stmt) : List Stmt := match s with
  | .FunctionDef _ _ b _ _ _ _ _ _ _ => b
  | _ => []
def defScope (s : Stmt) : Scope := match s with
  | .FunctionDef _ _ _ _ _ _ sc _ _ _ => sc
  | _ => { kind := .function, names := [], isGenerator := false, isCoroutine := false }
abbrev CX0 : CXT := fun _ _ _ _ _ _ => False
abbrev E0 : XK := fun _ _ _ => False
structure Fun (K : PySem.W.Frag) (x qual : Str) (st : Stmt) (f : Addr) (fd : FuncData) : Prop where
  ex : ∃ (oc : Value) (od : Option Addr) (kV doc pm : Value) (an : Option Addr) (cdv ct : Value) (osl : Array (Option Value)),
    fd = PySem.W.fnOf x qual (defArgs st) (defBody st) (defScope st) .none kV doc pm an cdv ct ∧ K.lookup f = some ⟨oc, od, .func fd, osl⟩ ∧ PySem.W.codeIn K cdv qual = true
  kp : PySem.W.keepIn K (.ref f) = true
section
variable {P : Program} {w : World} {K : PySem.W.Frag} {mg : Str → Option Value} {base : Heap}
theorem Fun.binds {x qual : Str} {st : Stmt} {f : Addr} {fd : FuncData} {ps : List Str} (F : Fun K x qual st f fd)
    (h : ∀ (kV doc pm : Value) (an : Option Addr) (cdv ct : Value) (us : List Value), us.length = ps.length → bindArgs (PySem.W.fnOf x qual (defArgs st) (defBody st) (defScope st) .none kV doc pm an cdv ct) ⟨us, []⟩ = pure (ps.zip us)) : Binds K fd ps [] := by
  obtain ⟨oc, od, kV, doc, pm, an, cdv, ct, osl, rfl, lk, hcd⟩ := F.ex
  exact .all (h kV doc pm an cdv ct)
theorem fun_mk {x qual : Str} {st : Stmt} {f : Addr} {oc : Value} {od an : Option Addr} {osl : Array (Option Value)} {kV doc pm cdv ct : Value} (l : K.lookup f = some ⟨oc, od, .func (PySem.W.fnOf x qual (defArgs st) (defBody st) (defScope st) .none kV doc pm an cdv ct), osl⟩)
    (c : PySem.W.codeIn K cdv qual = true) (k : PySem.W.keepIn K (.ref f) = true) : Fun K x qual st f (PySem.W.fnOf x qual (defArgs st) (defBody st) (defScope st) .none kV doc pm an cdv ct) := ⟨⟨oc, od, kV, doc, pm, an, cdv, ct, osl, rfl, l, c⟩, k⟩
end
section
variable {X : Cx}
end
def Same (H H' : Hp) : Prop := ∀ b o, H b = some o → H' b = some o
theorem Same.refl (H : Hp) : Same H H := fun _ _ h => h
theorem Same.trans {H H1 H2 : Hp} (a : Same H H1) (b : Same H1 H2) : Same H H2 := fun c o h => b c o (a c o h)
theorem Same.seq {K : PySem.W.Frag} {H H' : Hp} {a : Addr} {xs : List V} (e : Same H H') (h : SqL K H a xs) : SqL K H' a xs := by
  rcases h with (h | ⟨o, h⟩) | h
  · exact .inl (.inl (e _ _ h))
  · exact .inl (.inr ⟨o, e _ _ h⟩)
  · exact .inr h
end L2
section
set_option Elab.async false
set_option linter.all false
set_option maxRecDepth 100000
namespace L2
open PySem PySem.Spec PyProof.Rows
section
variable {κ : Type} [DecidableEq κ]
def valV (kvs : List (κ × V)) (k : κ) : Option V := (kvs.find? fun kv => decide (kv.1 = k)).map (·.2)
def putK (kvs : List (κ × V)) (k : κ) (v : V) : List (κ × V) :=
  if (kvs.any fun kv => decide (kv.1 = k)) = true then kvs.map (fun kv => if kv.1 = k then (kv.1, v) else kv) else kvs ++ [(k, v)]
def dropK (kvs : List (κ × V)) (k : κ) : List (κ × V) := kvs.filter fun kv => decide (kv.1 ≠ k)
theorem valV_pos {p : κ × V} {r : List (κ × V)} {k : κ} (e : p.1 = k) : valV (p :: r) k = some p.2 := by simp [valV, List.find?_cons, e]
theorem valV_neg {p : κ × V} {r : List (κ × V)} {k : κ} (e : ¬ p.1 = k) : valV (p :: r) k = valV r k := by simp [valV, List.find?_cons, e]
theorem valV_any (k : κ) : ∀ kvs : List (κ × V), (kvs.any fun kv => decide (kv.1 = k)) = (valV kvs k).isSome
  | [] => rfl
  | p :: r => by
    rw [List.any_cons]
    by_cases e : p.1 = k
    · simp only [valV_pos e, decide_eq_true e, Bool.true_or, Option.isSome_some]
    · rw [valV_neg e, decide_eq_false e, Bool.false_or]; exact valV_any k r
theorem valV_map (k j : κ) (y : V) : ∀ kvs : List (κ × V), valV (kvs.map fun kv => if kv.1 = k then (kv.1, y) else kv) j = (valV kvs j).map fun x => if j = k then y else x
  | [] => rfl
  | p :: r => by
    have ih := valV_map k j y r
    rw [List.map_cons]
    by_cases h : p.1 = k
    · rw [if_pos h]
      by_cases e : p.1 = j
      · rw [valV_pos (p := (p.1, y)) e, valV_pos e, Option.map_some, if_pos (e.symm.trans h)]
      · rw [valV_neg (p := (p.1, y)) e, valV_neg e, ih]
    · rw [if_neg h]
      by_cases e : p.1 = j
      · rw [valV_pos (p := p) e, valV_pos e, Option.map_some, if_neg (fun z => h (e.trans z))]
      · rw [valV_neg (p := p) e, valV_neg e, ih]
theorem valV_snoc (k j : κ) (y : V) : ∀ kvs : List (κ × V), valV kvs k = none → valV (kvs ++ [(k, y)]) j = if j = k then some y else valV kvs j
  | [], _ => by
    by_cases e : k = j
    · rw [if_pos e.symm]; exact valV_pos (p := (k, y)) e
    · rw [if_neg (fun z => e z.symm)]; exact valV_neg (p := (k, y)) e
  | p :: r, hn => by
    rw [List.cons_append]
    have hk : ¬ p.1 = k := fun z => by rw [valV_pos z] at hn; cases hn
    rw [valV_neg hk] at hn
    have ih := valV_snoc k j y r hn
    by_cases e : p.1 = j
    · rw [valV_pos e, valV_pos e, if_neg (fun z => hk (e.trans z))]
    · rw [valV_neg e, valV_neg e, ih]
theorem valV_put (kvs : List (κ × V)) (k j : κ) (y : V) : valV (putK kvs k y) j = if j = k then some y else valV kvs j := by
  unfold putK
  by_cases a : (kvs.any fun kv => decide (kv.1 = k)) = true
  · rw [if_pos a, valV_map]
    rw [valV_any] at a
    by_cases e : j = k
    · obtain ⟨x, hx⟩ := Option.isSome_iff_exists.mp a
      rw [if_pos e, e, hx, Option.map_some, if_pos rfl]
    · rw [if_neg e]
      cases valV kvs j with
      | none => rfl
      | some x => rw [Option.map_some, if_neg e]
  · rw [if_neg a]
    refine valV_snoc k j y kvs ?_
    rw [valV_any] at a
    cases q : valV kvs k with
    | none => rfl
    | some x => rw [q] at a; exact (a rfl).elim
theorem length_putK (kvs : List (κ × V)) (k : κ) (v : V) : (putK kvs k v).length ≤ kvs.length + 1 := by
  unfold putK
  split
  · rw [List.length_map]; omega
  · rw [List.length_append, List.length_cons, List.length_nil]; omega
theorem putK_new {kvs : List (κ × V)} {k : κ} (v : V) (h : valV kvs k = none) : putK kvs k v = kvs ++ [(k, v)] := by
  unfold putK
  rw [valV_any, h]
  exact if_neg (by decide)
theorem RelO.isSome_eq {o : Option V} {u : Option Value} (r : RelO o u) : o.isSome = u.isSome := by
  cases o with
  | none => cases u with
    | none => rfl
    | some _ => exact (show False from r).elim
  | some _ => cases u with
    | none => exact (show False from r).elim
    | some _ => rfl
theorem RelO.getD {o : Option V} {u : Option Value} {d : V} {d' : Value} (r : RelO o u) (rd : RelV d d') : RelV (o.getD d) (u.getD d') := by
  cases o with
  | none => cases u with
    | none => exact rd
    | some _ => exact (show False from r).elim
  | some _ => cases u with
    | none => exact (show False from r).elim
    | some _ => exact r
theorem KV.val {kvs : List (κ × V)} {vs : List (κ × Value)} (r : KV kvs vs) (k : κ) : RelO (valV kvs k) (valueAt vs k) := by
  unfold KV at r
  induction r with
  | nil => exact True.intro
  | @cons p q ps qs h t ih =>
    obtain ⟨h1, h2⟩ := h
    by_cases e : p.1 = k
    · have e' : q.1 = k := h1.symm.trans e
      have b : valueAt (q :: qs) k = some q.2 := by simp [valueAt, List.find?_cons, e']
      rw [valV_pos e, b]; exact h2
    · have e' : ¬ q.1 = k := fun z => e (h1.trans z)
      have b : valueAt (q :: qs) k = valueAt qs k := by simp [valueAt, List.find?_cons, e']
      rw [valV_neg e, b]; exact ih
theorem KV.any {kvs : List (κ × V)} {vs : List (κ × Value)} (r : KV kvs vs) (k : κ) : (kvs.any fun kv => decide (kv.1 = k)) = vs.any fun kv => decide (kv.1 = k) := by
  unfold KV at r
  induction r with
  | nil => rfl
  | cons h t ih => rw [List.any_cons, List.any_cons, ih, h.1]
theorem KV.repl {kvs : List (κ × V)} {vs : List (κ × Value)} (r : KV kvs vs) (k : κ) {y : V} {u : Value} (ry : RelV y u) :
    KV (kvs.map fun kv => if kv.1 = k then (kv.1, y) else kv) (vs.map fun kv => if kv.1 = k then (kv.1, u) else kv) := by
  unfold KV at r ⊢
  induction r with
  | nil => exact .nil
  | @cons p q ps qs h t ih =>
    rw [List.map_cons, List.map_cons]
    refine .cons ?_ ih
    obtain ⟨h1, h2⟩ := h
    by_cases e : p.1 = k
    · rw [if_pos e, if_pos (h1.symm.trans e)]; exact ⟨h1, ry⟩
    · rw [if_neg e, if_neg (fun z => e (h1.trans z))]; exact ⟨h1, h2⟩
theorem KV.put {kvs : List (κ × V)} {vs : List (κ × Value)} (r : KV kvs vs) (k : κ) {y : V} {u : Value} (ry : RelV y u) : KV (putK kvs k y) (stored vs k u) := by
  unfold putK stored
  rw [r.any k]
  by_cases e : (vs.any fun kv => decide (kv.1 = k)) = true
  · rw [if_pos e, if_pos e]; exact r.repl k ry
  · rw [if_neg e, if_neg e]; exact Paired.snoc r ⟨rfl, ry⟩
theorem KV.keys {kvs : List (κ × V)} {vs : List (κ × Value)} (r : KV kvs vs) : kvs.map (·.1) = vs.map (·.1) := by
  unfold KV at r
  induction r with
  | nil => rfl
  | cons h t ih => rw [List.map_cons, List.map_cons, ih, h.1]
theorem KV.length {kvs : List (κ × V)} {vs : List (κ × Value)} (r : KV kvs vs) : kvs.length = vs.length := Paired.length r
end
theorem kV_is {P : Program} {w : World} {k : Key} {u : Value} (r : RelV (kV k) u) : (mixKind P w).is k u = true := by
  cases k with
  | inl i => obtain ⟨t, e⟩ := (show ∃ t, u = Value.int i t from r); subst e; exact mixKind_int P w i t
  | inr x => obtain ⟨t, e⟩ := (show ∃ t, u = Value.str x t from r); subst e; exact mixKind_str P w x t
theorem items_are {P : Program} {w : World} : ∀ {ks : List Key} {us : List Value}, Vals (ks.map kV) us → ItemsAre (mixKind P w) ks us
  | [], _, r => by rw [List.map_nil] at r; cases r; exact .nil
  | k :: ks, _, r => by
    rw [List.map_cons] at r
    cases r with
    | cons h t => exact .cons (kV_is h) (items_are t)
abbrev KT (H : Hp) : List (List Key × V) → List (List Key × Addr × Value) → Prop := Paired fun p q => p.1 = q.1 ∧ H q.2.1 = some (.tup (p.1.map kV)) ∧ RelV p.2 q.2.2
theorem KT.val {H : Hp} {kvs : List (List Key × V)} {xs : List (List Key × Addr × Value)} (r : KT H kvs xs) (k : List Key) : RelO (valV kvs k) ((atKey xs k).map (·.2)) := by
  induction r with
  | nil => exact True.intro
  | @cons p q ps qs h t ih =>
    obtain ⟨h1, _, h2⟩ := h
    by_cases e : p.1 = k
    · have e' : q.1 = k := h1.symm.trans e
      have b : atKey (q :: qs) k = some q.2 := by simp [atKey, List.find?_cons, e']
      rw [valV_pos e, b]; exact h2
    · have e' : ¬ q.1 = k := fun z => e (h1.trans z)
      have b : atKey (q :: qs) k = atKey qs k := by simp [atKey, List.find?_cons, e']
      rw [valV_neg e, b]; exact ih
theorem KT.repl {H : Hp} {kvs : List (List Key × V)} {xs : List (List Key × Addr × Value)} (r : KT H kvs xs) (k : List Key) {y : V} {u : Value} (ry : RelV y u) :
    KT H (kvs.map fun kv => if kv.1 = k then (kv.1, y) else kv) (xs.map (putAt k u)) := by
  induction r with
  | nil => exact .nil
  | @cons p q ps qs h t ih =>
    rw [List.map_cons, List.map_cons]
    refine .cons ?_ ih
    obtain ⟨h1, h2, h3⟩ := h
    unfold putAt
    by_cases e : p.1 = k
    · rw [if_pos e, if_pos (h1.symm.trans e)]; exact ⟨h1, h2, ry⟩
    · rw [if_neg e, if_neg (fun z => e (h1.trans z))]; exact ⟨h1, h2, h3⟩
theorem KT.put {H : Hp} {kvs : List (List Key × V)} {xs : List (List Key × Addr × Value)} (r : KT H kvs xs) (k : List Key) {b : Addr} {y : V} {u : Value} (hb : H b = some (.tup (k.map kV))) (ry : RelV y u) :
    KT H (putK kvs k y) (storedH xs k b u) := by
  have e : (kvs.any fun kv => decide (kv.1 = k)) = (atKey xs k).isSome := by
    rw [valV_any, (r.val k).isSome_eq, Option.isSome_map]
  unfold putK storedH
  rw [e]
  by_cases q : (atKey xs k).isSome = true
  · rw [if_pos q, if_pos q]; exact r.repl k ry
  · rw [if_neg q, if_neg q]; exact Paired.snoc r ⟨rfl, hb, ry⟩
theorem KT.keeps {H H' : Hp} {kvs : List (List Key × V)} {xs : List (List Key × Addr × Value)} (r : KT H kvs xs) (ht : ∀ b ys, H b = some (.tup ys) → H' b = some (.tup ys)) : KT H' kvs xs :=
  Paired.mapP r fun _ _ z => ⟨z.1, ht _ _ z.2.1, z.2.2⟩
section
variable {P : Program} {w : World} {H : Hp} {h : Heap} {a : Addr}
theorem rd_of {u : HO} (ok : HOk P w H h) (e : Rd H a u) : ObjOk P w H h a u := e.ok ok
theorem dk_rd {kvs : List (Key × V)} (ok : HOk P w H h) (e : Rd H a (.dK kvs)) : kvs.length ≤ sizeLine ∧ (a == sysModules) = false ∧ ∃ vs, KV kvs vs ∧ h.DictOf (mixKind P w) a vs :=
  show ObjOk P w H h a (.dK kvs) from rd_of ok e
theorem dk_of {kvs : List (Key × V)} (ok : HOk P w H h) (e : H a = some (.dK kvs)) : kvs.length ≤ sizeLine ∧ (a == sysModules) = false ∧ ∃ vs, KV kvs vs ∧ h.DictOf (mixKind P w) a vs := dk_rd ok (.inl e)
theorem key_of {ks : List Key} (ok : HOk P w H h) (e : H a = some (.tup (ks.map kV))) : (tupleKind (mixKind P w)).is h ks a := by
  obtain ⟨_, its, r, o, h1, h2, n, h3⟩ := (show ObjOk P w H h a (.tup (ks.map kV)) from ok a _ e)
  exact ⟨o, its.toArray, n, h1, h2, h3, by simpa using items_are r⟩
theorem dt_rd {kvs : List (List Key × V)} (ok : HOk P w H h) (e : Rd H a (.dT kvs)) : kvs.length ≤ sizeLine ∧ (a == sysModules) = false ∧
    ∃ xs, KT H kvs xs ∧ h.DictOfH (tupleKind (mixKind P w)) a xs := by
  obtain ⟨z, y, xs, r, o, es, ep, h1, h2, h3, h4, h5⟩ := (show ObjOk P w H h a (.dT kvs) from rd_of ok e)
  refine ⟨z, y, xs, r, o, es, ep, h1, h2, h3, h4, fun x hx => ?_, h5⟩
  have all : ∀ {l : List (List Key × V)} {m : List (List Key × Addr × Value)}, KT H l m → ∀ x ∈ m, (tupleKind (mixKind P w)).is h x.1 x.2.1 := by
    intro l m q
    induction q with
    | nil => intro x hx; exact nomatch hx
    | @cons p q ps qs hq t ih =>
      intro x hx
      rcases List.mem_cons.mp hx with e | hx
      · subst e
        exact key_of ok (by rw [← hq.1]; exact hq.2.1)
      · exact ih x hx
  exact all r x hx
theorem dt_of {kvs : List (List Key × V)} (ok : HOk P w H h) (e : H a = some (.dT kvs)) : kvs.length ≤ sizeLine ∧ (a == sysModules) = false ∧
    ∃ xs, KT H kvs xs ∧ h.DictOfH (tupleKind (mixKind P w)) a xs := dt_rd ok (.inl e)
end
def DGet (H : Hp) (a : Addr) (y : V) (r : Option V) : Prop :=
  (∃ kvs k, Rd H a (.dK kvs) ∧ y = kV k ∧ r = valV kvs k) ∨ ∃ kvs k b, Rd H a (.dT kvs) ∧ y = .ref b ∧ H b = some (.tup (k.map kV)) ∧ r = valV kvs k
def DPut (H : Hp) (a : Addr) (y v : V) (H' : Hp) : Prop :=
  (∃ kvs k, H a = some (.dK kvs) ∧ y = kV k ∧ kvs.length < sizeLine ∧ H' = upd H a (.dK (putK kvs k v))) ∨
  ∃ kvs k b, H a = some (.dT kvs) ∧ y = .ref b ∧ H b = some (.tup (k.map kV)) ∧ kvs.length < sizeLine ∧ H' = upd H a (.dT (putK kvs k v))
theorem DGet.k {H : Hp} {a : Addr} {kvs : List (Key × V)} {k : Key} (e : H a = some (.dK kvs)) : DGet H a (kV k) (valV kvs k) := .inl ⟨kvs, k, .inl e, rfl, rfl⟩
theorem DPut.k {H : Hp} {a : Addr} {kvs : List (Key × V)} {k : Key} {v : V} (e : H a = some (.dK kvs)) (hl : kvs.length < sizeLine) : DPut H a (kV k) v (upd H a (.dK (putK kvs k v))) := .inl ⟨kvs, k, e, rfl, hl, rfl⟩
theorem DPut.t {H : Hp} {a b : Addr} {kvs : List (List Key × V)} {k : List Key} {v : V} (e : H a = some (.dT kvs)) (eb : H b = some (.tup (k.map kV))) (hl : kvs.length < sizeLine) :
    DPut H a (.ref b) v (upd H a (.dT (putK kvs k v))) := .inr ⟨kvs, k, b, e, rfl, eb, hl, rfl⟩
section
variable {X : Cx} {pins : List (Addr × Obj)} {σ : St} {H : Hp} {s : Shared} {a : Addr} {y v : V} {u r : Value} {o : Option V} {A : Around} {E : Value → Shared → Prop}
theorem Inv.big (I : Inv X pins σ H s) : sysModules < s.heap.objs.size := by
  have h : mainGlobals < s.heap.objs.size := (I.mod.glob.keeps I.bk).lt
  exact Nat.lt_trans (by decide) h
theorem d_getItem {Q : Value → Shared → Prop} (hu : A.units + 1 < cLine) (I : Inv X pins σ H s) (g : DGet H a y (some v)) (ry : RelV y u) (h : ∀ w' s', Inv X pins σ H s' → RelV v w' → Q w' s') :
    wpAny (model X.prog X.w) A (getItem (.ref a) u) Q E s := by
  rcases g with ⟨kvs, k, e, ey, l⟩ | ⟨kvs, k, b, e, ey, eb, l⟩
  · subst ey
    obtain ⟨z, hd, vs, rel, dd⟩ := dk_rd I.hok e
    obtain ⟨w', hw, rw'⟩ := RelO.some_of (v := v) (o := valueAt vs k) (by rw [l]; exact rel.val k)
    exact wpAny_getItem_of (kV_is ry) dd.mapOf hw (h w' _ (I.tok _) rw')
  · subst ey
    cases (show u = Value.ref b from ry)
    obtain ⟨z, hd, xs, rel, dd⟩ := dt_rd I.hok e
    obtain ⟨w', hw, rw'⟩ := RelO.some_of (v := v) (o := (atKey xs k).map (·.2)) (by rw [l]; exact rel.val k)
    obtain ⟨p, hp, hp2⟩ := Option.map_eq_some_iff.mp hw
    refine wpAny_getItem_heap (tupleKind_room_in1 hu) (key_of I.hok eb) dd hp ?_
    rw [hp2]
    exact h w' _ (I.tok _) rw'
theorem d_in {Q : Value → Shared → Prop} (hu : A.units + 1 < cLine) (I : Inv X pins σ H s) (g : DGet H a y o) (ry : RelV y u) (h : ∀ s', Inv X pins σ H s' → Q (.bool o.isSome) s') :
    wpAny (model X.prog X.w) A (compareOp .In u (.ref a)) Q E s := by
  rcases g with ⟨kvs, k, e, ey, l⟩ | ⟨kvs, k, b, e, ey, eb, l⟩
  · subst ey
    obtain ⟨z, hd, vs, rel, dd⟩ := dk_rd I.hok e
    refine wpAny_in_of (kV_is ry) hd dd.mapOf ?_
    rw [← (rel.val k).isSome_eq, ← l]
    exact h _ (I.tok _)
  · subst ey
    cases (show u = Value.ref b from ry)
    obtain ⟨z, hd, xs, rel, dd⟩ := dt_rd I.hok e
    refine wpAny_in_heap (tupleKind_room_in1 hu) (key_of I.hok eb) hd dd ?_
    have q := (rel.val k).isSome_eq
    rw [Option.isSome_map] at q
    rw [← q, ← l]
    exact h _ (I.tok _)
theorem d_notIn {Q : Value → Shared → Prop} (hu : A.units + 1 < cLine) (I : Inv X pins σ H s) (g : DGet H a y o) (ry : RelV y u) (h : ∀ s', Inv X pins σ H s' → Q (.bool (!o.isSome)) s') :
    wpAny (model X.prog X.w) A (compareOp .NotIn u (.ref a)) Q E s := by
  rcases g with ⟨kvs, k, e, ey, l⟩ | ⟨kvs, k, b, e, ey, eb, l⟩
  · subst ey
    obtain ⟨z, hd, vs, rel, dd⟩ := dk_rd I.hok e
    refine wpAny_notIn_of (kV_is ry) hd dd.mapOf ?_
    rw [← (rel.val k).isSome_eq, ← l]
    exact h _ (I.tok _)
  · subst ey
    cases (show u = Value.ref b from ry)
    obtain ⟨z, hd, xs, rel, dd⟩ := dt_rd I.hok e
    refine wpAny_notIn_heap (tupleKind_room_in1 hu) (key_of I.hok eb) hd dd ?_
    have q := (rel.val k).isSome_eq
    rw [Option.isSome_map] at q
    rw [← q, ← l]
    exact h _ (I.tok _)
theorem d_write {h' : Heap} {t' : Nat} {ob : HO} (I : Inv X pins σ H s) (mu : Mut (H a)) (hs : Heap.SameBut a s.heap h') (he : ∃ q, h'.get? a = some q) (new : ObjOk X.prog X.w (upd H a ob) h' a ob) :
    Inv X pins σ (upd H a ob) { s with heap := h', toks := t' } :=
  I.write (x := a) (e := a) mu (.inl rfl) (fun b q hb z => (hs.2 b hb).trans z) he new
theorem dk_new {P : Program} {w : World} {H' : Hp} {h' : Heap} {kvs : List (Key × V)} {vs : List (Key × Value)} (z : kvs.length ≤ sizeLine) (hd : (a == sysModules) = false) (rel : KV kvs vs) (dd : h'.DictOf (mixKind P w) a vs) :
    ObjOk P w H' h' a (.dK kvs) := ⟨z, hd, vs, rel, dd⟩
theorem d_setItem {H' : Hp} {Q : Unit → Shared → Prop} (hu : A.units + 1 < cLine) (I : Inv X pins σ H s) (g : DPut H a y v H') (ry : RelV y u) (rv : RelV v r) (h : ∀ s', Inv X pins σ H' s' → Q () s') :
    wpAny (model X.prog X.w) A (setItem (.ref a) u r) Q E s := by
  rcases g with ⟨kvs, k, e, ey, l, eH⟩ | ⟨kvs, k, b, e, ey, eb, l, eH⟩
  · subst ey eH
    obtain ⟨z, hd, vs, rel, dd⟩ := dk_of I.hok e
    have hz : vs.length ≤ sizeLine := by rw [← rel.length]; exact z
    have hl : (putK kvs k v).length ≤ sizeLine := by have := length_putK kvs k v; omega
    refine wpAny_setItem_pairs (hsz := hz) (kV_is ry) dd fun h' dd' hs => h _ ?_
    have he : ∃ q, h'.get? a = some q := let ⟨q, _, _, hq, _⟩ := dd'; ⟨q, hq⟩
    exact d_write I (by rw [e]; exact True.intro) hs he (dk_new hl hd (rel.put k rv) dd')
  · subst ey eH
    cases (show u = Value.ref b from ry)
    obtain ⟨z, hd, xs, rel, dd⟩ := dt_of I.hok e
    have hz : xs.length ≤ sizeLine := by rw [← Paired.length rel]; exact z
    have hl : (putK kvs k v).length ≤ sizeLine := by have := length_putK kvs k v; omega
    refine wpAny_setItem_heap (hsz := hz) (tupleKind_room_in1 hu) (key_of I.hok eb) dd fun h' dd' hs => h _ ?_
    obtain ⟨q, es, ep, hq, h2, h3, h4, _, h5⟩ := dd'
    refine d_write I (by rw [e]; exact True.intro) hs ⟨q, hq⟩ ⟨hl, hd, _, (rel.put k eb rv).keeps fun c ys ec => ?_, q, es, ep, hq, h2, h3, h4, h5⟩
    rw [upd_ne (ne_of ec e (fun z => nomatch z))]
    exact ec
end
section
variable {X : Cx} {pins : List (Addr × Obj)} {σ : St} {H : Hp} {s : Shared} {a : Addr} {kvs : List (Key × V)} {k : Key} {u : Value} {A : Around} {E : Value → Shared → Prop}
theorem d_len {Q : Value → Shared → Prop} (I : Inv X pins σ H s) (e : Rd H a (.dK kvs)) (h : ∀ t s', Inv X pins σ H s' → Q (.int kvs.length t) s') : wpAny (model X.prog X.w) A (call (.builtin "len") [.ref a]) Q E s := by
  obtain ⟨z, hd, vs, rel, dd⟩ := dk_rd I.hok e
  refine call_len_dict hd dd (by rw [← rel.length]; rw [sizeLine_eq] at z; omega) ?_
  rw [← rel.length]
  exact h _ _ (I.tok _)
end
def NoSl (i : Expr) : Prop := ∀ ov iv, subscripted i false ov iv = operate [ov, iv] (getItem ov iv)
theorem subD_of {prog : Program} {w : World} {A : Around} {E : Value → Shared → Prop} {s : Shared} {env : Env} {value slice : Expr} {pos : Pos} {T id : String} {Q : Value → Shared → Prop}
    (hl : typeLookup (.type T) "__getitem__" = pure (some (.builtin id))) (hs : NoSl slice)
    (h : wpAny (model prog w) A (eval value env) (fun o s₁ => wpAny (model prog w) A (eval slice env) (fun i s₂ => s₂.TypeIs o T ∧ wpAny (model prog w) A (getItem o i) Q E s₂) E s₁) E s) :
    wpAny (model prog w) A (eval (.Subscript value slice pos) env) Q E s := by
  refine Subscript_ (wpAny_mono h (fun o s₁ h₁ => wpAny_mono h₁ (fun i s₂ h₂ => ?_) fun _ _ x => x) fun _ _ x => x)
  obtain ⟨hT, h₂⟩ := h₂
  unfold subscriptTail
  refine wpAny_bind ?_
  rw [getitemInPython_of_ne hT.not_modules]
  refine wpAny_bind (wpAny_specialOf hT hl ?_)
  have fin : wpAny (model prog w) A (subscripted slice false o i) (fun r s₃ => wpAny (model prog w) A (letTemporaryGo value o r >>= fun _ => pure r) Q E s₃) E s₂ := by
    rw [hs o i]
    exact wpAny_operating (wpAny_mono h₂ (fun r s₃ h₃ => wpAny_bind (wpAny_letTemporaryGo (wpAny_pure h₃))) fun _ _ x => x)
  first
    | exact wpAny_pure (wpAny_bind fin)
    | exact wpAny_bind (wpAny_pure (wpAny_bind fin))
    | exact wpAny_bind fin
theorem dict_typeIs {X : Cx} {pins : List (Addr × Obj)} {σ : St} {H : Hp} {s : Shared} {a : Addr} {y : V} {o : Option V} (I : Inv X pins σ H s) (g : DGet H a y o) : s.TypeIs (.ref a) "dict" := by
  rcases g with ⟨kvs, k, e, _, _⟩ | ⟨kvs, k, b, e, _, _, _⟩
  · obtain ⟨_, _, vs, _, dd⟩ := dk_rd I.hok e
    exact dd.typeIs
  · obtain ⟨_, _, xs, _, dd⟩ := dt_rd I.hok e
    exact dd.typeIs
def tDGet (td ty : TE) : TE := fun σ H Q => td σ H fun x H1 => ty σ H1 fun y H2 => ∃ a v, x = .ref a ∧ DGet H2 a y (some v) ∧ Q v H2
def tDIn (ty td : TE) : TE := fun σ H Q => ty σ H fun y H1 => td σ H1 fun x H2 => ∃ a o, x = .ref a ∧ DGet H2 a y o ∧ Q (.bl o.isSome) H2
def tDNotIn (ty td : TE) : TE := fun σ H Q => ty σ H fun y H1 => td σ H1 fun x H2 => ∃ a o, x = .ref a ∧ DGet H2 a y o ∧ Q (.bl (!o.isSome)) H2
def sDPut (td ty tv : TE) : TS := fun D σ H => tv σ H fun v H1 => td σ H1 fun x H2 => ty σ H2 fun y H3 => ∃ a H4, x = .ref a ∧ DPut H3 a y v H4 ∧ D.nx σ H4
def sDAug (td ty tv : TE) (rd : V → V → Hp → VK → Prop) : TS := fun D σ H => td σ H fun x H1 => ty σ H1 fun y H2 => ∃ a v, x = .ref a ∧ DGet H2 a y (some v) ∧
  tv σ H2 fun y2 H3 => rd v y2 H3 fun z H4 => ∃ H5, DPut H4 a y z H5 ∧ D.nx σ H5
def sDDel (td ty : TE) : TS := fun D σ H => td σ H fun x H1 => ty σ H1 fun y H2 => ∃ a kvs k, x = .ref a ∧ H2 a = some (.dK kvs) ∧ y = kV k ∧ (valV kvs k).isSome = true ∧ D.nx σ (upd H2 a (.dK (dropK kvs k)))
section
variable {X : Cx} {o i e value : Expr} {pos pos' tpos : Pos} {td ty tv : TE}
theorem pe_dget (hu : X.A.units + 1 < cLine) (ho : PE X o td) (hi : PE X i ty) (hs : NoSl i) : PE X (.Subscript o i pos) (tDGet td ty) := by
  intro pins s σ H Q I h
  refine subD_of PySem.F.slot_dict_getitem.lookup hs (thn (ho pins s σ H _ I h) fun u s1 ⟨x, H1, I1, rx, q1⟩ => thn (hi pins s1 σ H1 _ I1 q1) fun iv s2 ⟨y, H2, I2, ry, a, v, ex, g, q2⟩ => ?_)
  subst ex
  obtain rfl : u = Value.ref a := rx
  exact ⟨dict_typeIs I2 g, d_getItem hu I2 g ry fun w' s3 I3 rw' => ⟨v, H2, I3, rw', q2⟩⟩
theorem pc_din (hu : X.A.units + 1 < cLine) (hi : PE X i ty) (ho : PE X o td) : PC X .In i o (tDIn ty td) := by
  intro pins s σ H Q I h
  refine thn (hi pins s σ H _ I h) fun iv s1 ⟨y, H1, I1, ry, q1⟩ => thn (ho pins s1 σ H1 _ I1 q1) fun u s2 ⟨x, H2, I2, rx, a, ov, ex, g, q2⟩ => ?_
  subst ex
  obtain rfl : u = Value.ref a := rx
  exact d_in hu I2 g ry fun s3 I3 => ⟨.bl ov.isSome, H2, I3, rfl, q2⟩
theorem pc_dnotin (hu : X.A.units + 1 < cLine) (hi : PE X i ty) (ho : PE X o td) : PC X .NotIn i o (tDNotIn ty td) := by
  intro pins s σ H Q I h
  refine thn (hi pins s σ H _ I h) fun iv s1 ⟨y, H1, I1, ry, q1⟩ => thn (ho pins s1 σ H1 _ I1 q1) fun u s2 ⟨x, H2, I2, rx, a, ov, ex, g, q2⟩ => ?_
  subst ex
  obtain rfl : u = Value.ref a := rx
  exact d_notIn hu I2 g ry fun s3 I3 => ⟨.bl (!ov.isSome), H2, I3, rfl, q2⟩
theorem ps_dput (hu : X.A.units + 1 < cLine) (ho : PE X o td) (hi : PE X i ty) (hv : PE X value tv) (hs : swapsWith value (some (.Subscript o i pos')) pos.line X.env = pure false) :
    PS X (.Assign [.Subscript o i pos'] value pos) (sDPut td ty tv) := by
  intro pins s σ H D I h
  refine wpAny_Assign_Subscript (thn (hv pins s σ H _ I h) fun r s1 ⟨v, H1, I1, rv, q1⟩ => thn (ho pins s1 σ H1 _ I1 q1) fun u s2 ⟨x, H2, I2, rx, q2⟩ => thn (hi pins s2 σ H2 _ I2 q2) fun iv s3 ⟨y, H3, I3, ry, a, H4, ex, g, q3⟩ => ?_) hs
  subst ex
  obtain rfl : u = Value.ref a := rx
  exact d_setItem hu I3 g ry rv fun s4 I4 => ⟨σ, H4, I4, q3⟩
end
theorem dk_empty {P : Program} {w : World} {H : Hp} (h : Heap) (hb : sysModules < h.objs.size) : ObjOk P w H (h.push { cls := .type "dict", data := .dict #[] }) h.objs.size (.dK []) :=
  ⟨Nat.zero_le _, beq_eq_false_iff_ne.mpr (Ne.symm (Nat.ne_of_lt hb)), [], .nil, Heap.DictOf.new h⟩
theorem dt_empty {P : Program} {w : World} {H : Hp} (h : Heap) (hb : sysModules < h.objs.size) : ObjOk P w H (h.push { cls := .type "dict", data := .dict #[] }) h.objs.size (.dT []) :=
  ⟨Nat.zero_le _, beq_eq_false_iff_ne.mpr (Ne.symm (Nat.ne_of_lt hb)), [], .nil, _, #[], 0, Heap.get?_push_size _ rfl, ⟨rfl, rfl, rfl⟩, rfl, rfl, List.nodup_nil⟩
def tDNewK : TE := fun _ H Q => ∀ p, H p = none → Q (.ref p) (upd H p (.dK []))
def tDNewT : TE := fun _ H Q => ∀ p, H p = none → Q (.ref p) (upd H p (.dT []))
section
variable {X : Cx} {pos : Pos}
theorem pe_dnewK : PE X (.Dict [] [] pos) tDNewK := fun pins s σ H Q I h =>
  wpAny_Dict_empty ⟨.ref s.heap.objs.size, _, I.laid (a := s.heap.objs.size) (o := .dK []) (t' := s.toks) (fun _ _ q => Heap.get?_push_of_some _ q) (Nat.le_refl _) (dk_empty s.heap I.big), rfl, h _ (I.hok.fresh (Nat.le_refl _))⟩
theorem pe_dnewT : PE X (.Dict [] [] pos) tDNewT := fun pins s σ H Q I h =>
  wpAny_Dict_empty ⟨.ref s.heap.objs.size, _, I.laid (a := s.heap.objs.size) (o := .dT []) (t' := s.toks) (fun _ _ q => Heap.get?_push_of_some _ q) (Nat.le_refl _) (dt_empty s.heap I.big), rfl, h _ (I.hok.fresh (Nat.le_refl _))⟩
end
def tPairs : List (TE × TE) → St → Hp → (List (V × V) → Hp → Prop) → Prop
  | [], _, H, Q => Q [] H
  | (tk, tv) :: r, σ, H, Q => tk σ H fun x H1 => tv σ H1 fun y H2 => tPairs r σ H2 fun ps H3 => Q ((x, y) :: ps) H3
abbrev VV : List (V × V) → List (Value × Value) → Prop := Paired fun p q => RelV p.1 q.1 ∧ RelV p.2 q.2
def PPs (X : Cx) (pos : Pos) (keys : List (Option Expr)) (values : List Expr) (trs : List (TE × TE)) : Prop :=
  ∀ (pins : List (Addr × Obj)) (s : Shared) (σ : St) (H : Hp) (Q : List (V × V) → Hp → Prop), Inv X pins σ H s → tPairs trs σ H Q →
    wpAny (model X.prog X.w) X.A (evalPairs (pairTrees keys values X.env pos)) (fun vs s' => ∃ ps H', Inv X pins σ H' s' ∧ VV ps vs ∧ Q ps H') X.xe s
theorem pps_nil {X : Cx} {pos : Pos} : PPs X pos [] [] [] := fun pins s σ H Q I h => pairTrees_nil_walk ⟨[], H, I, .nil, h⟩
theorem pps_cons {X : Cx} {pos : Pos} {k v : Expr} {ks : List (Option Expr)} {vs : List Expr} {tk tv : TE} {trs : List (TE × TE)} (hk : PE X k tk) (hv : PE X v tv) (hr : PPs X pos ks vs trs) :
    PPs X pos (some k :: ks) (v :: vs) ((tk, tv) :: trs) := fun pins s σ H Q I h =>
  pairTrees_cons_walk (thn (hk pins s σ H _ I h) fun u s1 ⟨x, H1, I1, rx, q1⟩ => thn (hv pins s1 σ H1 _ I1 q1) fun w2 s2 ⟨y, H2, I2, ry, q2⟩ =>
    thn (hr pins s2 σ H2 _ I2 q2) fun ws s3 ⟨ps, H3, I3, rel, q3⟩ => ⟨(x, y) :: ps, H3, I3, .cons ⟨rx, ry⟩ rel, q3⟩)
def mergeK (kvs more : List (Key × V)) : List (Key × V) := more.foldl (fun acc kv => putK acc kv.1 kv.2) kvs
theorem KV.merge : ∀ {more : List (Key × V)} {rs : List (Key × Value)} {kvs : List (Key × V)} {vs : List (Key × Value)}, KV more rs → KV kvs vs → KV (mergeK kvs more) (merged vs rs) := by
  intro more rs kvs vs r
  unfold KV at r
  induction r generalizing kvs vs with
  | nil => intro q; exact q
  | @cons p q ps qs h t ih =>
    intro r0
    have e : KV (putK kvs p.1 p.2) (stored vs q.1 q.2) := by
      have := r0.put p.1 h.2
      rw [← h.1]; exact this
    exact ih e
theorem length_mergeK : ∀ (more kvs : List (Key × V)), (mergeK kvs more).length ≤ kvs.length + more.length
  | [], kvs => by show kvs.length ≤ kvs.length + 0; omega
  | p :: r, kvs => by
    have h1 := length_mergeK r (putK kvs p.1 p.2)
    have h2 := length_putK kvs p.1 p.2
    show (mergeK (putK kvs p.1 p.2) r).length ≤ _
    rw [List.length_cons]; omega
theorem carries_of {P : Program} {w : World} : ∀ {kvs : List (Key × V)} {ws : List (Value × Value)}, VV (kvs.map fun kv => (kV kv.1, kv.2)) ws → ∃ rs, Carries (mixKind P w) ws rs ∧ KV kvs rs
  | [], _, r => by rw [List.map_nil] at r; cases r; exact ⟨[], True.intro, .nil⟩
  | p :: kvs, _, r => by
    rw [List.map_cons] at r
    cases r with
    | @cons a b as bs h t =>
      obtain ⟨rs, c, q⟩ := carries_of (P := P) (w := w) t
      obtain ⟨b1, b2⟩ := b
      exact ⟨(p.1, b2) :: rs, ⟨kV_is h.1, rfl, c⟩, .cons ⟨rfl, h.2⟩ q⟩
def tDisp (trs : List (TE × TE)) : TE := fun σ H Q => ∀ p, H p = none → tPairs trs σ (upd H p (.dK [])) fun ps H2 => H2 p = some (.dK []) ∧ ∃ kvs : List (Key × V), ps = kvs.map (fun kv => (kV kv.1, kv.2)) ∧ kvs.length ≤ 15 ∧ Q (.ref p) (upd H2 p (.dK (mergeK [] kvs)))
theorem pe_disp {X : Cx} {pos : Pos} {keys : List (Option Expr)} {values : List Expr} {trs : List (TE × TE)} (h : PPs X pos keys values trs) (hall : keys.all (·.isSome) = true) (hl : keys.length = values.length) (h0 : keys ≠ [])
    (h15 : keys.length ≤ 15) : PE X (.Dict keys values pos) (tDisp trs) := by
  intro pins s σ H Q I q
  have hn := I.hok.fresh (Nat.le_refl s.heap.objs.size)
  have I1 := I.laid (a := s.heap.objs.size) (o := .dK []) (h' := s.heap.push { cls := .type "dict", data := .dict #[] }) (t' := s.toks) (fun _ _ q => Heap.get?_push_of_some _ q) (Nat.le_refl _) (dk_empty s.heap I.big)
  refine wpAny_Dict_walk (knd := mixKind X.prog X.w) hall hl h0 h15 (thn (h pins _ σ _ _ I1 (q _ hn)) fun ws s2 ⟨ps, H2, I2, rel, e, kvs, ep, lk, q2⟩ => ?_)
  subst ep
  obtain ⟨rs, c, rk⟩ := carries_of (P := X.prog) (w := X.w) rel
  obtain ⟨z, hd, vs0, r0, dd⟩ := dk_of I2.hok e
  cases r0
  refine ⟨rs, c, dd, fun h' dd' hs => ⟨.ref s.heap.objs.size, _, ?_, rfl, q2⟩⟩
  have hz : (mergeK [] kvs).length ≤ sizeLine := by
    have h1 := length_mergeK kvs []
    rw [List.length_nil] at h1
    rw [sizeLine_eq]; omega
  have he : ∃ q, h'.get? s.heap.objs.size = some q := let ⟨q, _, _, hq, _⟩ := dd'; ⟨q, hq⟩
  exact d_write I2 (by rw [e]; exact True.intro) hs he (dk_new hz hd (rk.merge .nil) dd')
structure M1 (X : Cx) (o : Expr) (m : Str) (apos : Pos) (e : Expr) (cpos : Pos) : Prop where
  base : attributeBase o m X.env (eval o X.env) = eval o X.env
  few : ((backTo cpos (starEach [e] X.env)).all (fun x => !x.1) && (backToKw cpos (keywordEach [] X.env)).all (fun x => x.1.isSome)
    && decide (([e] : List Expr).length + ([] : List Keyword).length + (if ([] : List Keyword).isEmpty then 0 else 1) < 30)) = true
  line : (apos.endLine == cpos.line) = true
  trees : backTo cpos (starEach [e] X.env) = [(false, eval e X.env)]
structure M2 (X : Cx) (o : Expr) (m : Str) (apos : Pos) (e f : Expr) (cpos : Pos) : Prop where
  base : attributeBase o m X.env (eval o X.env) = eval o X.env
  few : ((backTo cpos (starEach [e, f] X.env)).all (fun x => !x.1) && (backToKw cpos (keywordEach [] X.env)).all (fun x => x.1.isSome)
    && decide (([e, f] : List Expr).length + ([] : List Keyword).length + (if ([] : List Keyword).isEmpty then 0 else 1) < 30)) = true
  line : (apos.endLine == cpos.line) = true
  trees : backTo cpos (starEach [e, f] X.env) = [(false, eval e X.env), (false, eval f X.env)]
def IsD (H : Hp) (a : Addr) : Prop := (∃ kvs, Rd H a (.dK kvs)) ∨ ∃ kvs, Rd H a (.dT kvs)
theorem isD_at {X : Cx} {pins : List (Addr × Obj)} {σ : St} {H : Hp} {s : Shared} {a : Addr} (I : Inv X pins σ H s) (d : IsD H a) :
    s.TypeIs (.ref a) "dict" ∧ (∀ b, Value.ref a = .ref b → ∃ ob, s.heap.get? b = some ob ∧ ob.dict = none) ∧ (a == sysModules) = false := by
  rcases d with ⟨kvs, e⟩ | ⟨kvs, e⟩
  · obtain ⟨_, hd, vs, _, dd⟩ := dk_rd I.hok e
    refine ⟨dd.typeIs, fun b q => ?_, hd⟩
    cases q
    obtain ⟨ob, _, _, h1, h2, _⟩ := dd
    exact ⟨ob, h1, h2.2.1⟩
  · obtain ⟨_, hd, xs, _, dd⟩ := dt_rd I.hok e
    refine ⟨dd.typeIs, fun b q => ?_, hd⟩
    cases q
    obtain ⟨ob, _, _, h1, h2, _⟩ := dd
    exact ⟨ob, h1, h2.2.1⟩
section
variable {X : Cx} {pins : List (Addr × Obj)} {σ : St} {H : Hp} {s : Shared} {a : Addr} {y d : V} {u r : Value} {o : Option V} {A : Around} {E : Value → Shared → Prop}
theorem d_get1 {Q : Value → Shared → Prop} (hu : A.units + 1 < cLine) (I : Inv X pins σ H s) (g : DGet H a y o) (ry : RelV y u) (h : ∀ w' s', Inv X pins σ H s' → RelV (o.getD .non) w' → Q w' s') :
    wpAny (model X.prog X.w) A (call (.builtin "dict.get") [.ref a, u]) Q E s := by
  rcases g with ⟨kvs, k, e, ey, l⟩ | ⟨kvs, k, b, e, ey, eb, l⟩
  · subst ey
    obtain ⟨z, hd, vs, rel, dd⟩ := dk_rd I.hok e
    refine call_meetsIn PySem.F.slot_dict_get dd.typeIs PySem.F.entry_dict_get (PySem.F.args_dict_get_2 _ _) (meets_dict_get (mixKind X.prog X.w) a (kV_is ry) hd) ⟨_, dd.mapOf, h _ _ (I.tok _) ?_⟩
    rw [l]
    exact (rel.val k).getD rfl
  · subst ey
    cases (show u = Value.ref b from ry)
    obtain ⟨z, hd, xs, rel, dd⟩ := dt_rd I.hok e
    refine call_meetsIn PySem.F.slot_dict_get dd.typeIs PySem.F.entry_dict_get (PySem.F.args_dict_get_2 _ _) (meetsH_dict_get (tupleKind (mixKind X.prog X.w)) a b hd) ⟨tupleKind_room_in1 hu, k, xs, key_of I.hok eb, dd, h _ _ (I.tok _) ?_⟩
    rw [l]
    exact (rel.val k).getD rfl
end
def tDGet1 (td ty : TE) : TE := fun σ H Q => td σ H fun x H1 => ∃ a, x = .ref a ∧ IsD H1 a ∧ ty σ H1 fun y H2 => ∃ o, DGet H2 a y o ∧ Q (o.getD .non) H2
def tDGet2 (td ty tx : TE) : TE := fun σ H Q => td σ H fun x H1 => ∃ a, x = .ref a ∧ IsD H1 a ∧ ty σ H1 fun y H2 => tx σ H2 fun z H3 => ∃ o, DGet H3 a y o ∧ Q (o.getD z) H3
def tDPop1 (td ty : TE) : TE := fun σ H Q => td σ H fun x H1 => ∃ a, x = .ref a ∧ IsD H1 a ∧ ty σ H1 fun y H2 => ∃ kvs k v, H2 a = some (.dK kvs) ∧ y = kV k ∧ valV kvs k = some v ∧ Q v (upd H2 a (.dK (dropK kvs k)))
def tDPop2 (td ty tx : TE) : TE := fun σ H Q => td σ H fun x H1 => ∃ a, x = .ref a ∧ IsD H1 a ∧ ty σ H1 fun y H2 => tx σ H2 fun z H3 => ∃ kvs k, H3 a = some (.dK kvs) ∧ y = kV k ∧
  (∀ v, valV kvs k = some v → Q v (upd H3 a (.dK (dropK kvs k)))) ∧ (valV kvs k = none → Q z H3)
section
variable {X : Cx} {o e f : Expr} {apos cpos : Pos} {td ty tx : TE}
theorem pe_dget1 (hu : X.A.units + 1 < cLine) (ho : PE X o td) (he : PE X e ty) (m : M1 X o "get" apos e cpos) : PE X (.Call (.Attribute o "get" apos) [e] [] cpos) (tDGet1 td ty) := by
  intro pins s σ H Q I h
  refine wpAny_Call_method m.base m.few m.line PySem.F.plainAttrs_dict PySem.F.slot_dict_get PySem.F.type_dict_get (thn (ho pins s σ H _ I h) fun u s1 ⟨x, H1, I1, rx, a, ex, d, q1⟩ => ?_)
  subst ex
  obtain rfl : u = Value.ref a := rx
  obtain ⟨t1, t2, _⟩ := isD_at I1 d
  refine ⟨t1, t2, ?_⟩
  rw [m.trees]
  refine Calls.callWith_builtin rfl (Calls.evalArgs_plain (Calls.spliced_cons (thn (he pins s1 σ H1 _ I1 q1) fun iv s2 ⟨y, H2, I2, ry, ov, g, q2⟩ => Calls.spliced_nil ?_)))
  exact d_get1 hu I2 g ry fun w' s3 I3 rw' => ⟨_, H2, I3, rw', q2⟩
end
section
variable {X : Cx} {pins : List (Addr × Obj)} {σ : St} {H : Hp} {s : Shared} {a : Addr} {kvs : List (Key × V)} {A : Around} {E : Value → Shared → Prop}
end
section
variable {X : Cx} {pins : List (Addr × Obj)} {σ : St} {H : Hp} {s : Shared} {a : Addr} {y : V} {u : Value} {A : Around} {E : Value → Shared → Prop}
end
end L2
namespace L2
open PySem PySem.Spec PyProof.Rows
section
variable {X : Cx}
theorem call_lenD : CallR X (.builtin "len") (fun xs H Q => ∃ a kvs, xs = [V.ref a] ∧ H a = some (.dK kvs) ∧ Q (.int kvs.length) H) := by
  intro pins s σ H xs us Q I r h
  obtain ⟨a, kvs, rfl, ha, q⟩ := h
  obtain ⟨u, rfl, ru⟩ := vals1 r
  cases ru
  exact d_len I (.inl ha) fun t s' I' => ⟨.int kvs.length, H, I', ⟨t, rfl⟩, q⟩
end
section
variable {κ : Type} [DecidableEq κ]
end
end L2
end
section
set_option Elab.async false
set_option linter.all false
set_option maxRecDepth 100000
set_option maxHeartbeats 4000000
namespace Lw
open PySem PySem.Spec PyProof.Rows L2
theorem obj_some {P : Program} {w : World} {H : Hp} {h : Heap} {a : Addr} {o : HO} (x : ObjOk P w H h a o) : ∃ u, h.get? a = some u := by
  cases o with
  | lst xs => obtain ⟨_, _, _, _, e⟩ := x; exact ⟨_, e⟩
  | tup xs => obtain ⟨_, _, _, o, e, _⟩ := x; exact ⟨_, e⟩
  | dK kvs => obtain ⟨_, _, _, _, o, _, _, e, _⟩ := x; exact ⟨_, e⟩
  | dT kvs => obtain ⟨_, _, _, _, o, _, _, e, _⟩ := x; exact ⟨_, e⟩
  | set S n => obtain ⟨o, _, _, _, e, _⟩ := x; exact ⟨_, e⟩
  | ins C dx fs => obtain ⟨_, _, _, e, _⟩ := x; exact ⟨_, e⟩
  | own y => exact x
  | xd fs => obtain ⟨_, ⟨_, _, _, e, _⟩, _⟩ := x; exact ⟨_, e⟩
  | rng lo hi => obtain ⟨_, _, _, e⟩ := x; exact ⟨_, e⟩
  | frz ob u => exact ⟨_, x.1⟩
  | tbl ps => exact ⟨_, x⟩
  | met f y => exact ⟨_, x⟩
  | ext φ => exact x.2.1
structure Fly (P : Program) (w : World) (outer : List Env) (H : Hp) (s : Shared) (H' : Hp) (a : Addr) (cls : Value) (B : Heap) (a0 : Value) (s' : Shared) : Prop where
  os : s'.os = s.os
  bare : AllBare s'.gens
  un : Un (frs outer) [] H H' s.heap s'.heap
  hok : HOk P w H' s'.heap
  fresh : s.heap.get? a = none
  free : H' a = none
  fly : Heap.FlyingW B outer a cls a0 s'.heap
  trk : ∀ b o, H' b ≠ none → s'.heap.get? b = some o → B.get? b = some o
  old : ∀ b o, s.heap.get? b = some o → H b = none → b ∉ frs outer → B.get? b = some o
  any : ∀ b o, s.heap.get? b = some o → b ∉ frs outer → ∃ o', B.get? b = some o'
section
variable {P : Program} {w : World} {outer : List Env} {H H' : Hp} {s s' : Shared} {a : Addr} {cls a0 : Value} {B h5 : Heap}
theorem Fly.slots (F : Fly P w outer H s H' a cls B a0 s') (U : s'.heap.UpToSlots h5) {b : Addr} {o : Obj} (hb : b ∈ frs outer) (e : s'.heap.get? b = some o) : ∃ sl, h5.get? b = some { o with slots := sl } := by
  obtain ⟨_, o', e', nf⟩ := F.fly.2.2.1.mem hb
  rw [e] at e'
  cases e'
  exact U b o e nf
theorem Fly.un5 (F : Fly P w outer H s H' a cls B a0 s') (St : B.StaysIn h5) (U : s'.heap.UpToSlots h5) : Un (frs outer) [] H H' s.heap h5 where
  keep := fun b o e n hb _ => St b o (F.old b o e n hb)
  slot := fun b o e n hb hx => by
    obtain ⟨sl, e1⟩ := F.un.slot b o e n hb hx
    obtain ⟨sl2, e2⟩ := F.slots U hb e1
    exact ⟨sl2, e2⟩
  free := F.un.free
  there := fun b o e hx => by
    by_cases hb : b ∈ frs outer
    · obtain ⟨o', e1⟩ := F.un.there b o e hx
      obtain ⟨sl, e2⟩ := F.slots U hb e1
      exact ⟨_, e2⟩
    · obtain ⟨o', e1⟩ := F.any b o e hb
      exact ⟨o', St b o' e1⟩
  tups := F.un.tups
  frzs := F.un.frzs
  tbls := F.un.tbls
theorem Fly.hok5 (F : Fly P w outer H s H' a cls B a0 s') (St : B.StaysIn h5) : HOk P w H' h5 := fun b u e => by
  refine (F.hok b u e).stay (fun c v hc q => St c v (F.trk c v ?_ q)) (fun _ q => q) fun _ _ q => q
  rcases hc with z | z
  · rw [z, e]; simp
  · rw [z]; simp
theorem Fly.trk5 (F : Fly P w outer H s H' a cls B a0 s') (St : B.StaysIn h5) : ∀ b o, H' b ≠ none → h5.get? b = some o → B.get? b = some o := fun b o n e => by
  cases q : H' b with
  | none => exact absurd q n
  | some u =>
    obtain ⟨o1, e1⟩ := obj_some (F.hok b u q)
    have e2 := F.trk b o1 n e1
    have e3 := St b o1 e2
    rw [e] at e3
    cases e3
    exact e2
end
structure DefCx (X : Cx) : Prop where
  stk : X.stack = X.env :: X.outer
  fr : X.env.frame = some X.env.locals
  ex : X.ex = []
section
variable {X : Cx} {pins : List (Addr × Obj)} {σ : L2.St} {H H' : Hp} {s s' : Shared} {M : Model} {E : Value → Shared → Prop} {Q : Unit → Shared → Prop}
theorem not_stk (I : Inv X pins σ H s) {b : Addr} {o : Obj} (e : X.s₀.heap.get? b = some o) (hb : b ∉ X.fs) : b ∉ frs X.stack := fun z => by
  rcases List.mem_cons.mp (I.stkSub b z) with q | q
  · subst q
    exact Nat.lt_irrefl _ (Nat.lt_of_lt_of_le (Heap.lt_size e) I.ok.above)
  · exact hb q
theorem fresh_of (D : DefCx X) (I : Inv X pins σ H s) {a : Addr} (n : s.heap.get? a = none) : X.s₀.heap.get? a = none := by
  cases q : X.s₀.heap.get? a with
  | none => rfl
  | some o =>
    obtain ⟨o', e⟩ := I.base.there a o q (by rw [D.ex]; simp)
    rw [n] at e
    cases e
theorem fly_on {a : Addr} {cls a0 : Value} {B : Heap} (D : DefCx X) (I : Inv X pins σ H s) (F : Fly X.prog X.w X.stack H s H' a cls B a0 s')
    (k : ∀ s'', Fly X.prog X.w X.outer X.H₀ X.s₀ H' a cls B a0 s'' → Q () s'') : wpAny M X.A (leaving X.env (.ref a)) Q E s' := by
  have hfr : X.A.frames = some (X.env :: X.outer) := by rw [I.ok.frames, D.stk]
  have hfl := F.fly
  rw [D.stk] at hfl
  have hex : ∀ b : Addr, b ∉ X.ex := fun b => by rw [D.ex]; simp
  refine wpAny_leaves_onW hfr D.fr hfl fun h5 f5 u5 => k _ ?_
  have I5 : Inv X pins σ H' { s' with heap := h5 } := I.call' (s' := { s' with heap := h5 }) (ch := []) F.os (F.un5 f5.1 u5) (F.hok5 f5.1) F.bare fun b hb => absurd hb (by simp)
  refine ⟨I5.os, I5.bare, ?_, I5.hok, fresh_of D I F.fresh, F.free, f5, F.trk5 f5.1, fun b o e n hb => ?_, fun b o e hb => ?_⟩
  · have u := I5.base
    rw [D.ex] at u
    exact u
  · exact F.old b o (I.base.keep b o e n hb (hex b)) (I.base.free b o e n (hex b)) (not_stk I e hb)
  · obtain ⟨o1, e1⟩ := I.base.there b o e (hex b)
    exact F.any b o1 e1 (not_stk I e hb)
theorem fly_made {h' : Heap} {e : Addr} {cls : Value} {vs : List Value} (D : DefCx X) (I : Inv X pins σ H s) (hx : Heap.MadeExcOf s.heap h' e cls vs)
    (k : ∀ s'' B a0, Fly X.prog X.w X.outer X.H₀ X.s₀ H e cls B a0 s'' → Q () s'') : wpAny M X.A (leaving X.env (.ref e)) Q E { s with heap := h' } := by
  have hfr : X.A.frames = some (X.env :: X.outer) := by rw [I.ok.frames, D.stk]
  have hex : ∀ b : Addr, b ∉ X.ex := fun b => by rw [D.ex]; simp
  have hB : ∀ b o, s.heap.get? b = some o → b ∉ frs X.stack → (PySem.W.hideAll s.heap (frs X.stack)).get? b = some o := fun b o q nm => PySem.W.hideAll_get _ q nm
  have hl : s.heap.FunFrames (PySem.W.hideAll s.heap (frs X.stack)) (X.env :: X.outer) := by
    have z := PySem.W.funFrames_hide (as := frs X.stack) I.stack fun env he b hb => List.mem_filterMap.mpr ⟨env, he, hb⟩
    rw [D.stk] at z ⊢
    exact z
  have tn : ∀ b, H b ≠ none → b ∉ frs X.stack := fun b n z => n (I.stkFree b z)
  refine wpAny_leaves_madeW (s := { s with heap := h' }) hfr D.fr (fun b o q => PySem.W.of_hideAll _ q) hl hx fun h5 t f5 _ _ u5 => k _ (PySem.W.hideAll s.heap (frs X.stack)) (.ref t) ?_
  have St := f5.1
  have un5 : Un (frs X.stack) [] H H s.heap h5 := by
    have sl : ∀ b o, s.heap.get? b = some o → b ∈ frs X.stack → ∃ sl, h5.get? b = some { o with slots := sl } := fun b o e hb => by
      obtain ⟨_, o', e', nf⟩ := I.stack.mem hb
      rw [e] at e'
      cases e'
      exact u5 b o (hx.keeps b o e) nf
    refine ⟨fun b o e n hb _ => St b o (hB b o e hb), fun b o e n hb _ => sl b o e hb, fun _ _ _ n _ => n, fun b o e _ => ?_, fun _ _ q => q, fun _ _ _ q => q, fun b ps q => ⟨#[], by rw [q]; simp⟩⟩
    by_cases hb : b ∈ frs X.stack
    · obtain ⟨z, e1⟩ := sl b o e hb
      exact ⟨_, e1⟩
    · exact ⟨o, St b o (hB b o e hb)⟩
  have hok5 : HOk X.prog X.w H h5 := fun b u e => by
    refine (I.hok b u e).stay (fun c v hc q => St c v (hB c v q (tn c ?_))) (fun _ q => q) fun _ _ q => q
    rcases hc with z | z
    · rw [z, e]; simp
    · rw [z]; simp
  have I5 : Inv X pins σ H { s with heap := h5 } := I.call' (s' := { s with heap := h5 }) (ch := []) rfl un5 hok5 I.bare fun b hb => absurd hb (by simp)
  refine ⟨I5.os, I5.bare, ?_, hok5, fresh_of D I hx.new, ?_, f5, fun b o n q => ?_, fun b o e n hb => ?_, fun b o e hb => ?_⟩
  · have u := I5.base
    rw [D.ex] at u
    exact u
  · cases q : H e with
    | none => rfl
    | some u =>
      obtain ⟨o, z⟩ := obj_some (I.hok e u q)
      rw [hx.new] at z
      cases z
  · cases z : H b with
    | none => exact absurd z n
    | some u =>
      obtain ⟨o1, e1⟩ := obj_some (I.hok b u z)
      have e2 := hB b o1 e1 (tn b n)
      have e3 := St b o1 e2
      have q' : h5.get? b = some o := q
      rw [q'] at e3
      cases e3
      exact e2
  · exact hB b o (I.base.keep b o e n hb (hex b)) (not_stk I e hb)
  · obtain ⟨o1, e1⟩ := I.base.there b o e (hex b)
    exact ⟨o1, hB b o1 e1 (not_stk I e hb)⟩
end
def CXE (P : Program) (w : World) : CXT := fun outer H s E e s' => ∃ a cls H' B a0, e = .ref a ∧ Fly P w outer H s H' a cls B a0 s' ∧ E cls none H'
theorem cxe0 {P : Program} {w : World} {outer : List Env} {H : Hp} {s s' : Shared} {e : Value} (h : CXE P w outer H s (fun _ _ _ => False) e s') : False := by
  obtain ⟨_, _, _, _, _, _, _, z⟩ := h
  exact z
theorem passX0 {X : Cx} : Passes (CXE X.prog X.w) X E0 := fun _ _ _ _ _ _ _ h => (cxe0 h).elim
section
variable {P : Program} {w : World} {K : PySem.W.Frag} {mg : Str → Option Value} {base : Heap} {N : List Str} {qual : Str} {scope : Scope} {f : Addr} {cd : Value} {A : Around} {outer : List Env} {s₀ : Shared} {H₀ : Hp} {E : XK}
theorem passX : Passes (CXE P w) (cxOf (CXE P w) P w K mg base N qual scope f cd A outer s₀ H₀ E) E := by
  intro pins σ H1 s1 e s' I h
  obtain ⟨a, cls, H', B, a0, rfl, F, q⟩ := h
  exact fly_on (X := cxOf (CXE P w) P w K mg base N qual scope f cd A outer s₀ H₀ E) ⟨rfl, rfl, rfl⟩ I F fun s'' F' => ⟨a, cls, H', B, a0, rfl, F', q⟩
theorem raiseX {pins : List (Addr × Obj)} {σ : L2.St} {H : Hp} {s : Shared} {h' : Heap} {e : Addr} {cls : Value} {vs : List Value} (I : Inv (cxOf (CXE P w) P w K mg base N qual scope f cd A outer s₀ H₀ E) pins σ H s) (hx : Heap.MadeExcOf s.heap h' e cls vs) (q : E cls none H) :
    (cxOf (CXE P w) P w K mg base N qual scope f cd A outer s₀ H₀ E).xe (.ref e) { s with heap := h' } :=
  fly_made (X := cxOf (CXE P w) P w K mg base N qual scope f cd A outer s₀ H₀ E) ⟨rfl, rfl, rfl⟩ I hx fun s'' B a0 F' => ⟨e, cls, H, B, a0, rfl, F', q⟩
end
end Lw
end
section
set_option Elab.async false
set_option linter.all false
set_option maxRecDepth 100000
set_option maxHeartbeats 4000000
namespace Lw
open PySem PySem.Spec PyProof.Rows L2
def Br (b : Bool) (A B : Prop) : Prop := (b = true → A) ∧ (b = false → B)
theorem br_eq (b : Bool) (A B : Prop) : Br b A B = (if b = true then A else B) := by
  unfold Br
  cases b <;> simp
def dVar (i : Nat) : TE := fun σ H Q => match σ[i]? with
  | some (some v) => Q v H
  | _ => False
theorem dVar_eq (i : Nat) : dVar i = tVar i := by
  funext σ H Q
  apply propext
  unfold dVar tVar
  cases h : σ[i]? with
  | none => simp
  | some o => cases o <;> simp
def dI (C : Int → Int → Prop) (g : Int → Int → V) : R2 := fun x y H Q => match x, y with
  | .int i, .int j => C i j ∧ Q (g i j) H
  | _, _ => False
def dI0 (g : Int → Int → V) : R2 := fun x y H Q => match x, y with
  | .int i, .int j => Q (g i j) H
  | _, _ => False
def dU (g : Int → V) : V → Hp → VK → Prop := fun x H Q => match x with
  | .int i => Q (g i) H
  | _ => False
def dTest (t : TE) : TT := fun σ H Q => t σ H fun x H' => match x with
  | .bl k => Q k H'
  | _ => False
theorem dTest_eq (t : TE) : dTest t = tTest t := by
  funext σ H Q
  unfold dTest tTest
  congr 1
  funext x H'
  apply propext
  cases x <;> simp
theorem dTest_eqB (t : TE) : dTest t = tB t := dTest_eq t
def dAnd (t u : TT) : TT := fun σ H Q => t σ H fun c H1 => Br c (u σ H1 Q) (Q false H1)
def dOr (t u : TT) : TT := fun σ H Q => t σ H fun c H1 => Br c (Q true H1) (u σ H1 Q)
theorem dAnd_eq (t u : TT) : dAnd t u = tAnd t u := by
  funext σ H Q
  unfold dAnd tAnd
  simp only [br_eq]
theorem dOr_eq (t u : TT) : dOr t u = tOr t u := by
  funext σ H Q
  unfold dOr tOr
  simp only [br_eq]
def dAndV (ta tb : TE) : TE := fun σ H Q => ta σ H fun x H1 => match x with
  | .bl c => Br c (tb σ H1 Q) (Q (.bl false) H1)
  | _ => False
def dOrV (ta tb : TE) : TE := fun σ H Q => ta σ H fun x H1 => match x with
  | .bl c => Br c (Q (.bl true) H1) (tb σ H1 Q)
  | _ => False
def dNotV (ta : TE) : TE := fun σ H Q => ta σ H fun x H1 => match x with
  | .bl c => Q (.bl (!c)) H1
  | _ => False
theorem dAndV_eq (t u : TE) : dAndV t u = tAndV t u := by
  funext σ H Q
  unfold dAndV tAndV
  congr 1
  funext x H'
  apply propext
  cases x <;> simp [br_eq]
def dIfS (c : TT) (t u : TS) : TS := fun D σ H => c σ H fun b H1 => Br b (t D σ H1) (u D σ H1)
theorem dIfS_eq (c : TT) (t u : TS) : dIfS c t u = tIfS c t u := by
  funext D σ H
  unfold dIfS tIfS
  simp only [br_eq]
def dIf (t : TT) (ta tb : TE) : TE := fun σ H Q => t σ H fun c H1 => Br c (ta σ H1 Q) (tb σ H1 Q)
theorem dIf_eq (c : TT) (t u : TE) : dIf c t u = tIf c t u := by
  funext D σ H
  unfold dIf tIf
  simp only [br_eq]
section
variable {X : Cx} {a b c : Expr} {ta tb tc : TE} {pos : Pos} {tA tB' : TT} {rest : List Expr}
theorem dv (i : Nat) {x : Str} {pos : Pos} (hN : X.N[i]? = some x := by rfl) (hv : Vis X.env.scope x := by first | exact Or.inl rfl | exact Or.inr (Or.inl rfl) | exact Or.inr (Or.inr rfl)) (hd : (x == ("__debug__" : Str)) = false := by decide)
    (hcd : (x == ("__classdict__" : Str)) = false := by decide) : PE X (.Name x pos) (dVar i) := by
  rw [dVar_eq]
  exact pe_var hN hv hd hcd
theorem opD {f : Value → Value → Sem Value} {C : Int → Int → Prop} {g : Int → Int → V} (h : OpR X f (rI C g)) : OpR X f (dI C g) := by
  intro pins s σ H x y v u Q I rx ry q
  cases x <;> cases y <;> first
    | exact False.elim q
    | exact h _ _ _ _ _ _ _ _ _ I rx ry ⟨_, _, rfl, rfl, q.1, q.2⟩
theorem opD0 {f : Value → Value → Sem Value} {g : Int → Int → V} (h : OpR X f (rI0 g)) : OpR X f (dI0 g) := by
  intro pins s σ H x y v u Q I rx ry q
  cases x <;> cases y <;> first
    | exact False.elim q
    | exact h _ _ _ _ _ _ _ _ _ I rx ry ⟨_, _, rfl, rfl, q⟩
theorem unD {f : Value → Sem Value} {g : Int → V} (h : UnR X f (rU g)) : UnR X f (dU g) := by
  intro pins s σ H x v Q I rx q
  cases x <;> first
    | exact False.elim q
    | exact h _ _ _ _ _ _ _ I rx ⟨_, rfl, q⟩
def Bd (n : Nat) (x : Int) : Prop := x.natAbs < 2 ^ n
theorem Bd.bits {n : Nat} {x : Int} (h : Bd n x) : Builtin.Int.intBits x ≤ n := intBits_le_iff.mpr h
def COk (i j : Int) : Prop := (Bd 4000 i ∧ Bd 4000 j) ∨ CMul i j
theorem COk.ok {i j : Int} (h : COk i j) : IntMulOk i j := by
  rcases h with ⟨h1, h2⟩ | h
  · exact PySem.IntMulOk.of_bits (Nat.le_trans h1.bits (by decide)) (Nat.le_trans h2.bits (by decide))
  · exact h.ok
theorem pow_log {n : Nat} {x : Int} (h : Bd n x) (h0 : 0 < n) : x.natAbs.log2 < n := by
  by_cases z : x.natAbs = 0
  · rw [z]
    simpa using h0
  · exact (Nat.log2_lt z).mpr h
theorem o_add : OpR X (binaryOp .Add) (dI0 fun i j => .int (i + j)) := opD0 op_add
theorem o_sub : OpR X (binaryOp .Sub) (dI0 fun i j => .int (i - j)) := opD0 op_sub
theorem o_mul : OpR X (binaryOp .Mult) (dI COk fun i j => .int (i * j)) := opD (opI fun _ _ _ _ _ _ _ hc q => mul_int q hc.ok)
theorem o_div : OpR X (binaryOp .FloorDiv) (dI (fun _ j => 0 < j ∧ Bd 4000 j) fun i j => .int (i / j)) := opD (opI fun i j _ _ _ _ _ hc q => by
  have h1 : (0 : Int) < j := hc.1
  exact floordiv_int (by omega) (by rw [Int.fdiv_eq_ediv_of_nonneg i (by omega)]; exact q) (.inl (PyProof.noPylong_of_log2 (Nat.lt_trans (pow_log hc.2 (by decide)) (by decide)))))
theorem o_mod : OpR X (binaryOp .Mod) (dI (fun _ j => 0 < j) fun i j => .int (i % j)) := opD op_mod
theorem o_pow : OpR X (binaryOp .Pow) (dI CPow fun i j => .int (i ^ j.toNat)) := opD op_pow
theorem o_lt : OpR X (compareOp .Lt) (dI0 fun i j => .bl (decide (i < j))) := opD0 op_lt
theorem o_gt : OpR X (compareOp .Gt) (dI0 fun i j => .bl (decide (j < i))) := opD0 op_gt
theorem u_neg : UnR X (unaryOp .USub) (dU fun i => .int (-i)) := unD un_neg
def dEq : R2 := fun x y H Q => match x, y with
  | .int i, .int j => Q (.bl (decide (i = j))) H
  | .bl i, .bl j => Q (.bl (i == j)) H
  | .str i, .str j => Q (.bl (decide (i = j))) H
  | _, _ => False
def dNe : R2 := fun x y H Q => match x, y with
  | .int i, .int j => Q (.bl (!decide (i = j))) H
  | .bl i, .bl j => Q (.bl (i != j)) H
  | .str i, .str j => Q (.bl (!decide (i = j))) H
  | _, _ => False
theorem o_eq : OpR X (compareOp .Eq) dEq := by
  intro pins s σ H x y v u Q I rx ry q
  cases x <;> cases y <;> first
    | exact False.elim q
    | (refine op_eq _ _ _ _ _ _ _ _ _ I rx ry ⟨rfl, ?_⟩
       have e : ∀ (i j : Int), decide (V.int i = V.int j) = decide (i = j) := fun i j => by simp
       have e2 : ∀ (i j : Str), decide (V.str i = V.str j) = decide (i = j) := fun i j => by simp
       first
         | (rw [e]; exact q)
         | (rw [e2]; exact q)
         | (rw [dec_bl]; exact q))
theorem o_ne : OpR X (compareOp .NotEq) dNe := by
  intro pins s σ H x y v u Q I rx ry q
  cases x <;> cases y <;> first
    | exact False.elim q
    | (refine op_ne _ _ _ _ _ _ _ _ _ I rx ry ⟨rfl, ?_⟩
       have e : ∀ (i j : Int), decide (V.int i = V.int j) = decide (i = j) := fun i j => by simp
       have e2 : ∀ (i j : Str), decide (V.str i = V.str j) = decide (i = j) := fun i j => by simp
       first
         | (rw [e]; exact q)
         | (rw [e2]; exact q)
         | (rw [dec_bl]; exact q))
theorem t_cmp {op : CmpOp} {r : R2} (ho : OpR X (compareOp op) r) (ha : PE X a ta) (hb : PE X b tb) (hm : behindInMarks op b = false) : PT X (.Compare a [op] [b] pos) (dTest (tOp r ta tb)) := by
  rw [dTest_eq]
  exact pt_cmpR ho ha hb hm
theorem t_val {e : Expr} {t : TE} (h : PE X e t) (he : ∀ whole, isTrue e X.env whole = (do let v ← whole; standAt e.pos; holding [v] (truthy v)) := by intro _; rfl) : PT X e (dTest t) := by
  rw [dTest_eqB]
  exact pt_val h he
theorem w_and (ha : PT X a tA) (hb : PW X (.BoolOp .And (b :: rest) pos) tB') : PW X (.BoolOp .And (a :: b :: rest) pos) (dAnd tA tB') := by
  rw [dAnd_eq]
  exact pw_and ha hb
theorem w_or (ha : PT X a tA) (hb : PW X (.BoolOp .Or (b :: rest) pos) tB') : PW X (.BoolOp .Or (a :: b :: rest) pos) (dOr tA tB') := by
  rw [dOr_eq]
  exact pw_or ha hb
theorem e_and (ha : PE X a ta) (hb : PE X (.BoolOp .And (b :: rest) pos) tb) : PE X (.BoolOp .And (a :: b :: rest) pos) (dAndV ta tb) := by
  rw [dAndV_eq]
  exact pe_and ha hb
theorem e_if {c : Expr} (hc : PT X c tA) (ha : PE X a ta) (hb : PE X b tb) : PE X (.IfExp c a b pos) (dIf tA ta tb) := by
  rw [dIf_eq]
  exact pe_ifExp hc ha hb
theorem s_if {c : Expr} {a b : List Stmt} {tc : TT} {t u : TS} (hc : PT X c tc) (ha : PSs X a t) (hb : PSs X b u) : PS X (.If c a b pos) (dIfS tc t u) := by
  rw [dIfS_eq]
  exact ps_if hc ha hb
def tCut (R : L2.St → Hp → Prop) (t u : TS) : TS := fun D σ H => t { D with nx := R } σ H ∧ ∀ σ' H', R σ' H' → u D σ' H'
theorem ss_cut (R : L2.St → Hp → Prop) {st : Stmt} {r : List Stmt} {t u : TS} (h1 : PS X st t) (h2 : PSs X r u) : PSs X (st :: r) (tCut R t u) := by
  intro pins s σ H D I h
  refine wpAny_execs_cons (thn (h1 pins s σ H { D with nx := R } I h.1) fun f s1 q => ?_)
  cases f with
  | next =>
    obtain ⟨σ', H', I', q⟩ := q
    exact h2 pins s1 σ' H' D I' (h.2 σ' H' q)
  | ret v => exact q
  | brk => exact q
  | cont => exact q
structure Cal (P : Program) (w : World) (K : PySem.W.Frag) (mg : Str → Option Value) (base : Heap) (x : Str) (ps : List Str) (k : Nat) (sp : Sp) : Prop where
  ex : ∃ (f : Addr) (fd : FuncData), mg x = some (.ref f) ∧ PySem.W.keepIn K (.ref f) = true ∧ Binds K fd ps [] ∧ FnOk P w K mg base (CXE P w) k f fd ps sp ∧
    ∃ (oc : Value) (od : Option Addr) (osl : Array (Option Value)), K.lookup f = some ⟨oc, od, .func fd, osl⟩
def dCall (sp : Sp) (t : TA) : TE := fun σ H Q => t σ H fun vs H1 => sp vs H1 Q E0
theorem dCall_eq (sp : Sp) (t : TA) : dCall sp t = tCall sp [] E0 t := by
  funext σ H Q
  unfold dCall tCall
  simp only [List.append_nil]
theorem e_call {x : Str} {ps : List Str} {k k' : Nat} {sp : Sp} {p : Pos} {e : Expr} {es : List Expr} {t : TA} (C : Cal X.prog X.w X.K X.mg X.base x ps k sp) (hr : Room k' X.A) (hk : k ≤ k') (hg : Gl X x)
    (ha : PA X (e :: es) t) (hdb : (x == ("__debug__" : Str)) = false := by decide) (he : starEach (e :: es) X.env = (false, eval e X.env) :: starEach es X.env := by rfl) (hpl : (backTo pos (starEach es X.env)).any (·.1) = false := by rfl) :
    PE X (.Call (.Name x p) (e :: es) [] pos) (dCall sp t) := by
  obtain ⟨f, fd, h1, h2, h3, h4, _⟩ := C.ex
  rw [dCall_eq]
  exact pe_call (h4.mono hk) hr hg h1 h2 h3 .nil passX0 ha hdb he hpl
def lenOk (xs : List V) : Bool := Nat.ble xs.length 1000
theorem lenOk_le {xs : List V} (h : lenOk xs = true) : xs.length ≤ sizeLine := Nat.le_trans (Nat.le_of_ble_eq_true h) (by decide)
def dTup (t : TA) : TE := fun σ H Q => t σ H fun xs H1 => match lenOk xs with
  | true => ∀ p H', Same H1 H' → H' p = some (.tup xs) → Q (.ref p) H'
  | false => False
def dLst (t : TA) : TE := fun σ H Q => t σ H fun xs H1 => match lenOk xs with
  | true => ∀ p H', Same H1 H' → H' p = some (.lst xs) → Q (.ref p) H'
  | false => False
theorem same_upd {H : Hp} {p : Addr} {o : HO} (h : H p = none) : Same H (upd H p o) := fun b u e => by
  rw [upd_ne (ne_of_none e h)]
  exact e
theorem e_tup {es : List Expr} {t : TA} {x1} (h : PA X es t) : PE X (.Tuple es x1 pos) (dTup t) := by
  intro pins s σ H Q I hq
  refine wpAny_Tuple_spliced (thn (h pos pins s σ H _ I hq) fun us s1 ⟨xs, H1, I1, r, q⟩ => ?_)
  cases hl : lenOk xs with
  | false =>
    have q' : (match lenOk xs with | true => _ | false => False : Prop) := q
    rw [hl] at q'
    exact q'.elim
  | true =>
    have z := lenOk_le hl
    have q' : (match lenOk xs with | true => ∀ p H', Same H1 H' → H' p = some (.tup xs) → Q (.ref p) H' | false => False : Prop) := q
    rw [hl] at q'
    refine ⟨by rw [← r.length]; exact z, ?_⟩
    have hf : H1 s1.heap.objs.size = none := I1.hok.fresh (Nat.le_refl _)
    refine ⟨.ref s1.heap.objs.size, upd H1 s1.heap.objs.size (.tup xs), I1.laid (t' := s1.toks) (fun b u e => Heap.get?_push_of_some _ e) (Nat.le_refl _) ?_, rfl, q' _ _ (same_upd hf) upd_same⟩
    exact ⟨z, us, r, ⟨_, Heap.get?_push_size _ rfl, rfl, _, rfl⟩⟩
theorem e_lst {es : List Expr} {t : TA} (h : PA X es t) : PE X (.List es pos) (dLst t) := by
  intro pins s σ H Q I hq
  refine wpAny_List_spliced (thn (h pos pins s σ H _ I hq) fun us s1 ⟨xs, H1, I1, r, q⟩ => ?_)
  cases hl : lenOk xs with
  | false =>
    have q' : (match lenOk xs with | true => _ | false => False : Prop) := q
    rw [hl] at q'
    exact q'.elim
  | true =>
    have z := lenOk_le hl
    have q' : (match lenOk xs with | true => ∀ p H', Same H1 H' → H' p = some (.lst xs) → Q (.ref p) H' | false => False : Prop) := q
    rw [hl] at q'
    refine ⟨by rw [← r.length]; exact z, ?_⟩
    have hf : H1 s1.heap.objs.size = none := I1.hok.fresh (Nat.le_refl _)
    refine ⟨.ref s1.heap.objs.size, upd H1 s1.heap.objs.size (.lst xs), I1.laid (t' := s1.toks) (fun b u e => Heap.get?_push_of_some _ e) (Nat.le_refl _) ?_, rfl, q' _ _ (same_upd hf) upd_same⟩
    exact ⟨z, us, 0, r, Heap.get?_push_size _ rfl⟩
def nthI (xs : List V) : Int → Option V
  | .ofNat n => xs[n]?
  | .negSucc _ => none
theorem nthI_at {xs : List V} {i : Int} {v : V} (h : nthI xs i = some v) : atI xs i = some v := by
  cases i with
  | ofNat n => exact atI_nat h
  | negSucc n => cases h
def dIxT : R2 := fun x y H Q => match x, y with
  | .ref p, .int i => ∃ xs, H p = some (.tup xs) ∧ match nthI xs i with
    | some v => Q v H
    | none => False
  | _, _ => False
def dIxL (K : PySem.W.Frag) : R2 := fun x y H Q => match x, y with
  | .ref p, .int i => ∃ xs v, SqL K H p xs ∧ atI xs i = some v ∧ Q v H
  | _, _ => False
theorem i_tup : IxR X dIxT := by
  intro value slice pins s σ H x y v u Q I rx ry h hs
  cases x <;> cases y <;> first
    | exact False.elim h
    | (obtain ⟨xs, e, q⟩ := h
       cases z : nthI xs _ with
       | none =>
         rw [z] at q
         exact q.elim
       | some w =>
         rw [z] at q
         exact ix_tup value slice pins s σ H _ _ v u Q I rx ry ⟨_, xs, _, w, rfl, rfl, SqT.of e, nthI_at z, q⟩ hs)
theorem i_lst : IxR X (dIxL X.K) := by
  intro value slice pins s σ H x y v u Q I rx ry h hs
  cases x <;> cases y <;> first
    | exact False.elim h
    | (obtain ⟨xs, w, e, z, q⟩ := h
       exact ix_list value slice pins s σ H _ _ v u Q I rx ry ⟨_, xs, _, w, rfl, rfl, e, z, q⟩ hs)
theorem e_ty (T : String) {x : Str} (hg : Gl X x) (hm : X.mg x = none) (hv : bootBuiltins x = some (.type T)) (hn : x ≠ "__name__" := by decide) (hd : (x == ("__debug__" : Str)) = false := by decide) : PE X (.Name x pos) (tC (.ty T)) :=
  pe_bltn hg hm hv rfl hn hd
def dAbs : List V → Hp → VK → Prop := fun xs H Q => match xs with
  | [.int i] => Q (.int (i.natAbs : Int)) H
  | _ => False
def dLen (K : PySem.W.Frag) : List V → Hp → VK → Prop := fun xs H Q => match xs with
  | [.ref p] => ∃ ys, (SqL K H p ys ∨ SqT K H p ys) ∧ Q (.int ys.length) H
  | [.str z] => z.length ≤ sizeLine ∧ Q (.int z.length) H
  | _ => False
theorem c_len : CallR X (.builtin "len") (dLen X.K) := by
  intro pins s σ H xs us Q I r h
  match xs, h with
  | [.ref p], ⟨ys, h1, q⟩ => exact call_len_seq pins s σ H _ us Q I r ⟨p, ys, rfl, h1, q⟩
  | [.str z], ⟨h1, q⟩ => exact call_len_str pins s σ H _ us Q I r ⟨z, rfl, h1, q⟩
def tyB (t c : String) : Option Bool :=
  if t = c then some true else if t = "bool" ∧ c = "int" then some true
  else if (t = "int" ∨ t = "bool" ∨ t = "str" ∨ t = "tuple" ∨ t = "list" ∨ t = "dict" ∨ t = "NoneType") ∧ (c = "int" ∨ c = "bool" ∨ c = "str" ∨ c = "tuple" ∨ c = "list") then some false else none
def tyHO : HO → Option String
  | .lst _ => some "list"
  | .frz _ (.lst _) => some "list"
  | .tup _ => some "tuple"
  | .dK _ => some "dict"
  | .dT _ => some "dict"
  | _ => none
def dIsi : List V → Hp → VK → Prop := fun xs H Q => match xs with
  | [.non, .ty c] => ∃ b, tyB "NoneType" c = some b ∧ Q (.bl b) H
  | [.bl _, .ty c] => ∃ b, tyB "bool" c = some b ∧ Q (.bl b) H
  | [.int _, .ty c] => ∃ b, tyB "int" c = some b ∧ Q (.bl b) H
  | [.str _, .ty c] => ∃ b, tyB "str" c = some b ∧ Q (.bl b) H
  | [.ref p, .ty c] => ∃ u b t, H p = some u ∧ tyHO u = some t ∧ tyB t c = some b ∧ Q (.bl b) H
  | _ => False
theorem kit_tyB (K : PySem.W.Frag) {t c : String} {b : Bool} (h : tyB t c = some b) : PySem.W.kitOne K (.type t) (.type c) = some b := by
  unfold tyB at h
  split at h
  · rename_i e
    subst e
    cases h
    unfold PySem.W.kitOne
    rw [if_pos (by simp)]
  · split at h
    · rename_i e
      obtain ⟨rfl, rfl⟩ := e
      cases h
      kernel_rfl
    · split at h
      · rename_i e1 e2 e
        cases h
        obtain ⟨ht, hc⟩ := e
        rcases ht with rfl | rfl | rfl | rfl | rfl | rfl | rfl <;> rcases hc with rfl | rfl | rfl | rfl | rfl <;> first
          | exact absurd rfl e1
          | exact absurd ⟨rfl, rfl⟩ e2
          | kernel_rfl
      · cases h
theorem c_isi : CallR X (.builtin "isinstance") dIsi := by
  intro pins s σ H xs us Q I r h
  match xs, h with
  | [.non, .ty c], ⟨b, e, q⟩ =>
    obtain ⟨u, w', rfl, r1, r2⟩ := vals2 r
    cases (show w' = Value.type c from r2)
    exact isinst_ok I r1 .non (kit_tyB X.K e) fun tk => ⟨.bl b, H, I.tok _, rfl, q⟩
  | [.bl y, .ty c], ⟨b, e, q⟩ =>
    obtain ⟨u, w', rfl, r1, r2⟩ := vals2 r
    cases (show w' = Value.type c from r2)
    exact isinst_ok I r1 (.bl y) (kit_tyB X.K e) fun tk => ⟨.bl b, H, I.tok _, rfl, q⟩
  | [.int y, .ty c], ⟨b, e, q⟩ =>
    obtain ⟨u, w', rfl, r1, r2⟩ := vals2 r
    cases (show w' = Value.type c from r2)
    exact isinst_ok I r1 (.int y) (kit_tyB X.K e) fun tk => ⟨.bl b, H, I.tok _, rfl, q⟩
  | [.str y, .ty c], ⟨b, e, q⟩ =>
    obtain ⟨u, w', rfl, r1, r2⟩ := vals2 r
    cases (show w' = Value.type c from r2)
    exact isinst_ok I r1 (.str y) (kit_tyB X.K e) fun tk => ⟨.bl b, H, I.tok _, rfl, q⟩
  | [.ref p, .ty c], ⟨o, b, t, e1, e2, e, q⟩ =>
    obtain ⟨u, w', rfl, r1, r2⟩ := vals2 r
    cases (show w' = Value.type c from r2)
    have ty : TyOf X.K H (.ref p) (.type t) := by
      cases o with
      | lst ys => cases e2; exact .lst e1
      | tup ys => cases e2; exact .tup e1
      | dK ys => cases e2; exact .dK e1
      | dT ys => cases e2; exact .dT e1
      | frz ob u =>
        cases u with
        | lst ys => cases e2; exact .frz e1
        | _ => cases e2
      | _ => cases e2
    exact isinst_ok I r1 ty (kit_tyB X.K e) fun tk => ⟨.bl b, H, I.tok _, rfl, q⟩
end
section
variable {X : Cx} {pos : Pos}
def dWhile (c : TT) (tb : TS) : TS := fun D σ H => ∃ W : Nat → L2.St → Hp → Prop, (∃ m, W m σ H) ∧ ∀ m σ H, W m σ H →
  c σ H fun b H1 => Br b (tb { D with nx := fun σ' H' => ∃ m', m' < m ∧ W m' σ' H', ct := fun σ' H' => ∃ m', m' < m ∧ W m' σ' H', bk := D.nx } σ H1) (D.nx σ H1)
theorem s_while {c : Expr} {body : List Stmt} {tc : TT} {tb : TS} (hp : PassesOwn (model X.prog X.w) X.A X.env X.xe) (hc : PT X c tc) (hb : PSs X body tb) : PS X (.While c body [] pos) (dWhile tc tb) := by
  intro pins s σ H D I h
  obtain ⟨W, ⟨m0, w0⟩, turn⟩ := h
  refine wpAny_While (codeAny_whileLoop (fun n s' => ∃ σ' H', Inv X pins σ' H' s' ∧ W n σ' H') ?_ m0 ⟨σ, H, I, w0⟩)
  rintro n s1 ⟨σ1, H1, I1, w1⟩
  refine wpAny_passesOwn hp (thn (hc pins s1 σ1 H1 _ I1 (turn n σ1 H1 w1)) fun b s2 ⟨H2, I2, q2⟩ => ?_)
  cases b with
  | true =>
    have q2 := q2.1 rfl
    rw [if_pos rfl]
    refine wpAny_passesOwn hp (thn (hb pins s2 σ1 H2 _ I2 q2) fun f s3 q3 => ?_)
    cases f with
    | next =>
      obtain ⟨σ3, H3, I3, m', hm, w3⟩ := q3
      exact ⟨m', hm, σ3, H3, I3, w3⟩
    | cont =>
      obtain ⟨σ3, H3, I3, m', hm, w3⟩ := q3
      exact ⟨m', hm, σ3, H3, I3, w3⟩
    | brk => exact q3
    | ret v => exact q3
  | false =>
    rw [if_neg Bool.false_ne_true]
    exact wpAny_execs_nil ⟨σ1, H2, I2, q2.2 rfl⟩
end
structure Dfn (K : PySem.W.Frag) (mg : Str → Option Value) (x : Str) (st : Stmt) (ps : List Str) : Prop where
  ex : ∃ (f : Addr) (fd : FuncData), Fun K x x st f fd ∧ mg x = some (.ref f) ∧ Binds K fd ps []
section
variable {P : Program} {w : World} {K : PySem.W.Frag} {mg : Str → Option Value} {base : Heap}
theorem Dfn.calX {x : Str} {st : Stmt} {N ps : List Str} {k : Nat} {sp : Sp} (d : Dfn K mg x st ps) (S : FnScope N ps (defScope st)) (len : ∀ vs H Q E, sp vs H Q E → vs.length = ps.length)
    (hbody : ∀ (f : Addr) (cdv : Value) (A : Around) (outer : List Env) (s : Shared) (H : Hp) (vs : List V) (Q : VK) (E : XK), Room k (A.deeper (envOfC x (defScope st) s.heap.objs.size f cdv)) → sp vs H Q E →
      ∃ t, PSs (cxOf (CXE P w) P w K mg base N x (defScope st) f cdv A outer s H E) (defBody st) t ∧ t { nx := fun _ H' => Q .non H', rt := Q } (start N vs) H) : Cal P w K mg base x ps (k + 1) sp := by
  obtain ⟨f, fd, F, hm, hb⟩ := d.ex
  obtain ⟨oc, od, kV, doc, pm, an, cdv, ct, osl, rfl, lk, hcd⟩ := F.ex
  exact ⟨f, _, hm, F.kp, hb, fn_of lk hcd S len fun A outer s H vs Q E hr hsp => hbody f cdv A outer s H vs Q E hr hsp, oc, od, osl, lk⟩
theorem Dfn.cal {x : Str} {st : Stmt} {N ps : List Str} {k : Nat} {sp : Sp} (d : Dfn K mg x st ps) (S : FnScope N ps (defScope st)) (len : ∀ vs H Q E, sp vs H Q E → vs.length = ps.length)
    (hbody : ∀ (f : Addr) (cdv : Value) (A : Around) (outer : List Env) (s : Shared) (H : Hp) (vs : List V) (Q : VK) (E : XK), Room k (A.deeper (envOfC x (defScope st) s.heap.objs.size f cdv)) → sp vs H Q E →
      ∃ t, PSs (cxOf (CXE P w) P w K mg base N x (defScope st) f cdv A outer s H E).nox (defBody st) t ∧ t { nx := fun _ H' => Q .non H', rt := Q } (start N vs) H) : Cal P w K mg base x ps (k + 1) sp :=
  d.calX S len fun f cdv A outer s H vs Q E hr hsp => by
    obtain ⟨t, h, q⟩ := hbody f cdv A outer s H vs Q E hr hsp
    exact ⟨t, h.nox, q⟩
def sp_law (K : PySem.W.Frag) (ns : List Int) : Sp := fun vs H Q _ => match vs with
  | [.ref a] => SqL K H a (ns.map V.int) ∧ ns.length ≤ 63 ∧ ∀ H', Q (.bl true) H'
  | _ => False
def sp_lawA (K : PySem.W.Frag) : Sp := fun vs H Q _ => ∃ (ns : List Int) (a : Addr), vs = [.ref a] ∧ SqL K H a (ns.map V.int) ∧ ns.length ≤ 63 ∧ ∀ H', Q (.bl true) H'
theorem law_fn {k : Nat} {st : Stmt} {f : Addr} {fd : FuncData} (F : Fun K "law" "law" st f fd) (hm : mg "law" = some (.ref f)) (C : ∀ ns, Cal P w K mg base "law" ["_law_script"] k (sp_law K ns)) : FnOk P w K mg base (CXE P w) k f fd ["_law_script"] (sp_lawA K) := by
  refine ⟨fun vs H Q E h => ?_, fun A outer s H args us vs Q E hr he hb hv hs => ?_⟩
  · obtain ⟨ns, a, rfl, _⟩ := h
    rfl
  · obtain ⟨ns, a, rfl, h1, h2, h3⟩ := hs
    obtain ⟨f', fd', e1, e2, e3, G, oc', od', osl', lk'⟩ := (C ns).ex
    obtain ⟨oc, od, kV, doc, pm, an, cdv, ct, osl, _, lk, _⟩ := F.ex
    rw [hm] at e1
    cases e1
    rw [lk] at lk'
    cases lk'
    exact G.run A outer s H args us _ Q E hr he hb hv ⟨h1, h2, h3⟩
end
theorem sm_sqT {K : PySem.W.Frag} {H H' : Hp} {a : Addr} {xs : List V} (e : Same H H') (h : SqT K H a xs) : SqT K H' a xs := by
  rcases h with (h | ⟨o, h⟩) | h
  · exact .inl (.inl (e _ _ h))
  · exact .inl (.inr ⟨o, e _ _ h⟩)
  · exact .inr h
mutual
inductive Rp (K : PySem.W.Frag) (H : Hp) : V → PyData → Prop where
  | non : Rp K H .non .none
  | bl (b : Bool) : Rp K H (.bl b) (.bool b)
  | int (i : Int) : Rp K H (.int i) (.int i)
  | str (x : Str) : Rp K H (.str x) (.str x)
  | tup {p : Addr} {xs : List V} {ds : List PyData} : SqT K H p xs → RpL K H xs ds → Rp K H (.ref p) (.tuple ds)
  | lst {p : Addr} {xs : List V} {ds : List PyData} : SqL K H p xs → RpL K H xs ds → Rp K H (.ref p) (.list ds)
inductive RpL (K : PySem.W.Frag) (H : Hp) : List V → List PyData → Prop where
  | nil : RpL K H [] []
  | cons {v : V} {d : PyData} {vs : List V} {ds : List PyData} : Rp K H v d → RpL K H vs ds → RpL K H (v :: vs) (d :: ds)
end
mutual
theorem Rp.up {K : PySem.W.Frag} {H H' : Hp} (s : Same H H') : ∀ {v : V} {d : PyData}, Rp K H v d → Rp K H' v d
  | _, _, .non => .non
  | _, _, .bl b => .bl b
  | _, _, .int i => .int i
  | _, _, .str x => .str x
  | _, _, .tup h r => .tup (sm_sqT s h) (RpL.up s r)
  | _, _, .lst h r => .lst (s.seq h) (RpL.up s r)
theorem RpL.up {K : PySem.W.Frag} {H H' : Hp} (s : Same H H') : ∀ {v : List V} {d : List PyData}, RpL K H v d → RpL K H' v d
  | _, _, .nil => .nil
  | _, _, .cons h r => .cons (Rp.up s h) (RpL.up s r)
end
section
variable {X : Cx}
mutual
theorem Rp.reads {pins : List (Addr × Obj)} {σ : L2.St} {H : Hp} {s : Shared} (I : Inv X pins σ H s) : ∀ {v : V} {d : PyData} {u : Value}, Rp X.K H v d → L2.RelV v u → ∃ as, Reads s.heap u d as
  | _, _, _, .non, r => by cases r; exact ⟨_, Reads.none⟩
  | _, _, _, .bl b, r => by cases r; exact ⟨_, Reads.bool b⟩
  | _, _, _, .int i, r => by obtain ⟨t, rfl⟩ := r; exact ⟨_, Reads.int i t⟩
  | _, _, _, .str i, r => by obtain ⟨t, rfl⟩ := r; exact ⟨_, Reads.str i t⟩
  | _, _, _, .tup h q, r => by
    cases r
    obtain ⟨its, rv, ⟨o, e, c, n, dd⟩, _⟩ := I.tuple h
    obtain ⟨as, ra⟩ := RpL.reads I q rv
    exact ⟨as, reads_tuple_at e c dd (by simpa using ra)⟩
  | _, _, _, .lst h q, r => by
    cases r
    obtain ⟨its, rv, ⟨o, n, e, c, _, dd⟩, _⟩ := I.list h
    obtain ⟨as, ra⟩ := RpL.reads I q rv
    exact ⟨_, reads_list_at e c dd (by simpa using ra)⟩
theorem RpL.reads {pins : List (Addr × Obj)} {σ : L2.St} {H : Hp} {s : Shared} (I : Inv X pins σ H s) : ∀ {v : List V} {d : List PyData} {u : List Value}, RpL X.K H v d → Vals v u → ∃ as, ReadsAll s.heap u d as
  | _, _, _, .nil, r => by cases r; exact ⟨_, ReadsAll.nil⟩
  | _, _, _, .cons h q, r => by
    cases r with
    | cons r1 r2 =>
      obtain ⟨as, ra⟩ := Rp.reads I h r1
      obtain ⟨bs, rb⟩ := RpL.reads I q r2
      exact ⟨_, ReadsAll.cons ra rb⟩
end
def dEqD (K : PySem.W.Frag) : R2 := fun x y H Q => ∃ d e, Rp K H x d ∧ Rp K H y e ∧ SeqAt.shaped d = true ∧ SeqAt.shaped e = true ∧ Q (.bl (PyData.eqv d e)) H
def dNeD (K : PySem.W.Frag) : R2 := fun x y H Q => ∃ d e, Rp K H x d ∧ Rp K H y e ∧ SeqAt.shaped d = true ∧ SeqAt.shaped e = true ∧ Q (.bl (!PyData.eqv d e)) H
theorem o_eqD (hu : X.A.units + 64 < cLine) : OpR X (compareOp .Eq) (dEqD X.K) := by
  intro pins s σ H x y v u Q I rx ry q
  obtain ⟨d, e, h1, h2, h3, h4, q⟩ := q
  obtain ⟨as, r1⟩ := h1.reads I rx
  obtain ⟨bs, r2⟩ := h2.reads I ry
  exact PyProof.Rows.eq_dataH r1 r2 h3 h4 hu ⟨.bl _, H, I, rfl, q⟩
theorem o_neD (hu : X.A.units + 64 < cLine) : OpR X (compareOp .NotEq) (dNeD X.K) := by
  intro pins s σ H x y v u Q I rx ry q
  obtain ⟨d, e, h1, h2, h3, h4, q⟩ := q
  obtain ⟨as, r1⟩ := h1.reads I rx
  obtain ⟨bs, r2⟩ := h2.reads I ry
  exact PyProof.Rows.ne_dataH r1 r2 h3 h4 hu ⟨.bl _, H, I, rfl, q⟩
end
end Lw
end
section
set_option Elab.async false
set_option linter.all false
set_option maxRecDepth 100000
set_option maxHeartbeats 4000000
set_option exponentiation.threshold 5000
namespace Lw
open PySem PySem.Spec PyProof.Rows L2
def cell (ns : List Int) (k : Int) : Int := if ns.length = 0 then 0 else ns.getD (k % (ns.length : Int)).toNat 0
def draw (ns : List Int) (k m : Int) : Int := (cell ns k + 1) * (k * k + 7 * k + 48271) % 99991 / 3 % m
theorem bd_lit {n : Nat} {x : Int} (h : Nat.blt x.natAbs (2 ^ n) = true) : Bd n x := by
  unfold Bd
  exact Nat.lt_of_lt_of_le (Nat.lt_of_succ_le (Nat.le_of_ble_eq_true h)) (Nat.le_refl _)
theorem Bd.mono {m n : Nat} {x : Int} (h : Bd m x) (l : m ≤ n) : Bd n x := Nat.lt_of_lt_of_le h (Nat.pow_le_pow_right (by decide) l)
theorem Bd.mul {m n : Nat} {x y : Int} (h : Bd m x) (l : Bd n y) : Bd (m + n) (x * y) := by
  unfold Bd at *
  rw [Int.natAbs_mul, Nat.pow_add]
  by_cases z : y.natAbs = 0
  · rw [z, Nat.mul_zero]
    exact Nat.mul_pos (Nat.pow_pos (by decide)) (Nat.pow_pos (by decide))
  · exact Nat.lt_of_lt_of_le (Nat.mul_lt_mul_of_pos_right h (Nat.pos_of_ne_zero z)) (Nat.mul_le_mul_left _ (Nat.le_of_lt l))
theorem Bd.add {n : Nat} {x y : Int} (h : Bd n x) (l : Bd n y) : Bd (n + 1) (x + y) := by
  unfold Bd at *
  have := Int.natAbs_add_le x y
  rw [Nat.pow_succ]
  omega
theorem Bd.sub {n : Nat} {x y : Int} (h : Bd n x) (l : Bd n y) : Bd (n + 1) (x - y) := by
  unfold Bd at *
  have : (x - y).natAbs ≤ x.natAbs + y.natAbs := by omega
  rw [Nat.pow_succ]
  omega
theorem Bd.of_le {n : Nat} {x y : Int} (h : Bd n y) (l : x.natAbs ≤ y.natAbs) : Bd n x := Nat.lt_of_le_of_lt l h
theorem bd_of {x b : Int} {n : Nat} (h1 : -b ≤ x) (h2 : x ≤ b) (h : Bd n b) : Bd n x := h.of_le (by omega)
def lowT (t b : Int) : Int := t / (Int.gcd t b : Int)
def lowB (t b : Int) : Int := b / (Int.gcd t b : Int)
structure Fq (n : Nat) (H : Hp) (p : Addr) (a b : Int) : Prop where
  at' : H p = some (.tup [.int a, .int b])
  pos : 0 < b
  ba : Bd n a
  bb : Bd n b
abbrev Q2 := Int × Int
def ltQ (x y : Q2) : Bool := decide (x.1 * y.2 < y.1 * x.2)
def sumQ (x y : Q2) : Q2 := (lowT (x.1 * y.2 + y.1 * x.2) (x.2 * y.2), lowB (x.1 * y.2 + y.1 * x.2) (x.2 * y.2))
theorem cok {m n : Nat} {i j : Int} (h : Bd m i) (h' : Bd n j) (l : m ≤ 4000) (l' : n ≤ 4000) : COk i j := .inl ⟨h.mono l, h'.mono l'⟩
structure Pq (n : Nat) (H : Hp) (r : Addr) (lo : Q2) (hi : Option Q2) : Prop where
  ex : ∃ l x, H r = some (.tup [.ref l, x]) ∧ Fq n H l lo.1 lo.2 ∧ (hi = none ∧ x = .non ∨ ∃ q y, hi = some y ∧ x = .ref q ∧ Fq n H q y.1 y.2)
def okHi (lo : Q2) (hi : Option Q2) : Prop := 0 < lo.2 ∧ ∀ h, hi = some h → 0 < h.2 ∧ ltQ h lo = false
def bnQ (hi : Option Q2) (lo : Q2) : Bool := match hi with
  | none => false
  | some h => ltQ h lo
def inQ (x lo : Q2) (hi : Option Q2) : Bool := !ltQ x lo && !bnQ hi x
def frT (t b : Int) : Int := if b < 0 then -lowT t b else lowT t b
def frB (t b : Int) : Int := if b < 0 then -lowB t b else lowB t b
def dvs (t b : Int) : Int := if b < 0 then -(Int.gcd t b : Int) else (Int.gcd t b : Int)
structure FrAt (H : Hp) (p : Addr) (t b : Int) : Prop where
  at' : H p = some (.tup [.int (frT t b), .int (frB t b)])
end Lw
end
section
set_option Elab.async false
set_option linter.all false
set_option maxRecDepth 100000
set_option maxHeartbeats 4000000
namespace Lw
open PySem PySem.Spec PyProof.Rows L2
def ItK (kd : Bool) (h : Heap) (it l : Addr) (k : Nat) : Prop := match kd with
  | true => h.IsListIter it l k
  | false => h.IsTupleIter it l k
def SeK (kd : Bool) (h : Heap) (l : Addr) (xs : Array Value) : Prop := match kd with
  | true => h.IsList l xs
  | false => h.IsTuple l xs
def SqK (kd : Bool) (K : PySem.W.Frag) (H : Hp) (a : Addr) (xs : List V) : Prop := match kd with
  | true => SqL K H a xs
  | false => SqT K H a xs
section
variable {prog : Program} {w : World} {A : Around} {E : Value → Shared → Prop} {s : Shared}
structure ZAt (k1 k2 : Bool) (z TI TO i1 i2 l1 l2 : Addr) (n : Nat) (h : Heap) : Prop where
  z : IsZip h z TI TO .none
  ti : IsPair h TI (.ref i1) (.ref i2)
  to : ∃ a b, IsPair h TO a b
  a : ItK k1 h i1 l1 n
  b : ItK k2 h i2 l2 n
def itO (kd : Bool) (l : Addr) : Obj := match kd with
  | true => { cls := .type "list_iterator", data := .fields #[.ref l, .int 0 0] }
  | false => { cls := .type "tuple_iterator", data := .fields #[.ref l, .int 0 0] }
end
abbrev zK1 (k1 : Bool) (h : Heap) (l1 : Addr) : Heap := h.push (itO k1 l1)
abbrev zK2 (k1 k2 : Bool) (h : Heap) (l1 l2 : Addr) : Heap := (zK1 k1 h l1).push (itO k2 l2)
abbrev zK3 (k1 k2 : Bool) (h : Heap) (l1 l2 : Addr) : Heap := (zK2 k1 k2 h l1 l2).push { cls := .type "tuple", data := .seq #[.ref h.objs.size, .ref (zK1 k1 h l1).objs.size] }
abbrev zK4 (k1 k2 : Bool) (h : Heap) (l1 l2 : Addr) : Heap := (zK3 k1 k2 h l1 l2).push { cls := .type "tuple", data := .seq #[.none, .none] }
abbrev zK5 (k1 k2 : Bool) (h : Heap) (l1 l2 : Addr) : Heap := (zK4 k1 k2 h l1 l2).push { cls := .type "zip", data := .fields #[.none, .bool false, .bool false, .ref (zK2 k1 k2 h l1 l2).objs.size, .ref (zK3 k1 k2 h l1 l2).objs.size] }
section
variable {prog : Program} {w : World} {A : Around} {E : Value → Shared → Prop} {s : Shared}
end
section
variable {X : Cx}
def Itz (k1 k2 : Bool) (K : PySem.W.Frag) (a b : Addr) : It :=
  ⟨fun i H => ∃ xs ys x y, SqK k1 K H a xs ∧ SqK k2 K H b ys ∧ xs[i]? = some x ∧ ys[i]? = some y,
   fun i H v H' => ∃ t x y, v = .ref t ∧ H t = none ∧ H' = upd H t (.tup [x, y]) ∧ (∀ xs, SqK k1 K H a xs → xs[i]? = some x) ∧ ∀ ys, SqK k2 K H b ys → ys[i]? = some y,
   fun i H => ∃ xs ys, SqK k1 K H a xs ∧ SqK k2 K H b ys ∧ (xs.length ≤ i ∨ ys.length ≤ i)⟩
def iZip (k1 k2 : Bool) (K : PySem.W.Frag) (ta : TA) : TI := fun σ H R => ta σ H fun vs H1 => match vs with
  | [.ref a, .ref b] => (∃ xs, SqK k1 K H1 a xs) ∧ (∃ ys, SqK k2 K H1 b ys) ∧ R (Itz k1 k2 K a b) H1
  | _ => False
end
section
variable {X : Cx}
def dCatL : R2 := fun x y H Q => match x, y with
  | .ref l, .ref b => ∃ xs zs, H l = some (.lst xs) ∧ H b = some (.lst zs) ∧ xs.length + zs.length ≤ 1000 ∧ ∀ p H', Same H H' → H' p = some (.lst (xs ++ zs)) → Q (.ref p) H'
  | _, _ => False
theorem o_catL : OpR X (binaryOp .Add) dCatL := by
  intro pins s σ H x y v u Q I rx ry q
  cases x <;> cases y <;> first
    | exact False.elim q
    | (obtain ⟨xs, zs, h1, h2, h3, q⟩ := q
       exact op_cat _ _ _ _ _ _ _ _ _ I rx ry ⟨_, _, xs, zs, rfl, rfl, h1, h2, Nat.le_trans h3 (by decide), fun p hp => q p _ (same_upd hp) upd_same⟩)
def dSlL (K : PySem.W.Frag) : V → Option Int → Option Int → Hp → VK → Prop := fun x lo hi H Q => match x with
  | .ref a => ∃ xs, SqL K H a xs ∧ ∀ p H', Same H H' → H' p = some (.lst (cutV xs lo hi)) → Q (.ref p) H'
  | _ => False
theorem mem_cutV {xs : List V} {lo hi : Option Int} {v : V} (h : v ∈ cutV xs lo hi) : v ∈ xs := List.mem_of_mem_drop (List.mem_of_mem_take h)
end
def AllFq (n : Nat) (H : Hp) (vs : List V) : Prop := ∀ v ∈ vs, ∃ (p : Addr) (x : Q2), v = .ref p ∧ Fq n H p x.1 x.2
end Lw
end
section
set_option Elab.async false
set_option linter.all false
set_option maxRecDepth 100000
set_option maxHeartbeats 4000000
namespace Lw
open PySem PySem.Spec PyProof.Rows L2
section
variable {X : Cx} {pos : Pos}
def dD0 : TE := fun _ H Q => ∀ p H', Same H H' → H' p = some (.dK []) → Q (.ref p) H'
end
end Lw
end
section
set_option Elab.async false
set_option linter.all false
set_option maxRecDepth 100000
set_option maxHeartbeats 4000000
namespace Lw
open PySem PySem.Spec PyProof.Rows L2
section
variable {prog : Program} {w : World} {A : Around} {R : Result → Shared → Prop} {s : Shared}
theorem turn_eq (elt tg iter : Expr) (scope : Scope) (pos : Pos) (it acc : Value) (env : Env) :
    compTurn (.ListComp elt [⟨tg, iter, [], 0⟩] scope pos) 0 it acc env = (standAt iter.pos >>= fun _ => pyNext it >>= fun r => match r with
      | none => pure (.done .next)
      | some v => letOwnedTupleGo tg it v >>= fun _ => assign tg env v >>= fun _ => (eval elt env >>= fun x => call (.builtin "list.append") [acc, x] >>= fun _ => pure ()) >>= fun _ => again (.compLoop (.ListComp elt [⟨tg, iter, [], 0⟩] scope pos) 0 it acc env)) := rfl
theorem loop_comp {elt tg iter : Expr} {scope : Scope} {pos : Pos} {it acc : Value} {env : Env} (I : Nat → Shared → Prop)
    (turn : ∀ n s, I n s → wpAny (model prog w) A (pyNext it) (fun r s1 => (r = none ∧ R (.ok .next) s1) ∨ ∃ v, r = some v ∧ wpAny (model prog w) A (letOwnedTupleGo tg it v) (fun _ s2 => wpAny (model prog w) A (assign tg env v) (fun _ s3 =>
      wpAny (model prog w) A (eval elt env) (fun x s4 => wpAny (model prog w) A (call (.builtin "list.append") [acc, x]) (fun _ s5 => ∃ m, m < n ∧ I m s5) (fun _ _ => False) s4) (fun _ _ => False) s3) (fun _ _ => False) s2) (fun _ _ => False) s1) (fun _ _ => False) s)
    (n : Nat) (h : I n s) : codeAny (model prog w) A (.compLoop (.ListComp elt [⟨tg, iter, [], 0⟩] scope pos) 0 it acc env) R s := by
  refine codeAny_loop rfl I (fun n s hI => ?_) n h
  show wpAny _ _ ((compTurn (.ListComp elt [⟨tg, iter, [], 0⟩] scope pos) 0 it acc env).onRaise (fun x => do noteFrame x env; theTreesLotGoes x)) _ _ s
  refine wpAny_noted ?_
  rw [turn_eq]
  refine wpAny_bind (wpAny_standAt (wpAny_bind (wpAny_mono (turn n s hI) (fun r s1 h1 => ?_) fun _ _ z => z.elim)))
  rcases h1 with ⟨rfl, h1⟩ | ⟨v, rfl, h1⟩
  · exact wpAny_pure h1
  · refine wpAny_bind (wpAny_mono h1 (fun _ s2 h2 => ?_) fun _ _ z => z.elim)
    refine wpAny_bind (wpAny_mono h2 (fun _ s3 h3 => ?_) fun _ _ z => z.elim)
    refine wpAny_bind (wpAny_bind (wpAny_mono h3 (fun x s4 h4 => ?_) fun _ _ z => z.elim))
    refine wpAny_bind (wpAny_mono h4 (fun _ s5 h5 => ?_) fun _ _ z => z.elim)
    exact wpAny_pure (wpAny_pure ⟨rfl, h5⟩)
end
abbrev cxC (X : Cx) (N : List Str) (s₀ : Shared) (H₀ : Hp) (env : Env) (fp : List Addr) : Cx :=
  { X with N := N, s₀ := s₀, H₀ := H₀, env := env, outer := X.stack, ex := fp, fn := fun _ => false, pn := [], xe := fun _ _ => False }
structure Cap (X : Cx) (sc : Scope) (cl : List (Str × Addr)) (j : Nat) (y : Str) : Prop where
  nm : X.N[j]? = some y
  ko : X.env.kindOf y = some .cell
  ki : sc.names.lookup y = some .cell
  cl : cl.lookup y = X.env.cells.lookup y
def capσ (js : List Nat) (σ : L2.St) : L2.St := js.map fun j => (σ[j]?).join
@[irreducible] def CGoal (J : It) (g : TG) (te : TE) (k : Nat) (js : List Nat) (σ : L2.St) (H1 : Hp) (Q : VK) : Prop := ∀ D, H1 D = none → ∃ W : Nat → Nat → Hp → Prop, (∃ m, W 0 m (upd H1 D (.lst []))) ∧ ∀ i m H, W i m H →
  (J.stop i H ∧ Q (.ref D) H) ∨ (J.go i H ∧ ∀ x H', J.yld i H x H' → g x (List.replicate k none ++ capσ js σ) H' fun σ2 H2 => σ2.drop k = capσ js σ ∧ te σ2 H2 fun v H3 => ∃ xs, H3 D = some (.lst xs) ∧ xs.length < sizeLine ∧ ∃ m', m' < m ∧ W (i + 1) m' (upd H3 D (.lst (xs ++ [v]))))
def dComp (wi : TI) (g : TG) (te : TE) (k : Nat) (js : List Nat) : TE := fun σ H Q => wi σ H fun J H1 => CGoal J g te k js σ H1 Q
section
variable {X : Cx}
theorem comp_ok {pins : List (Addr × Obj)} {σ : L2.St} {H : Hp} {s : Shared} {N : List Str} {scope : Scope} {cl : List (Str × Addr)} {C : Addr} {fp : List Addr} (I : Inv X pins σ H s) (hk : scope.kind = .function) (hC : s.heap.objs.size ≤ C)
    (hcl : ∀ y c, cl.lookup y = some c → X.env.cells.lookup y = some c) (hhas : ∀ y, ((relabel scope X.env).names.lookup y = some .cell ∨ (relabel scope X.env).names.lookup y = some .free) → ∃ c, cl.lookup y = some c)
    (hf : ∀ b ∈ fp, FpOk X pins H b ∧ b < s.heap.objs.size) : (cxC X N s H (compEnvC scope cl C X.env) fp).Ok where
  mod := I.ok.mod
  kind := hk
  glob := I.ok.glob
  blt := I.ok.blt
  above := hC
  inj := fun x y c e1 e2 => I.ok.inj x y c (hcl x c e1) (hcl y c e2)
  has := fun x h => hhas x h
  cab := fun x c z => absurd z (by simp)
  hd := I.ok.hd
  frames := I.ok.frames
  stk := .inl rfl
  exf := fun b hb => ⟨Nat.ne_of_lt (Nat.lt_of_lt_of_le (hf b hb).2 hC), fun x c e => (hf b hb).1.2.2.2.2.1 x c (hcl x c e)⟩
  bs := I.bs
  bsz := Nat.le_trans I.ok.bsz I.sz
  noex := fun b o e hb => by
    rcases (hf b hb).1.2.2.2.1 with z | z
    · exact I.ok.noex b o e z
    · exact absurd (Nat.lt_of_lt_of_le (Heap.lt_size (I.ok.bs b o e).1) z) (Nat.lt_irrefl _)
  exfs := fun b hb hm => by
    rcases List.mem_cons.mp (I.stkSub b hm) with z | z
    · exact (hf b hb).1.2.1 z
    · exact (hf b hb).1.2.2.1 z
  funs := I.stack
  frf := I.stkFree
theorem comp_core {elt iter tg : Expr} {scope : Scope} {pos : Pos} {wi : TI} {te : TE} {g : TG} {N : List Str} {cl : List (Str × Addr)} (k : Nat) (js : List Nat) (hi : PI X tg iter wi)
    (hg : ∀ C s H fp, PG (cxC X N s H (compEnvC scope cl C X.env) fp) tg g) (he : ∀ C s H fp, PE (cxC X N s H (compEnvC scope cl C X.env) fp) elt te) (hcalm : X.calm = true)
    (hclos : closureFor scope X.env = pure cl) (hkind : scope.kind = .function) (hcell : ∀ y ∈ scope.names, y.2 ≠ .cell) (hnames : ∀ y ∈ scope.names, y.2 = .local → scope.names.lookup y.1 = some .local)
    (hcl : ∀ y c, cl.lookup y = some c → X.env.cells.lookup y = some c) (hhas : ∀ y, ((relabel scope X.env).names.lookup y = some .cell ∨ (relabel scope X.env).names.lookup y = some .free) → ∃ c, cl.lookup y = some c)
    (hlen : N.length = k + js.length) (hcap : ∀ i j, js[i]? = some j → ∃ y, N[k + i]? = some y ∧ Cap X (relabel scope X.env) cl j y)
    (hs : ∀ x, foldedSetIterable iter X.env x = pure x) {pins : List (Addr × Obj)} {s : Shared} {σ : L2.St} {H : Hp} {Q : VK} (I : Inv X pins σ H s) (h : dComp wi g te k js σ H Q) {cpos : Pos} {use : Option (Value → Sem Unit)} {Qv : Value → Shared → Prop}
    (fin : ∀ (s6 : Shared) (H5 : Hp) (D C : Addr) (m : Str → Option Value), Inv X pins σ H5 s6 → s6.heap.Ns C m → H5 C = none → X.s₀.heap.objs.size ≤ C → C ≠ X.env.locals → (∀ x c, X.env.cells.lookup x = some c → c ≠ C) → (∀ p ∈ X.pn ++ pins, p.1 ≠ C) → Q (.ref D) H5 →
      compPost (model X.prog X.w) X.A X.xe use Qv (.ref D) C (.ok .next) s6) :
    wpAny (model X.prog X.w) X.A (comprehension (.ListComp elt [⟨tg, iter, [], 0⟩] scope pos) scope X.env cpos (newList []) false (eval iter X.env) use) Qv X.xe s := by
  refine wpAny_comprehension_free (use := use) rfl hs hclos hkind hnames (thn (hi pins s σ H _ I h) fun v s1 h1 => thn h1 fun itv s2 h2 => ?_)
  obtain ⟨it, fp, tn, J, H2, rfl, I2, T, st2, f2, h2⟩ := h2
  refine wpAny_newObj_type ?_
  have hD : H2 s2.heap.objs.size = none := I2.hok.fresh (Nat.le_refl _)
  unfold CGoal at h2
  obtain ⟨W, ⟨m0, w0⟩, turn⟩ := h2 _ hD
  have I3 : Inv X pins σ (upd H2 s2.heap.objs.size (.lst [])) { s2 with heap := s2.heap.push { cls := .type "list", dict := none, data := .seq ([] : List Value).toArray } } :=
    I2.laid (t' := s2.toks) (fun b u e => Heap.get?_push_of_some _ e) (Nat.le_refl _) ⟨Nat.zero_le _, [], 0, .nil, Heap.get?_push_size _ rfl⟩
  have hlt : ∀ b ∈ fp, b < s2.heap.objs.size := fun b hb => by
    obtain ⟨o, e, _⟩ := T.obj _ _ st2 b hb
    exact Heap.lt_size e
  have f3 : ∀ b ∈ fp, FpOk X pins (upd H2 s2.heap.objs.size (.lst [])) b := fun b hb => ⟨by rw [upd_ne (Nat.ne_of_lt (hlt b hb))]; exact (f2 b hb).1, (f2 b hb).2⟩
  have st3 : tn 0 (s2.heap.push { cls := .type "list", dict := none, data := .seq ([] : List Value).toArray }) := T.keep _ _ _ st2 fun b hb o e => Heap.get?_push_of_some _ e
  have hlt3 : ∀ b ∈ fp, b < (s2.heap.push { cls := .type "list", dict := none, data := .seq ([] : List Value).toArray }).objs.size := fun b hb => Nat.lt_of_lt_of_le (hlt b hb) (by rw [Heap.size_push]; exact Nat.le_succ _)
  generalize hs3 : ({ s2 with heap := s2.heap.push { cls := .type "list", dict := none, data := .seq ([] : List Value).toArray } } : Shared) = s3 at I3
  have eh : s3.heap = s2.heap.push { cls := .type "list", dict := none, data := .seq ([] : List Value).toArray } := by rw [← hs3]
  rw [← eh] at st3 hlt3
  generalize hDD : s2.heap.objs.size = D at *
  generalize hH3 : upd H2 D (.lst []) = H3 at *
  clear hs3 eh
  refine wpAny_newFunctionEnv (s := s3) hcell (by intro y hy; simp at hy) (fun h4 n4 sb4 => ?_) hkind
  have Ok := comp_ok (N := N) (C := s3.heap.objs.size) I3 hkind (Nat.le_refl _) hcl hhas fun b hb => ⟨f3 b hb, hlt3 b hb⟩
  show codeAny _ _ (.compStart (.ListComp elt [⟨tg, iter, [], 0⟩] scope pos) 0 (.ref it) (.ref D) (compEnvC scope cl s3.heap.objs.size X.env)) _ _
  generalize hC : s3.heap.objs.size = C at *
  have old : ∀ b o, s3.heap.get? b = some o → h4.get? b = some o := fun b o e => sb4.extBut b o (by rw [← hC]; exact Nat.ne_of_lt (Heap.lt_size e)) (Heap.get?_push_of_some _ e)
  have fresh : H3 C = none := I3.hok.fresh (by rw [hC]; exact Nat.le_refl _)
  have hcapl : ∀ {i : Nat} {x : Str} {v : V}, N[i]? = some x → (List.replicate k none ++ capσ js σ)[i]? = some (some v) → ∃ u, L2.RelV v u ∧ Look (compEnvC scope cl C X.env) h4 (fun _ => none) x u := by
    intro i x v e1 e2
    by_cases hik : i < k
    · rw [List.getElem?_append_left (by simpa using hik)] at e2
      rw [List.getElem?_replicate] at e2
      simp [hik] at e2
    · rw [List.getElem?_append_right (by simpa using Nat.le_of_not_lt hik), List.length_replicate] at e2
      unfold capσ at e2
      rw [List.getElem?_map] at e2
      cases ej : js[i - k]? with
      | none =>
        rw [ej] at e2
        cases e2
      | some j =>
        rw [ej] at e2
        have e2 : (σ[j]?).join = some v := Option.some.inj e2
        obtain ⟨y, hy, cp⟩ := hcap _ _ ej
        rw [show k + (i - k) = i by omega, e1] at hy
        cases hy
        obtain ⟨m, _, hl⟩ := I3.loc
        have e3 : σ[j]? = some (some v) := by
          cases q : σ[j]? with
          | none =>
            rw [q] at e2
            cases e2
          | some o =>
            rw [q] at e2
            have : o = some v := e2
            rw [this]
        obtain ⟨u, ru, lk⟩ := hl j x v cp.nm e3 (.inr (.inl cp.ko))
        refine ⟨u, ru, ?_⟩
        rcases lk with ⟨z, _⟩ | ⟨_, c, hc, z⟩
        · rw [cp.ko] at z
          cases z
        · refine .inr ⟨.inl cp.ki, c, by rw [← hc]; exact cp.cl, ?_⟩
          obtain ⟨o, e, d⟩ := z
          exact ⟨o, old _ _ e, d⟩
  have I4 : Inv (cxC X N s3 H3 (compEnvC scope cl C X.env) fp) [] (List.replicate k none ++ capσ js σ) H3 { s3 with heap := h4, toks := s3.toks + ([] : List (Str × Value)).length } := by
    refine ⟨Ok, rfl, I3.bare, Un.kept old, ⟨_, n4, fun i x v e1 e2 e3 => ?_⟩, fun x c e => ?_, fresh, fun x c e => I3.freeC x c (hcl x c e), fun p hp => absurd hp (by simp), I3.hok.kept old, ?_⟩
    · obtain ⟨u, ru, lk⟩ := hcapl e1 e2
      refine ⟨u, ru, ?_⟩
      rcases lk with ⟨z, q⟩ | q
      · cases q
      · exact .inr q
    · obtain ⟨v, o, e1, d⟩ := I3.cell x c (hcl x c e)
      exact ⟨v, o, old _ _ e1, d⟩
    · simp [capσ, hlen]
  have fp4 : ∀ {H' : Hp}, (∀ b ∈ fp, H' b = none) → ∀ b ∈ fp, FpOk (cxC X N s3 H3 (compEnvC scope cl C X.env) fp) [] H' b := fun hn b hb =>
    ⟨hn b hb, (Ok.exf b hb).1, Ok.exfs b hb, .inl hb, fun x c e => (Ok.exf b hb).2 x c e, fun p hp => absurd hp (by simp)⟩
  have st4 : tn 0 h4 := T.keep _ _ _ st3 fun b hb o e => old b o e
  have run : ∀ s4 : Shared, s4 = { s3 with heap := h4, toks := s3.toks + ([] : List (Str × Value)).length } →
      codeAny (model X.prog X.w) X.A (.compLoop (.ListComp elt [⟨tg, iter, [], 0⟩] scope pos) 0 (.ref it) (.ref D) (compEnvC scope cl C X.env)) (compPost (model X.prog X.w) X.A X.xe use Qv (.ref D) C) s4 := by
    rintro s4 rfl
    refine loop_comp (fun n s' => ∃ i H' σ', Inv (cxC X N s3 H3 (compEnvC scope cl C X.env) fp) [] σ' H' s' ∧ (∀ j : Nat, ∀ v, (List.replicate k none ++ capσ js σ)[j]? = some (some v) → σ'[j]? = some (some v)) ∧ tn i s'.heap ∧ (∀ b ∈ fp, H' b = none) ∧ W i n H') ?_ m0
      ⟨0, H3, _, I4, fun _ _ z => z, st4, fun b hb => (f3 b hb).1, w0⟩
    rintro n s5 ⟨i, H5, σ5, I5, cap5, st5, fr5, w5⟩
    have I5' := I5.weak (σ' := List.replicate k none ++ capσ js σ) (by rw [I5.len]; simp [capσ, hlen]) cap5
    rcases turn i n H5 w5 with ⟨stop, q⟩ | ⟨go, step⟩
    · refine thn (T.done (cxC X N s3 H3 (compEnvC scope cl C X.env) fp) rfl rfl rfl hcalm i [] s5 σ5 H5 _ I5 (fp4 fr5) st5 stop) fun r s6 ⟨hr, I6⟩ => .inl ⟨hr, ?_⟩
      obtain ⟨m6, n6, _⟩ := I6.loc
      have hCf : H5 C = none := I6.free
      have u6 := I6.base
      have uC : Un (frs X.stack) fp H3 H5 s3.heap s6.heap := ⟨u6.keep, u6.slot, u6.free, u6.there, u6.tups, u6.frzs, u6.tbls⟩
      have I7 : Inv X pins σ H5 s6 := I3.call' (s' := s6) I6.os uC I6.hok I6.bare fun b hb => ⟨(f3 b hb).2.2.2.1, (f3 b hb).2.1, (f3 b hb).2.2.2.2.1, (f3 b hb).2.2.2.2.2⟩
      have lt3 : ∀ b o, s3.heap.get? b = some o → b ≠ C := fun b o e => by rw [← hC]; exact Nat.ne_of_lt (Heap.lt_size e)
      refine fin s6 H5 D C m6 I7 n6 hCf (by rw [← hC]; exact I3.sz) (by rw [← hC]; exact Nat.ne_of_gt I3.lt) (fun x c e => ?_) (fun p hp => lt3 p.1 p.2 (I3.pin p hp).1) q
      obtain ⟨v, o, e1, _⟩ := I3.cell x c e
      exact lt3 c o e1
    · refine thn (T.item (cxC X N s3 H3 (compEnvC scope cl C X.env) fp) rfl rfl rfl hcalm i [] s5 _ H5 _ I5' (fp4 fr5) st5 go) fun r s6 ⟨u, hr, h6⟩ => .inr ⟨u, hr, ?_⟩
      refine thn h6 fun _ s7 ⟨x, H7, I7, r7, y7, st7, fr7⟩ => ?_
      have I7' := I7.pinned (fp4 fr7) (T.obj _ _ st7)
      refine thn (hg C s3 H3 fp _ s7 _ H7 x u _ I7' r7 (step x H7 y7)) fun _ s8 ⟨σ8, H8, I8, d8, q8⟩ => ?_
      refine thn (he C s3 H3 fp _ s8 σ8 H8 _ I8 q8) fun vv s9 ⟨vx, H9, I9, r9, xs, hx9, hz9, m', hm', w9⟩ => ?_
      obtain ⟨z9, its, n9, rl, e9⟩ := (show ObjOk X.prog X.w H9 s9.heap D (.lst xs) from I9.hok D _ hx9)
      have app := mt_append (X := cxC X N s3 H3 (compEnvC scope cl C X.env) fp) _ s9 σ8 H9 (.ref D) [vx] (.ref D) [vv] (fun _ H' => H' = upd H9 D (.lst (xs ++ [vx]))) I9 rfl (.cons r9 .nil) ⟨D, xs, vx, rfl, rfl, hx9, hz9, rfl⟩
      refine thn app fun _ s10 ⟨_, H10, I10, _, e10⟩ => ?_
      subst e10
      refine ⟨m', hm', i + 1, _, σ8, I10.unpinned (pins := []), ?_, T.keep _ _ _ st7 fun b hb o e => (I10.pin (b, o) (List.mem_append_right _ (List.mem_append_right _ (mem_pinsAt hb e)))).1, fun b hb => ?_, w9⟩
      · intro j v e
        by_cases hjk : j < k
        · rw [List.getElem?_append_left (by simpa using hjk), List.getElem?_replicate] at e
          simp [hjk] at e
        · rw [List.getElem?_append_right (by simpa using Nat.le_of_not_lt hjk), List.length_replicate, ← d8, List.getElem?_drop] at e
          rw [show k + (j - k) = j by omega] at e
          exact e
      · obtain ⟨o, e, d⟩ := T.obj _ _ st7 b hb
        exact (I10.pin (b, o) (List.mem_append_right _ (List.mem_append_right _ (mem_pinsAt hb e)))).2.1
  exact codeAny_compStart_list (run _ rfl) (T.self X.A 0 _ _ _ st4 (run _ rfl))
theorem e_comp {elt iter tg : Expr} {scope : Scope} {pos : Pos} {wi : TI} {te : TE} {g : TG} {N : List Str} {cl : List (Str × Addr)} (k : Nat) (js : List Nat) (hi : PI X tg iter wi)
    (hg : ∀ C s H fp, PG (cxC X N s H (compEnvC scope cl C X.env) fp) tg g) (he : ∀ C s H fp, PE (cxC X N s H (compEnvC scope cl C X.env) fp) elt te) (hcalm : X.calm = true)
    (hclos : closureFor scope X.env = pure cl) (hkind : scope.kind = .function) (hcell : ∀ y ∈ scope.names, y.2 ≠ .cell) (hnames : ∀ y ∈ scope.names, y.2 = .local → scope.names.lookup y.1 = some .local)
    (hcl : ∀ y c, cl.lookup y = some c → X.env.cells.lookup y = some c) (hhas : ∀ y, ((relabel scope X.env).names.lookup y = some .cell ∨ (relabel scope X.env).names.lookup y = some .free) → ∃ c, cl.lookup y = some c)
    (hlen : N.length = k + js.length) (hcap : ∀ i j, js[i]? = some j → ∃ y, N[k + i]? = some y ∧ Cap X (relabel scope X.env) cl j y)
    (hs : ∀ x, foldedSetIterable iter X.env x = pure x := by intro _; rfl) : PE X (.ListComp elt [⟨tg, iter, [], 0⟩] scope pos) (dComp wi g te k js) := by
  intro pins s σ H Q I h
  rw [eval_ListComp]
  refine comp_core k js hi hg he hcalm hclos hkind hcell hnames hcl hhas hlen hcap hs I h fun s6 H5 D C m I6 n6 z1 z2 z3 z4 z5 q => ⟨m, n6, fun h7 sb7 => ⟨.ref D, H5, ?_, rfl, q⟩⟩
  exact I6.turned (t' := s6.toks) (fun b o hb e => (sb7.2 b hb).trans e) z1 z3.symm.symm (.inr z2) z4 z5
def CapL (X : Cx) (sc : Scope) (cl : List (Str × Addr)) : List Str → List Nat → Prop
  | y :: ys, j :: js => Cap X sc cl j y ∧ CapL X sc cl ys js
  | [], [] => True
  | _, _ => False
theorem CapL.len {sc : Scope} {cl : List (Str × Addr)} : ∀ {ys : List Str} {js : List Nat}, CapL X sc cl ys js → ys.length = js.length
  | [], [], _ => rfl
  | _ :: _, _ :: _, h => congrArg (· + 1) (CapL.len h.2)
  | [], _ :: _, h => h.elim
  | _ :: _, [], h => h.elim
theorem CapL.at {sc : Scope} {cl : List (Str × Addr)} : ∀ {ys : List Str} {js : List Nat}, CapL X sc cl ys js → ∀ (i j : Nat), js[i]? = some j → ∃ y, ys[i]? = some y ∧ Cap X sc cl j y
  | [], [], _, i, j, e => by simp at e
  | y :: ys, j :: js, h, 0, j', e => by
    cases e
    exact ⟨y, rfl, h.1⟩
  | y :: ys, j :: js, h, i + 1, j', e => CapL.at h.2 i j' (by simpa using e)
  | [], _ :: _, h, _, _, _ => h.elim
  | _ :: _, [], h, _, _, _ => h.elim
def CellL (cells : List (Str × Addr)) : List (Str × Addr) → Prop
  | [] => True
  | (y, c) :: r => cells.lookup y = some c ∧ CellL cells r
theorem CellL.at {cells : List (Str × Addr)} : ∀ {cl : List (Str × Addr)}, CellL cells cl → ∀ y c, cl.lookup y = some c → cells.lookup y = some c
  | [], _, y, c, e => by simp at e
  | (z, d) :: r, h, y, c, e => by
    rw [List.lookup_cons] at e
    cases q : y == z with
    | true =>
      rw [q] at e
      cases e
      rw [eq_of_beq q]
      exact h.1
    | false =>
      rw [q] at e
      exact CellL.at h.2 y c e
theorem lookup_has {y : Str} : ∀ {cl : List (Str × Addr)}, (cl.map (·.1)).contains y = true → ∃ c, cl.lookup y = some c
  | [], h => by simp at h
  | (z, d) :: r, h => by
    rw [List.lookup_cons]
    cases q : y == z with
    | true => exact ⟨d, rfl⟩
    | false =>
      refine lookup_has (cl := r) ?_
      rw [List.map_cons, List.contains_cons, q, Bool.false_or] at h
      exact h
theorem relabel_has {env : Env} {y : Str} : ∀ {names : List (Str × NameKind)} {k : NameKind}, (names.map fun (n, k) => if (k == NameKind.free && env.scope.kind == .function && env.kindOf n == some .cell) then (n, NameKind.cell) else (n, k)).lookup y = some k →
    (k = .cell ∨ k = .free) → ∃ z ∈ names, z.1 = y ∧ (z.2 = .free ∨ z.2 = .cell)
  | [], _, h, _ => by simp at h
  | (n, kd) :: r, k, h, hk => by
    rw [List.map_cons] at h
    by_cases hc : (kd == NameKind.free && env.scope.kind == .function && env.kindOf n == some .cell) = true
    · rw [show (match (n, kd) with | (n, k) => if (k == NameKind.free && env.scope.kind == .function && env.kindOf n == some .cell) = true then (n, NameKind.cell) else (n, k)) = (n, NameKind.cell) from if_pos hc, List.lookup_cons] at h
      cases q : y == n with
      | true =>
        rw [Bool.and_eq_true, Bool.and_eq_true] at hc
        exact ⟨(n, kd), List.mem_cons_self, (eq_of_beq q).symm, .inl (eq_of_beq hc.1.1)⟩
      | false =>
        rw [q] at h
        obtain ⟨z, hz, r1⟩ := relabel_has (names := r) h hk
        exact ⟨z, List.mem_cons_of_mem _ hz, r1⟩
    · rw [show (match (n, kd) with | (n, k) => if (k == NameKind.free && env.scope.kind == .function && env.kindOf n == some .cell) = true then (n, NameKind.cell) else (n, k)) = (n, kd) from if_neg hc, List.lookup_cons] at h
      cases q : y == n with
      | true =>
        rw [q] at h
        cases h
        exact ⟨(n, kd), List.mem_cons_self, (eq_of_beq q).symm, hk.symm⟩
      | false =>
        rw [q] at h
        obtain ⟨z, hz, r1⟩ := relabel_has (names := r) h hk
        exact ⟨z, List.mem_cons_of_mem _ hz, r1⟩
theorem e_compN {elt iter tg : Expr} {scope : Scope} {pos : Pos} {wi : TI} {te : TE} {g : TG} {cl : List (Str × Addr)} (own ys : List Str) (js : List Nat) (hclos : closureFor scope X.env = pure cl) (hi : PI X tg iter wi)
    (hg : ∀ C s H fp, PG (cxC X (own ++ ys) s H (compEnvC scope cl C X.env) fp) tg g) (he : ∀ C s H fp, PE (cxC X (own ++ ys) s H (compEnvC scope cl C X.env) fp) elt te) (hcalm : X.calm = true) (hkind : scope.kind = .function)
    (hcell : (scope.names.all fun y => y.2 != .cell) = true) (hnames : (scope.names.all fun y => y.2 != .local || scope.names.lookup y.1 == some .local) = true) (hfr : (scope.names.all fun y => y.2 != .free || (cl.map (·.1)).contains y.1) = true)
    (hcl : CellL X.env.cells cl) (hcap : CapL X (relabel scope X.env) cl ys js) (hs : ∀ x, foldedSetIterable iter X.env x = pure x := by intro _; rfl) :
    PE X (.ListComp elt [⟨tg, iter, [], 0⟩] scope pos) (dComp wi g te own.length js) := by
  rw [List.all_eq_true] at hcell hnames hfr
  have hc : ∀ y ∈ scope.names, y.2 ≠ .cell := fun y hy z => by
    have := hcell y hy
    rw [z] at this
    cases this
  refine e_comp own.length js hi hg he hcalm hclos hkind hc (fun y hy z => ?_) hcl.at (fun y h => ?_) (by rw [List.length_append, hcap.len]) (fun i j e => ?_) hs
  · have := hnames y hy
    rw [z] at this
    simpa using this
  · obtain ⟨z, hz, rfl, hk⟩ : ∃ z ∈ scope.names, z.1 = y ∧ (z.2 = .free ∨ z.2 = .cell) := by
      rcases h with h | h
      · exact relabel_has h (.inl rfl)
      · exact relabel_has h (.inr rfl)
    rcases hk with hk | hk
    · have := hfr z hz
      rw [hk] at this
      exact lookup_has (by simpa using this)
    · exact absurd hk (hc z hz)
  · obtain ⟨y, h1, h2⟩ := hcap.at i j e
    exact ⟨y, by rw [List.getElem?_append_right (Nat.le_add_right _ _), Nat.add_sub_cancel_left]; exact h1, h2⟩
end
end Lw
end
section
set_option Elab.async false
set_option linter.all false
set_option maxRecDepth 100000
set_option maxHeartbeats 4000000
namespace Lw
open PySem PySem.Spec PyProof.Rows L2
section
variable {X : Cx} {pos p2 p3 p4 : Pos} {e : Expr} {te : TE}
def dSlS : V → Option Int → Option Int → Hp → VK → Prop := fun x lo hi H Q => match x with
  | .str z => z.length ≤ sizeLine ∧ Q (.str (Txt.slice z lo hi)) H
  | _ => False
theorem sl_str : SlR X dSlS := by
  intro pins s σ H x v vl vu lo hi sl Q I rx hs pl pu h
  cases x <;> first
    | exact False.elim h
    | (obtain ⟨hz, q⟩ := h
       obtain ⟨t, rfl⟩ := rx
       refine ⟨"str", _, F.slot_str_getitem.lookup, typeIs_str _ _ _, ?_⟩
       cases pl <;> cases pu
       · exact wpAny_getItem_str_slice (l := none) (u := none) (st := none) hs rfl (post_val_or_str ⟨Nat.le_trans (Txt.slice_le _ _ _) hz, fun t' k => ⟨.str _, H, I.tok _, ⟨_, rfl⟩, q⟩⟩)
       · exact wpAny_getItem_str_slice (l := none) (u := some (_, _)) (st := none) hs rfl (post_val_or_str ⟨Nat.le_trans (Txt.slice_le _ _ _) hz, fun t' k => ⟨.str _, H, I.tok _, ⟨_, rfl⟩, q⟩⟩)
       · exact wpAny_getItem_str_slice (l := some (_, _)) (u := none) (st := none) hs rfl (post_val_or_str ⟨Nat.le_trans (Txt.slice_le _ _ _) hz, fun t' k => ⟨.str _, H, I.tok _, ⟨_, rfl⟩, q⟩⟩)
       · exact wpAny_getItem_str_slice (l := some (_, _)) (u := some (_, _)) (st := none) hs rfl (post_val_or_str ⟨Nat.le_trans (Txt.slice_le _ _ _) hz, fun t' k => ⟨.str _, H, I.tok _, ⟨_, rfl⟩, q⟩⟩))
def dAddS : R2 := fun x y H Q => match x, y with
  | .str i, .str j => i.length + j.length ≤ sizeLine ∧ Q (.str (i ++ j)) H
  | _, _ => False
theorem o_addS : OpR X (binaryOp .Add) dAddS := by
  intro pins s σ H x y v u Q I rx ry q
  cases x <;> cases y <;> first
    | exact False.elim q
    | exact op_add_str _ _ _ _ _ _ _ _ _ I rx ry ⟨_, _, rfl, rfl, q.1, q.2⟩
def dIxS : R2 := fun x y H Q => match x, y with
  | .str z, .int i => ∃ c, z.length ≤ sizeLine ∧ atI z.cps.toList i = some c ∧ Q (.str ⟨#[c]⟩) H
  | _, _ => False
theorem i_str : IxR X dIxS := by
  intro value slice pins s σ H x y v u Q I rx ry h hs
  cases x <;> cases y <;> first
    | exact False.elim h
    | (obtain ⟨c, h1, h2, q⟩ := h
       exact ix_str value slice pins s σ H _ _ v u Q I rx ry ⟨_, _, c, rfl, rfl, h1, h2, q⟩ hs)
theorem strs_of : ∀ {ys : List Str} {us : List Value}, Vals (ys.map V.str) us → StrsAre us ys
  | [], _, r => by
    cases r
    exact .nil
  | y :: ys, _, r => by
    cases r with
    | cons r1 r2 =>
      obtain ⟨t, rfl⟩ := r1
      exact .cons y t (strs_of r2)
def dJoin (K : PySem.W.Frag) : V → List V → Hp → VK → Prop := fun x xs H Q => match x, xs with
  | .str sep, [.ref p] => ∃ ys : List Str, SqL K H p (ys.map V.str) ∧ (ys.map (·.length)).sum + ys.length * sep.length ≤ 16777216 ∧ Q (.str (Txt.join sep ys)) H
  | _, _ => False
def dListOf (K : PySem.W.Frag) : List V → Hp → VK → Prop := fun xs H Q => match xs with
  | [.ref p] => ∃ ys, (SqL K H p ys ∨ SqT K H p ys) ∧ ∀ l H', Same H H' → H' l = some (.lst ys) → Q (.ref l) H'
  | _ => False
def dTupOf (K : PySem.W.Frag) : List V → Hp → VK → Prop := fun xs H Q => match xs with
  | [.ref p] => ∃ ys, SqL K H p ys ∧ ∀ l H', Same H H' → H' l = some (.tup ys) → Q (.ref l) H'
  | _ => False
def dInS (K : PySem.W.Frag) : R2 := fun x y H Q => match y with
  | .ref p => ∃ xs, (SqL K H p xs ∨ SqT K H p xs) ∧ flatV x = true ∧ xs.all flatV = true ∧ Q (.bl (inV x xs)) H
  | _ => False
theorem o_in : OpR X (compareOp .In) (dInS X.K) := by
  intro pins s σ H x y v u Q I rx ry q
  cases y <;> first
    | exact False.elim q
    | (obtain ⟨xs, h1, h2, h3, q⟩ := q
       exact op_in_seq _ _ _ _ _ _ _ _ _ I rx ry ⟨_, xs, rfl, h1, h2, h3, q⟩)
def dRev (K : PySem.W.Frag) (te : TE) : TE := fun σ H Q => te σ H fun x H1 => match x with
  | .ref a => ∃ xs, SqL K H1 a xs ∧ ∀ p H', Same H1 H' → H' p = some (.lst xs.reverse) → Q (.ref p) H'
  | _ => False
end
end Lw
end
section
set_option Elab.async false
set_option linter.all false
set_option maxRecDepth 100000
set_option maxHeartbeats 4000000
namespace Lw
open PySem PySem.Spec PyProof.Rows L2
def co (x : Str) : List Nat := x.cps.toList
theorem co_len (x : Str) : (co x).length = x.length := by simp [co, Str.length]
theorem co_app (x y : Str) : co (x ++ y) = co x ++ co y := by
  show (x.cps ++ y.cps).toList = x.cps.toList ++ y.cps.toList
  rw [Array.toList_append]
theorem len_app (x y : Str) : (x ++ y).length = x.length + y.length := by
  rw [← co_len, co_app, List.length_append, co_len, co_len]
theorem rng_gen (a b : Nat) : sliceRange (a : Int) (b : Int) 1 = (List.range (b - a)).map (fun k => a + k) := by
  unfold sliceRange
  simp only [show ((1 : Int) > 0) = True from by simp, if_true]
  by_cases h : (a : Int) < b
  · have e3 : (((b : Int) - a + 1 - 1) / 1).toNat = b - a := by omega
    simp only [h, if_true, e3]
    refine List.map_congr_left fun k _ => ?_
    omega
  · have : b - a = 0 := by omega
    simp [h, this]
theorem clip_gen (n d : Nat) (i : Int) : max (0 : Int) (min (if i < 0 then i + (n : Int) else i) (n : Int)) = ((HT.sIx n d (some i) : Nat) : Int) := by
  show _ = (((if i < 0 then (i + (n : Int)).toNat else min i.toNat n) : Nat) : Int)
  by_cases h : i < 0
  · simp only [if_pos h]; omega
  · simp only [if_neg h]; omega
theorem idx_gen (lo hi : Option Int) (n : Nat) : Builtin.Str.strSliceIndices lo hi 1 n = (List.range (HT.sIx n n hi - HT.sIx n 0 lo)).map (fun k => HT.sIx n 0 lo + k) := by
  rw [← rng_gen]
  unfold Builtin.Str.strSliceIndices
  simp only [show ((1 : Int) > 0) = True from by simp, if_true]
  cases lo with
  | none =>
    cases hi with
    | none => rfl
    | some j =>
      show sliceRange 0 (max (0 : Int) (min (if j < 0 then j + (n : Int) else j) (n : Int))) 1 = _
      rw [clip_gen n n j]
      rfl
  | some i =>
    cases hi with
    | none =>
      show sliceRange (max (0 : Int) (min (if i < 0 then i + (n : Int) else i) (n : Int))) (n : Int) 1 = _
      rw [clip_gen n 0 i]
      rfl
    | some j =>
      show sliceRange (max (0 : Int) (min (if i < 0 then i + (n : Int) else i) (n : Int))) (max (0 : Int) (min (if j < 0 then j + (n : Int) else j) (n : Int))) 1 = _
      rw [clip_gen n 0 i, clip_gen n n j]
theorem co_slice (x : Str) (lo hi : Option Int) : co (Txt.slice x lo hi) = ((co x).drop (HT.sIx x.length 0 lo)).take (HT.sIx x.length x.length hi - HT.sIx x.length 0 lo) := by
  have ha := HT.sIx_le x.length 0 (Nat.zero_le _) lo
  have hb := HT.sIx_le x.length x.length (Nat.le_refl _) hi
  have hl := co_len x
  unfold Txt.slice
  rw [idx_gen]
  generalize HT.sIx x.length 0 lo = a at *
  generalize HT.sIx x.length x.length hi = b at *
  split
  · rename_i h
    have h2 : b - a = x.length := by simpa using h
    have a0 : a = 0 := by omega
    subst a0
    rw [List.drop_zero, List.take_of_length_le (by omega)]
  · have p := StrLaws.picks (co x) (b - a) a (by omega)
    rw [← p]
    show (List.filterMap _ _).toArray.toList = _
    rw [List.toList_toArray]
    congr 1
    funext k
    show x.cps[k]? = x.cps.toList[k]?
    rw [Array.getElem?_toList]
theorem co_to {x : Str} {j : Nat} (h : j ≤ x.length) : co (Txt.slice x none (some (j : Int))) = (co x).take j := by
  rw [co_slice, HT.sIx_none, HT.sIx_nat, Nat.min_eq_left h, List.drop_zero, Nat.sub_zero]
theorem co_from {x : Str} {i : Nat} (h : i ≤ x.length) : co (Txt.slice x (some (i : Int)) none) = (co x).drop i := by
  rw [co_slice, HT.sIx_none, HT.sIx_nat, Nat.min_eq_left h, List.take_of_length_le]
  rw [List.length_drop, co_len]
  exact Nat.le_refl _
def abc : Str := Str.ofString "abcdefghijklmnopqrstuvwxyz"
def lt (n : Int) : Nat := 97 + (n % 26).toNat
structure Nm (x : Str) : Prop where
  len1 : 1 ≤ (co x).length
  len8 : (co x).length ≤ 8
  abc : ∀ c ∈ co x, 97 ≤ c ∧ c < 123
theorem ok_of {x : Str} (h : ∀ c ∈ co x, c < 1114112) : PyData.strOk x = true := by
  unfold PyData.strOk
  rw [← Array.all_toList, List.all_eq_true]
  exact fun c hc => decide_eq_true (h c hc)
def baseL (fi : Int) : List Nat := ((List.range 8).map fun j : Nat => [lt (fi + (j : Int) * j)]).flatten
def nameA (L : List Nat) (k : Nat) : List Nat := L.take (k + 1)
def nameB (L : List Nat) (at' sz : Nat) (fi : Int) (k : Nat) : List Nat := L.take at' ++ [lt (fi + (at' : Int) * at' + (k : Int))] ++ (L.drop (at' + 1)).take (sz - (at' + 1))
end Lw
end
section
set_option Elab.async false
set_option linter.all false
set_option maxRecDepth 100000
set_option maxHeartbeats 4000000
set_option autoImplicit false
namespace Lw
open PySem PySem.Spec PyProof.Rows L2
def vB : List Value := [.type "ValueError", .type "Exception", .type "BaseException", .type "object"]
structure ExcC (K : PySem.W.Frag) (C : Addr) : Prop where
  nw : PySem.W.excIn K C vB "ValueError.__new__" = true
  ga : PySem.W.findIn K (.ref C) "__getattribute__" = some (some (.builtin "BaseException.__getattribute__"))
  gn : PySem.W.findIn K (.ref C) "__getattr__" = some none
  cl : PySem.W.findIn K (.ref C) "__class__" = some (some (.builtin "object.__class__"))
  mo : PySem.W.mroIn K C (.type "object") = some true
  mb : PySem.W.mroIn K C (.type "BaseException") = some true
theorem own_cls {K : PySem.W.Frag} {h : Heap} {mg : Str → Option Value} {x : Str} {C : Addr} {bmB : List Value} {newId : String} (X : K.In h) (b : mg x = some (.ref C)) (q : PySem.W.excIn K C bmB newId = true) : OwnCls x C bmB newId mg h := by
  refine ⟨b, ?_⟩
  unfold PySem.W.excIn at q
  split at q
  · rename_i d0 cd sl lk
    split at q
    · rename_i C' bm a0 a1 a2 a3 n a5 hm hs
      simp only [Bool.and_eq_true, beq_iff_eq, Bool.not_eq_true'] at q
      obtain ⟨⟨⟨⟨⟨e1, e2⟩, hdel⟩, ht⟩, hok⟩, hni⟩ := q
      subst e1 e2
      obtain ⟨nm, bs, mro, ns, qn, hd, sn, sub, ab, col, del⟩ := cd
      dsimp only at hm hdel hok hni
      subst hm hdel
      have e : sl = #[a0, a1, a2, a3, some (.builtin n), a5] := by
        obtain ⟨l⟩ := sl
        simp only at hs
        rw [hs]
      subst e
      have N0 : h.isNs ns = true := PySem.W.isNs_of_in X hok
      exact ⟨bm, ns, nm, qn, bs, hd, sn, sub, ab, col, d0, a0, a1, a2, a3, a5, _, X _ _ lk, .of_isNs N0, PySem.W.nsMap_none_of_in X hok hni, PySem.W.tail_of_in X ht⟩
    · cases q
  · cases q
def tRaise (E : XK) (cls : Value) : TS := fun _ _ H => E cls none H
section
variable {P : Program} {w : World} {K : PySem.W.Frag} {mg : Str → Option Value} {base : Heap} {N : List Str} {qual : Str} {scope : Scope} {f : Addr} {cd : Value} {A : Around} {outer : List Env} {s₀ : Shared} {H₀ : Hp} {E : XK}
theorem ps_raise {x : Str} {C : Addr} {np cpos pos p : Pos} {txt : Str} {j : Nat} (hb : mg x = some (.ref C)) (c : ExcC K C) (hg : Gl (cxOf (CXE P w) P w K mg base N qual scope f cd A outer s₀ H₀ E) x) (hd : (x == ("__debug__" : Str)) = false := by decide) :
    PS (cxOf (CXE P w) P w K mg base N qual scope f cd A outer s₀ H₀ E) (.Raise (some (.Call (.Name x np) [.Constant (.str txt) j p] [] cpos)) none pos) (tRaise E (.ref C)) := by
  intro pins s σ H D I h
  have O := own_cls (h := s.heap) I.kIn hb c.nw
  obtain ⟨tl, ns, nm, q, bs, hdct, sn, sub, ab, col, dd, k0, k1, k2, k3, k5, mN, hC, hN, hni, T⟩ := O.obj
  have FB := PySem.F.excBase_ValueError
  refine wpAny_Raise_call_subT (C := C) (nm := nm) (q := q) (N := ns) (bs := bs) (bm := tl) (hdct := hdct) (sn := sn) (sub := sub) (ab := ab) (col := col) (dd := dd) (k0 := k0) (k1 := k1) (k2 := k2) (k3 := k3) (k5 := k5)
    (mN := mN) FB (T.hasType FB.hasBase) (I.ok.hd rfl) rfl hni (ld_glob I hg hb ⟨rfl, ?_⟩ hd)
  refine Calls.evalArgs_plain ?_
  refine spliced_more (Calls.Constant_str (Calls.spliced_nil ?_))
  exact ⟨rfl, (by show 1 ≤ sizeLine; decide), hC, hN, T, fun h' e hx => raiseX (I.tok _) hx h⟩
end
def dCallX (sp : Sp) (E : XK) (t : TA) : TE := fun σ H Q => t σ H fun vs H1 => sp vs H1 Q E
section
variable {P : Program} {w : World} {K : PySem.W.Frag} {mg : Str → Option Value} {base : Heap} {N : List Str} {qual : Str} {scope : Scope} {f : Addr} {cd : Value} {A : Around} {outer : List Env} {s₀ : Shared} {H₀ : Hp} {E : XK}
theorem e_callX {x : Str} {ps : List Str} {k k' : Nat} {sp : Sp} {p pos : Pos} {e : Expr} {es : List Expr} {t : TA} (C : Cal P w K mg base x ps k sp) (hr : Room k' (cxOf (CXE P w) P w K mg base N qual scope f cd A outer s₀ H₀ E).A) (hk : k ≤ k') (hg : Gl (cxOf (CXE P w) P w K mg base N qual scope f cd A outer s₀ H₀ E) x)
    (ha : PA (cxOf (CXE P w) P w K mg base N qual scope f cd A outer s₀ H₀ E) (e :: es) t) (hdb : (x == ("__debug__" : Str)) = false := by decide)
    (he : starEach (e :: es) (cxOf (CXE P w) P w K mg base N qual scope f cd A outer s₀ H₀ E).env = (false, eval e (cxOf (CXE P w) P w K mg base N qual scope f cd A outer s₀ H₀ E).env) :: starEach es (cxOf (CXE P w) P w K mg base N qual scope f cd A outer s₀ H₀ E).env := by rfl)
    (hpl : (backTo pos (starEach es (cxOf (CXE P w) P w K mg base N qual scope f cd A outer s₀ H₀ E).env)).any (·.1) = false := by rfl) :
    PE (cxOf (CXE P w) P w K mg base N qual scope f cd A outer s₀ H₀ E) (.Call (.Name x p) (e :: es) [] pos) (dCallX sp E t) := by
  obtain ⟨f', fd, h1, h2, h3, h4, _⟩ := C.ex
  have z := pe_call (X := cxOf (CXE P w) P w K mg base N qual scope f cd A outer s₀ H₀ E) (pos := pos) (p := p) (h4.mono hk) hr hg h1 h2 h3 .nil (passX (E := E)) ha hdb he hpl
  have e1 : tCall sp [] E t = dCallX sp E t := by
    funext σ H Q
    unfold tCall dCallX
    simp only [List.append_nil]
  rw [e1] at z
  exact z
end
def ExcAt (a C : Addr) : Heap → Prop := fun h => ∃ o vs, h.get? a = some o ∧ o.cls = .ref C ∧ o.data = .fields vs
section
variable {prog : Program} {w : World} {A : Around} {E : Value → Shared → Prop} {K : PySem.W.Frag} {x C : Addr}
end
section
variable {X : Cx}
def dIsiX (K : PySem.W.Frag) : List V → Hp → VK → Prop := fun xs H Q => match xs with
  | [.ref p, .ref D] => ∃ C b, H p = some (.ext (ExcAt p C)) ∧ ExcC K C ∧ PySem.W.kitOne K (.ref C) (.ref D) = some b ∧ Q (.bl b) H
  | [.ref p, .ty T] => ∃ C b, H p = some (.ext (ExcAt p C)) ∧ ExcC K C ∧ PySem.W.kitOne K (.ref C) (.type T) = some b ∧ Q (.bl b) H
  | _ => False
def dIsiT (K : PySem.W.Frag) : List V → Hp → VK → Prop := fun xs H Q => match xs with
  | [.ref p, .ref t] => ∃ (C : Addr) (b : Bool) (ds : List Addr), H p = some (.ext (ExcAt p C)) ∧ ExcC K C ∧ H t = some (.tup (ds.map V.ref)) ∧ PySem.W.kitAny K (.ref C) (ds.map Value.ref) = some b ∧ Q (.bl b) H
  | _ => False
end
section
variable {X : Cx} {pins : List (Addr × Obj)} {σ : L2.St} {H : Hp} {s : Shared}
end
abbrev cxM (X : Cx) (v : Value) : Cx := { X with A := X.A.mark (some v), calm := false, xe := fun _ _ => False }
section
variable {X : Cx} {pins : List (Addr × Obj)} {σ : L2.St} {H : Hp} {s : Shared}
end
structure Cat (K : PySem.W.Frag) (D : Addr) : Prop where
  lk : ∃ dd cd sl, K.lookup D = some ⟨.type "type", dd, .cls cd, sl⟩
  mb : PySem.W.mroIn K D (.type "BaseException") = some true
def tTry (K : PySem.W.Frag) (ta : TA) (sp : Sp) (D' : Addr) (n : Nat) (tu : TS) : TS := fun D σ H => ta σ H fun vs H1 => sp vs H1 (fun _ H2 => D.nx σ H2) fun cls _ H2 => ∃ C, cls = .ref C ∧ ExcC K C ∧ PySem.W.mroIn K C (.ref D') = some true ∧
  ∀ a H3, Same H2 H3 → H3 a = some (.ext (ExcAt a C)) → tu { nx := fun σ' H' => D.nx (σ'.set n none) H', rt := D.rt, bk := fun σ' H' => D.bk (σ'.set n none) H', ct := fun σ' H' => D.ct (σ'.set n none) H' } (σ.set n (some (.ref a))) H3
section
variable {X : Cx} {pins : List (Addr × Obj)} {σ : L2.St} {H H' : Hp} {s s' : Shared}
end
end Lw
end
section
set_option Elab.async false
set_option linter.all false
set_option maxRecDepth 100000
set_option maxHeartbeats 4000000
namespace Lw
open PySem PySem.Spec PyProof.Rows L2
section
variable {X : Cx} {a b c : Expr} {ta tb tc : TE} {pos : Pos} {tg : Expr}
def Cst (mg : Str → Option Value) (x : Str) (v : V) : Prop := ∃ u, mg x = some u ∧ RelV v u
def TupK (K : PySem.W.Frag) (a : Addr) (xs : List V) : Prop := ∀ H, SqT K H a xs
def dIxTS (K : PySem.W.Frag) : R2 := fun x y H Q => match x, y with
  | .ref p, .int i => ∃ xs v, SqT K H p xs ∧ atI xs i = some v ∧ Q v H
  | _, _ => False
def dChain (r r' : R2) (ta tb tc : TE) : TE := fun σ H Q => ta σ H fun x H1 => tb σ H1 fun y H2 => r x y H2 fun z H3 => match z with
  | .bl k => Br k (tc σ H3 fun w' H4 => r' y w' H4 Q) (Q (.bl false) H3)
  | _ => False
def dIn1 : R2 := fun x y H Q => match x, y with
  | .str i, .str j => ∃ c, i = ⟨#[c]⟩ ∧ Q (.bl (decide (c ∈ co j))) H
  | _, _ => False
def Its (x : Str) : It := ⟨fun i _ => i < x.length, fun i H v H' => H' = H ∧ ∃ c, (co x)[i]? = some c ∧ v = .str ⟨#[c]⟩, fun i _ => x.length ≤ i⟩
def iStr (tl : TE) : TI := fun σ H R => tl σ H fun x H1 => match x with
  | .str z => R (Its z) H1
  | _ => False
def dStrI : List V → Hp → VK → Prop := fun xs H Q => match xs with
  | [.int i] => i.natAbs.log2 < 1920 ∧ Q (.str (toString i)) H
  | _ => False
def dAll (K : PySem.W.Frag) : List V → Hp → VK → Prop := fun xs H Q => match xs with
  | [.ref p] => ∃ bs : List Bool, SqL K H p (bs.map V.bl) ∧ Q (.bl (bs.all id)) H
  | _ => False
theorem vals_bls : ∀ {bs : List Bool} {us : List Value}, Vals (bs.map V.bl) us → us = bs.map Value.bool
  | [], _, r => by cases r; rfl
  | d :: ds, _, r => by
    cases r with
    | cons r1 r2 => rw [show _ = Value.bool d from r1, vals_bls r2]; rfl
theorem range_all : ∀ bs : List Bool, ((List.range bs.length).all fun i => bs.getD i true) = bs.all id := by
  intro bs
  rw [Bool.eq_iff_iff, List.all_eq_true, List.all_eq_true]
  constructor
  · intro h b hb
    obtain ⟨i, hi, rfl⟩ := List.getElem_of_mem hb
    have := h i (List.mem_range.mpr hi)
    rw [List.getD_eq_getElem?_getD, List.getElem?_eq_getElem hi] at this
    exact this
  · intro h i hi
    have hi := List.mem_range.mp hi
    rw [List.getD_eq_getElem?_getD, List.getElem?_eq_getElem hi]
    exact h _ (List.getElem_mem hi)
theorem c_all (hc : X.calm = true) : CallR X (.builtin "all") (dAll X.K) := by
  intro pins s σ H xs us Q I r h
  match xs, h with
  | [.ref p], ⟨bs, h1, q⟩ =>
    obtain ⟨u, rfl, r1⟩ := vals1 r
    cases (show u = Value.ref p from r1)
    obtain ⟨its, rv, pl, _⟩ := I.list h1
    have e := vals_bls rv
    subst e
    have hh := I.ok.hd hc
    have il := pl.isList
    obtain ⟨ob, eb, rb⟩ := id il
    have ne : p ≠ s.heap.objs.size := Nat.ne_of_lt (Heap.lt_size eb)
    refine call_all_walk (wpAny_pyIter_list il ?_)
    refine ⟨s.heap.objs.size, _, _, _, _, _, fun i => bs.getD i true, rfl, Walks.list (A := X.A.in1) hh s.heap.objs.size p ne (bs.map Value.bool).toArray, ⟨⟨_, Heap.get?_push_size _ rfl, rfl, rfl⟩, ⟨ob, Heap.get?_push_of_some _ eb, rb⟩⟩, fun i v s2 Q2 E2 hP hQ => ?_, fun h' tk k => ?_⟩
    · have hP : (bs.map Value.bool).toArray[i]? = some v := hP
      rw [List.getElem?_toArray, List.getElem?_map] at hP
      cases e2 : bs[i]? with
      | none =>
        rw [e2] at hP
        cases hP
      | some d =>
        rw [e2] at hP
        cases hP
        refine wpAny_truthy_bool ?_
        have : bs.getD i true = d := by rw [List.getD_eq_getElem?_getD, e2]; rfl
        rw [← this]
        exact hQ
    · refine ⟨.bl (bs.all id), H, I.kept (t' := tk) fun b o e => k b o ?_ (Heap.get?_push_of_some _ e), ?_, q⟩
      · intro z
        have z : b = s.heap.objs.size := by simpa using z
        exact Nat.lt_irrefl _ (z ▸ Heap.lt_size e)
      · show Value.bool _ = Value.bool _
        rw [List.size_toArray, List.length_map, range_all]
end
end Lw
end
section
set_option Elab.async false
set_option linter.all false
set_option maxRecDepth 100000
set_option maxHeartbeats 4000000
set_option autoImplicit false
namespace Lw
open PySem PySem.Spec PyProof.Rows L2
section
variable {X : Cx} {pos : Pos}
def upS (x : Str) : Str := ⟨x.cps.map up1⟩
def dUpper : V → List V → Hp → VK → Prop := fun x xs H Q => match x, xs with
  | .str z, [] => z.length ≤ 1000 ∧ (∀ c ∈ co z, c < 128) ∧ Q (.str (upS z)) H
  | _, _ => False
def dListN (K : PySem.W.Frag) : List V → Hp → VK → Prop := fun xs H Q => match xs with
  | [.ref p] => ∃ ys, (SqL K H p ys ∨ SqT K H p ys) ∧ ∀ l, H l = none → Q (.ref l) (upd H l (.lst ys))
  | _ => False
theorem c_listN : CallR X (.type "list") (dListN X.K) := by
  intro pins s σ H xs us Q I r h
  match xs, h with
  | [.ref p], ⟨ys, h1, q⟩ => exact call_list_of pins s σ H _ us Q I r ⟨p, ys, rfl, h1, q⟩
end
end Lw
end
section
set_option Elab.async false
set_option linter.all false
set_option maxRecDepth 100000
set_option maxHeartbeats 4000000
set_option autoImplicit false
namespace Lw
open PySem PySem.Spec PyProof.Rows L2
section
variable {X : Cx} {pos : Pos}
structure TupD (K : PySem.W.Frag) (a : Addr) (xs : List V) : Prop where
  sq : ∀ H, SqT K H a xs
  ty : ∃ o, K.lookup a = some o ∧ o.cls = .type "tuple" ∧ o.dict = none
def dNotInS (K : PySem.W.Frag) : R2 := fun x y H Q => match y with
  | .ref p => ∃ xs, (SqL K H p xs ∨ SqT K H p xs) ∧ flatV x = true ∧ xs.all flatV = true ∧ Q (.bl (!inV x xs)) H
  | _ => False
theorem o_notin : OpR X (compareOp .NotIn) (dNotInS X.K) := by
  intro pins s σ H x y v u Q I rx ry q
  cases y <;> first
    | exact False.elim q
    | (obtain ⟨xs, h1, h2, h3, q⟩ := q
       exact op_notIn_seq _ _ _ _ _ _ _ _ _ I rx ry ⟨_, xs, rfl, h1, h2, h3, q⟩)
def dIntS : List V → Hp → VK → Prop := fun xs H Q => match xs with
  | [.str x] => ∃ n, PySem.intText? x = some n ∧ x.length ≤ 640 ∧ Q (.int n) H
  | _ => False
def dEnds : V → List V → Hp → VK → Prop := fun x xs H Q => match x, xs with
  | .str x, [.str y] => Q (.bl (Txt.endswith x y)) H
  | _, _ => False
def dSplit : V → List V → Hp → VK → Prop := fun x xs H Q => match x, xs with
  | .str x, [.str y] => (y.length == 0) = false ∧ x.length ≤ 1000 ∧ ∀ l H', Same H H' → H' l = some (.lst ((Txt.split x y).map V.str)) → Q (.ref l) H'
  | _, _ => False
def PJ (X : Cx) (es : List Expr) (t : Str → L2.St → Hp → VK → Prop) : Prop := ∀ (pins : List (Addr × Obj)) (s : Shared) (σ : L2.St) (H : Hp) (acc : Str) (Q : VK), Inv X pins σ H s → t acc σ H Q → wpAny (model X.prog X.w) X.A (joinParts acc (evalEach es X.env)) (EP X pins σ Q) X.xe s
def tJ0 : Str → L2.St → Hp → VK → Prop := fun acc _ H Q => acc.length ≤ sizeLine ∧ Q (.str acc) H
def tJS (y : Str) (t : Str → L2.St → Hp → VK → Prop) : Str → L2.St → Hp → VK → Prop := fun acc σ H Q => (acc ++ y).length ≤ sizeLine ∧ t (acc ++ y) σ H Q
def tJV (te : TE) (t : Str → L2.St → Hp → VK → Prop) : Str → L2.St → Hp → VK → Prop := fun acc σ H Q => te σ H fun x H1 => match x with
  | .str y => y.length ≤ sizeLine ∧ (acc ++ y).length ≤ sizeLine ∧ t (acc ++ y) σ H1 Q
  | .int i => i.natAbs.log2 < 1920 ∧ (acc ++ (toString i : Str)).length ≤ sizeLine ∧ t (acc ++ (toString i : Str)) σ H1 Q
  | _ => False
def dFS (t : Str → L2.St → Hp → VK → Prop) : TE := fun σ H Q => t Str.empty σ H Q
end
section
open PySem.AutoSeq1 (wpAny_loadPart')
open PySem.MeetsSeq PySem.MeetsSeq2 PySem.MeetsSeq3 PySem.SeqRoads2 PySem.SeqAt
section
variable {X : Cx} {pos : Pos}
def dTIx (K : PySem.W.Frag) : V → List V → Hp → VK → Prop := fun x xs H Q => match x, xs with
  | .ref p, [v] => ∃ (ys : List V) (j : Nat) (y : V), SqT K H p ys ∧ flatV v = true ∧ ys.all flatV = true ∧ ys[j]? = some y ∧ eqV y v = true ∧ (∀ m z, m < j → ys[m]? = some z → eqV z v = false) ∧ Q (.int (j : Int)) H
  | _, _ => False
end
end
def fg (m : Nat) : List Nat := co (Str.ofString (toString ((m : Nat) : Int)))
end Lw
end
section
set_option Elab.async false
set_option linter.all false
set_option maxRecDepth 100000
set_option maxHeartbeats 4000000
set_option autoImplicit false
namespace Lw
open PySem PySem.Spec PyProof.Rows L2
section
variable {X : Cx} {pos p2 p3 p4 : Pos}
def dIntB : List V → Hp → VK → Prop := fun xs H Q => match xs with
  | [.bl b] => Q (.int (if b then 1 else 0)) H
  | _ => False
theorem c_intB : CallR X (.type "int") dIntB := by
  intro pins s σ H xs us Q I r h
  match xs, h with
  | [.bl b], q =>
    obtain ⟨u, rfl, r1⟩ := vals1 r
    cases (show u = Value.bool b from r1)
    exact PySem.call_int_bool ⟨.int _, H, I.tok _, ⟨_, rfl⟩, q⟩
def dRevS (te : TE) : TE := fun σ H Q => te σ H fun x H1 => match x with
  | .str z => z.length ≤ sizeLine ∧ ∀ z' : Str, z'.length ≤ z.length → Q (.str z') H1
  | _ => False
def dRepl (K : PySem.W.Frag) (tw : TE) (i : Int) (y z : Str) : TE := fun σ H Q => tw σ H fun w H1 => match w with
  | .ref p => ∃ (xs : List V) (x : Str), SqL K H1 p xs ∧ atI xs i = some (.str x) ∧ x.length ≤ 1000 ∧ Q (.str (Txt.replace x y z)) H1
  | _ => False
end
end Lw
end
section
set_option Elab.async false
set_option linter.all false
set_option maxRecDepth 100000
set_option maxHeartbeats 4000000
namespace Lw
open PySem PySem.Spec PyProof.Rows L2
section
variable {X : Cx}
def tCutE (t u : TS) : TS := fun D σ H => ∃ R : L2.St → Hp → Prop, t { D with nx := R } σ H ∧ ∀ σ' H', R σ' H' → u D σ' H'
theorem ss_cutE {st : Stmt} {r : List Stmt} {t u : TS} (h1 : PS X st t) (h2 : PSs X r u) : PSs X (st :: r) (tCutE t u) := by
  intro pins s σ H D I h
  obtain ⟨R, h⟩ := h
  exact ss_cut R h1 h2 pins s σ H D I h
end
end Lw
end
section
set_option Elab.async false
set_option linter.all false
set_option maxRecDepth 100000
set_option maxHeartbeats 4000000
namespace Lw
open PySem PySem.Spec PyProof.Rows L2
def dd (l : List Str) (x : Str) : List Str := if x ∈ l then l else l ++ [x]
def lS (a b : Str) : Prop := a.cps.toList < b.cps.toList
instance : DecidableRel lS := fun a b => inferInstanceAs (Decidable (a.cps.toList < b.cps.toList))
theorem lS_irr (a : Str) : ¬ lS a a := List.lt_irrefl _
theorem lS_tr {a b c : Str} (h : lS a b) (h' : lS b c) : lS a c := List.lt_trans h h'
theorem lS_tri {a b : Str} (h : ¬ lS a b) (h' : ¬ lS b a) : a = b := by
  have e := List.le_antisymm (List.not_lt.mp h') (List.not_lt.mp h)
  cases a; cases b
  simpa using Array.toList_inj.mp e
theorem lS_as {a b : Str} (h : lS a b) : ¬ lS b a := List.lt_asymm h
abbrev Inc (l : List Str) : Prop := l.Pairwise lS
theorem inc_ext : ∀ {l m : List Str}, Inc l → Inc m → (∀ x, x ∈ l ↔ x ∈ m) → l = m
  | [], [], _, _, _ => rfl
  | [], b :: m, _, _, h => absurd ((h b).mpr (List.mem_cons_self ..)) (by simp)
  | a :: l, [], _, _, h => absurd ((h a).mp (List.mem_cons_self ..)) (by simp)
  | a :: l, b :: m, h1, h2, h => by
    have ⟨a1, a2⟩ := List.pairwise_cons.mp h1
    have ⟨b1, b2⟩ := List.pairwise_cons.mp h2
    have e : a = b := by
      rcases List.mem_cons.mp ((h a).mp (List.mem_cons_self ..)) with e | e
      · exact e
      · rcases List.mem_cons.mp ((h b).mpr (List.mem_cons_self ..)) with f | f
        · exact f.symm
        · exact absurd (b1 a e) (lS_as (a1 b f))
    subst e
    rw [inc_ext a2 b2 fun x => ⟨fun hx => ?_, fun hx => ?_⟩]
    · rcases List.mem_cons.mp ((h x).mp (List.mem_cons_of_mem _ hx)) with e | e
      · subst e
        exact absurd (a1 x hx) (lS_irr x)
      · exact e
    · rcases List.mem_cons.mp ((h x).mpr (List.mem_cons_of_mem _ hx)) with e | e
      · subst e
        exact absurd (b1 x hx) (lS_irr x)
      · exact e
def insS (x : Str) : List Str → List Str
  | [] => [x]
  | y :: l => if lS x y then x :: y :: l else if lS y x then y :: insS x l else y :: l
theorem mem_insS {x z : Str} : ∀ {l : List Str}, z ∈ insS x l ↔ z = x ∨ z ∈ l
  | [] => by simp [insS]
  | y :: l => by
    unfold insS
    split
    · simp
    · split
      · simp only [List.mem_cons, mem_insS (l := l)]
        constructor
        · rintro (h | h | h)
          · exact .inr (.inl h)
          · exact .inl h
          · exact .inr (.inr h)
        · rintro (h | h | h)
          · exact .inr (.inl h)
          · exact .inl h
          · exact .inr (.inr h)
      · rename_i h1 h2
        have e := lS_tri h1 h2
        subst e
        simp
theorem inc_insS {x : Str} : ∀ {l : List Str}, Inc l → Inc (insS x l)
  | [], _ => List.pairwise_singleton ..
  | y :: l, h => by
    have ⟨h1, h2⟩ := List.pairwise_cons.mp h
    unfold insS
    split
    · rename_i c
      exact List.pairwise_cons.mpr ⟨fun z hz => (List.mem_cons.mp hz).elim (fun e => e ▸ c) (fun e => lS_tr c (h1 z e)), h⟩
    · split
      · rename_i c
        exact List.pairwise_cons.mpr ⟨fun z hz => (mem_insS.mp hz).elim (fun e => e ▸ c) (h1 z), inc_insS h2⟩
      · exact h
def srt (l : List Str) : List Str := l.foldr insS []
theorem inc_srt : ∀ (l : List Str), Inc (srt l)
  | [] => List.Pairwise.nil
  | x :: l => inc_insS (inc_srt l)
theorem mem_srt {x : Str} : ∀ {l : List Str}, x ∈ srt l ↔ x ∈ l
  | [] => Iff.rfl
  | y :: l => by
    show x ∈ insS y (srt l) ↔ _
    rw [mem_insS, mem_srt (l := l), List.mem_cons]
theorem mem_dd {l : List Str} {x z : Str} : z ∈ dd l x ↔ z ∈ l ∨ z = x := by
  unfold dd
  split
  · rename_i h
    constructor
    · exact .inl
    · rintro (h' | rfl)
      · exact h'
      · exact h
  · simp
theorem nodup_dd {l : List Str} {x : Str} (h : l.Nodup) : (dd l x).Nodup := by
  unfold dd
  split
  · exact h
  · rename_i c
    rw [List.nodup_append]
    exact ⟨h, List.nodup_cons.mpr ⟨by simp, List.nodup_nil⟩, fun a ha b hb e => by
      rw [List.mem_singleton] at hb
      subst hb e
      exact c ha⟩
def ddn (val : Nat → Str) (i : Nat) : List Str := ((List.range i).map val).foldl dd []
theorem ddn_succ (val : Nat → Str) (i : Nat) : ddn val (i + 1) = dd (ddn val i) (val i) := by
  unfold ddn
  rw [List.range_succ, List.map_append, List.foldl_append]
  rfl
theorem ddn_nodup (val : Nat → Str) : ∀ i, (ddn val i).Nodup
  | 0 => List.nodup_nil
  | i + 1 => by
    rw [ddn_succ]
    exact nodup_dd (ddn_nodup val i)
theorem mem_ddn {val : Nat → Str} {x : Str} : ∀ {i : Nat}, x ∈ ddn val i ↔ ∃ j, j < i ∧ val j = x
  | 0 => ⟨fun h => (by cases h), fun ⟨j, h, _⟩ => absurd h (Nat.not_lt_zero _)⟩
  | i + 1 => by
    rw [ddn_succ, mem_dd, mem_ddn (i := i)]
    constructor
    · rintro (⟨j, h, e⟩ | e)
      · exact ⟨j, Nat.lt_succ_of_lt h, e⟩
      · exact ⟨i, Nat.lt_succ_self _, e.symm⟩
    · rintro ⟨j, h, e⟩
      rcases Nat.lt_succ_iff_lt_or_eq.mp h with h | rfl
      · exact .inl ⟨j, h, e⟩
      · exact .inr e.symm
theorem pairwise_inc {l : List Str} (h : l.Pairwise fun a b => ¬ lS b a) (n : l.Nodup) : Inc l := by
  induction l with
  | nil => exact List.Pairwise.nil
  | cons a l ih =>
    have ⟨h1, h2⟩ := List.pairwise_cons.mp h
    have ⟨n1, n2⟩ := List.nodup_cons.mp n
    refine List.pairwise_cons.mpr ⟨fun b hb => ?_, ih h2 n2⟩
    refine Decidable.byContradiction fun c => n1 ?_
    have e := lS_tri c (h1 b hb)
    exact e ▸ hb
theorem erase_perm {α : Type} : ∀ (l : List α) (i : Nat) (x : α), l[i]? = some x → (x :: l.eraseIdx i).Perm l
  | [], i, x, h => by simp at h
  | a :: l, 0, x, h => by
    simp at h
    subst h
    exact List.Perm.refl _
  | a :: l, i + 1, x, h => by
    simp only [List.getElem?_cons_succ] at h
    show (x :: a :: l.eraseIdx i).Perm (a :: l)
    exact (List.Perm.swap ..).trans ((erase_perm l i x h).cons a)
theorem nd_len {α : Type} [DecidableEq α] : ∀ {l m : List α}, l.Nodup → (∀ x ∈ l, x ∈ m) → l.length ≤ m.length
  | [], m, _, _ => Nat.zero_le _
  | a :: l, m, n, h => by
    have ⟨n1, n2⟩ := List.nodup_cons.mp n
    have ha : a ∈ m := h a (List.mem_cons_self ..)
    have := nd_len (l := l) (m := m.erase a) n2 fun x hx => (List.mem_erase_of_ne (fun e : x = a => n1 (e ▸ hx))).mpr (h x (List.mem_cons_of_mem _ hx))
    rw [List.length_erase_of_mem ha] at this
    have : 0 < m.length := List.length_pos_of_mem ha
    rw [List.length_cons]
    omega
theorem inc_nodup {l : List Str} (h : Inc l) : l.Nodup := List.Pairwise.imp (S := fun a b => a ≠ b) (fun {a b} (h : lS a b) (e : a = b) => lS_irr a (e ▸ h)) h
theorem ddn_mem {names : List Str} {x : Str} : x ∈ ddn (fun i => names.getD i ⟨#[]⟩) names.length ↔ x ∈ names := by
  rw [mem_ddn]
  constructor
  · rintro ⟨j, h, rfl⟩
    rw [List.getD_eq_getElem?_getD, List.getElem?_eq_getElem h]
    exact List.getElem_mem h
  · intro h
    obtain ⟨j, hj, e⟩ := List.mem_iff_getElem.mp h
    exact ⟨j, hj, by rw [List.getD_eq_getElem?_getD, List.getElem?_eq_getElem hj]; exact e⟩
theorem ddn_srt (names : List Str) : (ddn (fun i => names.getD i ⟨#[]⟩) names.length).length ≤ (srt names).length :=
  nd_len (ddn_nodup _ _) fun x hx => mem_srt.mpr (ddn_mem.mp hx)
end Lw
end
section
set_option Elab.async false
set_option linter.all false
set_option maxRecDepth 100000
set_option maxHeartbeats 4000000
namespace Lw
open PySem PySem.Spec PyProof.Rows L2
def byTx (w : World) : Bool := w.params.followText "set-order"
def tx (e : Int × Value) : Str := strOf e.2
structure SetO (prog : Program) (w : World) (o : Obj) (ss : List Str) (es : Array (Int × Value)) (ep : Nat) (t : SetTable) : Prop where
  ex : o.ExactSet
  dat : o.data = .set es ep t
  el : ElemsOf (PySem.strKind prog w) es.toList
  pm : (es.toList.map tx).Perm ss
  fit : t.fits es.size = true
  bd : es.size < scanBound
  led : t.led = !byTx w
  pl : 0 < es.size → t.plain = false
def SetS (prog : Program) (w : World) (h : Heap) (a : Addr) (ss : List Str) : Prop := ∃ o es ep t, h.get? a = some o ∧ SetO prog w o ss es ep t
theorem SetO.size {prog : Program} {w : World} {o : Obj} {ss : List Str} {es : Array (Int × Value)} {ep : Nat} {t : SetTable} (S : SetO prog w o ss es ep t) : es.size = ss.length := by
  rw [← S.pm.length_eq, List.length_map, Array.length_toList]
theorem relaid_keeps {t t' : SetTable} {hs : Array Int} {n : Nat} {o : Array Nat} (h : t.relaid hs n = some (t', o)) : t'.led = t.led ∧ t'.plain = t.plain := by
  unfold SetTable.relaid SetTable.laid at h
  cases hl : SetTable.layClean (SetTable.sizeAbove n - 1) hs with
  | none =>
    rw [hl] at h
    cases h
  | some ow =>
    rw [hl] at h
    cases h
    exact ⟨rfl, rfl⟩
theorem relayAll_keeps (t : SetTable) (es : Array (Int × Value)) (n : Nat) : (relayAll t es n).2.1.led = t.led ∧ (t.plain = false → (relayAll t es n).2.1.plain = false) := by
  unfold relayAll
  split
  · rename_i t' o e
    obtain ⟨h1, h2⟩ := relaid_keeps e
    dsimp only
    split
    · exact ⟨h1, fun h => h2.trans h⟩
    · exact ⟨rfl, fun _ => rfl⟩
  · exact ⟨rfl, fun _ => rfl⟩
theorem orStandIn_led (t : SetTable) (n : Nat) : (t.orStandIn n).led = t.led := by
  unfold SetTable.orStandIn
  split <;> rfl
theorem layNew_led (t : SetTable) (es : Array (Int × Value)) (h : Int) (x : Value) : (layNew t es h x).2.1.led = t.led := by
  unfold layNew
  split
  · exact orStandIn_led _ _
  · rfl
theorem tx_of {prog : Program} {w : World} {k : Str} {e : Int × Value} (h : (PySem.strKind prog w).is k e.2 = true) : tx e = k := by
  obtain ⟨t, z⟩ := Value.isStrOf_shape h
  unfold tx
  rw [z]
  rfl
theorem storeS {prog : Program} {w : World} {h : Heap} {a : Addr} {o : Obj} {ss ss' : List Str} {es es' : Array (Int × Value)} {ep : Nat} {t t' : SetTable} (ho : h.get? a = some o) (S : SetO prog w o ss es ep t)
    (e1 : ElemsOf (PySem.strKind prog w) es'.toList) (e2 : (es'.toList.map tx).Perm ss') (e3 : t'.fits es'.size = true) (e4 : es'.size < scanBound) (e5 : t'.led = !byTx w) (e6 : t'.plain = false) :
    ∃ o', (h.update a (Obj.putSet es' t')).get? a = some o' ∧ SetO prog w o' ss' es' (ep + 1) t' := by
  have g := Heap.get?_update_self (Obj.putSet es' t') ho (by rw [putSet_of es' t' S.dat]; rfl)
  rw [putSet_of es' t' S.dat] at g
  exact ⟨_, g, ⟨S.ex, rfl, e1, e2, e3, e4, e5, fun _ => e6⟩⟩
section
variable {prog : Program} {w : World} {A : Around} {E : Value → Shared → Prop} {s : Shared}
theorem tailS {f : Bool → Sem Unit} (hf : ∀ (b : Bool) (s1 : Shared) (Q' : Unit → Shared → Prop), Q' () s1 → wpAny (model prog w) A (f b) Q' E s1) {a : Addr} {o : Obj} {ss ss' : List Str} {es es' : Array (Int × Value)} {ep : Nat} {t t' : SetTable}
    (ho : s.heap.get? a = some o) (S : SetO prog w o ss es ep t) (e1 : ElemsOf (PySem.strKind prog w) es'.toList) (e2 : (es'.toList.map tx).Perm ss') (e3 : t'.fits es'.size = true) (e4 : es'.size < scanBound) (e5 : t'.led = !byTx w)
    (e6 : t'.plain = false) {wd : Bool} {R : Option Bool → Shared → Prop} (q : ∀ g, Heap.SameBut a s.heap g → SetS prog w g a ss' → R (some true) { s with heap := g }) :
    wpAny (model prog w) A (do
      storeSet a es' t'
      if (!wd && t'.tooFull) = true then do { f (relayAll t' es' (SetTable.grown es'.size)).2.2; storeSet a (relayAll t' es' (SetTable.grown es'.size)).1 (relayAll t' es' (SetTable.grown es'.size)).2.1; pure (some true) } else pure (some true)) R E s := by
  refine wpAny_bind (wpAny_storeSet_of ho S.dat ?_ (fits_of_scanBound e4))
  obtain ⟨o1, g1, S1⟩ := storeS ho S e1 e2 e3 e4 e5 e6
  have b1 := Heap.SameBut.update s.heap a (Obj.putSet es' t')
  split
  · have r1 := relayAll_perm t' es' (SetTable.grown es'.size)
    have r2 := relayAll_fits t' es' (SetTable.grown es'.size)
    have r3 := relayAll_keeps t' es' (SetTable.grown es'.size)
    generalize relayAll t' es' (SetTable.grown es'.size) = L at r1 r2 r3 ⊢
    obtain ⟨fs, u, gv⟩ := L
    dsimp only at r1 r2 r3 ⊢
    have hz : fs.size = es'.size := by rw [← Array.length_toList, r1.length_eq, Array.length_toList]
    have hb : fs.size < scanBound := by rw [hz]; exact e4
    refine wpAny_bind (hf _ _ _ (wpAny_bind (wpAny_storeSet_of g1 S1.dat ?_ (fits_of_scanBound hb))))
    obtain ⟨o2, g2, S2⟩ := storeS g1 S1 (e1.perm r1) ((r1.map tx).trans e2) r2 hb (r3.1.trans e5) (r3.2 e6)
    exact wpAny_pure (q _ (b1.trans (Heap.SameBut.update _ a _)) ⟨o2, fs, _, u, g2, S2⟩)
  · exact wpAny_pure (q _ b1 ⟨o1, es', _, t', g1, S1⟩)
theorem addS {a : Addr} {ss : List Str} {x : Str} {tk : Tok} {Q : Bool → Shared → Prop} (hS : SetS prog w s.heap a ss) (room : ss.length + 1 < scanBound)
    (q : ∀ b g, Heap.SameBut a s.heap g → SetS prog w g a (dd ss x) → Q b { s with heap := g }) : wpAny (model prog w) A (setAddHashed a (.str x tk) ((PySem.strKind prog w).hash x)) Q E s := by
  obtain ⟨o, es, ep, t, ho, S⟩ := hS
  have key : (PySem.strKind prog w).is x (.str x tk) = true := by
    show (x == x) = true
    simp
  have scn : (Value.str x tk).scannable = true := rfl
  have hz := S.size
  unfold setAddHashed setAddHashedIn
  refine wpAny_holding (wpAny_bind (wpAny_setState_of ho S.dat S.fit ?_))
  dsimp only
  rw [byScan_of scn S.bd S.el]
  simp only [↓reduceIte]
  unfold setAddByScan
  refine wpAny_bind (wpAny_bind (wpAny_rule (wpAny_bind (wpAny_setScan_of (knd := PySem.strKind prog w) key ho S.dat S.fit S.el ?_))))
  cases hr : List.findIdx? (fun e => (PySem.strKind prog w).is x e.2) es.toList with
  | some j =>
    dsimp only
    obtain ⟨hj, hp, _⟩ := List.findIdx?_eq_some_iff_getElem.mp hr
    have hx : x ∈ ss := S.pm.mem_iff.mp (List.mem_map.mpr ⟨_, List.getElem_mem hj, tx_of hp⟩)
    refine wpAny_pure (wpAny_pure ?_)
    refine q false s.heap (Heap.SameBut.refl a s.heap) ⟨o, es, ep, t, ho, ?_⟩
    rw [show dd ss x = ss from if_pos hx]
    exact S
  | none =>
    dsimp only
    have hx : x ∉ ss := fun h => by
      obtain ⟨e, he, z⟩ := List.mem_map.mp (S.pm.mem_iff.mpr h)
      obtain ⟨⟨k, hk, _⟩, _⟩ := S.el e he
      have z' := (tx_of hk).symm.trans z
      subst z'
      have := List.findIdx?_eq_none_iff.mp hr e he
      rw [hk] at this
      cases this
    have gw : ∀ (b : Bool) (s1 : Shared) (Q' : Unit → Shared → Prop), Q' () s1 → wpAny (model prog w) A (match b with | true => rule "set.scan.the-table-gave-way" | false => pure ()) Q' E s1 := fun b s1 Q' h => by
      cases b with
      | true => exact wpAny_rule h
      | false => exact wpAny_pure h
    have r1 := layNew_perm t es ((PySem.strKind prog w).hash x) (.str x tk)
    have r2 := layNew_fits t es ((PySem.strKind prog w).hash x) (.str x tk)
    have r3 := layNew_led t es ((PySem.strKind prog w).hash x) (.str x tk)
    generalize layNew t es ((PySem.strKind prog w).hash x) (.str x tk) = L at r1 r2 r3 ⊢
    obtain ⟨fs, u, wd, gv⟩ := L
    dsimp only at r1 r2 r3 ⊢
    rw [Array.toList_push] at r1
    have f1 : ElemsOf (PySem.strKind prog w) fs.toList := (S.el.push key scn).perm r1
    have f2 : (fs.toList.map tx).Perm (dd ss x) := by
      rw [show dd ss x = ss ++ [x] from if_neg hx]
      refine (r1.map tx).trans ?_
      rw [List.map_append]
      exact S.pm.append_right _
    have fz : fs.size = es.size + 1 := by rw [← Array.length_toList, r1.length_eq, List.length_append, Array.length_toList]; rfl
    have fb : fs.size < scanBound := by rw [fz, hz]; exact room
    have fin : ∀ g, Heap.SameBut a s.heap g → SetS prog w g a (dd ss x) → wpAny (model prog w) A (pure true) Q E { s with heap := g } := fun g b h => wpAny_pure (q true g b h)
    refine wpAny_bind (gw _ _ _ ?_)
    split
    · refine wpAny_bind ?_
      rw [hashByValue_scannable 8 scn]
      refine wpAny_pure ?_
      refine tailS gw ho S f1 f2 (SetTable.fits_plain_off r2) fb (r3.trans S.led) rfl ?_
      intro g b h
      dsimp only
      exact fin g b h
    · rename_i np
      refine wpAny_bind (wpAny_pure ?_)
      simp only [↓reduceIte]
      refine tailS gw ho S f1 f2 r2 fb (r3.trans S.led) (by simpa using np) ?_
      intro g b h
      dsimp only
      exact fin g b h
theorem ddn_len (val : Nat → Str) : ∀ i, (ddn val i).length ≤ i
  | 0 => Nat.le_refl _
  | i + 1 => by
    have h := ddn_len val i
    rw [ddn_succ]
    unfold dd
    split
    · omega
    · rw [List.length_append, List.length_singleton]
      omega
theorem loopS {R : Result → Shared → Prop} {I : Addr} {fp wr : List Addr} {G : Array GenState → Array GenState → Prop} {n : Nat} {P : Nat → Value → Prop} {St : Nat → Shared → Prop} (W : WalksS prog w A.in1 I fp wr G n P St) (S : Addr) (nS : S ∉ fp)
    (val : Nat → Str) (hv : ∀ i v, P i v → ∃ t, v = .str (val i) t) (hb : n + 1 < scanBound) : ∀ (k i : Nat) (s : Shared), n - i = k → i ≤ n → St i s → SetS prog w s.heap S (ddn val i) →
      (∀ s', Moved (S :: wr) G s s' → SetS prog w s'.heap S (ddn val n) → R (.ok (.ret .none)) s') → codeAny (model prog w) A (.builtin "set.update.loop" ⟨[.ref S, .ref I], []⟩) R s := by
  have nw : S ∉ wr := fun h => nS (W.sub _ h)
  have sub : ∀ b ∈ wr, b ∈ S :: wr := fun b hb => List.mem_cons_of_mem _ hb
  have keepS : ∀ {s s' : Shared} {ss : List Str}, Moved wr G s s' → SetS prog w s.heap S ss → SetS prog w s'.heap S ss := fun m ⟨o, es, ep, t, h, z⟩ => ⟨o, es, ep, t, m.heap S _ nw h, z⟩
  intro k
  induction k with
  | zero =>
    intro i s hk hi st hS hR
    have e : i = n := by omega
    subst e
    refine codeAny_builtin PyProof.Rows.F.entry_set_update_loop ?_
    rw [Around.under_plainId PyProof.Rows.F.plain_set_update_loop _]
    show wpAny _ A.in1 (pyNext (.ref I) >>= _) _ _ s
    refine wpAny_bind (W.done s _ _ st fun s' m => wpAny_pure (hR s' (m.mono sub) (keepS m hS)))
  | succ k ih =>
    intro i s hk hi st hS hR
    have lt : i < n := by omega
    refine codeAny_builtin PyProof.Rows.F.entry_set_update_loop ?_
    rw [Around.under_plainId PyProof.Rows.F.plain_set_update_loop _]
    show wpAny _ A.in1 (pyNext (.ref I) >>= _) _ _ s
    refine wpAny_bind (W.item i s _ _ lt st fun v s' hP st' m => ?_)
    obtain ⟨t, rfl⟩ := hv i v hP
    have hS' := keepS m hS
    show wpAny _ A.in1 (holding [Value.str (val i) t] (setAdd S (.str (val i) t)) >>= _) _ _ s'
    refine wpAny_bind (wpAny_holding ?_)
    unfold setAdd
    refine wpAny_holding (wpAny_bind ((PySem.strKind prog w).pyHash (k := val i) (by show (val i == val i) = true; simp) ?_))
    have room : (ddn val i).length + 1 < scanBound := by have := ddn_len val i; omega
    refine addS (s := { s' with toks := s'.toks + 1 }) hS' room fun b g sb hS2 => ?_
    rw [← ddn_succ] at hS2
    refine wpAny_pure ⟨plainId_quiet PyProof.Rows.F.plain_set_update_loop _, ih (i + 1) _ (by omega) lt (W.frame _ s' _ _ st' (Nat.le_succ _) fun c hc o e => ?_) hS2 fun s2 m2 z2 => ?_⟩
    · rw [sb.2 c (fun h : c = S => nS (h ▸ hc))]
      exact e
    · refine hR s2 (Moved.trans W.gtrans ((m.mono sub).then_heap (Nat.le_succ _) fun c o hc e => ?_) m2) z2
      rw [sb.2 c (fun h : c = S => hc (by rw [h]; exact List.mem_cons_self))]
      exact e
def fsO (w : World) : Obj := { cls := .type "set", dict := none, data := .set #[] 0 (.fresh 0 0 (!byTx w)) }
theorem fsS (h : Heap) : SetS prog w (h.push (fsO w)) h.objs.size [] :=
  ⟨fsO w, #[], 0, _, Heap.get?_push_size _ rfl, ⟨⟨rfl, rfl, rfl⟩, rfl, fun e he => by simp at he, List.Perm.refl _, rfl, by decide, rfl, fun h => absurd h (by decide)⟩⟩
theorem new_setS (v : Value) {Q : Value → Shared → Prop} (q : Q (.ref s.heap.objs.size) { s with heap := s.heap.push (fsO w) }) : codeAny (model prog w) A (.call (.builtin "set.__new__") ⟨[.type "set", v], []⟩) (wants Q E) s := by
  refine codeAny_of_tree ?_
  show wpAny _ A.in1 (do { checkBuiltinCall "set.__new__" ⟨[.type "set", v], []⟩; again (.builtin "set.__new__" ⟨[.type "set", v], []⟩) }) _ _ s
  refine wpAny_bind (wpAny_of_eq (PySem.F.newCall_set_1 v) (wpAny_pure ⟨plainId_quiet PySem.F.plain_set_new _, codeAny_builtin PySem.F.entry_set_new ?_⟩))
  rw [Around.under_plainId PySem.F.plain_set_new _]; unfold Builtin.«set.__new__» Builtin.Frozenset.newClass
  have sub := sub_set_self; obtain ⟨hp, g, d, tk, os⟩ := s; dsimp only
  wp_walk
  refine wpAny_askSetting (wpAny_pure ?_); dsimp only; simp only [newObj]
  refine wpAny_bind (wpAny_alloc (wpAny_pure (wpAny_pure ?_)))
  exact q
theorem strs_at : ∀ {vs : List Value} {ss : List Str}, StrsAre vs ss → ∀ (i : Nat) (v : Value), vs[i]? = some v → ∃ t, v = .str (ss.getD i ⟨#[]⟩) t
  | _, _, .nil, i, v, h => by simp at h
  | _, _, .cons x t r, 0, v, h => by
    simp at h
    exact ⟨t, h.symm⟩
  | _, _, .cons x t r, i + 1, v, h => by
    simp only [List.getElem?_cons_succ] at h
    obtain ⟨t', e⟩ := strs_at r i v h
    exact ⟨t', by rw [e]; rfl⟩
theorem call_setS {l : Addr} {vs : List Value} {ss : List Str} {Q : Value → Shared → Prop} (hh : A.handled = none) (hl : s.heap.IsList l vs.toArray) (hi : StrsAre vs ss) (hb : vs.length + 1 < scanBound)
    (q : ∀ g tk, SetS prog w g s.heap.objs.size (ddn (fun i => ss.getD i ⟨#[]⟩) vs.length) → (∀ b o, s.heap.get? b = some o → g.get? b = some o) → Q (.ref s.heap.objs.size) { s with heap := g, toks := tk }) :
    wpAny (model prog w) A (call (.type "set") [.ref l]) Q E s := by
  obtain ⟨c, tl, mro⟩ := PySem.F.called_set.mro
  have made := PySem.F.called_set.made
  have sub := PySem.F.called_set.sub
  refine wpAny_call (codeAny_of_tree ?_)
  show wpAny _ _ (callAny (.type "set") _) _ _ _
  refine wpAny_pure ⟨Code.quiet_builtin _ (by decide +kernel), codeAny_builtin PySem.F.entry_type_call ?_⟩
  rw [Around.under_plain (weight_type_call_type "set" [.ref l] []) rfl]
  have z1 := PySem.F.called_set.notType
  have z2 := PySem.F.called_set.canCreate
  have z3 := PySem.F.typeCall_set_1 (.ref l)
  repeat (any_goals (first | assumption | wp_step))
  refine codeAny_mono (new_setS (.ref l) (E := E) (Q := fun v s1 => v = .ref s.heap.objs.size ∧ s1 = { s with heap := s.heap.push (fsO w) }) ⟨rfl, rfl⟩) fun r s1 hr => ?_
  match r, hr with
  | .error e, hr => exact hr
  | .ok (.ret v), hr =>
    obtain ⟨rfl, rfl⟩ := hr
    have gS : (s.heap.push (fsO w)).get? s.heap.objs.size = some (fsO w) := Heap.get?_push_size _ rfl
    have ty : Shared.TypeIs { s with heap := s.heap.push (fsO w) } (.ref s.heap.objs.size) "set" := ⟨_, gS, rfl⟩
    have z4 := PySem.F.called_set.init.lookup
    have z5 := PySem.F.called_set.init.bind (.ref s.heap.objs.size)
    repeat (any_goals (first | assumption | wp_step))
    refine codeAny_mono (codeAny_call_builtin (R := wants (fun r s2 => r = .none ∧ ∃ g tk, s2 = { s with heap := g, toks := tk } ∧ SetS prog w g s.heap.objs.size (ddn (fun i => ss.getD i ⟨#[]⟩) vs.length) ∧ ∀ b o, s.heap.get? b = some o → g.get? b = some o) E)
      PySem.F.called_set.init.plain PySem.F.entry_set_init (check_set_init_1 ty ?_)) fun r2 s2 hr2 => ?_
    · obtain ⟨ol, hol, hcl, nl, hdl⟩ := hl
      obtain ⟨oc, od, odt, osl⟩ := ol
      simp only at hcl hdl
      subst hcl hdl
      have hol1 : (s.heap.push (fsO w)).get? l = some { cls := .type "list", dict := od, data := .seq vs.toArray nl, slots := osl } := Heap.get?_push_of_some _ hol
      have gS1 : (s.heap.push (fsO w)).get? s.heap.objs.size = some { cls := .type "set", dict := none, data := .set #[] 0 (.fresh 0 0 (!byTx w)) } := gS
      have z6 := PySem.F.sub_list_set
      have z7 := PySem.F.sub_list_frozenset
      have z8 : (Value.type "list" == Value.type "dict") = false := by decide
      have hl1 : (s.heap.push (fsO w)).IsList l vs.toArray := ⟨_, hol1, rfl, nl, rfl⟩
      have lt : l < s.heap.objs.size := Heap.lt_size hol
      clear gS hol
      generalize hg : s.heap.push (fsO w) = g0 at *
      unfold Builtin.«set.__init__» noKeywords Builtin.Frozenset.updateFrom
      generalize hPI : pyIter = PI
      wp_walk
      subst hPI
      refine wpAny_pyIter_list hl1 ?_
      refine wpAny_bind (wpAny_runValue ?_)
      have sz : g0.objs.size = s.heap.objs.size + 1 := by rw [← hg]; exact Heap.size_push ..
      have neI : l ≠ g0.objs.size := by rw [sz]; exact Nat.ne_of_lt (Nat.lt_succ_of_lt lt)
      have nf : s.heap.objs.size ∉ [g0.objs.size, l] := by
        rw [sz]
        simp only [List.mem_cons, List.not_mem_nil, or_false, not_or]
        exact ⟨Nat.ne_of_lt (Nat.lt_succ_self _), Nat.ne_of_gt lt⟩
      have hval : ∀ (i : Nat) (v : Value), vs.toArray[i]? = some v → ∃ t, v = .str ((fun i => ss.getD i ⟨#[]⟩) i) t := fun i v hv => strs_at hi i v (by rw [← hv]; simp)
      refine loopS ((Walks.list (by simp [hh]) _ l neI vs.toArray).toS) s.heap.objs.size nf (fun i => ss.getD i ⟨#[]⟩) hval (by simpa using hb) (vs.toArray.size - 0) 0 _ (by omega) (Nat.zero_le _) ⟨⟨_, Heap.get?_push_size _ rfl, rfl, rfl⟩, hl1.push _⟩ ?hS0 ?hR
      case hS0 =>
        obtain ⟨o, es, ep, t, h1, h2⟩ := fsS (prog := prog) (w := w) s.heap
        rw [hg] at h1
        exact ⟨o, es, ep, t, Heap.get?_push_of_some _ h1, h2⟩
      case hR =>
        intro s' m hS'
        obtain ⟨g', gn, dr, tk, os⟩ := s'
        obtain ⟨m1, m2, m3, m4, m5⟩ := m
        dsimp only at m1 m2 m3 m4 m5
        subst m2 m3 m4
        show wpAny _ _ _ _ _ _
        refine wpAny_pure ?_
        show wpAny _ _ (ret Value.none) _ _ _
        refine wpAny_pure ⟨rfl, g', tk, rfl, ?_, fun b o e => m1 b o ?_ (Heap.get?_push_of_some _ ?_)⟩
        · simpa using hS'
        · have hb := Heap.lt_size e
          rw [sz]
          simp only [List.mem_cons, List.not_mem_nil, or_false, not_or]
          exact ⟨Nat.ne_of_lt hb, Nat.ne_of_lt (Nat.lt_succ_of_lt hb)⟩
        · rw [← hg]
          exact Heap.get?_push_of_some _ e
    · match r2, hr2 with
      | .error e, hr2 => exact hr2
      | .ok (.ret v), hr2 =>
        obtain ⟨rfl, g, tk, rfl, h1, h2⟩ := hr2
        repeat (any_goals (first | assumption | wp_step))
        exact q _ _ h1 h2
      | .ok .next, hr2 => exact hr2.elim
      | .ok .brk, hr2 => exact hr2.elim
      | .ok .cont, hr2 => exact hr2.elim
  | .ok .next, hr => exact hr.elim
  | .ok .brk, hr => exact hr.elim
  | .ok .cont, hr => exact hr.elim
end
end Lw
end
section
set_option Elab.async false
set_option linter.all false
set_option maxRecDepth 100000
set_option maxHeartbeats 4000000
namespace Lw
open PySem PySem.Spec PyProof.Rows L2
theorem sl_sit_next : Slot "set_iterator" "__next__" "set_iterator.__next__" := .of (owner := "set_iterator") (n := "__next__") (by rw [typeLookup_type, builtinLookup_eq_fast]; kernel_rfl) (by decide +kernel) (by decide +kernel) (by decide +kernel) (by first | exact .inl (by decide +kernel) | exact .inr (by decide +kernel)) (by rw [isSubtype_type]; kernel_rfl)
theorem en_sit_next : entryFor table "set_iterator.__next__" = some Builtin.«set_iterator.__next__» := entryFor_of_tree (by kernel_rfl)
theorem en_set_iter : entryFor table "set.__iter__" = some Builtin.«frozenset.__iter__» := entryFor_alias (id' := "frozenset.__iter__") (by kernel_rfl) rfl (by decide +kernel) (by kernel_rfl)
def SI (h : Heap) (I : Addr) (f : Value) (i : Nat) (a : Addr) (n ep : Nat) : Prop := ∃ o, h.get? I = some o ∧ o.cls = .type "set_iterator" ∧ o.data = .fields #[f, .int i 0, .ref a, .int n 0, .int ep 0]
theorem SI.mv {h h' : Heap} {I a : Addr} {f : Value} {i n ep : Nat} (x : SI h I f i a n ep) (q : ∀ o, h.get? I = some o → h'.get? I = some o) : SI h' I f i a n ep := by
  obtain ⟨o, e, r⟩ := x
  exact ⟨o, q o e, r⟩
theorem pick_go {α : Type} (nx : Nat → Nat) : ∀ (fuel k : Nat) (left : List α) (out : Array α), left.length = fuel → (pickOrder.go nx fuel k left out).toList.Perm (out.toList ++ left)
  | 0, k, left, out, h => by
    have : left = [] := List.length_eq_zero_iff.mp h
    subst this
    rw [List.append_nil]
    exact List.Perm.refl _
  | fuel + 1, k, left, out, h => by
    have hp : 0 < left.length := by omega
    have hj : nx k % left.length < left.length := Nat.mod_lt _ hp
    have e : left[nx k % left.length]? = some left[nx k % left.length] := List.getElem?_eq_getElem hj
    unfold pickOrder.go
    rw [e]
    dsimp only
    refine (pick_go nx fuel (k + 1) _ _ (by rw [List.length_eraseIdx_of_lt hj, h]; rfl)).trans ?_
    rw [Array.toList_push, List.append_assoc]
    exact (erase_perm left _ _ e).append_left _
theorem pick_perm {α : Type} (nx : Nat → Nat) (xs : Array α) : (pickOrder nx xs).toList.Perm xs.toList := by
  have := pick_go nx xs.size 0 xs.toList #[] (by simp)
  simpa [pickOrder] using this
section
variable {prog : Program} {w : World} {A : Around} {E : Value → Shared → Prop} {s : Shared}
theorem wp_chs {M : Model} {src : Source} {n : Nat} {Q : Nat → Shared → Prop} (hn : n ≠ 0) (q : ∀ i d, i < n → Q i { s with drawn := d }) : wpAny M A (choose src n) Q E s :=
  fun _ _ _ => ⟨hn, q _ _ (Nat.mod_lt _ (Nat.pos_of_ne_zero hn))⟩
theorem draw_perm {M : Model} {α : Type} : ∀ (n : Nat) (xs : List α) (s : Shared) {Q : List α → Shared → Prop}, xs.length = n → (∀ ys d, ys.Perm xs → Q ys { s with drawn := d }) → wpAny M A (drawOrder n xs) Q E s
  | 0, xs, s, Q, h, q => by
    have : xs = [] := List.length_eq_zero_iff.mp h
    subst this
    unfold drawOrder
    exact wpAny_pure (q [] s.drawn (List.Perm.refl _))
  | n + 1, [], s, Q, h, q => by simp at h
  | n + 1, x :: xs, s, Q, h, q => by
    unfold drawOrder
    refine wpAny_bind (wp_chs (by simp) fun i d hi => ?_)
    have e : (x :: xs)[i]? = some (x :: xs)[i] := List.getElem?_eq_getElem hi
    rw [e]
    dsimp only
    refine wpAny_bind (draw_perm n _ _ (by rw [List.length_eraseIdx_of_lt hi, h]; rfl) fun ys d' hp => wpAny_pure ?_)
    exact q _ d' ((hp.cons _).trans (erase_perm _ _ _ e))
theorem nextI_item {I a : Addr} {slot nx i : Nat} {o : Obj} {ss : List Str} {es : Array (Int × Value)} {ep : Nat} {t : SetTable} {x : Value} {Q : Option Value → Shared → Prop} (hit : SI s.heap I (.int slot 0) i a es.size ep) (ho : s.heap.get? a = some o) (S : SetO prog w o ss es ep t)
    (hn : ∀ (Q' : Option (Value × Nat) → Shared → Prop) (E' : Value → Shared → Prop), Q' (some (x, nx)) s → wpAny (model prog w) A.in1 (setNext a slot i ep) Q' E' s)
    (q : ∀ g, SI g I (.int nx 0) (i + 1) a es.size ep → Heap.SameBut I s.heap g → Q (some x) { s with heap := g }) : wpAny (model prog w) A (pyNext (.ref I)) Q E s := by
  obtain ⟨io, e1, c1, d1⟩ := id hit
  have ty : s.TypeIs (.ref I) "set_iterator" := ⟨io, e1, c1⟩
  unfold pyNext
  refine wpAny_bind (wpAny_attempt (wpAny_callSpecial?_slot (name := Str.ofString "__next__") ty sl_sit_next (wpAny_call_entry sl_sit_next ty en_sit_next ?_)))
  unfold Builtin.«set_iterator.__next__»
  refine wpAny_bind (m := slotArgs "__next__" 0 _) (wpAny_pure ?_)
  refine wpAny_bind (wpAny_fieldsOf e1 d1 ?_)
  dsimp only
  refine wpAny_bind (wpAny_setEntries_of ho S.dat S.fit ?_)
  simp only [bne_self_eq_false, Bool.false_eq_true, if_false, Int.toNat_natCast]
  refine wpAny_bind (hn _ _ ?_)
  dsimp only
  refine wpAny_bind (wpAny_setField e1 d1 (by simp) ?_)
  have g1 := Heap.get?_update_self (Obj.mapFields (·.setIfInBounds 0 (rawInt (nx : Int)))) e1 (Obj.isFreed_of_fields (Obj.data_mapFields d1 _))
  have d2 := Obj.data_mapFields d1 (·.setIfInBounds 0 (rawInt (nx : Int)))
  refine wpAny_bind (wpAny_setField g1 d2 (by simp) ?_)
  refine wpAny_pure ⟨_, rfl, wpAny_pure (q _ ?_ ((Heap.SameBut.update ..).trans (Heap.SameBut.update ..)))⟩
  refine ⟨_, Heap.get?_update_self _ g1 (Obj.isFreed_of_fields (Obj.data_mapFields d2 _)), (Obj.cls_mapFields ..).trans ((Obj.cls_mapFields ..).trans c1), ?_⟩
  rw [Obj.data_mapFields d2]
  simp [rawInt]
theorem nextI_end {I a : Addr} {slot i : Nat} {o : Obj} {ss : List Str} {es : Array (Int × Value)} {ep : Nat} {t : SetTable} {Q : Option Value → Shared → Prop} (hh : A.handled = none) (hit : SI s.heap I (.int slot 0) i a es.size ep) (ho : s.heap.get? a = some o) (S : SetO prog w o ss es ep t)
    (hn : ∀ (Q' : Option (Value × Nat) → Shared → Prop) (E' : Value → Shared → Prop), Q' none s → wpAny (model prog w) A.in1 (setNext a slot i ep) Q' E' s)
    (q : ∀ g, Heap.ExtBut I s.heap g → Q none { s with heap := g }) : wpAny (model prog w) A (pyNext (.ref I)) Q E s := by
  obtain ⟨io, e1, c1, d1⟩ := id hit
  have ty : s.TypeIs (.ref I) "set_iterator" := ⟨io, e1, c1⟩
  unfold pyNext
  refine wpAny_bind (wpAny_attempt (wpAny_callSpecial?_slot (name := Str.ofString "__next__") ty sl_sit_next (wpAny_call_entry sl_sit_next ty en_sit_next ?_)))
  unfold Builtin.«set_iterator.__next__»
  refine wpAny_bind (m := slotArgs "__next__" 0 _) (wpAny_pure ?_)
  refine wpAny_bind (wpAny_fieldsOf e1 d1 ?_)
  dsimp only
  refine wpAny_bind (wpAny_setEntries_of ho S.dat S.fit ?_)
  simp only [bne_self_eq_false, Bool.false_eq_true, if_false, Int.toNat_natCast]
  refine wpAny_bind (hn _ _ ?_)
  dsimp only
  refine wpAny_bind (wpAny_setField e1 d1 (by simp) ?_)
  show wpAny _ _ (newExc (.type "StopIteration") [] >>= _) _ _ _; refine wpAny_bind ?_; simp only [newExc, newTuple]
  refine wpAny_bind (wpAny_newObj_type ?_ (by size_fits)); refine wpAny_bind (m := firstArgMember _ _) (wpAny_of_eq (a := Value.none) (by first | rfl | (simp only [firstArgMember]; rfl)) ?_)
  refine wpAny_newObj_type ?_ (by size_fits); simp only [raiseNew]; refine wpAny_bind (wpAny_handled ?_); rw [show A.in1.handled = none from hh]
  refine wpAny_bind (wpAny_pure (wpAny_throw ?_))
  exact wpAny_bind (wpAny_isInstance (T := "StopIteration") (b := true) ⟨_, Heap.get?_push_size _ rfl, rfl⟩ isSubtype_stop (wpAny_pure (q _ (((Heap.SameBut.update ..).extBut.push _).push _))))
theorem nextD_item {I a T : Addr} {i p : Nat} {o oT : Obj} {ss : List Str} {es : Array (Int × Value)} {ep nT : Nat} {t : SetTable} {vs : Array Value} {x : Int × Value} {Q : Option Value → Shared → Prop} (hit : SI s.heap I (.ref T) i a es.size ep) (ho : s.heap.get? a = some o) (S : SetO prog w o ss es ep t)
    (hT : s.heap.get? T = some oT) (dT : oT.data = .seq vs nT) (hv : vs[i]? = some (.int p 0)) (hx : es[p]? = some x)
    (q : ∀ g, SI g I (.ref T) (i + 1) a es.size ep → Heap.SameBut I s.heap g → Q (some x.2) { s with heap := g }) : wpAny (model prog w) A (pyNext (.ref I)) Q E s := by
  obtain ⟨io, e1, c1, d1⟩ := id hit
  have ty : s.TypeIs (.ref I) "set_iterator" := ⟨io, e1, c1⟩
  unfold pyNext
  refine wpAny_bind (wpAny_attempt (wpAny_callSpecial?_slot (name := Str.ofString "__next__") ty sl_sit_next (wpAny_call_entry sl_sit_next ty en_sit_next ?_)))
  unfold Builtin.«set_iterator.__next__»
  refine wpAny_bind (m := slotArgs "__next__" 0 _) (wpAny_pure ?_)
  refine wpAny_bind (wpAny_fieldsOf e1 d1 ?_)
  dsimp only
  refine wpAny_bind (wpAny_setEntries_of ho S.dat S.fit ?_)
  simp only [bne_self_eq_false, Bool.false_eq_true, if_false, Int.toNat_natCast]
  refine wpAny_bind (wpAny_seqItems hT dT ?_)
  dsimp only
  rw [hv]
  dsimp only
  simp only [Int.toNat_natCast]
  unfold setNextDrawn
  refine wpAny_bind (wpAny_bind (wpAny_setState_of ho S.dat S.fit ?_))
  dsimp only
  simp only [bne_self_eq_false, Bool.false_eq_true, if_false]
  rw [hx]
  dsimp only
  refine wpAny_pure ?_
  refine wpAny_bind (wpAny_setField e1 d1 (by simp) (wpAny_pure ⟨_, rfl, wpAny_pure (q _ ?_ (Heap.SameBut.update ..))⟩))
  refine ⟨_, Heap.get?_update_self _ e1 (Obj.isFreed_of_fields (Obj.data_mapFields d1 _)), (Obj.cls_mapFields ..).trans c1, ?_⟩
  rw [Obj.data_mapFields d1]
  simp [rawInt]
theorem nextD_end {I a T : Addr} {i : Nat} {o oT : Obj} {ss : List Str} {es : Array (Int × Value)} {ep nT : Nat} {t : SetTable} {vs : Array Value} {Q : Option Value → Shared → Prop} (hh : A.handled = none) (hit : SI s.heap I (.ref T) i a es.size ep) (ho : s.heap.get? a = some o) (S : SetO prog w o ss es ep t)
    (hT : s.heap.get? T = some oT) (dT : oT.data = .seq vs nT) (hv : vs[i]? = none)
    (q : ∀ g, Heap.ExtBut I s.heap g → Q none { s with heap := g }) : wpAny (model prog w) A (pyNext (.ref I)) Q E s := by
  obtain ⟨io, e1, c1, d1⟩ := id hit
  have ty : s.TypeIs (.ref I) "set_iterator" := ⟨io, e1, c1⟩
  unfold pyNext
  refine wpAny_bind (wpAny_attempt (wpAny_callSpecial?_slot (name := Str.ofString "__next__") ty sl_sit_next (wpAny_call_entry sl_sit_next ty en_sit_next ?_)))
  unfold Builtin.«set_iterator.__next__»
  refine wpAny_bind (m := slotArgs "__next__" 0 _) (wpAny_pure ?_)
  refine wpAny_bind (wpAny_fieldsOf e1 d1 ?_)
  dsimp only
  refine wpAny_bind (wpAny_setEntries_of ho S.dat S.fit ?_)
  simp only [bne_self_eq_false, Bool.false_eq_true, if_false, Int.toNat_natCast]
  refine wpAny_bind (wpAny_seqItems hT dT ?_)
  dsimp only
  rw [hv]
  dsimp only
  refine wpAny_bind (wpAny_setField e1 d1 (by simp) ?_)
  have g1 := Heap.get?_update_self (Obj.mapFields (·.setIfInBounds 0 (rawInt 0))) e1 (Obj.isFreed_of_fields (Obj.data_mapFields d1 _))
  have d2 := Obj.data_mapFields d1 (·.setIfInBounds 0 (rawInt 0))
  refine wpAny_bind (wpAny_setField g1 d2 (by simp) ?_)
  show wpAny _ _ (newExc (.type "StopIteration") [] >>= _) _ _ _; refine wpAny_bind ?_; simp only [newExc, newTuple]
  refine wpAny_bind (wpAny_newObj_type ?_ (by size_fits)); refine wpAny_bind (m := firstArgMember _ _) (wpAny_of_eq (a := Value.none) (by first | rfl | (simp only [firstArgMember]; rfl)) ?_)
  refine wpAny_newObj_type ?_ (by size_fits); simp only [raiseNew]; refine wpAny_bind (wpAny_handled ?_); rw [show A.in1.handled = none from hh]
  refine wpAny_bind (wpAny_pure (wpAny_throw ?_))
  exact wpAny_bind (wpAny_isInstance (T := "StopIteration") (b := true) ⟨_, Heap.get?_push_size _ rfl, rfl⟩ isSubtype_stop (wpAny_pure (q _ ((((Heap.SameBut.update ..).trans (Heap.SameBut.update ..)).extBut.push _).push _))))
theorem next_tx {a : Addr} {slot i : Nat} {o : Obj} {ss : List Str} {es : Array (Int × Value)} {ep : Nat} {t : SetTable} {Q : Option (Value × Nat) → Shared → Prop} (ho : s.heap.get? a = some o) (S : SetO prog w o ss es ep t) (hb : byTx w = true)
    (q : Q (((pickOrder (w.params.setOrder a ep) es)[i]?).map fun e => (e.2, slot)) s) : wpAny (model prog w) A (setNext a slot i ep) Q E s := by
  have hb' : (model prog w).w.params.followText "set-order" = true := hb
  unfold setNext
  refine wpAny_bind (wpAny_setState_of ho S.dat S.fit ?_)
  dsimp only
  unfold setsByText
  refine wpAny_bind (wpAny_bind (wpAny_askSetting (wpAny_pure ?_)))
  dsimp only
  rw [hb']
  simp only [↓reduceIte, bne_self_eq_false, Bool.false_eq_true, if_false]
  unfold setWalk
  refine wpAny_bind (wpAny_bind (wpAny_setState_of ho S.dat S.fit ?_))
  dsimp only
  unfold setsByText
  refine wpAny_bind (wpAny_bind (wpAny_askSetting (wpAny_pure ?_)))
  dsimp only
  rw [hb']
  simp only [↓reduceIte]
  refine wpAny_bind (wpAny_askSetting (wpAny_pure (wpAny_pure ?_)))
  exact q
theorem next_few {a : Addr} {slot i : Nat} {o : Obj} {ss : List Str} {es : Array (Int × Value)} {ep : Nat} {t : SetTable} {Q : Option (Value × Nat) → Shared → Prop} (ho : s.heap.get? a = some o) (S : SetO prog w o ss es ep t) (hb : byTx w = false) (hz : es.size ≤ 1)
    (q : Q (match es[SetTable.below t.place slot]?, t.place[SetTable.below t.place slot]? with | some (_, x), some j => some (x, j + 1) | _, _ => none) s) : wpAny (model prog w) A (setNext a slot i ep) Q E s := by
  have hb' : (model prog w).w.params.followText "set-order" = false := hb
  have hl : t.led = true := by rw [S.led, hb]; rfl
  unfold setNext
  refine wpAny_bind (wpAny_setState_of ho S.dat S.fit ?_)
  dsimp only
  unfold setsByText
  refine wpAny_bind (wpAny_bind (wpAny_askSetting (wpAny_pure ?_)))
  dsimp only
  rw [hb']
  simp only [Bool.false_eq_true, if_false]
  split
  · rename_i h
    have h' : (!t.plain && decide (es.size > 1)) = true := h
    have : decide (es.size > 1) = false := decide_eq_false (by omega)
    rw [this, Bool.and_false] at h'
    cases h'
  · refine wpAny_bind ?_
    show wpAny _ _ (if (!t.led && !es.isEmpty) = true then _ else _) _ _ _
    rw [hl, if_neg (by simp)]
    exact wpAny_pure (wpAny_pure q)
theorem below0 (p : Nat) : SetTable.below #[p] 0 = 0 := by
  unfold SetTable.below
  simp [SetTable.below.go]
theorem below1 (p : Nat) : SetTable.below #[p] (p + 1) = 1 := by
  unfold SetTable.below
  simp [SetTable.below.go]
theorem sl_sit_iter : Slot "set_iterator" "__iter__" "set_iterator.__iter__" := .of (owner := "set_iterator") (n := "__iter__") (by rw [typeLookup_type, builtinLookup_eq_fast]; kernel_rfl) (by decide +kernel) (by decide +kernel) (by decide +kernel) (by first | exact .inl (by decide +kernel) | exact .inr (by decide +kernel)) (by rw [isSubtype_type]; kernel_rfl)
theorem en_sit_iter : entryFor table "set_iterator.__iter__" = some Builtin.«dict_keyiterator.__iter__» := entryFor_alias (id' := "dict_keyiterator.__iter__") (by kernel_rfl) rfl (by decide +kernel) (by kernel_rfl)
theorem self_sit {I a : Addr} {f : Value} {i n ep : Nat} {Q : Value → Shared → Prop} (hit : SI s.heap I f i a n ep) (q : Q (.ref I) s) : wpAny (model prog w) A (pyIter (.ref I)) Q E s := by
  obtain ⟨io, e1, c1, d1⟩ := hit
  have ty : s.TypeIs (.ref I) "set_iterator" := ⟨io, e1, c1⟩
  refine wpAny_pyIter_slot ty sl_sit_iter (wpAny_call_entry sl_sit_iter ty en_sit_iter ?_)
  show wpAny _ _ (ret (.ref I)) _ _ s
  exact wpAny_pure ⟨_, rfl, "set_iterator", _, ty, sl_sit_next.lookup, q⟩
theorem sb_moved {I : Addr} {g : Heap} (sb : Heap.ExtBut I s.heap g) : Moved [I] (fun a b => b = a) s { s with heap := g } :=
  ⟨fun b o hb e => sb b o (fun z => hb (by rw [z]; exact List.mem_cons_self)) e, rfl, rfl, rfl, Nat.le_refl _⟩
theorem walk_tx {I a : Addr} {o : Obj} {ss : List Str} {es : Array (Int × Value)} {ep : Nat} {t : SetTable} (S : SetO prog w o ss es ep t) (hb : byTx w = true) (ne : a ≠ I) {B : Around} (hh : B.handled = none) :
    WalksS prog w B I [I, a] [I] (fun a b => b = a) es.size (fun i v => ((pickOrder (w.params.setOrder a ep) es).toList.map (·.2))[i]? = some v) (fun i s => SI s.heap I (.int (0 : Nat) 0) i a es.size ep ∧ s.heap.get? a = some o) where
  sub := fun b hb => by simp at hb; simp [hb]
  grefl := fun _ => rfl
  gtrans := fun _ _ _ h1 h2 => h2.trans h1
  frame := fun i s h' _ st _ k => ⟨st.1.mv fun o e => k I (by simp) o e, k a (by simp) _ st.2⟩
  item := fun i s Q E hi st hQ => by
    have hz : (pickOrder (w.params.setOrder a ep) es).size = es.size := by rw [← Array.length_toList, (pick_perm _ es).length_eq, Array.length_toList]
    have e : (pickOrder (w.params.setOrder a ep) es)[i]? = some (pickOrder (w.params.setOrder a ep) es)[i] := Array.getElem?_eq_getElem (by omega)
    refine nextI_item (slot := 0) (nx := 0) st.1 st.2 S (fun Q' E' h => next_tx st.2 S hb (by rw [e]; exact h)) fun g hg sb => hQ _ _ ?_ ⟨hg, sb.extBut a _ ne st.2⟩ (sb_moved sb.extBut)
    rw [List.getElem?_map, Array.getElem?_toList, e]
    rfl
  done := fun s Q E st hQ => by
    have hz : (pickOrder (w.params.setOrder a ep) es).size = es.size := by rw [← Array.length_toList, (pick_perm _ es).length_eq, Array.length_toList]
    have e : (pickOrder (w.params.setOrder a ep) es)[es.size]? = none := Array.getElem?_eq_none (by omega)
    exact nextI_end hh st.1 st.2 S (fun Q' E' h => next_tx st.2 S hb (by rw [e]; exact h)) fun g sb => hQ _ (sb_moved sb)
  self := fun i s Q E st hQ => self_sit st.1 hQ
theorem walk_dr {I a T : Addr} {o oT : Obj} {ss : List Str} {es : Array (Int × Value)} {ep nT : Nat} {t : SetTable} (S : SetO prog w o ss es ep t) (ps : List Nat) (hp : ∀ p ∈ ps, p < es.size) (hl : ps.length = es.size) (dT : oT.data = .seq (ps.map fun (p : Nat) => rawInt p).toArray nT) (ne : a ≠ I) (neT : T ≠ I) {B : Around} (hh : B.handled = none) :
    WalksS prog w B I [I, a, T] [I] (fun a b => b = a) es.size (fun i v => (ps.map fun p => ((es[p]?).map (·.2)).getD .none)[i]? = some v) (fun i s => SI s.heap I (.ref T) i a es.size ep ∧ s.heap.get? a = some o ∧ s.heap.get? T = some oT) where
  sub := fun b hb => by simp at hb; simp [hb]
  grefl := fun _ => rfl
  gtrans := fun _ _ _ h1 h2 => h2.trans h1
  frame := fun i s h' _ st _ k => ⟨st.1.mv fun o e => k I (by simp) o e, k a (by simp) _ st.2.1, k T (by simp) _ st.2.2⟩
  item := fun i s Q E hi st hQ => by
    have hi' : i < ps.length := by omega
    have h1 : ((ps.map fun (p : Nat) => rawInt p).toArray)[i]? = some (.int (ps[i] : Nat) 0) := by
      rw [List.getElem?_toArray, List.getElem?_map, List.getElem?_eq_getElem hi']
      rfl
    have h2 := hp ps[i] (List.getElem_mem hi')
    have h3 : es[ps[i]]? = some es[ps[i]] := Array.getElem?_eq_getElem h2
    refine nextD_item st.1 st.2.1 S st.2.2 dT h1 h3 fun g hg sb => hQ _ _ ?_ ⟨hg, sb.extBut a _ ne st.2.1, sb.extBut T _ neT st.2.2⟩ (sb_moved sb.extBut)
    rw [List.getElem?_map, List.getElem?_eq_getElem hi']
    simp [h3]
  done := fun s Q E st hQ => by
    have h1 : ((ps.map fun (p : Nat) => rawInt p).toArray)[es.size]? = none := by
      rw [List.getElem?_toArray, List.getElem?_map, List.getElem?_eq_none (by omega)]
      rfl
    exact nextD_end hh st.1 st.2.1 S st.2.2 dT h1 fun g sb => hQ _ (sb_moved sb)
  self := fun i s Q E st hQ => self_sit st.1 hQ
theorem walk_few {I a : Addr} {o : Obj} {ss : List Str} {es : Array (Int × Value)} {ep : Nat} {t : SetTable} (S : SetO prog w o ss es ep t) (hb : byTx w = false) (hz : es.size ≤ 1) (ne : a ≠ I) {B : Around} (hh : B.handled = none) :
    WalksS prog w B I [I, a] [I] (fun a b => b = a) es.size (fun i v => (es.toList.map (·.2))[i]? = some v) (fun i s => (∃ slot : Nat, SI s.heap I (.int slot 0) i a es.size ep ∧ (i = 0 → slot = 0) ∧ (i = 1 → ∀ p, t.place = #[p] → slot = p + 1)) ∧ s.heap.get? a = some o) where
  sub := fun b hb => by simp at hb; simp [hb]
  grefl := fun _ => rfl
  gtrans := fun _ _ _ h1 h2 => h2.trans h1
  frame := fun i s h' _ st _ k => by
    obtain ⟨⟨slot, st, r⟩, st2⟩ := st
    exact ⟨⟨slot, st.mv fun o e => k I (by simp) o e, r⟩, k a (by simp) _ st2⟩
  item := fun i s Q E hi st hQ => by
    obtain ⟨⟨slot, st, r, _⟩, st2⟩ := st
    have i0 : i = 0 := by omega
    have z1 : es.size = 1 := by omega
    subst i0
    have hs := r rfl
    subst hs
    obtain ⟨e, he⟩ : ∃ e, es = #[e] := Array.size_eq_one_iff.mp z1
    have pz : t.place.size = 1 := by
      have := S.fit
      simp only [SetTable.fits, Bool.and_eq_true, beq_iff_eq] at this
      rw [this.1, z1]
    obtain ⟨p, hp⟩ : ∃ p, t.place = #[p] := Array.size_eq_one_iff.mp pz
    refine nextI_item (slot := 0) (nx := p + 1) (x := e.2) st st2 S (fun Q' E' h => next_few st2 S hb hz ?_) fun g hg sb => hQ _ _ ?_ ⟨⟨p + 1, hg, fun z => absurd z (by decide), fun _ p' hp' => ?_⟩, sb.extBut a _ ne st2⟩ (sb_moved sb.extBut)
    · rw [hp, below0, he]
      exact h
    · rw [he]
      rfl
    · rw [hp] at hp'
      cases hp'
      rfl
  done := fun s Q E st hQ => by
    obtain ⟨⟨slot, st, r0, r1⟩, st2⟩ := st
    refine nextI_end hh st st2 S (fun Q' E' h => next_few st2 S hb hz ?_) fun g sb => hQ _ (sb_moved sb)
    have : es.size = 0 ∨ es.size = 1 := by omega
    rcases this with z | z
    · have e0 : es[SetTable.below t.place slot]? = none := Array.getElem?_eq_none (by omega)
      rw [e0]
      exact h
    · have pz : t.place.size = 1 := by
        have := S.fit
        simp only [SetTable.fits, Bool.and_eq_true, beq_iff_eq] at this
        rw [this.1, z]
      obtain ⟨p, hp⟩ : ∃ p, t.place = #[p] := Array.size_eq_one_iff.mp pz
      have hs := r1 z p hp
      subst hs
      have e0 : es[SetTable.below t.place (p + 1)]? = none := by
        rw [hp, below1]
        exact Array.getElem?_eq_none (by omega)
      rw [e0]
      exact h
  self := fun i s Q E st hQ => by
    obtain ⟨⟨slot, st, _⟩, _⟩ := st
    exact self_sit st hQ
theorem strs_el {o : Obj} {ss : List Str} {es : Array (Int × Value)} {ep : Nat} {t : SetTable} (S : SetO prog w o ss es ep t) {e : Int × Value} (h : e ∈ es.toList) : ∃ x tk, e.2 = .str x tk := by
  obtain ⟨⟨k, hk, _⟩, _⟩ := S.el e h
  obtain ⟨tk, z⟩ := Value.isStrOf_shape hk
  exact ⟨k, tk, z⟩
theorem iterS {a : Addr} {o : Obj} {ss : List Str} {es : Array (Int × Value)} {ep : Nat} {t : SetTable} {Q : Value → Shared → Prop} (ho : s.heap.get? a = some o) (S : SetO prog w o ss es ep t)
    (q : ∀ (I : Addr) (g : Heap) (d : Drawn) (xs : List Value) (fp : List Addr) (St : Nat → Shared → Prop), (∀ b o, s.heap.get? b = some o → g.get? b = some o) → s.heap.objs.size ≤ I → I ∈ fp → (∀ b ∈ fp, b = a ∨ s.heap.objs.size ≤ b ∧ b < g.objs.size) → (xs.map strOf).Perm ss →
      (∀ v ∈ xs, ∃ x tk, v = .str x tk) → xs.length = es.size → (∀ B : Around, B.handled = none → WalksS prog w B I fp [I] (fun a b => b = a) es.size (fun i v => xs[i]? = some v) St) → St 0 { s with heap := g, drawn := d } → Q (.ref I) { s with heap := g, drawn := d }) :
    wpAny (model prog w) A (pyIter (.ref a)) Q E s := by
  have ty : s.TypeIs (.ref a) "set" := ⟨o, ho, S.ex.1⟩
  have la : a < s.heap.objs.size := Heap.lt_size ho
  refine wpAny_pyIter_slot ty PySem.F.slot_set_iter (wpAny_call_entry PySem.F.slot_set_iter ty en_set_iter ?_ (PySem.F.args_set_iter_1 _))
  unfold Builtin.«frozenset.__iter__» Builtin.Frozenset.slot0
  refine wpAny_bind (wpAny_bind (m := slotArgs "__iter__" 0 _) (wpAny_pure (wpAny_pure ?_)))
  unfold Builtin.Frozenset.sizeOf
  refine wpAny_bind (wpAny_bind (wpAny_setEntries_of ho S.dat S.fit (wpAny_pure ?_)))
  unfold setDrawn
  refine wpAny_bind (wpAny_bind (wpAny_setState_of ho S.dat S.fit ?_))
  dsimp only
  unfold setsByText
  refine wpAny_bind (wpAny_bind (wpAny_askSetting (wpAny_pure ?_)))
  dsimp only
  refine wpAny_pure ?_
  split
  · rename_i hc
    have hc' : (!byTx w && (!t.plain && decide (es.size > 1))) = true := hc
    have hb : byTx w = false := by
      cases h : byTx w with
      | false => rfl
      | true => rw [h] at hc'; simp at hc'
    have h1 : 1 < es.size := by
      have : decide (es.size > 1) = true := by
        cases h : decide (es.size > 1) with
        | true => rfl
        | false => rw [h] at hc'; simp at hc'
      exact of_decide_eq_true this
    refine wpAny_bind (draw_perm es.size _ s (by simp) fun ps d hp => ?_)
    have hl : ps.length = es.size := by rw [hp.length_eq, List.length_range]
    have hlt : ∀ p ∈ ps, p < es.size := fun p h => List.mem_range.mp (hp.mem_iff.mp h)
    have hs : es.size ≤ sizeLine := fits_of_scanBound S.bd
    refine wpAny_bind (wpAny_newTuple ?_ (by rw [List.length_map, hl]; exact hs))
    have ho1 : (s.heap.push { cls := .type "tuple", data := .seq (ps.map fun (p : Nat) => rawInt p).toArray }).get? a = some o := Heap.get?_push_of_some _ ho
    refine wpAny_bind (wpAny_setEpoch_of (s := { s with heap := _, drawn := d }) ho1 S.dat S.fit ?_)
    refine wpAny_bind (wpAny_newObj_type ?_ (by size_fits))
    have hT : (s.heap.push { cls := .type "tuple", data := .seq (ps.map fun (p : Nat) => rawInt p).toArray }).get? s.heap.objs.size = some _ := Heap.get?_push_size _ rfl
    have e1 : (s.heap.push { cls := .type "tuple", data := .seq (ps.map fun (p : Nat) => rawInt p).toArray }).objs.size = s.heap.objs.size + 1 := Heap.size_push ..
    refine wpAny_pure ⟨_, rfl, "set_iterator", _, ⟨_, Heap.get?_push_size _ rfl, rfl⟩, sl_sit_next.lookup, ?_⟩
    have neA : a ≠ (s.heap.push { cls := .type "tuple", data := .seq (ps.map fun (p : Nat) => rawInt p).toArray }).objs.size := by rw [e1]; exact Nat.ne_of_lt (Nat.lt_succ_of_lt la)
    have neT : s.heap.objs.size ≠ (s.heap.push { cls := .type "tuple", data := .seq (ps.map fun (p : Nat) => rawInt p).toArray }).objs.size := by rw [e1]; exact Nat.ne_of_lt (Nat.lt_succ_self _)
    refine q _ _ d (ps.map fun p => ((es[p]?).map (·.2)).getD .none) [_, a, s.heap.objs.size] _ (fun b o e => Heap.get?_push_of_some _ (Heap.get?_push_of_some _ e)) (by simp only [e1]; omega) List.mem_cons_self ?_ ?_ ?_ (by rw [List.length_map, hl]) (fun B hh => walk_dr S ps hlt hl rfl neA neT hh) ⟨⟨_, Heap.get?_push_size _ rfl, rfl, rfl⟩, Heap.get?_push_of_some _ ho1, Heap.get?_push_of_some _ hT⟩
    · intro b hb
      simp only [List.mem_cons, List.not_mem_nil, or_false] at hb
      rcases hb with rfl | rfl | rfl
      · exact .inr ⟨by rw [e1]; exact Nat.le_succ _, by simp only [Heap.size_push]; exact Nat.lt_succ_self _⟩
      · exact .inl rfl
      · exact .inr ⟨Nat.le_refl _, by rw [Heap.size_push, e1]; exact Nat.lt_succ_of_lt (Nat.lt_succ_self _)⟩
    · have r : ((List.range es.size).map fun p => ((es[p]?).map (·.2)).getD .none) = es.toList.map (·.2) := by
        apply List.ext_getElem?
        intro i
        simp only [List.getElem?_map]
        by_cases hi : i < es.size
        · simp [hi]
        · simp [hi]
      have := ((hp.map fun p => ((es[p]?).map (·.2)).getD .none).map strOf)
      rw [r] at this
      exact this.trans (by rw [List.map_map]; exact S.pm)
    · intro v hv
      obtain ⟨p, h, rfl⟩ := List.mem_map.mp hv
      have hp' := hlt p h
      obtain ⟨x, tk, z⟩ := strs_el S (e := es[p]) (by simp)
      exact ⟨x, tk, by simp [hp', z]⟩
  · rename_i hc
    have hc' : ¬ (!byTx w && (!t.plain && decide (es.size > 1))) = true := hc
    refine wpAny_bind (wpAny_pure (wpAny_bind (wpAny_setEpoch_of ho S.dat S.fit ?_)))
    refine wpAny_bind (wpAny_newObj_type ?_ (by size_fits))
    refine wpAny_pure ⟨_, rfl, "set_iterator", _, ⟨_, Heap.get?_push_size _ rfl, rfl⟩, sl_sit_next.lookup, ?_⟩
    have keep : ∀ {ob : Obj} (b : Addr) (o : Obj), s.heap.get? b = some o → (s.heap.push ob).get? b = some o := fun b o e => Heap.get?_push_of_some _ e
    have fpk : ∀ {ob : Obj} (b : Addr), b ∈ [s.heap.objs.size, a] → b = a ∨ s.heap.objs.size ≤ b ∧ b < (s.heap.push ob).objs.size := fun b hb => by
      simp only [List.mem_cons, List.not_mem_nil, or_false] at hb
      rcases hb with rfl | rfl
      · exact .inr ⟨Nat.le_refl _, by rw [Heap.size_push]; exact Nat.lt_succ_self _⟩
      · exact .inl rfl
    cases hb : byTx w with
    | true =>
      refine q _ _ s.drawn ((pickOrder (w.params.setOrder a ep) es).toList.map (·.2)) [_, a] _ keep (Nat.le_refl _) List.mem_cons_self fpk ?_ ?_ ?_ (fun B hh => walk_tx S hb (Nat.ne_of_lt la) hh) ⟨⟨_, Heap.get?_push_size _ rfl, rfl, rfl⟩, Heap.get?_push_of_some _ ho⟩
      · rw [List.map_map]
        exact ((pick_perm _ es).map tx).trans S.pm
      · intro v hv
        obtain ⟨e, h, rfl⟩ := List.mem_map.mp hv
        exact strs_el S ((pick_perm _ es).mem_iff.mp h)
      · rw [List.length_map, (pick_perm _ es).length_eq, Array.length_toList]
    | false =>
      have hz : es.size ≤ 1 := by
        refine Nat.le_of_not_lt fun h => hc' ?_
        rw [hb, S.pl (by omega)]
        simpa using h
      refine q _ _ s.drawn (es.toList.map (·.2)) [_, a] _ keep (Nat.le_refl _) List.mem_cons_self fpk ?_ ?_ (by simp) (fun B hh => walk_few S hb hz (Nat.ne_of_lt la) hh) ⟨⟨0, ⟨_, Heap.get?_push_size _ rfl, rfl, rfl⟩, fun _ => rfl, fun h => absurd h (by decide)⟩, Heap.get?_push_of_some _ ho⟩
      · rw [List.map_map]
        exact S.pm
      · intro v hv
        obtain ⟨e, h, rfl⟩ := List.mem_map.mp hv
        exact strs_el S h
theorem collectS {a : Addr} {o : Obj} {ss : List Str} {es : Array (Int × Value)} {ep : Nat} {t : SetTable} {Q : List Value → Shared → Prop} (hh : A.handled = none) (ho : s.heap.get? a = some o) (S : SetO prog w o ss es ep t)
    (q : ∀ xs g d tk, (∀ b o, s.heap.get? b = some o → g.get? b = some o) → s.heap.objs.size < g.objs.size → (xs.map strOf).Perm ss → (∀ v ∈ xs, ∃ x tk, v = .str x tk) → Q xs { s with heap := g, drawn := d, toks := tk }) : wpAny (model prog w) A (collect (.ref a)) Q E s := by
  have la : a < s.heap.objs.size := Heap.lt_size ho
  have hs : es.size ≤ sizeLine := fits_of_scanBound S.bd
  unfold collect
  refine wpAny_bind (wpAny_runValue (codeAny_builtin PySem.F.entry_proto_collect ?_))
  rw [Around.under_plainId PySem.F.plain_proto_collect _]
  show wpAny _ A.in1 (newList [] >>= fun l => again (.builtin "list.__iadd__" ⟨[l, .ref a], []⟩)) _ _ s
  refine wpAny_bind (wpAny_newObj_type (wpAny_pure ⟨plainId_quiet PySem.F.plain_list_iadd _, codeAny_builtin PySem.F.entry_list_iadd ?_⟩))
  rw [Around.under_plainId PySem.F.plain_list_iadd _]
  show wpAny _ A.in1 (Builtin.List.listExtendWith (.ref s.heap.objs.size) (.ref a) (.ref s.heap.objs.size)) _ _ _
  generalize hob : ({ cls := .type "list", data := .seq ([] : List Value).toArray } : Obj) = ob
  have hL : (s.heap.push ob).get? s.heap.objs.size = some ob := Heap.get?_push_size _ (by rw [← hob]; rfl)
  have ho1 : (s.heap.push ob).get? a = some o := Heap.get?_push_of_some _ ho
  have sz1 : (s.heap.push ob).objs.size = s.heap.objs.size + 1 := Heap.size_push ..
  unfold Builtin.List.listExtendWith
  refine wpAny_bind (wpAny_typeOf (T := "set") ⟨o, ho1, S.ex.1⟩ ?_)
  have h1 : Builtin.List.listSameRef (.ref s.heap.objs.size) (.ref a) = false := by simp [Builtin.List.listSameRef, Nat.ne_of_gt la]
  have h2 : (Value.type "set" == Value.type "list") = false := by decide
  have h3 : (Value.type "set" == Value.type "tuple") = false := by decide
  simp only [h1, h2, h3, Bool.or_false, Bool.false_eq_true, if_false]
  refine wpAny_bind (iterS (s := { s with heap := s.heap.push ob }) ho1 S fun I g d xs fp St keep lI mI hfp pm hst len W st => ?_)
  refine wpAny_bind (wpAny_holding ?_)
  unfold Builtin.List.listLengthHint
  have ty : Shared.TypeIs { s with heap := g, drawn := d } (.ref a) "set" := ⟨o, keep _ _ ho1, S.ex.1⟩
  refine wpAny_bind (wpAny_specialOf ty PySem.F.slot_set_len.lookup ?_)
  dsimp only
  rw [show splitId "set.__len__" = some ("set", "__len__") by kernel_rfl]
  dsimp only
  refine wpAny_bind (wpAny_isInstance ty sub_set_self ?_)
  simp only [Bool.not_true, Bool.false_eq_true, if_false]
  refine wpAny_ite ?_
  rw [if_pos (by decide +kernel)]
  refine wpAny_bind (wpAny_typeOf ty ?_)
  refine wpAny_pure ?_
  refine wpAny_ite ?_
  rw [if_pos (by decide +kernel)]
  refine wpAny_bind (wpAny_rule (wpAny_bind ?_))
  have hLg : g.get? s.heap.objs.size = some ob := keep _ _ hL
  rw [← hob] at hLg
  show wpAny _ A.in1 (updateSeq s.heap.objs.size (·.push .none) >>= fun _ => updateSeq s.heap.objs.size (·.pop)) _ _ _
  refine wpAny_bind (wpAny_updateSeq hLg rfl ?_)
  have u1 := Heap.get?_update_self (Obj.mapSeq (·.push Value.none)) hLg rfl
  refine wpAny_updateSeq u1 rfl ?_
  have u2 := Heap.get?_update_self (Obj.mapSeq (·.pop)) u1 rfl
  have oth : ∀ b o, b ≠ s.heap.objs.size → g.get? b = some o → ((g.update s.heap.objs.size (Obj.mapSeq (·.push Value.none))).update s.heap.objs.size (Obj.mapSeq (·.pop))).get? b = some o :=
    fun b o nb e => (Heap.get?_update_other _ _ (Ne.symm nb)).trans ((Heap.get?_update_other _ _ (Ne.symm nb)).trans e)
  have nf : s.heap.objs.size ∉ fp := fun h => by
    rcases hfp _ h with z | ⟨z, _⟩
    · exact absurd z (Nat.ne_of_gt la)
    · have z' : (s.heap.push ob).objs.size ≤ s.heap.objs.size := z
      rw [sz1] at z'
      exact absurd z' (Nat.not_succ_le_self _)
  have W' := W A.in1 (by simp [hh])
  refine wpAny_pure ⟨plainId_quiet PySem.F.plain_extend_loop _, codeAny_extend_loopS W' hs _ nf _ es.size 0 _ _ _ rfl (Nat.zero_le _) (W'.frame 0 ({ s with heap := g, drawn := d } : Shared) _ s.toks st (Nat.le_refl _) fun b hb o e => oth b o (fun h => nf (h ▸ hb)) e) u2 (ItemsOf.nil _) fun s' acc c m hS' it => ?_⟩
  show wpAny _ A (load s.heap.objs.size >>= _) _ _ s'
  refine wpAny_bind (wpAny_load hS' (wpAny_pure ?_))
  have ex : acc.toList = xs := by
    obtain ⟨z, h⟩ := it
    apply List.ext_getElem?
    intro j
    rw [Array.getElem?_toList]
    cases e : acc[j]? with
    | some v => exact (h j v e).symm
    | none =>
      have : es.size ≤ j := by
        have := Array.getElem?_eq_none_iff.mp e
        omega
      exact (List.getElem?_eq_none (by omega)).symm
  rw [ex]
  obtain ⟨g', gn, dr, tk, os⟩ := s'
  obtain ⟨m1, m2, m3, m4, m5⟩ := m
  dsimp only at m1 m2 m3 m4 m5
  subst m2 m3 m4
  refine q xs g' _ tk (fun b o e => m1 b o (fun h => ?_) (oth b o ?_ (keep _ _ (Heap.get?_push_of_some _ e)))) (Heap.lt_size hS') pm hst
  · rcases List.mem_cons.mp h with z | z
    · subst z
      exact absurd (Heap.lt_size e) (Nat.lt_irrefl _)
    · rw [List.mem_singleton] at z
      subst z
      have z' : (s.heap.push ob).objs.size ≤ b := lI
      rw [sz1] at z'
      exact absurd (Heap.lt_size e) (Nat.not_lt_of_le (Nat.le_of_succ_le z'))
  · exact Nat.ne_of_lt (Heap.lt_size e)
theorem rising_le : ∀ {l : List Str} {p : Str}, risingS p l = true → (∀ y ∈ l, ¬ lS y p) ∧ l.Pairwise fun a b => ¬ lS b a
  | [], _, _ => ⟨fun _ h => absurd h (by simp), List.Pairwise.nil⟩
  | x :: r, p, h => by
    have h' : (!ltCps x.cps.toList p.cps.toList && risingS x r) = true := h
    rw [Bool.and_eq_true, Bool.not_eq_true', ltCps_eq] at h'
    obtain ⟨h1, h2⟩ := h'
    have n1 : ¬ lS x p := of_decide_eq_false h1
    obtain ⟨i1, i2⟩ := rising_le h2
    refine ⟨fun y hy => ?_, List.pairwise_cons.mpr ⟨i1, i2⟩⟩
    rcases List.mem_cons.mp hy with rfl | hy
    · exact n1
    · intro c
      exact i1 y hy (Decidable.byContradiction fun d => n1 (Decidable.byContradiction fun n1' => by
        by_cases e : lS p x
        · exact d (lS_tr c e)
        · have e2 := lS_tri n1' e
          subst e2
          exact d c))
theorem sorted_le {l : List Str} (h : sortedS l = true) : l.Pairwise fun a b => ¬ lS b a := by
  cases l with
  | nil => exact List.Pairwise.nil
  | cons x r =>
    obtain ⟨h1, h2⟩ := rising_le (p := x) (l := r) h
    exact List.pairwise_cons.mpr ⟨h1, h2⟩
theorem sortedS_of {a : Addr} {o : Obj} {ss : List Str} {es : Array (Int × Value)} {ep : Nat} {t : SetTable} {Q : Value → Shared → Prop} (hh : A.handled = none) (ho : s.heap.get? a = some o) (S : SetO prog w o ss es ep t) (h64 : es.size < 64)
    (q : ∀ (r : Addr) (us : List Value) (ys : List Str) (n : Nat) g d tk, s.heap.objs.size ≤ r → g.get? r = some (seqObj "list" us.toArray n) → (∀ b o, s.heap.get? b = some o → g.get? b = some o) → StrsAre us ys → ys.Perm ss → (ys.Pairwise fun a b => ¬ lS b a) →
      Q (.ref r) { s with heap := g, drawn := d, toks := tk }) : wpAny (model prog w) A (call (.builtin "sorted") [.ref a]) Q E s := by
  refine Calls.call_function_entry kind_sorted plain_sorted entry_sorted (args_sorted1 _) ?_
  unfold Builtin.«sorted»
  refine wpAny_bind (m := checkCount "sorted" 1 1 _) (wpAny_pure (wpAny_bind (collectS (by simp [hh]) ho S fun xs g d tk keep lg pm hst => ?_)))
  have hl : xs.length = es.size := by
    have := pm.length_eq
    rw [List.length_map] at this
    rw [this, S.size]
  refine wpAny_bind (wpAny_newList ?_ (by rw [hl]; exact fits_of_scanBound S.bd))
  have sa : StrsAre xs (xs.map strOf) := strsAre_map xs hst
  have hoL : (g.push (seqObj "list" xs.toArray 0)).get? g.objs.size = some (seqObj "list" xs.toArray 0) := Heap.get?_push_size _ rfl
  refine wpAny_bind (wpAny_holding (wpAny_call_entry slot_list_sort ⟨_, hoL, rfl⟩ entry_list_sort (list_sort_treeK strKind_oneLt hoL sa.keysOf (fun v1 v2 r e => keyKind_strs (by rw [← e]; exact sa)) (by omega) fun st' a1 a2 => ⟨_, rfl, wpAny_pure ⟨_, rfl, ?_⟩⟩) (args_list_sort _)))
  obtain ⟨ys, b1, b2, b3⟩ := sorted_out_str sa a1 a2
  obtain ⟨n, hn⟩ := sortedHeap_at (out := (arrOf st').map (·.2)) hoL
  refine q g.objs.size ((arrOf st').map (·.2)).toList ys n _ d tk (Nat.le_of_lt lg) (by rw [hn]) (fun b ob e => ?_) b1 (b2.trans pm) (sorted_le b3)
  have hb := Heap.lt_size (keep b ob e)
  show (sortedHeap _ _ _ _).get? b = some ob
  rw [sortedHeap_old (Nat.ne_of_lt hb) (by rw [Heap.size_push]; exact Nat.lt_succ_of_lt hb)]
  exact Heap.get?_push_of_some _ (keep b ob e)
end
section
variable {X : Cx}
theorem vals_str : ∀ {us : List Value} {ys : List Str}, StrsAre us ys → Vals (ys.map V.str) us
  | _, _, .nil => .nil
  | _, _, .cons x t r => .cons ⟨t, rfl⟩ (vals_str r)
theorem boot_sorted : bootBuiltins "sorted" = some (.builtin "sorted") := by decide +kernel
theorem boot_set : bootBuiltins "set" = some (.type "set") := by decide +kernel
def dSSet (K : PySem.W.Frag) (te : TE) : TE := fun σ H Q => te σ H fun x H1 => match x with
  | .ref l => ∃ names : List Str, SqL K H1 l (names.map V.str) ∧ names.length ≤ 1000 ∧ (srt names).length < 64 ∧ ∀ D, H1 D = none → Q (.ref D) (upd H1 D (.lst ((srt names).map V.str)))
  | _ => False
theorem e_sset {e : Expr} {te : TE} {p p' pos pos' : Pos} (hg1 : Gl X "sorted") (hm1 : X.mg "sorted" = none) (hg2 : Gl X "set") (hm2 : X.mg "set" = none) (he : PE X e te) (hc : X.calm = true := by rfl)
    (hs : starEach [.Call (.Name "set" p') [e] [] pos'] X.env = [(false, eval (.Call (.Name "set" p') [e] [] pos') X.env)] := by rfl) (hs2 : starEach [e] X.env = [(false, eval e X.env)] := by rfl) :
    PE X (.Call (.Name "sorted" p) [.Call (.Name "set" p') [e] [] pos'] [] pos) (dSSet X.K te) := by
  intro pins s σ H Q I h
  refine wpAny_Call_Name_kw (ld_blt I hg1 hm1 boot_sorted ?_)
  refine PyProof.Rows.callWith_builtin1 ?_ hs rfl
  rw [hs]
  show wpAny _ _ (spliced ((false, eval (.Call (.Name "set" p') [e] [] pos') X.env) :: backTo pos (starEach [] X.env))) _ _ s
  refine Calls.spliced_cons ?_
  refine wpAny_Call_Name_kw (ld_blt I hg2 hm2 boot_set ?_)
  refine PyProof.Rows.callWith_type1 ?_ hs2 rfl
  rw [hs2]
  show wpAny _ _ (spliced ((false, eval e X.env) :: backTo pos' (starEach [] X.env))) _ _ s
  refine Calls.spliced_cons (thn (he pins s σ H _ I h) fun u s1 ⟨x, H1, I1, r1, q1⟩ => Calls.spliced_nil ?_)
  match x, q1 with
  | .ref l, ⟨names, hq, hn, h64, q⟩ =>
    cases (show u = Value.ref l from r1)
    obtain ⟨its, rv, ⟨oL, nL, eL, cL, dL, xL⟩, hz⟩ := I1.list hq
    have sa : StrsAre its names := strs_of rv
    have hl : its.length = names.length := by rw [← rv.length, List.length_map]
    have hh : X.A.handled = none := I1.ok.hd hc
    refine call_setS hh ⟨oL, eL, cL, nL, xL⟩ sa (by rw [hl]; exact Nat.lt_of_le_of_lt (Nat.succ_le_succ hn) (by decide)) fun g tk hS keep => Calls.spliced_nil ?_
    obtain ⟨o, es, ep, t, ho, S⟩ := hS
    rw [hl] at S
    refine sortedS_of hh ho S (by rw [S.size]; exact Nat.lt_of_le_of_lt (ddn_srt names) h64) fun r us ys n g2 d tk2 lr hr keep2 sa2 pm pw => ?_
    have ey : ys = srt names := inc_ext (pairwise_inc pw (pm.nodup_iff.mpr (ddn_nodup _ _))) (inc_srt _) fun x => by rw [pm.mem_iff, ddn_mem, mem_srt]
    subst ey
    have fr : s1.heap.objs.size ≤ r := Nat.le_trans (Nat.le_of_lt (Heap.lt_size ho)) lr
    have I2 := I1.laid (t' := tk2) (h' := g2) (a := r) (o := .lst ((srt names).map V.str)) (fun b u e => keep2 _ _ (keep _ _ e)) fr ⟨by rw [List.length_map]; exact Nat.le_trans (Nat.le_of_lt h64) (by decide), us, n, vals_str sa2, hr⟩
    exact ⟨.ref r, _, ⟨I2.ok, I2.os, I2.bare, I2.base, I2.loc, I2.cell, I2.free, I2.freeC, I2.pin, I2.hok, I2.len⟩, rfl, q r (I1.hok.fresh fr)⟩
end
end Lw
end
section
set_option Elab.async false
set_option linter.all false
set_option maxRecDepth 100000
set_option maxHeartbeats 4000000
namespace Lw
open PySem PySem.Spec PyProof.Rows L2
section
variable {prog : Program} {w : World} {A : Around} {R : Result → Shared → Prop} {s : Shared}
theorem turn_eqI (elt tg iter cd : Expr) (scope : Scope) (pos : Pos) (it acc : Value) (env : Env) :
    compTurn (.ListComp elt [⟨tg, iter, [cd], 0⟩] scope pos) 0 it acc env = (standAt iter.pos >>= fun _ => pyNext it >>= fun r => match r with
      | none => pure (.done .next)
      | some v => letOwnedTupleGo tg it v >>= fun _ => assign tg env v >>= fun _ => isTrue cd env (eval cd env) >>= fun b => if b = true then ((eval elt env >>= fun x => call (.builtin "list.append") [acc, x] >>= fun _ => pure ()) >>= fun _ => again (.compLoop (.ListComp elt [⟨tg, iter, [cd], 0⟩] scope pos) 0 it acc env)) else again (.compLoop (.ListComp elt [⟨tg, iter, [cd], 0⟩] scope pos) 0 it acc env)) := by
  unfold compTurn
  simp only [List.getElem?_cons_zero, bne_self_eq_false, Bool.false_eq_true, if_false, List.forIn_cons, List.forIn_nil, if_true]
  congr 1
  funext _
  congr 1
  funext r
  cases r with
  | none => rfl
  | some v =>
    simp only [bind_assoc, pure_bind]
    rfl
theorem loop_compI {elt tg iter cd : Expr} {scope : Scope} {pos : Pos} {it acc : Value} {env : Env} (I : Nat → Shared → Prop)
    (turn : ∀ n s, I n s → wpAny (model prog w) A (pyNext it) (fun r s1 => (r = none ∧ R (.ok .next) s1) ∨ ∃ v, r = some v ∧ wpAny (model prog w) A (letOwnedTupleGo tg it v) (fun _ s2 => wpAny (model prog w) A (assign tg env v) (fun _ s3 =>
      wpAny (model prog w) A (isTrue cd env (eval cd env)) (fun b s3 => Br b (wpAny (model prog w) A (eval elt env) (fun x s4 => wpAny (model prog w) A (call (.builtin "list.append") [acc, x]) (fun _ s5 => ∃ m, m < n ∧ I m s5) (fun _ _ => False) s4) (fun _ _ => False) s3) (∃ m, m < n ∧ I m s3)) (fun _ _ => False) s3) (fun _ _ => False) s2) (fun _ _ => False) s1) (fun _ _ => False) s)
    (n : Nat) (h : I n s) : codeAny (model prog w) A (.compLoop (.ListComp elt [⟨tg, iter, [cd], 0⟩] scope pos) 0 it acc env) R s := by
  refine codeAny_loop rfl I (fun n s hI => ?_) n h
  show wpAny _ _ ((compTurn (.ListComp elt [⟨tg, iter, [cd], 0⟩] scope pos) 0 it acc env).onRaise (fun x => do noteFrame x env; theTreesLotGoes x)) _ _ s
  refine wpAny_noted ?_
  rw [turn_eqI]
  refine wpAny_bind (wpAny_standAt (wpAny_bind (wpAny_mono (turn n s hI) (fun r s1 h1 => ?_) fun _ _ z => z.elim)))
  rcases h1 with ⟨rfl, h1⟩ | ⟨v, rfl, h1⟩
  · exact wpAny_pure h1
  · refine wpAny_bind (wpAny_mono h1 (fun _ s2 h2 => ?_) fun _ _ z => z.elim)
    refine wpAny_bind (wpAny_mono h2 (fun _ s3 h3 => ?_) fun _ _ z => z.elim)
    refine wpAny_bind (wpAny_mono h3 (fun b s3 h3 => ?_) fun _ _ z => z.elim)
    cases b with
    | true =>
      refine wpAny_bind (wpAny_bind (wpAny_mono (h3.1 rfl) (fun x s4 h4 => ?_) fun _ _ z => z.elim))
      refine wpAny_bind (wpAny_mono h4 (fun _ s5 h5 => ?_) fun _ _ z => z.elim)
      exact wpAny_pure (wpAny_pure ⟨rfl, h5⟩)
    | false => exact wpAny_pure ⟨rfl, h3.2 rfl⟩
end
@[irreducible] def CGoalI (J : It) (g : TG) (tc : TT) (te : TE) (k : Nat) (js : List Nat) (σ : L2.St) (H1 : Hp) (Q : VK) : Prop := ∀ D, H1 D = none → ∃ W : Nat → Nat → Hp → Prop, (∃ m, W 0 m (upd H1 D (.lst []))) ∧ ∀ i m H, W i m H →
  (J.stop i H ∧ Q (.ref D) H) ∨ (J.go i H ∧ ∀ x H', J.yld i H x H' → g x (List.replicate k none ++ capσ js σ) H' fun σ2 H2 => σ2.drop k = capσ js σ ∧ tc σ2 H2 fun b H3 => Br b (te σ2 H3 fun v H4 => ∃ xs, H4 D = some (.lst xs) ∧ xs.length < sizeLine ∧ ∃ m', m' < m ∧ W (i + 1) m' (upd H4 D (.lst (xs ++ [v])))) (∃ m', m' < m ∧ W (i + 1) m' H3))
def dCompI (wi : TI) (g : TG) (tc : TT) (te : TE) (k : Nat) (js : List Nat) : TE := fun σ H Q => wi σ H fun J H1 => CGoalI J g tc te k js σ H1 Q
section
variable {X : Cx}
theorem comp_coreI {elt iter tg cd : Expr} {scope : Scope} {pos : Pos} {wi : TI} {te : TE} {tc : TT} {g : TG} {N : List Str} {cl : List (Str × Addr)} (k : Nat) (js : List Nat) (hi : PI X tg iter wi)
    (hg : ∀ C s H fp, PG (cxC X N s H (compEnvC scope cl C X.env) fp) tg g) (hd : ∀ C s H fp, PT (cxC X N s H (compEnvC scope cl C X.env) fp) cd tc) (he : ∀ C s H fp, PE (cxC X N s H (compEnvC scope cl C X.env) fp) elt te) (hcalm : X.calm = true)
    (hclos : closureFor scope X.env = pure cl) (hkind : scope.kind = .function) (hcell : ∀ y ∈ scope.names, y.2 ≠ .cell) (hnames : ∀ y ∈ scope.names, y.2 = .local → scope.names.lookup y.1 = some .local)
    (hcl : ∀ y c, cl.lookup y = some c → X.env.cells.lookup y = some c) (hhas : ∀ y, ((relabel scope X.env).names.lookup y = some .cell ∨ (relabel scope X.env).names.lookup y = some .free) → ∃ c, cl.lookup y = some c)
    (hlen : N.length = k + js.length) (hcap : ∀ i j, js[i]? = some j → ∃ y, N[k + i]? = some y ∧ Cap X (relabel scope X.env) cl j y)
    (hs : ∀ x, foldedSetIterable iter X.env x = pure x) {pins : List (Addr × Obj)} {s : Shared} {σ : L2.St} {H : Hp} {Q : VK} (I : Inv X pins σ H s) (h : dCompI wi g tc te k js σ H Q) {cpos : Pos} {use : Option (Value → Sem Unit)} {Qv : Value → Shared → Prop}
    (fin : ∀ (s6 : Shared) (H5 : Hp) (D C : Addr) (m : Str → Option Value), Inv X pins σ H5 s6 → s6.heap.Ns C m → H5 C = none → X.s₀.heap.objs.size ≤ C → C ≠ X.env.locals → (∀ x c, X.env.cells.lookup x = some c → c ≠ C) → (∀ p ∈ X.pn ++ pins, p.1 ≠ C) → Q (.ref D) H5 →
      compPost (model X.prog X.w) X.A X.xe use Qv (.ref D) C (.ok .next) s6) :
    wpAny (model X.prog X.w) X.A (comprehension (.ListComp elt [⟨tg, iter, [cd], 0⟩] scope pos) scope X.env cpos (newList []) false (eval iter X.env) use) Qv X.xe s := by
  refine wpAny_comprehension_free (use := use) rfl hs hclos hkind hnames (thn (hi pins s σ H _ I h) fun v s1 h1 => thn h1 fun itv s2 h2 => ?_)
  obtain ⟨it, fp, tn, J, H2, rfl, I2, T, st2, f2, h2⟩ := h2
  refine wpAny_newObj_type ?_
  have hD : H2 s2.heap.objs.size = none := I2.hok.fresh (Nat.le_refl _)
  unfold CGoalI at h2
  obtain ⟨W, ⟨m0, w0⟩, turn⟩ := h2 _ hD
  have I3 : Inv X pins σ (upd H2 s2.heap.objs.size (.lst [])) { s2 with heap := s2.heap.push { cls := .type "list", dict := none, data := .seq ([] : List Value).toArray } } :=
    I2.laid (t' := s2.toks) (fun b u e => Heap.get?_push_of_some _ e) (Nat.le_refl _) ⟨Nat.zero_le _, [], 0, .nil, Heap.get?_push_size _ rfl⟩
  have hlt : ∀ b ∈ fp, b < s2.heap.objs.size := fun b hb => by
    obtain ⟨o, e, _⟩ := T.obj _ _ st2 b hb
    exact Heap.lt_size e
  have f3 : ∀ b ∈ fp, FpOk X pins (upd H2 s2.heap.objs.size (.lst [])) b := fun b hb => ⟨by rw [upd_ne (Nat.ne_of_lt (hlt b hb))]; exact (f2 b hb).1, (f2 b hb).2⟩
  have st3 : tn 0 (s2.heap.push { cls := .type "list", dict := none, data := .seq ([] : List Value).toArray }) := T.keep _ _ _ st2 fun b hb o e => Heap.get?_push_of_some _ e
  have hlt3 : ∀ b ∈ fp, b < (s2.heap.push { cls := .type "list", dict := none, data := .seq ([] : List Value).toArray }).objs.size := fun b hb => Nat.lt_of_lt_of_le (hlt b hb) (by rw [Heap.size_push]; exact Nat.le_succ _)
  generalize hs3 : ({ s2 with heap := s2.heap.push { cls := .type "list", dict := none, data := .seq ([] : List Value).toArray } } : Shared) = s3 at I3
  have eh : s3.heap = s2.heap.push { cls := .type "list", dict := none, data := .seq ([] : List Value).toArray } := by rw [← hs3]
  rw [← eh] at st3 hlt3
  generalize hDD : s2.heap.objs.size = D at *
  generalize hH3 : upd H2 D (.lst []) = H3 at *
  clear hs3 eh
  refine wpAny_newFunctionEnv (s := s3) hcell (by intro y hy; simp at hy) (fun h4 n4 sb4 => ?_) hkind
  have Ok := comp_ok (N := N) (C := s3.heap.objs.size) I3 hkind (Nat.le_refl _) hcl hhas fun b hb => ⟨f3 b hb, hlt3 b hb⟩
  show codeAny _ _ (.compStart (.ListComp elt [⟨tg, iter, [cd], 0⟩] scope pos) 0 (.ref it) (.ref D) (compEnvC scope cl s3.heap.objs.size X.env)) _ _
  generalize hC : s3.heap.objs.size = C at *
  have old : ∀ b o, s3.heap.get? b = some o → h4.get? b = some o := fun b o e => sb4.extBut b o (by rw [← hC]; exact Nat.ne_of_lt (Heap.lt_size e)) (Heap.get?_push_of_some _ e)
  have fresh : H3 C = none := I3.hok.fresh (by rw [hC]; exact Nat.le_refl _)
  have hcapl : ∀ {i : Nat} {x : Str} {v : V}, N[i]? = some x → (List.replicate k none ++ capσ js σ)[i]? = some (some v) → ∃ u, L2.RelV v u ∧ Look (compEnvC scope cl C X.env) h4 (fun _ => none) x u := by
    intro i x v e1 e2
    by_cases hik : i < k
    · rw [List.getElem?_append_left (by simpa using hik)] at e2
      rw [List.getElem?_replicate] at e2
      simp [hik] at e2
    · rw [List.getElem?_append_right (by simpa using Nat.le_of_not_lt hik), List.length_replicate] at e2
      unfold capσ at e2
      rw [List.getElem?_map] at e2
      cases ej : js[i - k]? with
      | none =>
        rw [ej] at e2
        cases e2
      | some j =>
        rw [ej] at e2
        have e2 : (σ[j]?).join = some v := Option.some.inj e2
        obtain ⟨y, hy, cp⟩ := hcap _ _ ej
        rw [show k + (i - k) = i by omega, e1] at hy
        cases hy
        obtain ⟨m, _, hl⟩ := I3.loc
        have e3 : σ[j]? = some (some v) := by
          cases q : σ[j]? with
          | none =>
            rw [q] at e2
            cases e2
          | some o =>
            rw [q] at e2
            have : o = some v := e2
            rw [this]
        obtain ⟨u, ru, lk⟩ := hl j x v cp.nm e3 (.inr (.inl cp.ko))
        refine ⟨u, ru, ?_⟩
        rcases lk with ⟨z, _⟩ | ⟨_, c, hc, z⟩
        · rw [cp.ko] at z
          cases z
        · refine .inr ⟨.inl cp.ki, c, by rw [← hc]; exact cp.cl, ?_⟩
          obtain ⟨o, e, d⟩ := z
          exact ⟨o, old _ _ e, d⟩
  have I4 : Inv (cxC X N s3 H3 (compEnvC scope cl C X.env) fp) [] (List.replicate k none ++ capσ js σ) H3 { s3 with heap := h4, toks := s3.toks + ([] : List (Str × Value)).length } := by
    refine ⟨Ok, rfl, I3.bare, Un.kept old, ⟨_, n4, fun i x v e1 e2 e3 => ?_⟩, fun x c e => ?_, fresh, fun x c e => I3.freeC x c (hcl x c e), fun p hp => absurd hp (by simp), I3.hok.kept old, ?_⟩
    · obtain ⟨u, ru, lk⟩ := hcapl e1 e2
      refine ⟨u, ru, ?_⟩
      rcases lk with ⟨z, q⟩ | q
      · cases q
      · exact .inr q
    · obtain ⟨v, o, e1, d⟩ := I3.cell x c (hcl x c e)
      exact ⟨v, o, old _ _ e1, d⟩
    · simp [capσ, hlen]
  have fp4 : ∀ {H' : Hp}, (∀ b ∈ fp, H' b = none) → ∀ b ∈ fp, FpOk (cxC X N s3 H3 (compEnvC scope cl C X.env) fp) [] H' b := fun hn b hb =>
    ⟨hn b hb, (Ok.exf b hb).1, Ok.exfs b hb, .inl hb, fun x c e => (Ok.exf b hb).2 x c e, fun p hp => absurd hp (by simp)⟩
  have st4 : tn 0 h4 := T.keep _ _ _ st3 fun b hb o e => old b o e
  have run : ∀ s4 : Shared, s4 = { s3 with heap := h4, toks := s3.toks + ([] : List (Str × Value)).length } →
      codeAny (model X.prog X.w) X.A (.compLoop (.ListComp elt [⟨tg, iter, [cd], 0⟩] scope pos) 0 (.ref it) (.ref D) (compEnvC scope cl C X.env)) (compPost (model X.prog X.w) X.A X.xe use Qv (.ref D) C) s4 := by
    rintro s4 rfl
    refine loop_compI (fun n s' => ∃ i H' σ', Inv (cxC X N s3 H3 (compEnvC scope cl C X.env) fp) [] σ' H' s' ∧ (∀ j : Nat, ∀ v, (List.replicate k none ++ capσ js σ)[j]? = some (some v) → σ'[j]? = some (some v)) ∧ tn i s'.heap ∧ (∀ b ∈ fp, H' b = none) ∧ W i n H') ?_ m0
      ⟨0, H3, _, I4, fun _ _ z => z, st4, fun b hb => (f3 b hb).1, w0⟩
    rintro n s5 ⟨i, H5, σ5, I5, cap5, st5, fr5, w5⟩
    have I5' := I5.weak (σ' := List.replicate k none ++ capσ js σ) (by rw [I5.len]; simp [capσ, hlen]) cap5
    rcases turn i n H5 w5 with ⟨stop, q⟩ | ⟨go, step⟩
    · refine thn (T.done (cxC X N s3 H3 (compEnvC scope cl C X.env) fp) rfl rfl rfl hcalm i [] s5 σ5 H5 _ I5 (fp4 fr5) st5 stop) fun r s6 ⟨hr, I6⟩ => .inl ⟨hr, ?_⟩
      obtain ⟨m6, n6, _⟩ := I6.loc
      have hCf : H5 C = none := I6.free
      have u6 := I6.base
      have uC : Un (frs X.stack) fp H3 H5 s3.heap s6.heap := ⟨u6.keep, u6.slot, u6.free, u6.there, u6.tups, u6.frzs, u6.tbls⟩
      have I7 : Inv X pins σ H5 s6 := I3.call' (s' := s6) I6.os uC I6.hok I6.bare fun b hb => ⟨(f3 b hb).2.2.2.1, (f3 b hb).2.1, (f3 b hb).2.2.2.2.1, (f3 b hb).2.2.2.2.2⟩
      have lt3 : ∀ b o, s3.heap.get? b = some o → b ≠ C := fun b o e => by rw [← hC]; exact Nat.ne_of_lt (Heap.lt_size e)
      refine fin s6 H5 D C m6 I7 n6 hCf (by rw [← hC]; exact I3.sz) (by rw [← hC]; exact Nat.ne_of_gt I3.lt) (fun x c e => ?_) (fun p hp => lt3 p.1 p.2 (I3.pin p hp).1) q
      obtain ⟨v, o, e1, _⟩ := I3.cell x c e
      exact lt3 c o e1
    · refine thn (T.item (cxC X N s3 H3 (compEnvC scope cl C X.env) fp) rfl rfl rfl hcalm i [] s5 _ H5 _ I5' (fp4 fr5) st5 go) fun r s6 ⟨u, hr, h6⟩ => .inr ⟨u, hr, ?_⟩
      refine thn h6 fun _ s7 ⟨x, H7, I7, r7, y7, st7, fr7⟩ => ?_
      have I7' := I7.pinned (fp4 fr7) (T.obj _ _ st7)
      refine thn (hg C s3 H3 fp _ s7 _ H7 x u _ I7' r7 (step x H7 y7)) fun _ s8 ⟨σ8, H8, I8, d8, q8⟩ => ?_
      have capk : ∀ (j : Nat) v, (List.replicate k none ++ capσ js σ)[j]? = some (some v) → σ8[j]? = some (some v) := fun j v e => by
        by_cases hjk : j < k
        · rw [List.getElem?_append_left (by simpa using hjk), List.getElem?_replicate] at e
          simp [hjk] at e
        · rw [List.getElem?_append_right (by simpa using Nat.le_of_not_lt hjk), List.length_replicate, ← d8, List.getElem?_drop] at e
          rw [show k + (j - k) = j by omega] at e
          exact e
      refine thn (hd C s3 H3 fp _ s8 σ8 H8 _ I8 q8) fun b s8' ⟨H8', I8', q8'⟩ => ⟨fun hb => ?_, fun hb => ?_⟩
      · refine thn (he C s3 H3 fp _ s8' σ8 H8' _ I8' (q8'.1 hb)) fun vv s9 ⟨vx, H9, I9, r9, xs, hx9, hz9, m', hm', w9⟩ => ?_
        obtain ⟨z9, its, n9, rl, e9⟩ := (show ObjOk X.prog X.w H9 s9.heap D (.lst xs) from I9.hok D _ hx9)
        have app := mt_append (X := cxC X N s3 H3 (compEnvC scope cl C X.env) fp) _ s9 σ8 H9 (.ref D) [vx] (.ref D) [vv] (fun _ H' => H' = upd H9 D (.lst (xs ++ [vx]))) I9 rfl (.cons r9 .nil) ⟨D, xs, vx, rfl, rfl, hx9, hz9, rfl⟩
        refine thn app fun _ s10 ⟨_, H10, I10, _, e10⟩ => ?_
        subst e10
        refine ⟨m', hm', i + 1, _, σ8, I10.unpinned (pins := []), capk, T.keep _ _ _ st7 fun b hb o e => (I10.pin (b, o) (List.mem_append_right _ (List.mem_append_right _ (mem_pinsAt hb e)))).1, fun b hb => ?_, w9⟩
        obtain ⟨o, e, d⟩ := T.obj _ _ st7 b hb
        exact (I10.pin (b, o) (List.mem_append_right _ (List.mem_append_right _ (mem_pinsAt hb e)))).2.1
      · obtain ⟨m', hm', w9⟩ := q8'.2 hb
        refine ⟨m', hm', i + 1, _, σ8, I8'.unpinned (pins := []), capk, T.keep _ _ _ st7 fun b hb o e => (I8'.pin (b, o) (List.mem_append_right _ (List.mem_append_right _ (mem_pinsAt hb e)))).1, fun b hb => ?_, w9⟩
        obtain ⟨o, e, d⟩ := T.obj _ _ st7 b hb
        exact (I8'.pin (b, o) (List.mem_append_right _ (List.mem_append_right _ (mem_pinsAt hb e)))).2.1
  exact codeAny_compStart_list (run _ rfl) (T.self X.A 0 _ _ _ st4 (run _ rfl))
theorem e_compI {elt iter tg cd : Expr} {scope : Scope} {pos : Pos} {wi : TI} {te : TE} {tc : TT} {g : TG} {N : List Str} {cl : List (Str × Addr)} (k : Nat) (js : List Nat) (hi : PI X tg iter wi)
    (hg : ∀ C s H fp, PG (cxC X N s H (compEnvC scope cl C X.env) fp) tg g) (hd : ∀ C s H fp, PT (cxC X N s H (compEnvC scope cl C X.env) fp) cd tc) (he : ∀ C s H fp, PE (cxC X N s H (compEnvC scope cl C X.env) fp) elt te) (hcalm : X.calm = true)
    (hclos : closureFor scope X.env = pure cl) (hkind : scope.kind = .function) (hcell : ∀ y ∈ scope.names, y.2 ≠ .cell) (hnames : ∀ y ∈ scope.names, y.2 = .local → scope.names.lookup y.1 = some .local)
    (hcl : ∀ y c, cl.lookup y = some c → X.env.cells.lookup y = some c) (hhas : ∀ y, ((relabel scope X.env).names.lookup y = some .cell ∨ (relabel scope X.env).names.lookup y = some .free) → ∃ c, cl.lookup y = some c)
    (hlen : N.length = k + js.length) (hcap : ∀ i j, js[i]? = some j → ∃ y, N[k + i]? = some y ∧ Cap X (relabel scope X.env) cl j y)
    (hs : ∀ x, foldedSetIterable iter X.env x = pure x := by intro _; rfl) : PE X (.ListComp elt [⟨tg, iter, [cd], 0⟩] scope pos) (dCompI wi g tc te k js) := by
  intro pins s σ H Q I h
  rw [eval_ListComp]
  refine comp_coreI k js hi hg hd he hcalm hclos hkind hcell hnames hcl hhas hlen hcap hs I h fun s6 H5 D C m I6 n6 z1 z2 z3 z4 z5 q => ⟨m, n6, fun h7 sb7 => ⟨.ref D, H5, ?_, rfl, q⟩⟩
  exact I6.turned (t' := s6.toks) (fun b o hb e => (sb7.2 b hb).trans e) z1 z3.symm.symm (.inr z2) z4 z5
theorem ps_comp0I {elt iter tg cd : Expr} {scope : Scope} {pos py spos : Pos} {i : Nat} {y : Str} {wi : TI} {te : TE} {tc : TT} {g : TG} {N : List Str} {cl : List (Str × Addr)} (k : Nat) (js : List Nat) (hi : PI X tg iter wi)
    (hg : ∀ C s H fp, PG (cxC X N s H (compEnvC scope cl C X.env) fp) tg g) (hd : ∀ C s H fp, PT (cxC X N s H (compEnvC scope cl C X.env) fp) cd tc) (he : ∀ C s H fp, PE (cxC X N s H (compEnvC scope cl C X.env) fp) elt te) (hcalm : X.calm = true)
    (hclos : closureFor scope X.env = pure cl) (hkind : scope.kind = .function) (hcell : ∀ y ∈ scope.names, y.2 ≠ .cell) (hnames : ∀ y ∈ scope.names, y.2 = .local → scope.names.lookup y.1 = some .local)
    (hcl : ∀ y c, cl.lookup y = some c → X.env.cells.lookup y = some c) (hhas : ∀ y, ((relabel scope X.env).names.lookup y = some .cell ∨ (relabel scope X.env).names.lookup y = some .free) → ∃ c, cl.lookup y = some c)
    (hlen : N.length = k + js.length) (hcap : ∀ i j, js[i]? = some j → ∃ y, N[k + i]? = some y ∧ Cap X (relabel scope X.env) cl j y)
    (hs : ∀ x, foldedSetIterable iter X.env x = pure x) (hN : X.N.Nodup) (hi' : X.N[i]? = some y) (hy : X.env.scope.names.lookup y = some .local) (hsw : swapsWith (.ListComp elt [⟨tg, iter, [cd], 0⟩] scope pos) (some (.Name y py)) spos.line X.env = pure true) :
    PS X (.Assign [.Name y py] (.ListComp elt [⟨tg, iter, [cd], 0⟩] scope pos) spos) (tAsg (dCompI wi g tc te k js) (gName i)) := by
  intro pins s σ H D I h
  rw [exec_Assign_Name_used _ _ _ _ hsw]
  refine wpAny_bind (wpAny_standAt (wpAny_bind ?_))
  show wpAny _ X.A (do let _ ← comprehension (.ListComp elt [⟨tg, iter, [cd], 0⟩] scope pos) scope X.env _ (newList []) false (eval iter X.env) (some (assign (.Name y py) X.env))) _ _ s
  refine wpAny_bind (wpAny_mono (comp_coreI k js hi hg hd he hcalm hclos hkind hcell hnames hcl hhas hlen hcap hs (use := some (assign (.Name y py) X.env)) (Qv := fun _ s' => SP X pins D .next s') I h fun s6 H5 D' C m I6 n6 z1 z2 z3 z4 z5 q => ?_)
    (fun _ s' hq => wpAny_pure (wpAny_pure hq)) fun _ _ e => e)
  show wpAny _ X.A (assign (.Name y py) X.env (.ref D')) _ _ _
  refine wpAny_assign_Name (store_ok2 I6 hN hi' (.inl hy) (v := .ref D') rfl (fun s8 I8 ⟨a, sb, ha⟩ => ?_) (.inr hy))
  have na : C ≠ a := by
    rcases ha with rfl | ha
    · exact z3
    · exact Ne.symm (z4 _ _ ha)
  exact ⟨m, n6.sameBut sb na, fun h9 sb9 => ⟨_, H5, I8.turned (t' := s8.toks) (fun b o hb e => (sb9.2 b hb).trans e) z1 z3 (.inr z2) z4 z5, q⟩⟩
theorem e_compIN {elt iter tg cd : Expr} {scope : Scope} {pos : Pos} {wi : TI} {te : TE} {tc : TT} {g : TG} {cl : List (Str × Addr)} (own ys : List Str) (js : List Nat) (hclos : closureFor scope X.env = pure cl) (hi : PI X tg iter wi)
    (hg : ∀ C s H fp, PG (cxC X (own ++ ys) s H (compEnvC scope cl C X.env) fp) tg g) (hd : ∀ C s H fp, PT (cxC X (own ++ ys) s H (compEnvC scope cl C X.env) fp) cd tc) (he : ∀ C s H fp, PE (cxC X (own ++ ys) s H (compEnvC scope cl C X.env) fp) elt te) (hcalm : X.calm = true) (hkind : scope.kind = .function)
    (hcell : (scope.names.all fun y => y.2 != .cell) = true) (hnames : (scope.names.all fun y => y.2 != .local || scope.names.lookup y.1 == some .local) = true) (hfr : (scope.names.all fun y => y.2 != .free || (cl.map (·.1)).contains y.1) = true)
    (hcl : CellL X.env.cells cl) (hcap : CapL X (relabel scope X.env) cl ys js) (hs : ∀ x, foldedSetIterable iter X.env x = pure x := by intro _; rfl) :
    PE X (.ListComp elt [⟨tg, iter, [cd], 0⟩] scope pos) (dCompI wi g tc te own.length js) := by
  rw [List.all_eq_true] at hcell hnames hfr
  have hc : ∀ y ∈ scope.names, y.2 ≠ .cell := fun y hy z => by
    have := hcell y hy
    rw [z] at this
    cases this
  refine e_compI own.length js hi hg hd he hcalm hclos hkind hc (fun y hy z => ?_) hcl.at (fun y h => ?_) (by rw [List.length_append, hcap.len]) (fun i j e => ?_) hs
  · have := hnames y hy
    rw [z] at this
    simpa using this
  · obtain ⟨z, hz, rfl, hk⟩ : ∃ z ∈ scope.names, z.1 = y ∧ (z.2 = .free ∨ z.2 = .cell) := by
      rcases h with h | h
      · exact relabel_has h (.inl rfl)
      · exact relabel_has h (.inr rfl)
    rcases hk with hk | hk
    · have := hfr z hz
      rw [hk] at this
      exact lookup_has (by simpa using this)
    · exact absurd hk (hc z hz)
  · obtain ⟨y, h1, h2⟩ := hcap.at i j e
    exact ⟨y, by rw [List.getElem?_append_right (Nat.le_add_right _ _), Nat.add_sub_cancel_left]; exact h1, h2⟩
theorem ps_compIN {elt iter tg cd : Expr} {scope : Scope} {pos py spos : Pos} {i : Nat} {y : Str} {wi : TI} {te : TE} {tc : TT} {g : TG} {cl : List (Str × Addr)} (own ys : List Str) (js : List Nat) (hclos : closureFor scope X.env = pure cl) (hi : PI X tg iter wi)
    (hg : ∀ C s H fp, PG (cxC X (own ++ ys) s H (compEnvC scope cl C X.env) fp) tg g) (hd : ∀ C s H fp, PT (cxC X (own ++ ys) s H (compEnvC scope cl C X.env) fp) cd tc) (he : ∀ C s H fp, PE (cxC X (own ++ ys) s H (compEnvC scope cl C X.env) fp) elt te) (hcalm : X.calm = true) (hkind : scope.kind = .function)
    (hcell : (scope.names.all fun y => y.2 != .cell) = true) (hnames : (scope.names.all fun y => y.2 != .local || scope.names.lookup y.1 == some .local) = true) (hfr : (scope.names.all fun y => y.2 != .free || (cl.map (·.1)).contains y.1) = true)
    (hcl : CellL X.env.cells cl) (hcap : CapL X (relabel scope X.env) cl ys js) (hN : X.N.Nodup) (hi' : X.N[i]? = some y) (hy : X.env.scope.names.lookup y = some .local) (hs : ∀ x, foldedSetIterable iter X.env x = pure x := by intro _; rfl) (hsw : swapsWith (.ListComp elt [⟨tg, iter, [cd], 0⟩] scope pos) (some (.Name y py)) spos.line X.env = pure true := by rfl) :
    PS X (.Assign [.Name y py] (.ListComp elt [⟨tg, iter, [cd], 0⟩] scope pos) spos) (tAsg (dCompI wi g tc te own.length js) (gName i)) := by
  rw [List.all_eq_true] at hcell hnames hfr
  have hc : ∀ y ∈ scope.names, y.2 ≠ .cell := fun y hy z => by
    have := hcell y hy
    rw [z] at this
    cases this
  refine ps_comp0I own.length js hi hg hd he hcalm hclos hkind hc (fun y hy z => ?_) hcl.at (fun y h => ?_) (by rw [List.length_append, hcap.len]) (fun i j e => ?_) hs hN hi' hy hsw
  · have := hnames y hy
    rw [z] at this
    simpa using this
  · obtain ⟨z, hz, rfl, hk⟩ : ∃ z ∈ scope.names, z.1 = y ∧ (z.2 = .free ∨ z.2 = .cell) := by
      rcases h with h | h
      · exact relabel_has h (.inl rfl)
      · exact relabel_has h (.inr rfl)
    rcases hk with hk | hk
    · have := hfr z hz
      rw [hk] at this
      exact lookup_has (by simpa using this)
    · exact absurd hk (hc z hz)
  · obtain ⟨y, h1, h2⟩ := hcap.at i j e
    exact ⟨y, by rw [List.getElem?_append_right (Nat.le_add_right _ _), Nat.add_sub_cancel_left]; exact h1, h2⟩
end
end Lw
end
section
set_option Elab.async false
set_option linter.all false
set_option maxRecDepth 100000
set_option maxHeartbeats 4000000
namespace Lw
open PySem PySem.Spec PyProof.Rows L2
inductive All2 {α β : Type} (R : α → β → Prop) : List α → List β → Prop where
  | nil : All2 R [] []
  | cons {a : α} {b : β} {l : List α} {m : List β} : R a b → All2 R l m → All2 R (a :: l) (b :: m)
theorem All2.len {α β : Type} {R : α → β → Prop} : ∀ {l : List α} {m : List β}, All2 R l m → l.length = m.length
  | _, _, .nil => rfl
  | _, _, .cons _ r => by rw [List.length_cons, List.length_cons, r.len]
theorem All2.imp {α β : Type} {R S : α → β → Prop} (h : ∀ a b, R a b → S a b) : ∀ {l : List α} {m : List β}, All2 R l m → All2 S l m
  | _, _, .nil => .nil
  | _, _, .cons x r => .cons (h _ _ x) (r.imp h)
theorem All2.snoc {α β : Type} {R : α → β → Prop} {a : α} {b : β} (x : R a b) : ∀ {l : List α} {m : List β}, All2 R l m → All2 R (l ++ [a]) (m ++ [b])
  | _, _, .nil => .cons x .nil
  | _, _, .cons y r => .cons y (r.snoc x)
theorem All2.get {α β : Type} {R : α → β → Prop} : ∀ {l : List α} {m : List β}, All2 R l m → ∀ {i : Nat} {a : α}, l[i]? = some a → ∃ b, m[i]? = some b ∧ R a b
  | _, _, .nil, i, a, h => by simp at h
  | _, _, .cons x r, 0, a, h => by
    simp at h
    subst h
    exact ⟨_, rfl, x⟩
  | _, _, .cons x r, i + 1, a, h => by
    simp only [List.getElem?_cons_succ] at h ⊢
    exact r.get h
theorem All2.app {α β : Type} {R : α → β → Prop} : ∀ {l l' : List α} {m m' : List β}, All2 R l m → All2 R l' m' → All2 R (l ++ l') (m ++ m')
  | _, _, _, _, .nil, h => h
  | _, _, _, _, .cons x r, h => .cons x (r.app h)
def Kt (H H' : Hp) : Prop := ∀ p xs, H p = some (.tup xs) → H' p = some (.tup xs)
theorem Kt.trans {H H1 H2 : Hp} (a : Kt H H1) (b : Kt H1 H2) : Kt H H2 := fun p xs h => b p xs (a p xs h)
theorem kt_of {H H' : Hp} (s : Same H H') : Kt H H' := fun p xs h => s p _ h
theorem kt_upd {H : Hp} {D : Addr} {zs : List V} {o : HO} (h : H D = some (.lst zs)) : Kt H (upd H D o) := fun p xs e => by
  have ne : p ≠ D := fun z => by
    subst z
    rw [h] at e
    cases e
  rw [upd_ne ne]
  exact e
theorem same_app' {H0 H : Hp} {D : Addr} {o : HO} (s : Same H0 H) (h : H0 D = none) : Same H0 (upd H D o) := fun b u e => by
  rw [upd_ne (ne_of_none e h)]
  exact s b u e
theorem comp_abs {β : Type} {K : PySem.W.Frag} {a : Addr} {xs : List V} {ms : List β} {g : TG} {te : TE} {k : Nat} {js : List Nat} {σ : L2.St} {H1 : Hp} {Q : VK} (M : Hp → V → β → Prop) (upM : ∀ v m H H', Kt H H' → M H v m → M H' v m) (R : Hp → β → V → Prop) (up : ∀ m y H H', Kt H H' → R H m y → R H' m y)
    (hz : xs.length ≤ 1000) (hx : SqL K H1 a xs) (hm : All2 (M H1) xs ms)
    (hs : ∀ v m H2, M H2 v m → m ∈ ms → Same H1 H2 → ∀ P : VK, (∀ y H3, Same H2 H3 → R H3 m y → P y H3) → g v (List.replicate k none ++ capσ js σ) H2 fun σ2 H3 => σ2.drop k = capσ js σ ∧ te σ2 H3 P)
    (hq : ∀ D H' ys, Same H1 H' → H1 D = none → H' D = some (.lst ys) → All2 (R H') ms ys → Q (.ref D) H') : CGoal (Itl K a) g te k js σ H1 Q := by
  unfold CGoal
  intro D hD
  have hl := hm.len
  refine ⟨fun i m H => m = xs.length - i ∧ i ≤ xs.length ∧ Same H1 H ∧ ∃ ys, H D = some (.lst ys) ∧ All2 (R H) (ms.take i) ys, ⟨xs.length, by simp, Nat.zero_le _, same_upd hD, [], upd_same, .nil⟩, ?_⟩
  rintro i m H ⟨rfl, hi, sm, ys, hH, ar⟩
  have sq := sm.seq hx
  by_cases hlt : i < xs.length
  · have e : xs[i]? = some xs[i] := by simp [hlt]
    refine .inr ⟨⟨xs, _, sq, e⟩, fun x H' y => ?_⟩
    obtain ⟨e1, e2⟩ := y
    subst e1
    have hv := e2 xs sq
    obtain ⟨m, hmi, hM⟩ := hm.get hv
    refine hs x m _ (upM _ _ _ _ (kt_of sm) hM) (List.mem_of_getElem? hmi) sm _ fun y H3 s3 r3 => ⟨ys, s3 _ _ hH, ?_, xs.length - (i + 1), by omega, rfl, hlt, same_app' (sm.trans s3) hD, ys ++ [y], upd_same, ?_⟩
    · rw [← ar.len, List.length_take]
      exact Nat.lt_of_le_of_lt (Nat.min_le_left _ _) (Nat.lt_of_lt_of_le hlt (Nat.le_trans hz (by decide)))
    · have kt : Kt H3 (upd H3 D (.lst (ys ++ [y]))) := kt_upd (s3 _ _ hH)
      rw [List.take_add_one, hmi]
      exact (ar.imp fun v y r => up v y _ _ ((kt_of s3).trans kt) r).snoc (up _ _ _ _ kt r3)
  · have e : i = xs.length := by omega
    subst e
    rw [hl, List.take_length] at ar
    exact .inl ⟨⟨xs, sq, Nat.le_refl _⟩, hq D _ ys sm hD hH ar⟩
theorem comp_absI {β : Type} {K : PySem.W.Frag} {a : Addr} {xs : List V} {ms : List β} {g : TG} {tc : TT} {te : TE} {k : Nat} {js : List Nat} {σ : L2.St} {H1 : Hp} {Q : VK} (M : Hp → V → β → Prop) (upM : ∀ v m H H', Kt H H' → M H v m → M H' v m) (R : Hp → β → V → Prop) (up : ∀ m y H H', Kt H H' → R H m y → R H' m y)
    (c : β → Bool) (hz : xs.length ≤ 1000) (hx : SqL K H1 a xs) (hm : All2 (M H1) xs ms)
    (hs : ∀ v m H2, M H2 v m → m ∈ ms → Same H1 H2 → ∀ (P : VK) (P' : Hp → Prop), (c m = true → ∀ y H3, Same H2 H3 → R H3 m y → P y H3) → (c m = false → ∀ H3, Same H2 H3 → P' H3) → g v (List.replicate k none ++ capσ js σ) H2 fun σ2 H3 => σ2.drop k = capσ js σ ∧ tc σ2 H3 fun b H4 => Br b (te σ2 H4 P) (P' H4))
    (hq : ∀ D H' ys, Same H1 H' → H1 D = none → H' D = some (.lst ys) → All2 (R H') (ms.filter c) ys → Q (.ref D) H') : CGoalI (Itl K a) g tc te k js σ H1 Q := by
  unfold CGoalI
  intro D hD
  have hl := hm.len
  refine ⟨fun i m H => m = xs.length - i ∧ i ≤ xs.length ∧ Same H1 H ∧ ∃ ys, H D = some (.lst ys) ∧ All2 (R H) ((ms.take i).filter c) ys, ⟨xs.length, by simp, Nat.zero_le _, same_upd hD, [], upd_same, .nil⟩, ?_⟩
  rintro i m H ⟨rfl, hi, sm, ys, hH, ar⟩
  have sq := sm.seq hx
  by_cases hlt : i < xs.length
  · have e : xs[i]? = some xs[i] := by simp [hlt]
    refine .inr ⟨⟨xs, _, sq, e⟩, fun x H' y => ?_⟩
    obtain ⟨e1, e2⟩ := y
    subst e1
    have hv := e2 xs sq
    obtain ⟨m, hmi, hM⟩ := hm.get hv
    have yl : ys.length < sizeLine := by
      rw [← ar.len]
      refine Nat.lt_of_le_of_lt (List.length_filter_le _ _) ?_
      rw [List.length_take]
      exact Nat.lt_of_le_of_lt (Nat.min_le_left _ _) (Nat.lt_of_lt_of_le hlt (Nat.le_trans hz (by decide)))
    refine hs x m _ (upM _ _ _ _ (kt_of sm) hM) (List.mem_of_getElem? hmi) sm _ _ (fun hc y H3 s3 r3 => ⟨ys, s3 _ _ hH, yl, xs.length - (i + 1), by omega, rfl, hlt, same_app' (sm.trans s3) hD, ys ++ [y], upd_same, ?_⟩) fun hc H3 s3 => ⟨xs.length - (i + 1), by omega, rfl, hlt, sm.trans s3, ys, s3 _ _ hH, ?_⟩
    · have kt : Kt H3 (upd H3 D (.lst (ys ++ [y]))) := kt_upd (s3 _ _ hH)
      rw [List.take_add_one, hmi, List.filter_append]
      have ef : (Option.toList (some m)).filter c = [m] := by simp [hc]
      rw [ef]
      exact (ar.imp fun v y r => up v y _ _ ((kt_of s3).trans kt) r).snoc (up _ _ _ _ kt r3)
    · rw [List.take_add_one, hmi, List.filter_append]
      have ef : (Option.toList (some m)).filter c = [] := by simp [hc]
      rw [ef, List.append_nil]
      exact ar.imp fun v y r => up v y _ _ (kt_of s3) r
  · have e : i = xs.length := by omega
    subst e
    rw [hl, List.take_length] at ar
    exact .inl ⟨⟨xs, sq, Nat.le_refl _⟩, hq D _ ys sm hD hH ar⟩
structure Gm where
  d : Int
  a : Str
  b : Str
  h : Int
  s : Int
def GmAt (H : Hp) (v : V) (g : Gm) : Prop := ∃ p, v = .ref p ∧ H p = some (.tup [.int g.d, .str g.a, .str g.b, .int g.h, .int g.s])
theorem gm_up (v : V) (g : Gm) (H H' : Hp) (k : Kt H H') (h : GmAt H v g) : GmAt H' v g := by
  obtain ⟨p, e, r⟩ := h
  exact ⟨p, e, k _ _ r⟩
def Bk (K : PySem.W.Frag) (H : Hp) (L : Addr) (gs : List Gm) : Prop := ∃ vs, SqL K H L vs ∧ All2 (GmAt H) vs gs ∧ gs.length ≤ 100
theorem Bk.up {K : PySem.W.Frag} {H H' : Hp} {L : Addr} {gs : List Gm} (s : Same H H') (h : Bk K H L gs) : Bk K H' L gs := by
  obtain ⟨vs, h1, h2, h3⟩ := h
  exact ⟨vs, s.seq h1, h2.imp fun v g r => gm_up v g _ _ (kt_of s) r, h3⟩
def trn (g : Gm) : Gm := ⟨g.d, g.b, g.a, 2 - g.h, -g.s⟩
def plr (gs : List Gm) : List Str := srt (gs.map (·.a) ++ gs.map (·.b))
def isIn (n : Str) (g : Gm) : Bool := n == g.a || n == g.b
def toldG (n : Str) (g : Gm) : Gm := if g.a = n then g else trn g
def tld (n : Str) (gs : List Gm) : List Gm := (gs.filter (isIn n)).map (toldG n)
def tkr (n : Str) (gs : List Gm) : List Str := srt (((tld n gs).filter fun g => decide (g.h < 2)).map (·.b))
theorem all2_strs {f : Gm → Str} : ∀ {gs : List Gm} {ys : List V}, All2 (fun g y => y = V.str (f g)) gs ys → ys = (gs.map f).map V.str
  | _, _, .nil => rfl
  | _, _, .cons e r => by rw [e, all2_strs r]; rfl
theorem all2_map {f : Gm → Gm} {H : Hp} : ∀ {gs : List Gm} {ys : List V}, All2 (fun g y => GmAt H y (f g)) gs ys → All2 (GmAt H) ys (gs.map f)
  | _, _, .nil => .nil
  | _, _, .cons e r => .cons e (all2_map r)
theorem all2_flip {α β : Type} {R : α → β → Prop} : ∀ {l : List α} {m : List β}, All2 R l m → All2 (fun b a => R a b) m l
  | _, _, .nil => .nil
  | _, _, .cons x r => .cons x (all2_flip r)
theorem mem_plr {gs : List Gm} {x : Str} : x ∈ plr gs ↔ ∃ g ∈ gs, x = g.a ∨ x = g.b := by
  unfold plr
  rw [mem_srt, List.mem_append, List.mem_map, List.mem_map]
  constructor
  · rintro (⟨g, h, rfl⟩ | ⟨g, h, rfl⟩)
    · exact ⟨g, h, .inl rfl⟩
    · exact ⟨g, h, .inr rfl⟩
  · rintro ⟨g, h, rfl | rfl⟩
    · exact .inl ⟨g, h, rfl⟩
    · exact .inr ⟨g, h, rfl⟩
theorem mem_tkr {gs : List Gm} {n x : Str} : x ∈ tkr n gs ↔ ∃ g ∈ gs, (g.a = n ∧ g.h < 2 ∧ x = g.b) ∨ (g.a ≠ n ∧ g.b = n ∧ 0 < g.h ∧ x = g.a) := by
  unfold tkr tld
  rw [mem_srt, List.mem_map]
  constructor
  · rintro ⟨g', h, rfl⟩
    obtain ⟨h1, h2⟩ := List.mem_filter.mp h
    obtain ⟨g, h3, rfl⟩ := List.mem_map.mp h1
    obtain ⟨h4, h5⟩ := List.mem_filter.mp h3
    have h2 := of_decide_eq_true h2
    refine ⟨g, h4, ?_⟩
    unfold toldG at *
    by_cases e : g.a = n
    · rw [if_pos e] at h2 ⊢
      exact .inl ⟨e, h2, rfl⟩
    · rw [if_neg e] at h2 ⊢
      unfold isIn at h5
      have e' : g.b = n := by
        rcases Bool.or_eq_true _ _ |>.mp h5 with z | z
        · exact absurd (eq_of_beq z).symm e
        · exact (eq_of_beq z).symm
      have h2 : 2 - g.h < 2 := h2
      exact .inr ⟨e, e', by omega, rfl⟩
  · rintro ⟨g, h, ⟨h1, h2, rfl⟩ | ⟨h1, h2, h3, rfl⟩⟩
    · refine ⟨g, List.mem_filter.mpr ⟨List.mem_map.mpr ⟨g, List.mem_filter.mpr ⟨h, ?_⟩, if_pos h1⟩, decide_eq_true h2⟩, rfl⟩
      unfold isIn
      rw [h1]
      simp
    · refine ⟨trn g, List.mem_filter.mpr ⟨List.mem_map.mpr ⟨g, List.mem_filter.mpr ⟨h, ?_⟩, if_neg h1⟩, decide_eq_true (by show 2 - g.h < 2; omega)⟩, rfl⟩
      unfold isIn
      rw [h2]
      simp
section
variable {X : Cx}
def dSlN (K : PySem.W.Frag) : V → Option Int → Option Int → Hp → VK → Prop := fun x lo hi H Q => match x with
  | .ref a => ∃ xs, SqL K H a xs ∧ ∀ p, H p = none → Q (.ref p) (upd H p (.lst (cutV xs lo hi)))
  | _ => False
theorem sl_lstN : SlR X (dSlN X.K) := by
  intro pins s σ H x v vl vu lo hi sl Q I rx hs pl pu h
  cases x <;> first
    | exact False.elim h
    | (obtain ⟨xs, h1, q⟩ := h
       exact sl_list _ _ _ _ _ _ _ _ _ _ _ _ I rx hs pl pu ⟨_, xs, rfl, h1, q⟩)
def dSortL (K : PySem.W.Frag) : List V → Hp → VK → Prop := fun xs H Q => match xs with
  | [.ref l] => ∃ names : List Str, SqL K H l (names.map V.str) ∧ names.length < 64 ∧ names.Nodup ∧ ∀ D, H D = none → Q (.ref D) (upd H D (.lst ((srt names).map V.str)))
  | _ => False
theorem c_sortL : CallR X (.builtin "sorted") (dSortL X.K) := by
  intro pins s σ H xs us Q I r h
  match xs, h with
  | [.ref l], ⟨names, hq, hn, nd, q⟩ =>
    obtain ⟨u, rfl, ru⟩ := r.one
    cases (show u = Value.ref l from ru)
    obtain ⟨its, rv, ⟨oL, nL, eL, cL, dL, xL⟩, hz⟩ := I.list hq
    have sa : StrsAre its names := strs_of rv
    have hl : its.length = names.length := by rw [← rv.length, List.length_map]
    refine sorted_strs (vs := its) ⟨oL, eL, cL, nL, xL⟩ sa (by omega) fun out ys s1 pm so => ?_
    have ey : ys = srt names := inc_ext (pairwise_inc (sorted_le so) (pm.nodup_iff.mpr nd)) (inc_srt _) fun x => by rw [pm.mem_iff, mem_srt]
    subst ey
    obtain ⟨n, hr⟩ := sortedAll_at s.heap its out
    have I2 := I.laid (t' := s.toks) (h' := sortedAll s.heap its out) (a := s.heap.objs.size + 1) (o := .lst ((srt names).map V.str)) (fun b u e => sortedAll_old e) (Nat.le_succ _) ⟨by rw [List.length_map, pm.length_eq]; exact Nat.le_trans (Nat.le_of_lt hn) (by decide), out.toList, n, vals_str s1, by rw [hr]⟩
    exact ⟨.ref (s.heap.objs.size + 1), _, I2, rfl, q _ (I.hok.fresh (Nat.le_succ _))⟩
end
def gd (g : Gm) : PyData := .tuple [.int g.d, .str g.a, .str g.b, .int g.h, .int g.s]
theorem cl_strs : ∀ {l : List Str}, (∀ x ∈ l, PyData.strOk x = true) → PyData.canLayAll0 (l.map PyData.str) = true
  | [], _ => rfl
  | x :: l, h => by
    show (PyData.strOk x && PyData.canLayAll0 (l.map PyData.str)) = true
    rw [h x (List.mem_cons_self ..), cl_strs fun y hy => h y (List.mem_cons_of_mem _ hy)]
    rfl
theorem dp_strs : ∀ (l : List Str), PyData.depthAll (l.map PyData.str) = 0
  | [] => rfl
  | x :: l => by
    show max 0 (PyData.depthAll (l.map PyData.str)) = 0
    rw [dp_strs l]
    rfl
theorem cl_gms : ∀ {gs : List Gm}, (∀ g ∈ gs, PyData.strOk g.a = true ∧ PyData.strOk g.b = true) → PyData.canLayAll0 (gs.map gd) = true
  | [], _ => rfl
  | g :: gs, h => by
    obtain ⟨h1, h2⟩ := h g (List.mem_cons_self ..)
    show ((true && (PyData.strOk g.a && (PyData.strOk g.b && true))) && PyData.canLayAll0 (gs.map gd)) = true
    rw [h1, h2, cl_gms fun y hy => h y (List.mem_cons_of_mem _ hy)]
    rfl
theorem dp_gms : ∀ (gs : List Gm), PyData.depthAll (gs.map gd) ≤ 1
  | [] => Nat.zero_le _
  | g :: gs => by
    have e : (gd g).depth = 1 := rfl
    show max (gd g).depth (PyData.depthAll (gs.map gd)) ≤ 1
    rw [e]
    have := dp_gms gs
    omega
theorem sh_strs {l : List Str} (h : ∀ x ∈ l, PyData.strOk x = true) : SeqAt.shaped (.list (l.map PyData.str)) = true := by
  unfold SeqAt.shaped
  rw [show (PyData.list (l.map PyData.str)).canLay0 = true from cl_strs h, show (PyData.list (l.map PyData.str)).depth = 0 + 1 from congrArg (· + 1) (dp_strs l)]
  rfl
theorem sh_gms {gs : List Gm} (h : ∀ g ∈ gs, PyData.strOk g.a = true ∧ PyData.strOk g.b = true) : SeqAt.shaped (.list (gs.map gd)) = true := by
  unfold SeqAt.shaped
  have e : (PyData.list (gs.map gd)).depth = PyData.depthAll (gs.map gd) + 1 := rfl
  have := dp_gms gs
  rw [show (PyData.list (gs.map gd)).canLay0 = true from cl_gms h, e, Bool.true_and]
  exact decide_eq_true (by omega)
theorem rpl_strs {K : PySem.W.Frag} {H : Hp} : ∀ (l : List Str), RpL K H (l.map V.str) (l.map PyData.str)
  | [] => .nil
  | x :: l => .cons (.str x) (rpl_strs l)
theorem rp_strs {K : PySem.W.Frag} {H : Hp} {p : Addr} {l : List Str} (h : SqL K H p (l.map V.str)) : Rp K H (.ref p) (.list (l.map PyData.str)) := .lst h (rpl_strs l)
theorem rpl_gms {K : PySem.W.Frag} {H : Hp} : ∀ {vs : List V} {gs : List Gm}, All2 (GmAt H) vs gs → RpL K H vs (gs.map gd)
  | _, _, .nil => .nil
  | _, _, .cons ⟨p, e, h⟩ r => by
    subst e
    exact .cons (.tup (SqT.of h) (.cons (.int _) (.cons (.str _) (.cons (.str _) (.cons (.int _) (.cons (.int _) .nil)))))) (rpl_gms r)
theorem rp_gms {K : PySem.W.Frag} {H : Hp} {p : Addr} {vs : List V} {gs : List Gm} (h : SqL K H p vs) (a : All2 (GmAt H) vs gs) : Rp K H (.ref p) (.list (gs.map gd)) := .lst h (rpl_gms a)
theorem eqv_shaped {d : PyData} (h : SeqAt.shaped d = true) : PyData.eqv d d = true := SeqAt.eqv_refl d (SeqAt.canLay_of_shaped h)
theorem plr_sub {nm : List Str} {gs : List Gm} (h : ∀ g ∈ gs, g.a ∈ nm ∧ g.b ∈ nm) {x : Str} (hx : x ∈ plr gs) : x ∈ nm := by
  obtain ⟨g, hg, rfl | rfl⟩ := mem_plr.mp hx
  · exact (h g hg).1
  · exact (h g hg).2
theorem plr_len {nm : List Str} {gs : List Gm} (h : ∀ g ∈ gs, g.a ∈ nm ∧ g.b ∈ nm) : (plr gs).length ≤ nm.length := nd_len (inc_nodup (inc_srt _)) fun x hx => plr_sub h hx
theorem tkr_sub {nm : List Str} {gs : List Gm} {n : Str} (h : ∀ g ∈ gs, g.a ∈ nm ∧ g.b ∈ nm) {x : Str} (hx : x ∈ tkr n gs) : x ∈ nm := by
  obtain ⟨g, hg, ⟨_, _, rfl⟩ | ⟨_, _, _, rfl⟩⟩ := mem_tkr.mp hx
  · exact (h g hg).2
  · exact (h g hg).1
theorem tkr_len {nm : List Str} {gs : List Gm} {n : Str} (h : ∀ g ∈ gs, g.a ∈ nm ∧ g.b ∈ nm) : (tkr n gs).length ≤ nm.length := nd_len (inc_nodup (inc_srt _)) fun x hx => tkr_sub h hx
end Lw
end
section
set_option Elab.async false
set_option linter.all false
set_option maxRecDepth 100000
set_option maxHeartbeats 4000000
namespace Lw
open PySem PySem.Spec PyProof.Rows L2
section
variable {X : Cx}
def dSum (K : PySem.W.Frag) : List V → Hp → VK → Prop := fun xs H Q => match xs with
  | [.ref l] => ∃ ns : List Int, SqL K H l (ns.map V.int) ∧ Q (.int ns.sum) H
  | _ => False
def dLstD : List V → Hp → VK → Prop := fun xs H Q => match xs with
  | [.ref d] => ∃ (kvs : List (Key × V)) (names : List Str), H d = some (.dK kvs) ∧ kvs.map (·.1) = names.map Sum.inr ∧ ∀ p, H p = none → Q (.ref p) (upd H p (.lst (names.map V.str)))
  | _ => False
end
end Lw
end
section
set_option Elab.async false
set_option linter.all false
set_option maxRecDepth 100000
set_option maxHeartbeats 4000000
namespace Lw
open PySem PySem.Spec PyProof.Rows L2
section
variable {prog : Program} {w : World} {A : Around} {E : Value → Shared → Prop} {s : Shared} {it d : Addr} {i ep : Nat} {es : Array DictEntry} {od : Obj}
theorem rt_next {Q : Option Value → Shared → Prop} (ki : s.heap.IsKeyIter it d i es.size ep) (g : s.heap.get? d = some od) (gd : od.data = .dict es ep) (lt : i < es.size)
    (go : ∀ h', h'.IsKeyIter it d (i + 1) es.size ep → Heap.SameBut it s.heap h' → Q (some es[i].key) { s with heap := h' }) : wpAny (model prog w) A (pyNext (.ref it)) Q E s := by
  obtain ⟨o, ho, hc, hd⟩ := id ki
  have ty := ki.typeIs
  unfold pyNext
  refine wpAny_bind (wpAny_attempt (wpAny_callSpecial?_slot (name := Str.ofString "__next__") ty F.slot_dict_keyiterator_next (wpAny_call_entry F.slot_dict_keyiterator_next ty F.entry_dict_keyiterator_next ?_ (F.args_dict_keyiterator_next_1 _))))
  refine wpAny_bind (wpAny_pure (wpAny_bind (wpAny_bind ?_)))
  first | refine wpAny_bind (wpAny_typeNameOfWhole_keyiter ty (wpAny_pure (wpAny_bind (wpAny_fieldsOf ho hd ?_)))) | refine wpAny_bind (wpAny_typeNameOf_keyiter ty (wpAny_pure (wpAny_bind (wpAny_fieldsOf ho hd ?_))))
  have own : Builtin.Dict_items.ownsTuple "dict_keyiterator" = false := by decide
  simp only [own, Bool.false_eq_true, if_false]
  show wpAny _ _ (if (Value.ref d == Value.none) = true then _ else _) _ _ s
  rw [if_neg (fun z : (Value.ref d == Value.none) = true => Bool.false_ne_true z)]
  refine wpAny_bind (wpAny_pure (wpAny_bind (wpAny_dictEntries g gd ?_)))
  rw [if_neg (fun z => by simp at z)]
  refine wpAny_bind (wpAny_pure (wpAny_bind (wpAny_dictEpoch g gd ?_)))
  rw [if_neg (fun z => by simp at z)]
  refine wpAny_pure ?_
  have i0 : ¬ ((i : Int) < 0) := by omega
  simp only [i0, if_false, Int.toNat_natCast, Array.getElem?_eq_getElem lt]
  refine wpAny_bind ?_
  first | refine wpAny_bind (wpAny_typeNameOfWhole_keyiter ty (wpAny_pure (wpAny_bind (wpAny_isOneOf_keyiter ty ?_)))) | refine wpAny_bind (wpAny_typeNameOf_keyiter ty (wpAny_pure (wpAny_bind (wpAny_isOneOf_keyiter ty ?_))))
  show wpAny _ _ (setField (.ref it) 1 (rawInt ((i : Int) + 1)) >>= _) _ _ s
  refine wpAny_bind (wpAny_setField ho hd (by simp) (wpAny_bind (wpAny_holding ?_)))
  have ki2 : (s.heap.update it (Obj.mapFields (·.setIfInBounds 1 (rawInt ((i : Int) + 1))))).IsKeyIter it d (i + 1) es.size ep :=
    ⟨_, Heap.get?_update_self _ ho (Obj.isFreed_of_fields (Obj.data_mapFields hd _)), (Obj.cls_mapFields ..).trans hc, by rw [Obj.data_mapFields hd]; simp [rawInt]⟩
  refine wpAny_bind (wpAny_isOneOf_keyiter (s := { s with heap := s.heap.update it (Obj.mapFields (·.setIfInBounds 1 (rawInt ((i : Int) + 1)))) }) ki2.typeIs ?_)
  show wpAny _ _ (pure es[i].key) _ _ _
  exact wpAny_pure (wpAny_pure ⟨_, rfl, wpAny_pure (go _ ki2 (Heap.SameBut.update ..))⟩)
theorem rt_end {Q : Option Value → Shared → Prop} (hh : A.handled = none) (ki : s.heap.IsKeyIter it d i es.size ep) (g : s.heap.get? d = some od) (gd : od.data = .dict es ep) (le : es.size ≤ i)
    (go : ∀ h', Heap.ExtBut it s.heap h' → Q none { s with heap := h' }) : wpAny (model prog w) A (pyNext (.ref it)) Q E s := by
  obtain ⟨o, ho, hc, hd⟩ := id ki
  have ty := ki.typeIs
  unfold pyNext
  refine wpAny_bind (wpAny_attempt (wpAny_callSpecial?_slot (name := Str.ofString "__next__") ty F.slot_dict_keyiterator_next (wpAny_call_entry F.slot_dict_keyiterator_next ty F.entry_dict_keyiterator_next ?_ (F.args_dict_keyiterator_next_1 _))))
  refine wpAny_bind (wpAny_pure (wpAny_bind (wpAny_bind ?_)))
  first | refine wpAny_bind (wpAny_typeNameOfWhole_keyiter ty (wpAny_pure (wpAny_bind (wpAny_fieldsOf ho hd ?_)))) | refine wpAny_bind (wpAny_typeNameOf_keyiter ty (wpAny_pure (wpAny_bind (wpAny_fieldsOf ho hd ?_))))
  have own : Builtin.Dict_items.ownsTuple "dict_keyiterator" = false := by decide
  simp only [own, Bool.false_eq_true, if_false]
  show wpAny _ _ (if (Value.ref d == Value.none) = true then _ else _) _ _ s
  rw [if_neg (fun z : (Value.ref d == Value.none) = true => Bool.false_ne_true z)]
  refine wpAny_bind (wpAny_pure (wpAny_bind (wpAny_dictEntries g gd ?_)))
  rw [if_neg (fun z => by simp at z)]
  refine wpAny_bind (wpAny_pure (wpAny_bind (wpAny_dictEpoch g gd ?_)))
  rw [if_neg (fun z => by simp at z)]
  refine wpAny_pure ?_
  have i0 : ¬ ((i : Int) < 0) := by omega
  simp only [i0, if_false, Int.toNat_natCast, Array.getElem?_eq_none le]
  refine wpAny_bind ?_
  first | refine wpAny_bind (wpAny_typeNameOfWhole_keyiter ty (wpAny_pure ?_)) | refine wpAny_bind (wpAny_typeNameOf_keyiter ty (wpAny_pure ?_))
  show wpAny _ _ (setField (.ref it) 0 .none >>= _) _ _ s
  refine wpAny_bind (wpAny_setField ho hd (by simp) ?_)
  show wpAny _ _ (newExc (.type "StopIteration") [] >>= _) _ _ _
  refine wpAny_bind ?_
  simp only [newExc, newTuple, raiseNew]
  refine wpAny_bind (wpAny_newObj_type (wpAny_bind (m := firstArgMember _ _) (wpAny_of_eq (a := Value.none) (by first | rfl | (simp only [firstArgMember]; rfl)) (wpAny_newObj_type ?_ (by size_fits)))) (by size_fits))
  refine wpAny_bind (wpAny_handled ?_)
  rw [show A.in1.handled = none from hh]
  refine wpAny_bind (wpAny_pure (wpAny_throw ?_))
  refine wpAny_bind (wpAny_isInstance (b := true) (T := "StopIteration") ⟨_, Heap.get?_push_size _ rfl, rfl⟩ isSubtype_stop ?_)
  exact wpAny_pure (go _ (((Heap.SameBut.update ..).extBut.push _).push _))
theorem rt_iter {Q : Value → Shared → Prop} (lo : (d == sysModules) = false) (g : s.heap.get? d = some od) (ex : od.ExactDict) (gd : od.data = .dict es ep)
    (go : Q (.ref s.heap.objs.size) { s with heap := s.heap.push { cls := .type "dict_keyiterator", data := .fields #[.ref d, .int 0 0, .int es.size 0, .int ep 0] } }) : wpAny (model prog w) A (pyIter (.ref d)) Q E s := by
  have ty : s.TypeIs (.ref d) "dict" := ⟨od, g, ex.1⟩
  refine wpAny_pyIter_slot ty F.slot_dict_iter (wpAny_call_entry F.slot_dict_iter ty F.entry_dict_iter ?_ (F.args_dict_iter_1 _))
  unfold Builtin.«dict.__iter__» Builtin.Dict.dictSlotNone
  refine wpAny_bind (wpAny_bind (wpAny_notOrdered_dict ty ?_))
  show wpAny _ _ (pure (Value.ref d)) _ _ s
  refine wpAny_pure ?_
  show wpAny _ _ (Builtin.Dict.showsAll d >>= _) _ _ s
  unfold Builtin.Dict.showsAll
  rw [if_neg (fun z => by rw [lo] at z; exact Bool.false_ne_true z)]
  refine wpAny_bind (wpAny_pure (wpAny_bind (wpAny_dictEntries g gd (wpAny_bind (wpAny_dictEpoch g gd ?_)))))
  refine wpAny_bind (wpAny_newObj_type (wpAny_pure ⟨_, rfl, "dict_keyiterator", _, ⟨_, Heap.get?_push_size _ rfl, rfl⟩, F.slot_dict_keyiterator_next.lookup, ?_⟩))
  simpa [rawInt] using go
end
section
variable {prog : Program} {w : World} {d : Addr} {ep : Nat} {es : Array DictEntry} {od : Obj}
theorem rt_src (lo : (d == sysModules) = false) (ex : od.ExactDict) (gd : od.data = .dict es ep) : PySem.W.KdlSrc prog w "dict" d d es.size (fun i v => ∃ e, es[i]? = some e ∧ v = e.key) (fun h => h.get? d = some od) where
  type := fun _ g => ⟨od, g, ex.1⟩
  there := fun _ g => ⟨Heap.lt_size g, Heap.lt_size g⟩
  keep := fun _ _ g k => k d (.inl rfl) od g
  notList := by decide
  notTuple := by decide
  hint := fun _ _ _ _ g q => PySem.W.kdl_hint_dict ⟨od, g, ex.1⟩ q
  iter := fun A s hh g => by
    have ne : d ≠ s.heap.objs.size := Nat.ne_of_lt (Heap.lt_size g)
    refine ⟨_, fun i h => h.IsKeyIter s.heap.objs.size d i es.size ep ∧ h.get? d = some od, fun _ _ q => rt_iter lo g ex gd q, ⟨fun b hb => ?_, fun i h h' st k => ⟨st.1.at fun o e => k _ (by simp) o e, k d (by simp) od st.2⟩, fun i t Q E lt st go => ?_, fun t Q E st go => ?_, fun _ _ _ _ st q => wpAny_pyIter_keyiter st.1 q⟩, ⟨⟨_, Heap.get?_push_size _ rfl, rfl, rfl⟩, Heap.get?_push_of_some _ g⟩⟩
    · have : b = s.heap.objs.size := by simpa using hb
      simp [this]
    · refine rt_next st.1 st.2 gd lt fun h' ki sb => go _ h' t.toks ⟨es[i], Array.getElem?_eq_getElem lt, rfl⟩ ⟨ki, sb.extBut d od ne st.2⟩ fun b o hb e => sb.extBut b o (fun z => hb (by simp [z])) e
    · exact rt_end hh st.1 st.2 gd (Nat.le_refl _) fun h' eb => go h' t.toks fun b o hb e => eb b o (fun z => hb (by simp [z])) e
end
section
variable {X : Cx}
def dLstT : List V → Hp → VK → Prop := fun xs H Q => match xs with
  | [.ref d] => ∃ (kvs : List (List Key × V)), H d = some (.dT kvs) ∧ ∀ p (as : List Addr), H p = none → All2 (fun a (k : List Key × V) => H a = some (.tup (k.1.map kV))) as kvs → Q (.ref p) (upd H p (.lst (as.map V.ref)))
  | _ => False
theorem c_listT (hc : X.calm = true := by rfl) : CallR X (.type "list") dLstT := by
  intro pins s σ H xs us Q I r h
  match xs, h with
  | [.ref d], ⟨kvs, e, q⟩ =>
    obtain ⟨u, rfl, ru⟩ := r.one
    cases (show u = Value.ref d from ru)
    obtain ⟨z, lo, ks, rel, od, es, ep, g, ex, gd, ee, nd⟩ := (show ObjOk X.prog X.w H s.heap d (.dT kvs) from I.hok d _ e)
    have el : es.size = kvs.length := by
      rw [← Array.length_toList, ee, List.length_map, ← rel.length]
    refine PySem.W.kdl_call (rt_src lo ex gd) (I.ok.hd hc) g (by omega) fun h' tk acc c keep hS it => ?_
    have as2 : All2 (fun a (k : List Key × V) => H a = some (.tup (k.1.map kV))) (ks.map (·.2.1)) kvs := by
      clear q e it ee el z nd
      induction rel with
      | nil => exact .nil
      | cons hq _ ih => exact .cons hq.2.1 ih
    have rv : Vals ((ks.map (·.2.1)).map V.ref) acc.toList := by
      have al : acc.toList = ks.map fun k => Value.ref k.2.1 := by
        refine List.ext_getElem? fun j => ?_
        by_cases hj : j < acc.size
        · have e1 : acc.toList[j]? = some acc[j] := by rw [Array.getElem?_toList]; exact Array.getElem?_eq_getElem hj
          obtain ⟨e', h1, h2⟩ := it.2 j acc[j] (Array.getElem?_eq_getElem hj)
          rw [e1, h2]
          rw [← Array.getElem?_toList, ee, List.getElem?_map] at h1
          cases hk : ks[j]? with
          | none => rw [hk] at h1; cases h1
          | some k =>
            rw [hk] at h1
            cases h1
            rw [List.getElem?_map, hk]
            rfl
        · have l1 : acc.size = ks.length := by rw [it.1, el, rel.length]
          rw [List.getElem?_eq_none (by rw [Array.length_toList]; omega), List.getElem?_eq_none (by rw [List.length_map]; omega)]
      rw [al, List.map_map]
      clear al it rel nd ee as2 q
      induction ks with
      | nil => exact .nil
      | cons k ks ih => exact .cons rfl ih
    have I2 := I.laid (t' := tk) (h' := h') (a := s.heap.objs.size) (o := .lst ((ks.map (·.2.1)).map V.ref)) keep (Nat.le_refl _) ⟨by rw [List.length_map, List.length_map, ← rel.length]; omega, acc.toList, c, rv, by rw [hS]⟩
    exact ⟨.ref s.heap.objs.size, _, I2, rfl, q _ _ (I.hok.fresh (Nat.le_refl _)) as2⟩
end
end Lw
end
section
set_option Elab.async false
set_option linter.all false
set_option maxRecDepth 100000
set_option maxHeartbeats 4000000
namespace Lw
open PySem PySem.Spec PyProof.Rows L2
theorem u1 {n m : Nat} (h : n + 64 < m) : n + 1 < m := by omega
structure TL (kvs : List (Key × V)) (ks : List Str) (f : Str → Int) : Prop where
  key : kvs.map (·.1) = ks.map Sum.inr
  nd : ks.Nodup
  val : ∀ x, valV kvs (Sum.inr x) = if x ∈ ks then some (.int (f x)) else none
  out : ∀ x, x ∉ ks → f x = 0
theorem keys_put {kvs : List (Key × V)} {ks : List Str} (h : kvs.map (·.1) = ks.map Sum.inr) (x : Str) (v : V) : (putK kvs (Sum.inr x) v).map (·.1) = (dd ks x).map Sum.inr := by
  have hany : (kvs.any fun kv => decide (kv.1 = Sum.inr x)) = decide (x ∈ ks) := by
    have e : (kvs.any fun kv => decide (kv.1 = Sum.inr x)) = (kvs.map (·.1)).any fun k => decide (k = Sum.inr x) := by rw [List.any_map]; rfl
    rw [e, h, List.any_map]
    by_cases hx : x ∈ ks
    · rw [decide_eq_true hx, List.any_eq_true]
      exact ⟨x, hx, by simp⟩
    · rw [decide_eq_false hx, List.any_eq_false]
      intro y hy c
      have : y = x := by simpa using c
      exact hx (this ▸ hy)
  unfold putK dd
  rw [hany]
  by_cases hx : x ∈ ks
  · rw [decide_eq_true hx, if_pos rfl, if_pos hx, List.map_map, ← h]
    refine List.map_congr_left fun kv _ => ?_
    show (if kv.1 = Sum.inr x then (kv.1, v) else kv).1 = kv.1
    split <;> rfl
  · rw [decide_eq_false hx, if_neg (by decide), if_neg hx, List.map_append, h, List.map_append]
    rfl
def cntG (x : Str) (gs : List Gm) : Int := ((tld x gs).length : Int)
def sumH (gs : List Gm) : Int := (gs.map (·.h)).sum
def wonX (x : Str) (gs : List Gm) : Int := sumH (tld x gs)
def ind (g : Gm) (x : Str) : Int := if x = g.b then 1 else if x = g.a then 1 else 0
def got (g : Gm) (x : Str) : Int := if x = g.b then 2 - g.h else if x = g.a then g.h else 0
def kf (gs : List Gm) : List Str := gs.foldl (fun l g => dd (dd l g.a) g.b) []
end Lw
end
section
set_option Elab.async false
set_option linter.all false
set_option maxRecDepth 100000
set_option maxHeartbeats 4000000
namespace Lw
open PySem PySem.Spec PyProof.Rows L2
section
variable {prog : Program} {w : World} {A : Around} {E : Value → Shared → Prop} {s : Shared}
theorem collectD {d : Addr} {vs : List (Key × Value)} {ep : Nat} {Q : List Value → Shared → Prop} (hh : A.handled = none) (hok : s.heap.DictAt (mixKind prog w) d vs ep) (lo : (d == sysModules) = false) (hn : vs.length ≤ sizeLine)
    (q : ∀ xs g tk, (∀ b o, s.heap.get? b = some o → g.get? b = some o) → s.heap.objs.size < g.objs.size → xs.length = vs.length → (∀ (j : Nat) v, xs[j]? = some v → ∃ k x, vs[j]? = some (k, x) ∧ (mixKind prog w).is k v = true) → Q xs { s with heap := g, toks := tk }) :
    wpAny (model prog w) A (collect (.ref d)) Q E s := by
  have la : d < s.heap.objs.size := hok.lt_size
  unfold collect
  refine wpAny_bind (wpAny_runValue (codeAny_builtin PySem.F.entry_proto_collect ?_))
  rw [Around.under_plainId PySem.F.plain_proto_collect _]
  show wpAny _ A.in1 (newList [] >>= fun l => again (.builtin "list.__iadd__" ⟨[l, .ref d], []⟩)) _ _ s
  refine wpAny_bind (wpAny_newObj_type (wpAny_pure ⟨plainId_quiet PySem.F.plain_list_iadd _, codeAny_builtin PySem.F.entry_list_iadd ?_⟩))
  rw [Around.under_plainId PySem.F.plain_list_iadd _]
  show wpAny _ A.in1 (Builtin.List.listExtendWith (.ref s.heap.objs.size) (.ref d) (.ref s.heap.objs.size)) _ _ _
  have hS : (s.heap.push { cls := .type "list", data := .seq ([] : List Value).toArray }).get? s.heap.objs.size = some { cls := .type "list", data := .seq #[] 0 } := Heap.get?_push_size _ rfl
  refine PySem.W.kdl_extend (R := wants (fun v s' => wpAny (model prog w) A (match v with | Value.ref a => (do let o ← load a; match o.data with | .seq xs _ => pure xs.toList | _ => unsupported "internal:collect") | _ => unsupported "internal:collect") Q E s') E) (s := { s with heap := s.heap.push { cls := .type "list", data := .seq ([] : List Value).toArray } }) (PySem.W.kdl_dict lo) hh (hok.push _) s.heap.objs.size (Nat.ne_of_gt la) (Nat.ne_of_gt la) (.ref s.heap.objs.size) 0 hS (fun h' tk acc c hk hS' it => ?_) hn
  show wpAny _ A (load s.heap.objs.size >>= _) _ _ _
  refine wpAny_bind (wpAny_load hS' (wpAny_pure (q acc.toList h' tk (fun b o e => hk b o (Nat.ne_of_lt (Heap.lt_size e)) (Heap.get?_push_of_some _ e)) (Heap.lt_size hS') (by rw [Array.length_toList]; exact it.1) fun j v hv => it.2 j v (by rw [← Array.getElem?_toList]; exact hv))))
theorem strs_of_get : ∀ {names : List Str} {us : List Value}, us.length = names.length → (∀ (j : Nat) v, us[j]? = some v → ∃ x t, names[j]? = some x ∧ v = Value.str x t) → StrsAre us names
  | [], [], _, _ => .nil
  | [], _ :: _, h, _ => by simp at h
  | _ :: _, [], h, _ => by simp at h
  | x :: names, u :: us, h, a => by
    obtain ⟨y, t, e1, e2⟩ := a 0 u rfl
    simp at e1
    subst e1 e2
    refine .cons _ t (strs_of_get (by simpa using h) fun j v hv => ?_)
    have := a (j + 1) v (by simpa using hv)
    simpa using this
end
section
variable {X : Cx}
def dSortD : List V → Hp → VK → Prop := fun xs H Q => match xs with
  | [.ref d] => ∃ (kvs : List (Key × V)) (names : List Str), H d = some (.dK kvs) ∧ kvs.map (·.1) = names.map Sum.inr ∧ names.length < 64 ∧ names.Nodup ∧ ∀ D, H D = none → Q (.ref D) (upd H D (.lst ((srt names).map V.str)))
  | _ => False
theorem c_sortD (hc : X.calm = true := by rfl) : CallR X (.builtin "sorted") dSortD := by
  intro pins s σ H xs us Q I r h
  match xs, h with
  | [.ref d], ⟨kvs, names, e, hk, h64, nd, q⟩ =>
    obtain ⟨u, rfl, ru⟩ := r.one
    cases (show u = Value.ref d from ru)
    obtain ⟨z, lo, vs, rel, dd⟩ := dk_of I.hok e
    have kk := rel.keys
    have kl := rel.length
    obtain ⟨o, es, ep, r1⟩ := dd
    have at' : s.heap.DictAt (mixKind X.prog X.w) d vs ep := ⟨o, es, r1⟩
    have nl : kvs.length = names.length := by
      have := congrArg List.length hk
      simpa using this
    have hh := I.ok.hd hc
    refine Calls.call_function_entry kind_sorted plain_sorted entry_sorted (args_sorted1 _) ?_
    unfold Builtin.«sorted»
    refine wpAny_bind (m := checkCount "sorted" 1 1 _) (wpAny_pure (wpAny_bind (collectD (by simp [hh]) at' lo (by omega) fun xs g tk keep lg hl hg => ?_)))
    have sa : StrsAre xs names := strs_of_get (by omega) fun j v hv => by
      obtain ⟨k, x, h1, h2⟩ := hg j v hv
      have h3 : (vs.map (·.1))[j]? = some k := by rw [List.getElem?_map, h1]; rfl
      rw [← kk, hk, List.getElem?_map] at h3
      cases hn : names[j]? with
      | none =>
        rw [hn] at h3
        cases h3
      | some y =>
        rw [hn] at h3
        cases h3
        rcases keyIs_shape (show keyIs (Sum.inr y) v = true from h2) with ⟨i, t, e1, _⟩ | ⟨y', t, e1, e2⟩
        · cases e1
        · cases e1
          exact ⟨y, t, rfl, e2⟩
    refine wpAny_bind (wpAny_newList ?_ (by omega))
    have hoL : (g.push (seqObj "list" xs.toArray 0)).get? g.objs.size = some (seqObj "list" xs.toArray 0) := Heap.get?_push_size _ rfl
    refine wpAny_bind (wpAny_holding (wpAny_call_entry slot_list_sort ⟨_, hoL, rfl⟩ entry_list_sort (list_sort_treeK strKind_oneLt hoL sa.keysOf (fun v1 v2 r e => keyKind_strs (by rw [← e]; exact sa)) (by omega) fun st' a1 a2 => ⟨_, rfl, wpAny_pure ⟨_, rfl, ?_⟩⟩) (args_list_sort _)))
    obtain ⟨ys, b1, b2, b3⟩ := sorted_out_str sa a1 a2
    obtain ⟨n, hn⟩ := sortedHeap_at (out := (arrOf st').map (·.2)) hoL
    have ey : ys = srt names := inc_ext (pairwise_inc (sorted_le b3) (b2.nodup_iff.mpr nd)) (inc_srt _) fun x => by rw [b2.mem_iff, mem_srt]
    subst ey
    have keep2 : ∀ b ob, s.heap.get? b = some ob → (sortedHeap (g.push (seqObj "list" xs.toArray 0)) g.objs.size xs ((arrOf st').map (·.2))).get? b = some ob := fun b ob e => by
      have hb := Heap.lt_size (keep b ob e)
      rw [sortedHeap_old (Nat.ne_of_lt hb) (by rw [Heap.size_push]; exact Nat.lt_succ_of_lt hb)]
      exact Heap.get?_push_of_some _ (keep b ob e)
    have I2 := I.laid (t' := tk) (h' := sortedHeap (g.push (seqObj "list" xs.toArray 0)) g.objs.size xs ((arrOf st').map (·.2))) (a := g.objs.size) (o := .lst ((srt names).map V.str)) keep2 (Nat.le_of_lt lg) ⟨by rw [List.length_map, b2.length_eq]; omega, ((arrOf st').map (·.2)).toList, n, vals_str b1, by rw [hn]⟩
    exact ⟨.ref g.objs.size, _, I2, rfl, q _ (I.hok.fresh (Nat.le_of_lt lg))⟩
end
inductive Rch (gs : List Gm) (n : Str) : Str → Prop where
  | here : Rch gs n n
  | step {x y : Str} : Rch gs n x → y ∈ tkr x gs → Rch gs n y
theorem rch_sub {gs : List Gm} {n : Str} {l : List Str} (h0 : n ∈ l) (hc : ∀ x ∈ l, ∀ y ∈ tkr x gs, y ∈ l) {x : Str} (h : Rch gs n x) : x ∈ l := by
  induction h with
  | here => exact h0
  | step _ hy ih => exact hc _ ih _ hy
theorem Rch.nm {gs : List Gm} {n : Str} {nm : List Str} (hn : n ∈ nm) (hm : ∀ g ∈ gs, g.a ∈ nm ∧ g.b ∈ nm) {x : Str} (h : Rch gs n x) : x ∈ nm := rch_sub hn (fun _ _ y hy => tkr_sub hm hy) h
end Lw
end
section
set_option Elab.async false
set_option linter.all false
set_option maxRecDepth 100000
set_option maxHeartbeats 4000000
namespace Lw
open PySem PySem.Spec PyProof.Rows L2
section
variable {X : Cx} {i o : Expr} {ty td : TE} {pos : Pos}
theorem t_dnotin (hu : X.A.units + 1 < cLine) (hi : PE X i ty) (ho : PE X o td) (hm : behindInMarks .NotIn o = false) : PT X (.Compare i [.NotIn] [o] pos) (dTest (tDNotIn ty td)) := by
  rw [dTest_eqB]
  exact pt_cmp (pc_dnotin hu hi ho) hm
end
def VL (H : Hp) (R : Addr) (kvs : List (Key × V)) : Prop := ∀ kv ∈ kvs, ∃ p zs, kv.2 = V.ref p ∧ p ≠ R ∧ H p = some (.lst zs) ∧ zs.length ≤ kvs.length
theorem VL.up {H H' : Hp} {R : Addr} {kvs : List (Key × V)} (h : VL H R kvs) (k : ∀ p zs, p ≠ R → H p = some (.lst zs) → H' p = some (.lst zs)) : VL H' R kvs := fun kv hkv => by
  obtain ⟨p, zs, e1, e2, e3, e4⟩ := h kv hkv
  exact ⟨p, zs, e1, e2, k p zs e2 e3, e4⟩
theorem VL.at {H : Hp} {R : Addr} {kvs : List (Key × V)} (h : VL H R kvs) {k : Key} {v : V} (e : valV kvs k = some v) : ∃ p zs, v = V.ref p ∧ p ≠ R ∧ H p = some (.lst zs) ∧ zs.length ≤ kvs.length := by
  unfold valV at e
  cases hf : kvs.find? (fun kv => decide (kv.1 = k)) with
  | none =>
    rw [hf] at e
    cases e
  | some kv =>
    rw [hf] at e
    cases e
    exact h kv (List.mem_of_find?_eq_some hf)
theorem VL.snoc {H : Hp} {R p : Addr} {kvs : List (Key × V)} {k : Key} {zs : List V} (h : VL H R kvs) (e1 : p ≠ R) (e2 : H p = some (.lst zs)) (e3 : zs.length ≤ kvs.length + 1) : VL H R (kvs ++ [(k, .ref p)]) := fun kv hkv => by
  rw [List.length_append, List.length_singleton]
  rcases List.mem_append.mp hkv with hkv | hkv
  · obtain ⟨q, ws, a1, a2, a3, a4⟩ := h kv hkv
    exact ⟨q, ws, a1, a2, a3, by omega⟩
  · rw [List.mem_singleton] at hkv
    subst hkv
    exact ⟨p, zs, rfl, e1, e2, e3⟩
theorem val_key {kvs : List (Key × V)} {ks : List Str} (h : kvs.map (·.1) = ks.map Sum.inr) (x : Str) : (valV kvs (Sum.inr x)).isSome = decide (x ∈ ks) := by
  rw [← valV_any]
  have e : (kvs.any fun kv => decide (kv.1 = Sum.inr x)) = (kvs.map (·.1)).any fun k => decide (k = Sum.inr x) := by rw [List.any_map]; rfl
  rw [e, h, List.any_map]
  by_cases hx : x ∈ ks
  · rw [decide_eq_true hx, List.any_eq_true]
    exact ⟨x, hx, by simp⟩
  · rw [decide_eq_false hx, List.any_eq_false]
    intro y hy c
    have : y = x := by simpa using c
    exact hx (this ▸ hy)
structure WI (gs : List Gm) (n : Str) (H Hx : Hp) (D R : Addr) (ks rs : List Str) (kvs : List (Key × V)) : Prop where
  sm : Same H Hx
  eD : Hx D = some (.dK kvs)
  ky : kvs.map (·.1) = (ks ++ rs).map Sum.inr
  vl : VL Hx R kvs
  eR : Hx R = some (.lst (rs.map V.str))
  nd : (ks ++ rs).Nodup
  rc : ∀ x ∈ ks ++ rs, Rch gs n x
theorem WI.up {gs : List Gm} {n : Str} {H Hx Hy : Hp} {D R : Addr} {ks rs : List Str} {kvs : List (Key × V)} (h : WI gs n H Hx D R ks rs kvs) (s : Same Hx Hy) : WI gs n H Hy D R ks rs kvs :=
  ⟨h.sm.trans s, s _ _ h.eD, h.ky, h.vl.up fun p zs _ e => s _ _ e, s _ _ h.eR, h.nd, h.rc⟩
theorem WI.len {gs : List Gm} {n : Str} {H Hx : Hp} {D R : Addr} {ks rs : List Str} {kvs : List (Key × V)} (h : WI gs n H Hx D R ks rs kvs) : kvs.length = (ks ++ rs).length := by
  have := congrArg List.length h.ky
  simpa using this
theorem ne_nil (l : List Str) : (!PyData.eqv (.list (l.map PyData.str)) (.list (([] : List Str).map PyData.str))) = !l.isEmpty := by
  cases l <;> rfl
theorem ne_of_lst {H : Hp} {p D : Addr} {zs : List V} {kvs : List (Key × V)} (h : H p = some (.lst zs)) (h' : H D = some (.dK kvs)) : p ≠ D := fun e => by
  rw [e, h'] at h
  cases h
theorem WI.add {gs : List Gm} {n y : Str} {H Hx H1 H2 : Hp} {D R t1 t2 p : Addr} {ks rs : List Str} {kvs : List (Key × V)} {zs : List V} {x : Str} (h : WI gs n H Hx D R ks rs kvs) (hD : H D = none) (hR : H R = none) (hy : y ∉ ks ++ rs) (hx : x ∈ ks ++ rs) (ht : y ∈ tkr x gs)
    (n1 : Hx t1 = none) (e1 : H1 = upd Hx t1 (.lst [.str y])) (n2 : H1 t2 = none) (e2 : H2 = upd H1 t2 (.lst (zs ++ [.str y]))) (lz : zs.length ≤ kvs.length) :
    WI gs n H (upd (upd H2 D (.dK (putK kvs (Sum.inr y) (.ref t2)))) R (.lst ((rs ++ [y]).map V.str))) D R ks (rs ++ [y]) (kvs ++ [(Sum.inr y, .ref t2)]) := by
  have s1 : Same Hx H1 := by rw [e1]; exact same_upd n1
  have s2 : Same H1 H2 := by rw [e2]; exact same_upd n2
  have s := s1.trans s2
  have eD := s _ _ h.eD
  have eR := s _ _ h.eR
  have neRD : R ≠ D := ne_of_lst eR eD
  have e3 : H2 t2 = some (.lst (zs ++ [.str y])) := by rw [e2]; exact upd_same
  have ne2D : t2 ≠ D := ne_of_lst e3 eD
  have ne2R : t2 ≠ R := fun z => by
    have := s1 _ _ h.eR
    rw [← z, n2] at this
    cases this
  have hv : valV kvs (Sum.inr y) = none := by
    have := val_key h.ky y
    rw [decide_eq_false hy] at this
    cases hh : valV kvs (Sum.inr y) with
    | none => rfl
    | some v => rw [hh] at this; cases this
  rw [putK_new _ hv]
  refine ⟨same_app' (same_app' (h.sm.trans s) hD) hR, by rw [upd_ne (Ne.symm neRD), upd_same], ?_, ?_, upd_same, ?_, fun z hz => ?_⟩
  · rw [List.map_append, h.ky, ← List.append_assoc, List.map_append (l₁ := ks ++ rs)]
    rfl
  · refine VL.snoc (h.vl.up fun q ws nq e => ?_) ne2R (by rw [upd_ne ne2R, upd_ne ne2D]; exact e3) (by rw [List.length_append, List.length_singleton]; omega)
    have := s _ _ e
    rw [upd_ne nq, upd_ne (ne_of_lst this eD)]
    exact this
  · rw [← List.append_assoc, List.nodup_append]
    exact ⟨h.nd, List.nodup_cons.mpr ⟨by simp, List.nodup_nil⟩, fun a ha b hb e => by
      rw [List.mem_singleton] at hb
      subst hb e
      exact hy ha⟩
  · rw [← List.append_assoc] at hz
    rcases List.mem_append.mp hz with hz | hz
    · exact h.rc z hz
    · rw [List.mem_singleton] at hz
      subst hz
      exact .step (h.rc x hx) ht
end Lw
end
section
set_option Elab.async false
set_option linter.all false
set_option maxRecDepth 100000
set_option maxHeartbeats 4000000
namespace Lw
open PySem PySem.Spec PyProof.Rows L2
section
variable {X : Cx}
def dAny (K : PySem.W.Frag) : List V → Hp → VK → Prop := fun xs H Q => match xs with
  | [.ref p] => ∃ bs : List Bool, SqL K H p (bs.map V.bl) ∧ Q (.bl (bs.any id)) H
  | _ => False
theorem range_any : ∀ bs : List Bool, ((List.range bs.length).any fun i => bs.getD i false) = bs.any id := by
  intro bs
  rw [Bool.eq_iff_iff, List.any_eq_true, List.any_eq_true]
  constructor
  · rintro ⟨i, hi, h⟩
    have hi := List.mem_range.mp hi
    rw [List.getD_eq_getElem?_getD, List.getElem?_eq_getElem hi] at h
    exact ⟨_, List.getElem_mem hi, h⟩
  · rintro ⟨b, hb, h⟩
    obtain ⟨i, hi, rfl⟩ := List.getElem_of_mem hb
    refine ⟨i, List.mem_range.mpr hi, ?_⟩
    rw [List.getD_eq_getElem?_getD, List.getElem?_eq_getElem hi]
    exact h
theorem c_any (hc : X.calm = true) : CallR X (.builtin "any") (dAny X.K) := by
  intro pins s σ H xs us Q I r h
  match xs, h with
  | [.ref p], ⟨bs, h1, q⟩ =>
    obtain ⟨u, rfl, r1⟩ := vals1 r
    cases (show u = Value.ref p from r1)
    obtain ⟨its, rv, pl, _⟩ := I.list h1
    have e := vals_bls rv
    subst e
    have hh := I.ok.hd hc
    have il := pl.isList
    obtain ⟨ob, eb, rb⟩ := id il
    have ne : p ≠ s.heap.objs.size := Nat.ne_of_lt (Heap.lt_size eb)
    refine call_any_walk (wpAny_pyIter_list il ?_)
    refine ⟨s.heap.objs.size, _, _, _, _, _, fun i => bs.getD i false, rfl, Walks.list (A := X.A.in1) hh s.heap.objs.size p ne (bs.map Value.bool).toArray, ⟨⟨_, Heap.get?_push_size _ rfl, rfl, rfl⟩, ⟨ob, Heap.get?_push_of_some _ eb, rb⟩⟩, fun i v s2 Q2 E2 hP hQ => ?_, fun h' tk k => ?_⟩
    · have hP : (bs.map Value.bool).toArray[i]? = some v := hP
      rw [List.getElem?_toArray, List.getElem?_map] at hP
      cases e2 : bs[i]? with
      | none =>
        rw [e2] at hP
        cases hP
      | some d =>
        rw [e2] at hP
        cases hP
        refine wpAny_truthy_bool ?_
        have : bs.getD i false = d := by rw [List.getD_eq_getElem?_getD, e2]; rfl
        rw [← this]
        exact hQ
    · refine ⟨.bl (bs.any id), H, I.kept (t' := tk) fun b o e => k b o ?_ (Heap.get?_push_of_some _ e), ?_, q⟩
      · intro z
        have z : b = s.heap.objs.size := by simpa using z
        exact Nat.lt_irrefl _ (z ▸ Heap.lt_size e)
      · show Value.bool _ = Value.bool _
        rw [List.size_toArray, List.length_map, range_any]
end
end Lw
end
section
set_option Elab.async false
set_option linter.all false
set_option maxRecDepth 100000
set_option maxHeartbeats 4000000
namespace Lw
open PySem PySem.Spec PyProof.Rows L2
inductive Rz (R : Str → Str → Prop) (n : Str) : Str → Prop where
  | here : Rz R n n
  | step {x y : Str} : Rz R n x → R x y → Rz R n y
def Clz (R : Str → Str → Prop) (cs : List Str) : Prop := ∀ x ∈ cs, ∀ y, R x y → y ∈ cs
def SR (al : Bool) (g : Gm) (x y : Str) : Prop := (g.a = x ∧ g.b = y ∧ (al = true ∨ g.h < 2)) ∨ (g.b = x ∧ g.a = y ∧ (al = true ∨ 0 < g.h))
def RG (al : Bool) (gs : List Gm) (x y : Str) : Prop := ∃ g ∈ gs, SR al g x y
structure CZ (R : Str → Str → Prop) (n : Str) (cs rs : List Str) : Prop where
  nd : (cs ++ rs).Nodup
  hn : n ∈ cs
  rc : ∀ x ∈ cs ++ rs, Rz R n x
  cz : Clz R cs → rs = []
def Dz (al : Bool) (gs : List Gm) (cs ds : List Str) : Prop := ∀ g ∈ gs, ∀ x y, SR al g x y → x ∈ cs → y ∈ ds
section
variable {X : Cx}
def dNotInD (K : PySem.W.Frag) : R2 := fun x y H Q => ∃ (xs : List PyData) (d : PyData), Rp K H y (.list xs) ∧ Rp K H x d ∧ PyData.canLayAll0 xs = true ∧ d.canLay0 = true ∧ d.depth ≤ 8 ∧ Q (.bl (!xs.any fun y => PyData.eqv y d)) H
end
def pd (ps : List (List Str)) : List PyData := ps.map fun p => .list (p.map PyData.str)
end Lw
end
section
set_option Elab.async false
set_option linter.all false
set_option maxRecDepth 100000
set_option maxHeartbeats 4000000
namespace Lw
open PySem PySem.Spec PyProof.Rows L2
abbrev WSt := List (Str × List Str) × List Str
def valW (ws : List (Str × List Str)) (x : Str) : List Str := match ws.find? (fun w => decide (w.1 = x)) with
  | some w => w.2
  | none => []
def addT (last : Str) (st : WSt) (t : Str) : WSt := if t ∈ st.1.map (·.1) then st else (st.1 ++ [(t, valW st.1 last ++ [t])], st.2 ++ [t])
def lastT (tk : Str → List Str) (st : WSt) (last : Str) : WSt := (tk last).foldl (addT last) st
def roundT (tk : Str → List Str) (st : WSt) : WSt := st.2.foldl (lastT tk) (st.1, [])
def bfsT (tk : Str → List Str) : Nat → WSt → List (Str × List Str)
  | 0, st => st.1
  | k + 1, st => if st.2 = [] then st.1 else bfsT tk k (roundT tk st)
theorem bfs_nil (tk : Str → List Str) : ∀ (k : Nat) (ws : List (Str × List Str)), bfsT tk k (ws, []) = ws
  | 0, _ => rfl
  | _ + 1, _ => rfl
theorem bfs_step (tk : Str → List Str) (k : Nat) {ws : List (Str × List Str)} {nw : List Str} (h : nw ≠ []) : bfsT tk (k + 1) (ws, nw) = bfsT tk k (roundT tk (ws, nw)) := if_neg h
def wfs (gs : List Gm) (n : Str) : List (Str × List Str) := bfsT (fun x => tkr x gs) 60 ([(n, [n])], [n])
def WV (H0 H : Hp) (R : Addr) (kv : Key × V) (w : Str × List Str) : Prop := kv.1 = Sum.inr w.1 ∧ ∃ p, kv.2 = V.ref p ∧ p ≠ R ∧ H p = some (.lst (w.2.map V.str)) ∧ H0 p = none
theorem wv_at {H0 H : Hp} {R : Addr} {x : Str} : ∀ {kvs : List (Key × V)} {ws : List (Str × List Str)}, All2 (WV H0 H R) kvs ws → ∀ {v : V}, valV kvs (Sum.inr x) = some v → ∃ p, v = .ref p ∧ p ≠ R ∧ H p = some (.lst ((valW ws x).map V.str)) ∧ H0 p = none
  | _, _, .nil, v, h => by cases h
  | _, _, .cons (a := kv) (b := w) r t, v, h => by
    rename_i kvs' ws'
    obtain ⟨r1, p, r2, r3, r4⟩ := r
    by_cases z : w.1 = x
    · have e : valW (w :: ws') x = w.2 := by
        unfold valW
        rw [List.find?_cons_of_pos (by simpa using z)]
      rw [e]
      have e2 : valV (kv :: kvs') (Sum.inr x) = some kv.2 := by
        unfold valV
        rw [List.find?_cons_of_pos (by rw [r1, z]; simp)]
        rfl
      rw [e2] at h
      cases h
      exact ⟨p, r2, r3, r4⟩
    · have e : valW (w :: ws') x = valW ws' x := by
        unfold valW
        rw [List.find?_cons_of_neg (by simpa using z)]
      rw [e]
      refine wv_at t ?_
      rw [← h]
      unfold valV
      rw [List.find?_cons_of_neg (by rw [r1]; simpa using z)]
theorem WV.up {H0 H H' : Hp} {R : Addr} {kv : Key × V} {w : Str × List Str} (k : ∀ p zs, p ≠ R → H p = some (.lst zs) → H' p = some (.lst zs)) (h : WV H0 H R kv w) : WV H0 H' R kv w := by
  obtain ⟨h1, p, h2, h3, h4, h5⟩ := h
  exact ⟨h1, p, h2, h3, k p _ h3 h4, h5⟩
def WW (H0 H : Hp) (kv : Key × V) (w : Str × List Str) : Prop := kv.1 = Sum.inr w.1 ∧ ∃ p, kv.2 = V.ref p ∧ H p = some (.lst (w.2.map V.str)) ∧ H0 p = none
theorem ww_at {H0 H : Hp} {x : Str} : ∀ {kvs : List (Key × V)} {ws : List (Str × List Str)}, All2 (WW H0 H) kvs ws → ∀ {v : V}, valV kvs (Sum.inr x) = some v → ∃ p, v = .ref p ∧ H p = some (.lst ((valW ws x).map V.str)) ∧ H0 p = none
  | _, _, .nil, v, h => by cases h
  | _, _, .cons (a := kv) (b := w) r t, v, h => by
    rename_i kvs' ws'
    obtain ⟨r1, p, r2, r4, r5⟩ := r
    by_cases z : w.1 = x
    · have e : valW (w :: ws') x = w.2 := by
        unfold valW
        rw [List.find?_cons_of_pos (by simpa using z)]
      rw [e]
      have e2 : valV (kv :: kvs') (Sum.inr x) = some kv.2 := by
        unfold valV
        rw [List.find?_cons_of_pos (by rw [r1, z]; simp)]
        rfl
      rw [e2] at h
      cases h
      exact ⟨p, r2, r4, r5⟩
    · have e : valW (w :: ws') x = valW ws' x := by
        unfold valW
        rw [List.find?_cons_of_neg (by simpa using z)]
      rw [e]
      refine ww_at t ?_
      rw [← h]
      unfold valV
      rw [List.find?_cons_of_neg (by rw [r1]; simpa using z)]
theorem take_fold {α β : Type} {f : β → α → β} {l : List α} {i : Nat} {a : α} {b : β} (h : l[i]? = some a) : (l.take (i + 1)).foldl f b = f ((l.take i).foldl f b) a := by
  rw [List.take_add_one, h, List.foldl_append]
  rfl
end Lw
end
section
set_option Elab.async false
set_option linter.all false
set_option maxRecDepth 100000
set_option maxHeartbeats 4000000
namespace Lw
open PySem PySem.Spec PyProof.Rows L2
abbrev kyW (ws : List (Str × List Str)) : List Str := ws.map (·.1)
theorem valW_app {ws add : List (Str × List Str)} {x : Str} (h : x ∈ kyW ws) : valW (ws ++ add) x = valW ws x := by
  obtain ⟨w, hw, e⟩ := List.mem_map.mp h
  unfold valW
  rw [List.find?_append]
  cases hf : ws.find? (fun w => decide (w.1 = x)) with
  | none => exact absurd (decide_eq_true e) (List.find?_eq_none.mp hf w hw)
  | some v => rfl
theorem valW_mem {ws : List (Str × List Str)} {x : Str} (h : x ∈ kyW ws) : (x, valW ws x) ∈ ws := by
  obtain ⟨w, hw, e⟩ := List.mem_map.mp h
  unfold valW
  cases hf : ws.find? (fun w => decide (w.1 = x)) with
  | none => exact absurd (decide_eq_true e) (List.find?_eq_none.mp hf w hw)
  | some v =>
    have h2 := List.find?_some hf
    have e2 : v.1 = x := by simpa using h2
    have := List.mem_of_find?_eq_some hf
    rw [← e2]
    exact this
theorem valW_new {ws add : List (Str × List Str)} {x : Str} (h : x ∉ kyW ws) : valW (ws ++ add) x = valW add x := by
  unfold valW
  rw [List.find?_append]
  have : ws.find? (fun w => decide (w.1 = x)) = none := List.find?_eq_none.mpr fun w hw e => h (List.mem_map.mpr ⟨w, hw, of_decide_eq_true e⟩)
  rw [this]
  rfl
def AddOk (tk : Str → List Str) (ws : List (Str × List Str)) (nw : List Str) (add : List (Str × List Str)) : Prop := ∀ w ∈ add, w.1 ∉ kyW ws ∧ ∃ z ∈ nw, w.1 ∈ tk z ∧ w.2 = valW ws z ++ [w.1]
theorem fold_add {tk : Str → List Str} {ws : List (Str × List Str)} {nw : List Str} {z : Str} (hz : z ∈ nw) (hk : z ∈ kyW ws) : ∀ (ts : List Str) (add : List (Str × List Str)), (∀ t ∈ ts, t ∈ tk z) → AddOk tk ws nw add → ∃ add', ts.foldl (addT z) (ws ++ add, kyW add) = (ws ++ add', kyW add') ∧ AddOk tk ws nw add' ∧ (∀ x ∈ kyW (ws ++ add), x ∈ kyW (ws ++ add')) ∧ ∀ t ∈ ts, t ∈ kyW (ws ++ add')
  | [], add, _, ok => ⟨add, rfl, ok, fun _ h => h, fun t h => by cases h⟩
  | t :: ts, add, ht, ok => by
    by_cases h : t ∈ kyW (ws ++ add)
    · obtain ⟨add', e, ok', sub, all⟩ := fold_add hz hk ts add (fun x hx => ht x (List.mem_cons_of_mem _ hx)) ok
      refine ⟨add', ?_, ok', sub, fun x hx => ?_⟩
      · rw [List.foldl_cons, show addT z (ws ++ add, kyW add) t = (ws ++ add, kyW add) from if_pos h]
        exact e
      · rcases List.mem_cons.mp hx with rfl | hx
        · exact sub _ h
        · exact all x hx
    · have e1 : addT z (ws ++ add, kyW add) t = (ws ++ (add ++ [(t, valW ws z ++ [t])]), kyW (add ++ [(t, valW ws z ++ [t])])) := by
        unfold addT
        rw [if_neg h]
        show (ws ++ add ++ [(t, valW (ws ++ add) z ++ [t])], kyW add ++ [t]) = _
        rw [valW_app hk, List.append_assoc]
        unfold kyW
        rw [List.map_append]
        rfl
      have ok1 : AddOk tk ws nw (add ++ [(t, valW ws z ++ [t])]) := fun w hw => by
        rcases List.mem_append.mp hw with hw | hw
        · exact ok w hw
        · rw [List.mem_singleton] at hw
          subst hw
          exact ⟨fun hh => h (by unfold kyW at hh ⊢; rw [List.map_append]; exact List.mem_append_left _ hh), z, hz, ht t (List.mem_cons_self ..), rfl⟩
      obtain ⟨add', e, ok', sub, all⟩ := fold_add hz hk ts _ (fun x hx => ht x (List.mem_cons_of_mem _ hx)) ok1
      have up : ∀ x ∈ kyW (ws ++ add), x ∈ kyW (ws ++ (add ++ [(t, valW ws z ++ [t])])) := fun x hx => by
        unfold kyW at hx ⊢
        rw [← List.append_assoc, List.map_append (l₁ := ws ++ add)]
        exact List.mem_append_left _ hx
      have tin : t ∈ kyW (ws ++ (add ++ [(t, valW ws z ++ [t])])) := by
        unfold kyW
        rw [← List.append_assoc, List.map_append (l₁ := ws ++ add)]
        exact List.mem_append_right _ (List.mem_singleton.mpr rfl)
      refine ⟨add', ?_, ok', fun x hx => sub x (up x hx), fun x hx => ?_⟩
      · rw [List.foldl_cons, e1]
        exact e
      · rcases List.mem_cons.mp hx with rfl | hx
        · exact sub _ tin
        · exact all x hx
theorem fold_last {tk : Str → List Str} {ws : List (Str × List Str)} {nw : List Str} (hk : ∀ z ∈ nw, z ∈ kyW ws) : ∀ (l : List Str) (add : List (Str × List Str)), (∀ z ∈ l, z ∈ nw) → AddOk tk ws nw add → ∃ add', l.foldl (lastT tk) (ws ++ add, kyW add) = (ws ++ add', kyW add') ∧ AddOk tk ws nw add' ∧ (∀ x ∈ kyW (ws ++ add), x ∈ kyW (ws ++ add')) ∧ ∀ z ∈ l, ∀ t ∈ tk z, t ∈ kyW (ws ++ add')
  | [], add, _, ok => ⟨add, rfl, ok, fun _ h => h, fun t h => by cases h⟩
  | z :: l, add, hl, ok => by
    have hz := hl z (List.mem_cons_self ..)
    obtain ⟨a1, e1, ok1, s1, t1⟩ := fold_add hz (hk z hz) (tk z) add (fun _ h => h) ok
    obtain ⟨a2, e2, ok2, s2, t2⟩ := fold_last hk l a1 (fun x hx => hl x (List.mem_cons_of_mem _ hx)) ok1
    refine ⟨a2, ?_, ok2, fun x hx => s2 x (s1 x hx), fun x hx t ht => ?_⟩
    · rw [List.foldl_cons, show lastT tk (ws ++ add, kyW add) z = (ws ++ a1, kyW a1) from e1]
      exact e2
    · rcases List.mem_cons.mp hx with rfl | hx
      · exact s2 t (t1 t ht)
      · exact t2 x hx t ht
theorem round_ok {tk : Str → List Str} {ws : List (Str × List Str)} {nw : List Str} (hk : ∀ z ∈ nw, z ∈ kyW ws) : ∃ add, roundT tk (ws, nw) = (ws ++ add, kyW add) ∧ AddOk tk ws nw add ∧ ∀ z ∈ nw, ∀ t ∈ tk z, t ∈ kyW (ws ++ add) := by
  obtain ⟨add, e, ok, _, t⟩ := fold_last (tk := tk) hk nw [] (fun _ h => h) (fun w hw => by cases hw)
  refine ⟨add, ?_, ok, t⟩
  rw [List.append_nil] at e
  exact e
inductive Pw (tk : Str → List Str) (n : Str) : List Str → Str → Prop where
  | here : Pw tk n [n] n
  | step {p : List Str} {x y : Str} : Pw tk n p x → y ∈ tk x → Pw tk n (p ++ [y]) y
structure BI (tk : Str → List Str) (n : Str) (ws : List (Str × List Str)) (nw : List Str) (d : Nat) : Prop where
  pw : ∀ w ∈ ws, Pw tk n w.2 w.1
  le : ∀ w ∈ ws, w.2.length ≤ d
  al : ∀ p x, Pw tk n p x → p.length ≤ d → x ∈ kyW ws ∧ (valW ws x).length ≤ p.length
  nk : ∀ x ∈ nw, x ∈ kyW ws ∧ (valW ws x).length = d
  kn : ∀ x ∈ kyW ws, (valW ws x).length = d → x ∈ nw
  d1 : 1 ≤ d
theorem pw_pos {tk : Str → List Str} {n : Str} {p : List Str} {x : Str} (h : Pw tk n p x) : 1 ≤ p.length := by
  cases h with
  | here => exact Nat.le_refl _
  | step => rw [List.length_append]; exact Nat.le_add_left _ _
theorem bi_0 (tk : Str → List Str) (n : Str) : BI tk n [(n, [n])] [n] 1 := by
  have e : valW [(n, [n])] n = [n] := by
    unfold valW
    rw [List.find?_cons_of_pos (by simp)]
  refine ⟨fun w hw => ?_, fun w hw => ?_, fun p x h hl => ?_, fun x hx => ?_, fun x hx _ => hx, Nat.le_refl _⟩
  · rw [List.mem_singleton] at hw
    subst hw
    exact .here
  · rw [List.mem_singleton] at hw
    subst hw
    exact Nat.le_refl _
  · cases h with
    | here => exact ⟨List.mem_singleton.mpr rfl, by rw [e]; exact Nat.le_refl _⟩
    | step h t =>
      have := pw_pos h
      rw [List.length_append, List.length_singleton] at hl
      omega
  · rw [List.mem_singleton] at hx
    subst hx
    exact ⟨List.mem_singleton.mpr rfl, by rw [e]; rfl⟩
theorem BI.round {tk : Str → List Str} {n : Str} {ws : List (Str × List Str)} {nw : List Str} {d : Nat} (h : BI tk n ws nw d) : BI tk n (roundT tk (ws, nw)).1 (roundT tk (ws, nw)).2 (d + 1) := by
  obtain ⟨add, e, ok, all⟩ := round_ok (tk := tk) (ws := ws) (nw := nw) fun z hz => (h.nk z hz).1
  rw [e]
  have wlen : ∀ w ∈ add, w.2.length = d + 1 := fun w hw => by
    obtain ⟨_, z, hz, _, e⟩ := ok w hw
    rw [e, List.length_append, List.length_singleton, (h.nk z hz).2]
  have knew : ∀ x, x ∈ kyW (ws ++ add) → x ∉ kyW ws → x ∈ kyW add := fun x hx hno => by
    unfold kyW at hx
    rw [List.map_append] at hx
    rcases List.mem_append.mp hx with hx | hx
    · exact absurd hx hno
    · exact hx
  have vnew : ∀ x, x ∈ kyW add → x ∉ kyW ws → (valW (ws ++ add) x).length = d + 1 := fun x hx hno => by
    rw [valW_new hno]
    exact wlen _ (valW_mem hx)
  have lw : ∀ x ∈ kyW ws, (valW ws x).length ≤ d := fun x hx => h.le _ (valW_mem hx)
  refine ⟨fun w hw => ?_, fun w hw => ?_, fun p x hp hl => ?_, fun x hx => ?_, fun x hx hl => ?_, Nat.le_add_left _ _⟩
  · rcases List.mem_append.mp hw with hw | hw
    · exact h.pw w hw
    · obtain ⟨_, z, hz, t, e⟩ := ok w hw
      rw [e]
      exact .step (h.pw _ (valW_mem (h.nk z hz).1)) t
  · rcases List.mem_append.mp hw with hw | hw
    · exact Nat.le_succ_of_le (h.le w hw)
    · exact Nat.le_of_eq (wlen w hw)
  · have old : x ∈ kyW ws → (valW ws x).length ≤ p.length → x ∈ kyW (ws ++ add) ∧ (valW (ws ++ add) x).length ≤ p.length := fun a b => ⟨by unfold kyW; rw [List.map_append]; exact List.mem_append_left _ a, by rw [valW_app a]; exact b⟩
    by_cases z : p.length ≤ d
    · obtain ⟨a, b⟩ := h.al p x hp z
      exact old a b
    · have hx : x ∈ kyW (ws ++ add) := by
        cases hp with
        | here => exact absurd h.d1 z
        | @step q u _ hq t =>
          rw [List.length_append, List.length_singleton] at hl
          obtain ⟨a, b⟩ := h.al q u hq (by omega)
          by_cases zz : (valW ws u).length = d
          · exact all u (h.kn u a zz) x t
          · have pv := h.pw _ (valW_mem a)
            have := h.al _ x (.step pv t) (by rw [List.length_append, List.length_singleton]; have := lw u a; show (valW ws u).length + 1 ≤ d; omega)
            unfold kyW
            rw [List.map_append]
            exact List.mem_append_left _ this.1
      refine ⟨hx, ?_⟩
      by_cases hk : x ∈ kyW ws
      · rw [valW_app hk]
        have := lw x hk
        omega
      · rw [vnew x (knew x hx hk) hk]
        omega
  · have hx : x ∈ kyW add := hx
    obtain ⟨w, hw, rfl⟩ := List.mem_map.mp hx
    have hno := (ok w hw).1
    refine ⟨?_, vnew _ hx hno⟩
    unfold kyW
    rw [List.map_append]
    exact List.mem_append_right _ hx
  · show x ∈ kyW add
    by_cases hk : x ∈ kyW ws
    · rw [valW_app hk] at hl
      have := lw x hk
      omega
    · exact knew x hx hk
theorem bfs_best {tk : Str → List Str} {n : Str} : ∀ (k d : Nat) (ws : List (Str × List Str)) (nw : List Str), BI tk n ws nw d → (∀ w ∈ bfsT tk k (ws, nw), Pw tk n w.2 w.1) ∧ ∀ p x, Pw tk n p x → x ∈ kyW (bfsT tk k (ws, nw)) → (valW (bfsT tk k (ws, nw)) x).length ≤ p.length
  | 0, d, ws, nw, h => ⟨h.pw, fun p x hp hx => by
      show (valW ws x).length ≤ p.length
      by_cases z : p.length ≤ d
      · exact (h.al p x hp z).2
      · have := h.le _ (valW_mem hx)
        have : (valW ws x).length ≤ d := this
        omega⟩
  | k + 1, d, ws, nw, h => by
    by_cases z : nw = []
    · subst z
      refine ⟨h.pw, fun p x hp hx => ?_⟩
      show (valW ws x).length ≤ p.length
      by_cases z : p.length ≤ d
      · exact (h.al p x hp z).2
      · have := h.le _ (valW_mem hx)
        have : (valW ws x).length ≤ d := this
        omega
    · rw [bfs_step tk k z]
      exact bfs_best k (d + 1) _ _ h.round
theorem wfs_pw {gs : List Gm} {n : Str} {w : Str × List Str} (h : w ∈ wfs gs n) : Pw (fun x => tkr x gs) n w.2 w.1 := (bfs_best 60 1 _ _ (bi_0 _ n)).1 w h
end Lw
end
section
set_option Elab.async false
set_option linter.all false
set_option maxRecDepth 100000
set_option maxHeartbeats 4000000
namespace Lw
open PySem PySem.Spec PyProof.Rows L2
def Lx : List Str → List Str → Prop
  | a :: p, b :: q => lS a b ∨ (a = b ∧ Lx p q)
  | _, _ => False
section
variable {tk : Str → List Str} {ws : List (Str × List Str)}
structure AM (tk : Str → List Str) (ws : List (Str × List Str)) (l : List Str) (z : Str) (ts : List Str) (add : List (Str × List Str)) : Prop where
  nd : (kyW add).Nodup
  lx : add.Pairwise fun w w' => Lx w.2 w'.2
  pr : ∀ w ∈ add, w.1 ∉ kyW ws ∧ ((∃ l1 z' l2, l = l1 ++ z' :: l2 ∧ w.1 ∈ tk z' ∧ w.2 = valW ws z' ++ [w.1] ∧ ∀ y ∈ l1, w.1 ∉ tk y) ∨ (w.1 ∈ ts ∧ w.2 = valW ws z ++ [w.1] ∧ ∀ y ∈ l, w.1 ∉ tk y))
  cov : ∀ y ∈ l, ∀ t ∈ tk y, t ∈ kyW (ws ++ add)
  cz : ∀ t ∈ ts, t ∈ kyW (ws ++ add)
structure AL (tk : Str → List Str) (ws : List (Str × List Str)) (l : List Str) (add : List (Str × List Str)) : Prop where
  nd : (kyW add).Nodup
  lx : add.Pairwise fun w w' => Lx w.2 w'.2
  pr : ∀ w ∈ add, w.1 ∉ kyW ws ∧ ∃ l1 z l2, l = l1 ++ z :: l2 ∧ w.1 ∈ tk z ∧ w.2 = valW ws z ++ [w.1] ∧ ∀ y ∈ l1, w.1 ∉ tk y
  cov : ∀ y ∈ l, ∀ t ∈ tk y, t ∈ kyW (ws ++ add)
structure LI (tk : Str → List Str) (n : Str) (ws : List (Str × List Str)) (nw : List Str) (d : Nat) : Prop where
  bi : BI tk n ws nw d
  np : nw.Pairwise fun x y => Lx (valW ws x) (valW ws y)
  lm : ∀ x ∈ kyW ws, ∀ q, Pw tk n q x → q.length = (valW ws x).length → ¬ Lx q (valW ws x)
end
inductive Ch (tk : Str → List Str) : Str → List Str → Str → Prop where
  | one (x : Str) : Ch tk x [x] x
  | cons {a b y : Str} {p : List Str} : b ∈ tk a → Ch tk b p y → Ch tk a (a :: p) y
section
variable {tk : Str → List Str}
end
def Dm (tk : Str → List Str) (x y : Str) (k : Nat) : Prop := (∃ p, Ch tk x p y ∧ p.length = k + 1) ∧ ∀ p, Ch tk x p y → k + 1 ≤ p.length
end Lw
end
section
set_option Elab.async false
set_option linter.all false
set_option maxRecDepth 100000
set_option maxHeartbeats 4000000
namespace Lw
open PySem PySem.Spec PyProof.Rows L2
section
variable {X : Cx}
def dMinS (K : PySem.W.Frag) : List V → Hp → VK → Prop := fun xs H Q => match xs with
  | [.ref p] => ∃ names : List Str, SqL K H p (names.map V.str) ∧ 0 < names.length ∧ ∀ x ∈ names, (∀ y ∈ names, ¬ lS y x) → Q (.str x) H
  | _ => False
end
section
variable {X : Cx} {i o : Expr} {ty td : TE} {pos : Pos}
theorem t_din (hu : X.A.units + 1 < cLine) (hi : PE X i ty) (ho : PE X o td) (hm : behindInMarks .In o = false) : PT X (.Compare i [.In] [o] pos) (dTest (tDIn ty td)) := by
  rw [dTest_eqB]
  exact pt_cmp (pc_din hu hi ho) hm
end
section
variable {tk : Str → List Str}
end
end Lw
end
set_option Elab.async false
set_option linter.all false
set_option maxRecDepth 100000
set_option maxHeartbeats 0
set_option exponentiation.threshold 5000
namespace My
open PySem PySem.Spec PyProof.Rows L2 Lw
local macro_rules | `(tactic| walk_at "hp") => `(tactic| first | assumption | (refine sm_at (by assumption) ?_; walk_at "hp") | (refine sm_sq (by assumption) ?_; walk_at "hp") | (refine Fq.up (by assumption) ?_; walk_at "hp") | (refine Pq.up (by assumption) ?_; walk_at "hp"))
def top (i : Nat) : Stmt := PySem.Challenge.pw_ladderworth_k18_whole_no_worths_or_ways.main.body.getD i (.Pass ⟨0, 0, 0, 0⟩)
abbrev s_turned : Stmt := top 4
abbrev s_players : Stmt := top 6
abbrev s_told_by : Stmt := top 7
abbrev s_check_player : Stmt := top 9
abbrev s_takers : Stmt := top 10
abbrev s_above : Stmt := top 11
abbrev s_way : Stmt := top 12
abbrev s_ways_from : Stmt := top 13
abbrev s_verdict : Stmt := top 14
abbrev s_joined : Stmt := top 15
abbrev s_l_cell_at : Stmt := top 17
abbrev s_l_names : Stmt := top 18
abbrev s_l_first_games : Stmt := top 19
abbrev s_l_book : Stmt := top 20
abbrev s_l_worths : Stmt := top 21
abbrev s_l_short : Stmt := top 22
abbrev s_l_none_seen : Stmt := top 23
abbrev s_l_gone : Stmt := top 24
abbrev s_l_all_ways : Stmt := top 25
abbrev s_l_parts_seen : Stmt := top 26
abbrev s_law : Stmt := top 27
structure Errs (K : PySem.W.Frag) (mg : Str → Option Value) (c_NoPlayer : Addr) : Prop where
  b_NoPlayer : mg "NoPlayer" = some (.ref c_NoPlayer)
  y_NoPlayer : PySem.W.nsIn K mainGlobals "NoPlayer" = some (some (.ref c_NoPlayer))
  x_NoPlayer : ExcC K c_NoPlayer
  kv_NoPlayer : PySem.W.kitOne K (.ref c_NoPlayer) (.type "ValueError") = some true
  kk_NoPlayer_NoPlayer : PySem.W.kitOne K (.ref c_NoPlayer) (.ref c_NoPlayer) = some true
section
variable {P : Program} {w : World} {K : PySem.W.Frag} {mg : Str → Option Value} {base : Heap} {ns : List Int}
variable {c_NoPlayer : Addr}
theorem nb {P : Prop} {a b : Bool} (h : a = b) (n : (a == b) = false := by rfl) : P := by
  subst h
  rw [beq_self_eq_true] at n
  cases n
def wh : V → Bool
  | .int _ => true
  | _ => false
def Kd (H : Hp) : V → Prop
  | .int _ => True
  | .bl _ => True
  | .non => True
  | .str _ => True
  | .ref p => ∃ u t, H p = some u ∧ tyHO u = some t ∧ tyB t "int" = some false
  | _ => False
def ExN (K : PySem.W.Frag) (x : Str) (E : XK) (H : Hp) : Prop := ∀ C, PySem.W.nsIn K mainGlobals x = some (some (.ref C)) → E (.ref C) none H
def sp_turned (K : PySem.W.Frag) (ns : List Int) : Sp := fun vs H Q _ => match vs with
  | [.ref p] => ∃ g : Gm, GmAt H (.ref p) g ∧ ∀ y H', Same H H' → GmAt H' y (trn g) → Q y H'
  | _ => False
theorem sc_turned : FnScope ["played"] ["played"] (defScope s_turned) := ⟨rfl, rfl, rfl, by decide +kernel, rfl, by decide +kernel, by decide +kernel⟩
theorem ok_turned (d : Dfn K mg "turned" s_turned ["played"]) (er : Errs K mg c_NoPlayer)    : Cal P w K mg base "turned" ["played"] 1 (sp_turned K ns) := by
  refine d.cal (k := 0) sc_turned (fun vs H Q E h => ?_) (fun f cdv A outer s H vs Q E hr h => ?_)
  · match vs, h with
    | [.ref p], _ => rfl
  · match vs, h with
    | [.ref p], ⟨g, ⟨_, e, h⟩, k⟩ =>
      refine ⟨_, (@pss_one _ _ _ (@ps_ret _ _ _ _ (@e_tup _ _ _ _ _ (@pa_cons _ _ _ _ _ (@pe_ix _ _ _ _ _ _ _ i_tup (dv 0) pe_int (fun _ _ => rfl)) (@pa_cons _ _ _ _ _ (@pe_ix _ _ _ _ _ _ _ i_tup (dv 0) pe_int (fun _ _ => rfl)) (@pa_cons _ _ _ _ _ (@pe_ix _ _ _ _ _ _ _ i_tup (dv 0) pe_int (fun _ _ => rfl)) (@pa_cons _ _ _ _ _ (@pe_op _ _ _ _ _ _ _ _ o_sub pe_int (@pe_ix _ _ _ _ _ _ _ i_tup (dv 0) pe_int (fun _ _ => rfl))) (@pa_cons _ _ _ _ _ (@pe_un _ _ _ _ _ _ u_neg (@pe_ix _ _ _ _ _ _ _ i_tup (dv 0) pe_int (fun _ _ => rfl))) pa_nil (by rfl)) (by rfl)) (by rfl)) (by rfl)) (by rfl))))), ?_⟩
      cases e
      exact ⟨_, h, _, h, _, h, _, h, _, h, fun r H' s e => k _ H' s ⟨r, rfl, e⟩⟩
theorem none_back {H H' : Hp} {D : Addr} (s : Same H H') (h : H' D = none) : H D = none := by
  cases e : H D with
  | none => rfl
  | some o =>
    rw [s _ _ e] at h
    cases h
def sp_players (K : PySem.W.Frag) (ns : List Int) : Sp := fun vs H Q _ => match vs with
  | [.ref L] => ∃ gs, (Bk K H L gs ∧ (plr gs).length < 64) ∧ ∀ D H', Same H H' → H D = none → H' D = some (.lst ((plr gs).map V.str)) → Q (.ref D) H'
  | _ => False
theorem sc_players : FnScope ["games"] ["games"] (defScope s_players) := ⟨rfl, rfl, rfl, by decide +kernel, rfl, by decide +kernel, by decide +kernel⟩
theorem ok_players (d : Dfn K mg "players" s_players ["games"]) (er : Errs K mg c_NoPlayer) (n_sorted : mg "sorted" = none) (n_set : mg "set" = none)   : Cal P w K mg base "players" ["games"] 1 (sp_players K ns) := by
  refine d.cal (k := 0) sc_players (fun vs H Q E h => ?_) (fun f cdv A outer s H vs Q E hr h => ?_)
  · match vs, h with
    | [.ref L], _ => rfl
  · match vs, h with
    | [.ref L], ⟨gs, ⟨⟨vs, hx, hm, hl⟩, h64⟩, k⟩ =>
      refine ⟨_, (@pss_one _ _ _ (@ps_ret _ _ _ _ (@e_sset _ _ _ _ _ _ _ (by rfl) n_sorted (by rfl) n_set (@pe_op _ _ _ _ _ _ _ _ o_catL (@e_compN _ _ _ _ _ _ _ _ _ _ ["played"] [] [] rfl (@pi_list _ _ _ _ (dv 0)) (fun C s H fp => (@pg_name _ _ (0) _ (show List.Nodup [("played" : Str)] by decide +kernel) rfl (by first | exact Or.inl rfl | exact Or.inr rfl) (by first | exact .inl rfl | exact .inr rfl | assumption))) (fun C s H fp => (@pe_ix _ _ _ _ _ _ _ i_tup (dv 0) pe_int (fun _ _ => rfl))) rfl rfl (by decide +kernel) (by decide +kernel) (by rfl) True.intro True.intro (by intro _; rfl)) (@e_compN _ _ _ _ _ _ _ _ _ _ ["played"] [] [] rfl (@pi_list _ _ _ _ (dv 0)) (fun C s H fp => (@pg_name _ _ (0) _ (show List.Nodup [("played" : Str)] by decide +kernel) rfl (by first | exact Or.inl rfl | exact Or.inr rfl) (by first | exact .inl rfl | exact .inr rfl | assumption))) (fun C s H fp => (@pe_ix _ _ _ _ _ _ _ i_tup (dv 0) pe_int (fun _ _ => rfl))) rfl rfl (by decide +kernel) (by decide +kernel) (by rfl) True.intro True.intro (by intro _; rfl))) (by rfl) (by rfl) (by rfl)))), ?_⟩
      have hz : vs.length ≤ 1000 := by rw [hm.len]; omega
      refine ⟨L, rfl, ⟨_, hx⟩, comp_abs GmAt gm_up (fun _ g y => y = V.str g.a) (fun _ _ _ _ _ h => h) hz hx hm ?_ ?_⟩
      · intro v m H2 hM _ s2 P hP
        obtain ⟨p, rfl, e⟩ := hM
        exact ⟨rfl, _, e, hP _ _ (Same.refl _) rfl⟩
      intro D1 H1 ys1 s1 _ e1 a1
      have y1 := all2_strs a1
      have hm1 : All2 (GmAt H1) vs gs := hm.imp fun v g r => gm_up v g _ _ (kt_of s1) r
      refine ⟨L, rfl, ⟨_, s1.seq hx⟩, comp_abs GmAt gm_up (fun _ g y => y = V.str g.b) (fun _ _ _ _ _ h => h) hz (s1.seq hx) hm1 ?_ ?_⟩
      · intro v m H2 hM _ s2 P hP
        obtain ⟨p, rfl, e⟩ := hM
        exact ⟨rfl, _, e, hP _ _ (Same.refl _) rfl⟩
      intro D2 H2 ys2 s2 _ e2 a2
      have y2 := all2_strs a2
      have l1 := a1.len
      have l2 := a2.len
      refine ⟨_, _, s2 _ _ e1, e2, by omega, fun D3 H3 s3 e3 => ⟨gs.map (·.a) ++ gs.map (·.b), SqL.of ?_, ?_, h64, fun D hD => ?_⟩⟩
      · rw [e3, y1, y2, List.map_append]
      · rw [List.length_append, List.length_map, List.length_map]
        omega
      · have s := s1.trans (s2.trans s3)
        exact k D _ (s.trans (same_upd hD)) (none_back s hD) upd_same
theorem in_strs (n : Str) (l : List Str) : inV (.str n) (l.map V.str) = decide (n ∈ l) := by
  unfold inV
  rw [List.any_map]
  by_cases h : n ∈ l
  · rw [decide_eq_true h, List.any_eq_true]
    exact ⟨n, h, by show (n == n) = true; simp⟩
  · rw [decide_eq_false h, List.any_eq_false]
    intro x hx e
    have e : (x == n) = true := e
    exact h (eq_of_beq e ▸ hx)
theorem flat_strs (l : List Str) : (l.map V.str).all flatV = true := by
  rw [List.all_map]
  exact List.all_eq_true.mpr fun _ _ => rfl
def sp_told_by (K : PySem.W.Frag) (ns : List Int) : Sp := fun vs H Q _ => match vs with
  | [.ref L, .str n] => ∃ gs, Bk K H L gs ∧ ∀ D H', Same H H' → H D = none → Bk K H' D (tld n gs) → Q (.ref D) H'
  | _ => False
theorem sc_told_by : FnScope ["games", "name", "own"] ["games", "name"] (defScope s_told_by) := ⟨rfl, rfl, rfl, by decide +kernel, rfl, by decide +kernel, by decide +kernel⟩
theorem ok_told_by (d : Dfn K mg "told_by" s_told_by ["games", "name"]) (er : Errs K mg c_NoPlayer)   (c_turned : Cal P w K mg base "turned" ["played"] 1 (sp_turned K ns)) : Cal P w K mg base "told_by" ["games", "name"] 2 (sp_told_by K ns) := by
  refine d.cal (k := 1) sc_told_by (fun vs H Q E h => ?_) (fun f cdv A outer s H vs Q E hr h => ?_)
  · match vs, h with
    | [.ref L, .str n], _ => rfl
  · match vs, h with
    | [.ref L, .str n], ⟨gs, ⟨vs, hx, hm, hl⟩, k⟩ =>
      refine ⟨_, (@pss_cons _ _ _ _ _ (@ps_compIN _ _ _ _ _ _ _ _ _ (2) _ _ _ _ _ _ ["played"] ["name"] [1] rfl (@pi_list _ _ _ _ (dv 0)) (fun C s H fp => (@pg_name _ _ (0) _ (show List.Nodup [("played" : Str), ("name" : Str)] by decide +kernel) rfl (by first | exact Or.inl rfl | exact Or.inr rfl) (by first | exact .inl rfl | exact .inr rfl | assumption))) (fun C s H fp => (@t_cmp _ _ _ _ _ _ _ _ (show OpR _ _ (dInS K) from o_in) (dv 1) (@e_tup _ _ _ _ _ (@pa_cons _ _ _ _ _ (@pe_ix _ _ _ _ _ _ _ i_tup (dv 0) pe_int (fun _ _ => rfl)) (@pa_cons _ _ _ _ _ (@pe_ix _ _ _ _ _ _ _ i_tup (dv 0) pe_int (fun _ _ => rfl)) pa_nil (by rfl)) (by rfl))) (by with_unfolding_all rfl))) (fun C s H fp => (dv 0)) rfl rfl (by decide +kernel) (by decide +kernel) (by rfl) ⟨rfl, True.intro⟩ ⟨⟨rfl, rfl, rfl, rfl⟩, True.intro⟩ sc_told_by.nd rfl rfl (by intro _; rfl) (by rfl)) (@pss_one _ _ _ (@ps_ret _ _ _ _ (@e_compN _ _ _ _ _ _ _ _ _ _ ["played"] ["name"] [1] rfl (@pi_list _ _ _ _ (dv 2)) (fun C s H fp => (@pg_name _ _ (0) _ (show List.Nodup [("played" : Str), ("name" : Str)] by decide +kernel) rfl (by first | exact Or.inl rfl | exact Or.inr rfl) (by first | exact .inl rfl | exact .inr rfl | assumption))) (fun C s H fp => (@e_if _ _ _ _ _ _ _ _ (@t_cmp _ _ _ _ _ _ _ _ o_eq (@pe_ix _ _ _ _ _ _ _ i_tup (dv 0) pe_int (fun _ _ => rfl)) (dv 1) (@nomark _ _ (by decide) (by decide))) (dv 0) (@e_call _ _ _ _ _ _ _ _ _ _ _ c_turned hr (by decide) (by rfl) (@pa_cons _ _ _ _ _ (dv 0) pa_nil (by rfl)) (by decide) (by rfl) (by rfl)))) rfl rfl (by decide +kernel) (by decide +kernel) (by rfl) ⟨rfl, True.intro⟩ ⟨⟨rfl, rfl, rfl, rfl⟩, True.intro⟩ (by intro _; rfl))))), ?_⟩
      have hz : vs.length ≤ 1000 := by rw [hm.len]; omega
      refine ⟨L, rfl, ⟨_, hx⟩, comp_absI GmAt gm_up (fun H g y => GmAt H y g) (fun g y H H' kt h => gm_up y g H H' kt h) (isIn n) hz hx hm ?_ ?_⟩
      · intro v m H2 hM _ s2 P P' hP hP'
        obtain ⟨p, rfl, e⟩ := hM
        refine ⟨rfl, _, e, _, e, fun T H3 s3 e3 => ⟨_, .inr (SqT.of e3), rfl, rfl, ⟨fun h => ?_, fun h => ?_⟩⟩⟩
        · have h : inV (.str n) ([m.a, m.b].map V.str) = true := h
          rw [in_strs] at h
          have h := of_decide_eq_true h
          refine hP ?_ _ _ s3 ⟨p, rfl, s3 _ _ e⟩
          unfold isIn
          simpa using h
        · have h : inV (.str n) ([m.a, m.b].map V.str) = false := h
          rw [in_strs] at h
          have h := of_decide_eq_false h
          refine hP' ?_ _ s3
          unfold isIn
          simpa using h
      intro D1 H1 ys1 s1 d1 e1 a1
      have al : All2 (GmAt H1) ys1 (gs.filter (isIn n)) := all2_flip a1
      have zl : (gs.filter (isIn n)).length ≤ gs.length := List.length_filter_le _ _
      refine ⟨D1, rfl, ⟨_, SqL.of e1⟩, comp_abs GmAt gm_up (fun H g y => GmAt H y (toldG n g)) (fun g y H H' kt h => gm_up y _ H H' kt h) (by rw [al.len]; omega) (SqL.of e1) al ?_ ?_⟩
      · intro v m H2 hM _ s2 P hP
        obtain ⟨p, rfl, e⟩ := hM
        refine ⟨rfl, _, e, ⟨fun h => ?_, fun h => ?_⟩⟩
        · have h := of_decide_eq_true h
          refine hP _ _ (Same.refl _) ?_
          rw [show toldG n m = m from if_pos h]
          exact ⟨p, rfl, e⟩
        · have h := of_decide_eq_false h
          refine ⟨m, ⟨p, rfl, e⟩, fun y H3 s3 g3 => hP _ _ s3 ?_⟩
          rw [show toldG n m = trn m from if_neg h]
          exact g3
      intro D2 H2 ys2 s2 d2 e2 a2
      refine k D2 H2 (s1.trans s2) (none_back s1 d2) ⟨ys2, SqL.of e2, all2_map a2, ?_⟩
      unfold tld
      rw [List.length_map]
      omega
def sp_takers (K : PySem.W.Frag) (ns : List Int) : Sp := fun vs H Q _ => match vs with
  | [.ref L, .str n] => ∃ gs, (Bk K H L gs ∧ (tkr n gs).length < 64) ∧ ∀ D H', Same H H' → H D = none → H' D = some (.lst ((tkr n gs).map V.str)) → Q (.ref D) H'
  | _ => False
theorem sc_takers : FnScope ["games", "name"] ["games", "name"] (defScope s_takers) := ⟨rfl, rfl, rfl, by decide +kernel, rfl, by decide +kernel, by decide +kernel⟩
theorem ok_takers (d : Dfn K mg "takers" s_takers ["games", "name"]) (er : Errs K mg c_NoPlayer) (n_sorted : mg "sorted" = none) (n_set : mg "set" = none)  (c_told_by : Cal P w K mg base "told_by" ["games", "name"] 2 (sp_told_by K ns)) : Cal P w K mg base "takers" ["games", "name"] 3 (sp_takers K ns) := by
  refine d.cal (k := 2) sc_takers (fun vs H Q E h => ?_) (fun f cdv A outer s H vs Q E hr h => ?_)
  · match vs, h with
    | [.ref L, .str n], _ => rfl
  · match vs, h with
    | [.ref L, .str n], ⟨gs, ⟨hB, h64⟩, k⟩ =>
      refine ⟨_, (@pss_one _ _ _ (@ps_ret _ _ _ _ (@e_sset _ _ _ _ _ _ _ (by rfl) n_sorted (by rfl) n_set (@e_compIN _ _ _ _ _ _ _ _ _ _ _ _ ["played"] [] [] rfl (@pi_list _ _ _ _ (@e_call _ _ _ _ _ _ _ _ _ _ _ c_told_by hr (by decide) (by rfl) (@pa_cons _ _ _ _ _ (dv 0) (@pa_cons _ _ _ _ _ (dv 1) pa_nil (by rfl)) (by rfl)) (by decide) (by rfl) (by rfl))) (fun C s H fp => (@pg_name _ _ (0) _ (show List.Nodup [("played" : Str)] by decide +kernel) rfl (by first | exact Or.inl rfl | exact Or.inr rfl) (by first | exact .inl rfl | exact .inr rfl | assumption))) (fun C s H fp => (@t_cmp _ _ _ _ _ _ _ _ o_lt (@pe_ix _ _ _ _ _ _ _ i_tup (dv 0) pe_int (fun _ _ => rfl)) pe_int (@nomark _ _ (by decide) (by decide)))) (fun C s H fp => (@pe_ix _ _ _ _ _ _ _ i_tup (dv 0) pe_int (fun _ _ => rfl))) rfl rfl (by decide +kernel) (by decide +kernel) (by rfl) True.intro True.intro (by intro _; rfl)) (by rfl) (by rfl) (by rfl)))), ?_⟩
      refine ⟨gs, hB, fun D1 H1 s1 d1 ⟨vs, hx, hm, hl⟩ => ?_⟩
      refine ⟨D1, rfl, ⟨_, hx⟩, comp_absI GmAt gm_up (fun _ g y => y = V.str g.b) (fun _ _ _ _ _ h => h) (fun g => decide (g.h < 2)) (by rw [hm.len]; omega) hx hm ?_ ?_⟩
      · intro v m H2 hM _ s2 P P' hP hP'
        obtain ⟨p, rfl, e⟩ := hM
        exact ⟨rfl, _, e, ⟨fun h => ⟨_, e, hP h _ _ (Same.refl _) rfl⟩, fun h => hP' h _ (Same.refl _)⟩⟩
      intro D2 H2 ys2 s2 d2 e2 a2
      have y2 := all2_strs a2
      have zl : ((tld n gs).filter fun g => decide (g.h < 2)).length ≤ (tld n gs).length := List.length_filter_le _ _
      refine ⟨List.map Gm.b (List.filter (fun g : Gm => decide (g.h < 2)) (tld n gs)), SqL.of (by rw [e2, y2]), by rw [List.length_map]; omega, h64, fun D hD => ?_⟩
      have s := s1.trans s2
      exact k D _ (s.trans (same_upd hD)) (none_back s hD) upd_same
def sp_check_player (K : PySem.W.Frag) (ns : List Int) : Sp := fun vs H Q E => match vs with
  | [.ref L, .str n] => ∃ gs, (Bk K H L gs ∧ (plr gs).length < 64) ∧ (n ∈ plr gs → ∀ H', Same H H' → Q .non H') ∧ (n ∉ plr gs → ∀ H', Same H H' → ExN K "NoPlayer" E H')
  | _ => False
theorem sc_check_player : FnScope ["games", "name"] ["games", "name"] (defScope s_check_player) := ⟨rfl, rfl, rfl, by decide +kernel, rfl, by decide +kernel, by decide +kernel⟩
theorem ok_check_player (d : Dfn K mg "check_player" s_check_player ["games", "name"]) (er : Errs K mg c_NoPlayer)   (c_players : Cal P w K mg base "players" ["games"] 1 (sp_players K ns)) : Cal P w K mg base "check_player" ["games", "name"] 2 (sp_check_player K ns) := by
  refine d.calX (k := 1) sc_check_player (fun vs H Q E h => ?_) (fun f cdv A outer s H vs Q E hr h => ?_)
  · match vs, h with
    | [.ref L, .str n], _ => rfl
  · match vs, h with
    | [.ref L, .str n], ⟨gs, ⟨hB, h64⟩, k1, k2⟩ =>
      refine ⟨_, (@pss_one _ _ _ (@s_if _ _ _ _ _ _ _ _ (@t_cmp _ _ _ _ _ _ _ _ o_notin (dv 1) (@e_call _ _ _ _ _ _ _ _ _ _ _ c_players hr (by decide) (by rfl) (@pa_cons _ _ _ _ _ (dv 0) pa_nil (by rfl)) (by decide) (by rfl) (by rfl)) (by with_unfolding_all rfl)) (@pss_one _ _ _ (@ps_raise _ _ _ _ _ _ _ _ _ _ _ _ _ _ _ _ _ _ _ _ _ _ _ er.b_NoPlayer er.x_NoPlayer (by rfl) (by decide))) pss_nil)), ?_⟩
      refine ⟨gs, ⟨hB, h64⟩, fun D1 H1 s1 d1 e1 => ⟨_, .inl (SqL.of e1), rfl, flat_strs _, ?_⟩⟩
      rw [in_strs]
      refine ⟨fun h => ?_, fun h => ?_⟩
      · have h : n ∉ plr gs := by simpa using h
        exact k2 h H1 s1 _ er.y_NoPlayer
      · have h : n ∈ plr gs := by simpa using h
        exact k1 h H1 s1
def sp_ways_from (K : PySem.W.Frag) (ns : List Int) : Sp := fun vs H Q _ => match vs with
  | [.ref L, .str n] => ∃ (gs : List Gm) (nm : List Str), (Bk K H L gs ∧ (∀ g ∈ gs, g.a ∈ nm ∧ g.b ∈ nm) ∧ nm.length ≤ 60 ∧ n ∈ nm ∧ ∀ x ∈ nm, PyData.strOk x = true) ∧ ∀ D kvs H', Same H H' → H D = none → H' D = some (.dK kvs) → All2 (WW H H') kvs (wfs gs n) → kvs.map (·.1) = ((wfs gs n).map (·.1)).map Sum.inr → ((wfs gs n).map (·.1)).Nodup → (∀ x, x ∈ (wfs gs n).map (·.1) ↔ Rch gs n x) → Q (.ref D) H'
  | _ => False
theorem sc_ways_from : FnScope ["games", "name", "ways", "newest", "reached", "last", "taker"] ["games", "name"] (defScope s_ways_from) := ⟨rfl, rfl, rfl, by decide +kernel, rfl, by decide +kernel, by decide +kernel⟩
theorem ok_ways_from (d : Dfn K mg "ways_from" s_ways_from ["games", "name"]) (er : Errs K mg c_NoPlayer)   (c_takers : Cal P w K mg base "takers" ["games", "name"] 3 (sp_takers K ns)) : Cal P w K mg base "ways_from" ["games", "name"] 4 (sp_ways_from K ns) := by
  refine d.cal (k := 3) sc_ways_from (fun vs H Q E h => ?_) (fun f cdv A outer s H vs Q E hr h => ?_)
  · match vs, h with
    | [.ref L, .str n], _ => rfl
  · match vs, h with
    | [.ref L, .str n], ⟨gs, nm, ⟨hB, hm, l60, hn, sok⟩, q⟩ =>
      refine ⟨_, (@pss_cons _ _ _ _ _ (@ps_set _ _ (2) _ _ _ _ sc_ways_from.nd rfl (by first | exact Or.inl rfl | exact Or.inr rfl) (@pe_disp _ _ _ _ _ (@pps_cons _ _ _ _ _ _ _ _ _ (dv 1) (@pe_lst _ _ _ _ (@pa_cons _ _ _ _ _ (dv 1) pa_nil (by rfl))) pps_nil) rfl rfl (by simp) (by decide)) (by rfl) (by first | exact .inl rfl | exact .inr rfl | assumption)) (@pss_cons _ _ _ _ _ (@ps_set _ _ (3) _ _ _ _ sc_ways_from.nd rfl (by first | exact Or.inl rfl | exact Or.inr rfl) (@pe_lst _ _ _ _ (@pa_cons _ _ _ _ _ (dv 1) pa_nil (by rfl))) (by rfl) (by first | exact .inl rfl | exact .inr rfl | assumption)) (@pss_cons _ _ _ _ _ (@s_while _ _ _ _ _ _ PassesOwn.never (@t_cmp _ _ _ _ _ _ _ _ (@o_neD _ hr.units) (dv 3) (@pe_lst _ _ _ _ pa_nil) (@nomark _ _ (by decide) (by decide))) (@pss_cons _ _ _ _ _ (@ps_set _ _ (4) _ _ _ _ sc_ways_from.nd rfl (by first | exact Or.inl rfl | exact Or.inr rfl) (@pe_lst _ _ _ _ pa_nil) (by rfl) (by first | exact .inl rfl | exact .inr rfl | assumption)) (@pss_cons _ _ _ _ _ (@ps_for _ _ _ _ _ _ _ _ PassesOwn.never rfl (@pi_list _ _ _ _ (dv 3)) (@pg_name _ _ (5) _ sc_ways_from.nd rfl (by first | exact Or.inl rfl | exact Or.inr rfl) (by first | exact .inl rfl | exact .inr rfl | assumption)) (@pss_one _ _ _ (@ps_for _ _ _ _ _ _ _ _ PassesOwn.never rfl (@pi_list _ _ _ _ (@e_call _ _ _ _ _ _ _ _ _ _ _ c_takers hr (by decide) (by rfl) (@pa_cons _ _ _ _ _ (dv 0) (@pa_cons _ _ _ _ _ (dv 5) pa_nil (by rfl)) (by rfl)) (by decide) (by rfl) (by rfl))) (@pg_name _ _ (6) _ sc_ways_from.nd rfl (by first | exact Or.inl rfl | exact Or.inr rfl) (by first | exact .inl rfl | exact .inr rfl | assumption)) (@pss_one _ _ _ (@s_if _ _ _ _ _ _ _ _ (@t_dnotin _ _ _ _ _ _ (@u1 _ _ hr.units) (dv 6) (dv 2) (by with_unfolding_all rfl)) (@pss_cons _ _ _ _ _ (@ps_dput _ _ _ _ _ _ _ _ _ (@u1 _ _ hr.units) (dv 2) (dv 6) (@pe_op _ _ _ _ _ _ _ _ op_cat (@pe_dget _ _ _ _ _ _ (@u1 _ _ hr.units) (dv 2) (dv 5) (fun _ _ => rfl)) (@pe_lst _ _ _ _ (@pa_cons _ _ _ _ _ (dv 6) pa_nil (by rfl)))) rfl) (@pss_one _ _ _ (@ps_expr _ _ _ _ (@pe_bm _ _ _ _ _ _ _ _ _ _ _ _ PySem.F.plainAttrs_list PySem.F.slot_list_append PySem.F.type_list_append mt_append (dv 4) (@pa_cons _ _ _ _ _ (dv 6) pa_nil (by rfl)) (by rfl) (by rfl) (by rfl) (by rfl) (by rfl)) (by rfl)))) pss_nil)) (by intro _; rfl))) (by intro _; rfl)) (@pss_one _ _ _ (@ps_set _ _ (3) _ _ _ _ sc_ways_from.nd rfl (by first | exact Or.inl rfl | exact Or.inr rfl) (dv 4) (by rfl) (by first | exact .inl rfl | exact .inr rfl | assumption)))))) (@pss_one _ _ _ (@ps_ret _ _ _ _ (dv 2)))))), ?_⟩
      intro D hD
      have len1 : ∀ v : V, [v].length ≤ sizeLine := fun v => by show 1 ≤ sizeLine; decide
      refine ⟨len1 _, fun p0 hp0 => ?_⟩
      have neDp : D ≠ p0 := fun e => by
        rw [← e, upd_same] at hp0
        cases hp0
      have hp0' : H p0 = none := by
        rw [← hp0, upd_ne (Ne.symm neDp)]
      refine ⟨by rw [upd_ne neDp, upd_same], [(Sum.inr n, .ref p0)], rfl, (by show 1 ≤ 15; decide), len1 _, fun N hN => ?_⟩
      have eM : mergeK [] [((Sum.inr n : Key), V.ref p0)] = [(Sum.inr n, .ref p0)] := rfl
      rw [eM] at hN ⊢
      have s0 : Same H (upd (upd (upd H D (.dK [])) p0 (.lst [.str n])) D (.dK [(Sum.inr n, .ref p0)])) := same_app' (same_app' (same_upd hD) hp0') hD
      have eD0 : upd (upd (upd H D (.dK [])) p0 (.lst [.str n])) D (.dK [(Sum.inr n, .ref p0)]) D = some (.dK [(Sum.inr n, .ref p0)]) := upd_same
      have eP0 : upd (upd (upd H D (.dK [])) p0 (.lst [.str n])) D (.dK [(Sum.inr n, .ref p0)]) p0 = some (.lst [.str n]) := by rw [upd_ne (Ne.symm neDp), upd_same]
      generalize upd (upd (upd H D (.dK [])) p0 (.lst [.str n])) D (.dK [(Sum.inr n, .ref p0)]) = H0 at hN s0 eD0 eP0
      have t64 : ∀ x, (tkr x gs).length < 64 := fun x => Nat.lt_of_le_of_lt (Nat.le_trans (tkr_len hm) l60) (by decide)
      refine ⟨fun m σ H' => ∃ (N : Addr) (nw ks : List Str) (kvs : List (Key × V)) (ws : List (Str × List Str)) (r : Nat) (o4 o5 o6 : Option V), σ = [some (.ref L), some (.str n), some (.ref D), some (.ref N), o4, o5, o6] ∧ (Same H H' ∧ H' D = some (.dK kvs) ∧ kvs.map (·.1) = ks.map Sum.inr ∧ (∀ R, H' R = none → VL H' R kvs) ∧ H' N = some (.lst (nw.map V.str))) ∧ (ks.Nodup ∧ n ∈ ks ∧ (∀ x ∈ ks, Rch gs n x) ∧ (∀ x ∈ nw, x ∈ ks) ∧ ∀ x ∈ ks, x ∈ nw ∨ ∀ y ∈ tkr x gs, y ∈ ks) ∧ ((∀ R, H' R = none → All2 (WV H H' R) kvs ws) ∧ ws.map (·.1) = ks ∧ (∀ k, bfsT (fun x => tkr x gs) (k + r) ([(n, [n])], [n]) = bfsT (fun x => tkr x gs) k (ws, nw)) ∧ r ≤ ks.length ∧ (nw ≠ [] → r + 1 ≤ ks.length)) ∧ m = 2 * (60 - ks.length) + (if nw = [] then 0 else 1),
        ⟨_, N, [n], [n], [(Sum.inr n, .ref p0)], [(n, [n])], 0, none, none, none, rfl, ⟨s0.trans (same_upd hN), (same_upd hN) _ _ eD0, rfl, fun R hR kv hkv => ?_, upd_same⟩, ⟨List.nodup_cons.mpr ⟨by simp, List.nodup_nil⟩, List.mem_singleton.mpr rfl, fun x hx => ?_, fun x hx => hx, fun x hx => .inl hx⟩, ⟨fun R hR => ?_, rfl, fun k => rfl, Nat.zero_le _, fun _ => Nat.le_refl _⟩, rfl⟩, ?_⟩
      · rw [List.mem_singleton] at hkv
        subst hkv
        have e := (same_upd (o := .lst [V.str n]) hN) _ _ eP0
        refine ⟨p0, _, rfl, fun z => ?_, e, Nat.le_refl _⟩
        rw [z, hR] at e
        cases e
      · rw [List.mem_singleton] at hx
        subst hx
        exact .here
      · have e := (same_upd (o := .lst [V.str n]) hN) _ _ eP0
        refine .cons ⟨rfl, p0, rfl, fun z => ?_, e, hp0'⟩ .nil
        rw [z, hR] at e
        cases e
      clear hN s0 eD0 eP0
      rintro m σ H' ⟨N, nw, ks, kvs, ws, r, o4, o5, o6, rfl, ⟨s1, eD, ky, vl, eN⟩, ⟨nd, hk, rc, sub, cl⟩, ⟨wv, kw, bf, rk, rk1⟩, rfl⟩
      have ksnm : ∀ x ∈ ks, x ∈ nm := fun x hx => (rc x hx).nm hn hm
      have shN : SeqAt.shaped (.list (nw.map PyData.str)) = true := sh_strs fun x hx => sok x (ksnm x (sub x hx))
      refine ⟨Nat.zero_le _, fun e0 he0 => ⟨_, _, rp_strs (SqL.of ((same_upd he0) _ _ eN)), rp_strs (l := []) (SqL.of upd_same), shN, rfl, ?_⟩⟩
      rw [ne_nil]
      have s2 : Same H' (upd H' e0 (.lst ([] : List V))) := same_upd he0
      refine ⟨fun h => ?_, fun h => ?_⟩
      · have hne : nw ≠ [] := fun z => by rw [z] at h; cases h
        rw [if_neg hne]
        refine ⟨Nat.zero_le _, fun R hR => ?_⟩
        have eN1 := s2 _ _ eN
        have neNR : N ≠ R := fun z => by
          rw [z, hR] at eN1
          cases eN1
        have hR' := none_back s2 hR
        have s3 : Same H' (upd (upd H' e0 (.lst [])) R (.lst [])) := s2.trans (same_upd hR)
        have w0 : WI gs n H (upd (upd H' e0 (.lst [])) R (.lst [])) D R ks [] kvs := ⟨s1.trans s3, s3 _ _ eD, by rw [List.append_nil]; exact ky, (vl R hR').up fun p zs _ e => s3 _ _ e, upd_same, by rw [List.append_nil]; exact nd, by rw [List.append_nil]; exact rc⟩
        have v0 : All2 (WV H (upd (upd H' e0 (.lst [])) R (.lst [])) R) kvs ws := (wv R hR').imp fun kv w h => h.up fun p zs _ e => s3 _ _ e
        have eN2 := s3 _ _ eN
        have hR0 : H R = none := none_back s1 hR'
        generalize upd (upd H' e0 (.lst [])) R (.lst []) = H2 at w0 eN2 v0
        refine ⟨N, rfl, ⟨_, SqL.of eN2⟩, for_list (K := K) (a := N) (xs := nw.map V.str) (fun i σ Hx => ∃ (rs : List Str) (kvs : List (Key × V)) (wx : List (Str × List Str)) (o5 o6 : Option V), σ = [some (.ref L), some (.str n), some (.ref D), some (.ref N), some (.ref R), o5, o6] ∧ WI gs n H Hx D R ks rs kvs ∧ Hx N = some (.lst (nw.map V.str)) ∧ (∀ x ∈ ks ++ rs, x ∈ rs ∨ x ∈ nw.drop i ∨ ∀ y ∈ tkr x gs, y ∈ ks ++ rs) ∧ All2 (WV H Hx R) kvs wx ∧ wx.map (·.1) = ks ++ rs ∧ (wx, rs) = (nw.take i).foldl (lastT fun x => tkr x gs) (ws, []))
          ⟨[], kvs, ws, _, _, rfl, w0, eN2, fun x hx => ?_, v0, by rw [kw, List.append_nil], rfl⟩ (fun i σ Hx _ ⟨_, _, _, _, _, _, _, e, _⟩ => SqL.of e) ?_ ?_⟩
        · rw [List.append_nil] at hx ⊢
          exact .inr (cl x hx)
        · rintro i v σ Hx hv ⟨rs, kvs, wx, o5, o6, rfl, wi, eN, cl, va, ka, pa⟩
          rw [List.getElem?_map] at hv
          obtain ⟨last, hlast, rfl⟩ : ∃ x, nw[i]? = some x ∧ V.str x = v := by
            cases hh : nw[i]? with
            | none => rw [hh] at hv; cases hv
            | some x => rw [hh] at hv; exact ⟨x, rfl, Option.some.inj hv⟩
          have hlk : last ∈ ks := sub last (List.mem_of_getElem? hlast)
          refine ⟨gs, ⟨hB.up wi.sm, t64 last⟩, fun T H3 s3 d3 e3 => ?_⟩
          have neTR : T ≠ R := fun z => by
            have := wi.eR
            rw [← z, d3] at this
            cases this
          refine ⟨T, rfl, ⟨_, SqL.of e3⟩, for_list (K := K) (a := T) (xs := (tkr last gs).map V.str) (fun j σ Hy => ∃ (rs : List Str) (kvs : List (Key × V)) (wx : List (Str × List Str)) (o6 : Option V), σ = [some (.ref L), some (.str n), some (.ref D), some (.ref N), some (.ref R), some (.str last), o6] ∧ WI gs n H Hy D R ks rs kvs ∧ Hy N = some (.lst (nw.map V.str)) ∧ Hy T = some (.lst ((tkr last gs).map V.str)) ∧ (∀ y ∈ (tkr last gs).take j, y ∈ ks ++ rs) ∧ (∀ x ∈ ks ++ rs, x ∈ rs ∨ x ∈ nw.drop i ∨ ∀ y ∈ tkr x gs, y ∈ ks ++ rs) ∧ All2 (WV H Hy R) kvs wx ∧ wx.map (·.1) = ks ++ rs ∧ (wx, rs) = ((tkr last gs).take j).foldl (addT last) ((nw.take i).foldl (lastT fun x => tkr x gs) (ws, [])))
            ⟨rs, kvs, wx, _, rfl, wi.up s3, s3 _ _ eN, e3, fun y hy => by simp at hy, cl, va.imp fun kv w h => h.up fun p zs _ e => s3 _ _ e, ka, pa⟩ (fun j σ Hy _ ⟨_, _, _, _, _, _, _, e, _⟩ => SqL.of e) ?_ ?_⟩
          · clear va ka pa
            rintro j v σ Hy hv ⟨rs, kvs, wx, o6, rfl, wi, eN, eT, tk, cl, va, ka, pa⟩
            rw [List.getElem?_map] at hv
            obtain ⟨y, hy, rfl⟩ : ∃ x, (tkr last gs)[j]? = some x ∧ V.str x = v := by
              cases hh : (tkr last gs)[j]? with
              | none => rw [hh] at hv; cases hv
              | some x => rw [hh] at hv; exact ⟨x, rfl, Option.some.inj hv⟩
            have hyt := List.mem_of_getElem? hy
            have klen : (ks ++ rs).length ≤ 60 := Nat.le_trans (nd_len wi.nd fun x hx => (wi.rc x hx).nm hn hm) l60
            have kl := wi.len
            refine ⟨D, _, rfl, DGet.k (k := Sum.inr y) wi.eD, ?_⟩
            rw [val_key wi.ky]
            have pj := take_fold (f := addT last) (b := (nw.take i).foldl (lastT fun x => tkr x gs) (ws, [])) hy
            rw [← pa] at pj
            refine ⟨fun h => ?_, fun h => ⟨rs, kvs, wx, _, rfl, wi, eN, eT, fun z hz => ?_, cl, va, ka, ?_⟩⟩
            · have hno : y ∉ ks ++ rs := by simpa using h
              have hlk' : last ∈ ks ++ rs := List.mem_append_left _ hlk
              obtain ⟨v, hv⟩ : ∃ v, valV kvs (Sum.inr last) = some v := by
                have := val_key wi.ky last
                rw [decide_eq_true hlk'] at this
                exact Option.isSome_iff_exists.mp this
              obtain ⟨p, zs, rfl, nep, ep, lz⟩ := wi.vl.at hv
              have ez : zs = (valW wx last).map V.str := by
                obtain ⟨p', h1, _, h3, _⟩ := wv_at va hv
                cases h1
                rw [ep] at h3
                cases h3
                rfl
              have g1 : DGet Hy D (.str last) (some (.ref p)) := by
                have := DGet.k (k := Sum.inr last) wi.eD
                rw [hv] at this
                exact this
              refine ⟨D, _, rfl, g1, len1 _, fun t1 n1 => ⟨p, t1, zs, _, rfl, rfl, (same_upd n1) _ _ ep, upd_same, ?_, fun t2 n2 => ?_⟩⟩
              · show zs.length + 1 ≤ sizeLine
                exact Nat.le_trans (show zs.length + 1 ≤ 100 by omega) (by decide)
              have wa := wi.add (t1 := t1) (t2 := t2) (p := p) (zs := zs) (x := last) hD hR0 hno hlk' hyt n1 rfl n2 rfl lz
              have sA : Same Hy (upd (upd Hy t1 (.lst [.str y])) t2 (.lst (zs ++ [.str y]))) := (same_upd n1).trans (same_upd n2)
              refine ⟨D, _, rfl, DPut.k (k := Sum.inr y) (sA _ _ wi.eD) (Nat.lt_of_le_of_lt (show kvs.length ≤ 60 by omega) (by decide)), ?_⟩
              have eR1 := sA _ _ wi.eR
              have neRD : R ≠ D := ne_of_lst eR1 (sA _ _ wi.eD)
              have eR2 : upd (upd (upd Hy t1 (.lst [.str y])) t2 (.lst (zs ++ [.str y]))) D (.dK (putK kvs (Sum.inr y) (.ref t2))) R = some (.lst (rs.map V.str)) := by rw [upd_ne neRD]; exact eR1
              refine ⟨.inl ⟨rfl, _, SqL.of eR2⟩, R, _, _, rfl, rfl, eR2, ?_, rs ++ [y], kvs ++ [(Sum.inr y, .ref t2)], wx ++ [(y, valW wx last ++ [y])], _, rfl, ?_, ?_, ?_, fun z hz => ?_, fun x hx => ?_, ?_, ?_, ?_⟩
              · rw [List.length_map]
                exact Nat.lt_of_le_of_lt (show rs.length ≤ 60 by rw [List.length_append] at klen; omega) (by decide)
              · rw [List.map_append] at wa
                exact wa
              · rw [upd_ne neNR, upd_ne (ne_of_lst (sA _ _ eN) (sA _ _ wi.eD))]
                exact sA _ _ eN
              · rw [upd_ne neTR, upd_ne (ne_of_lst (sA _ _ eT) (sA _ _ wi.eD))]
                exact sA _ _ eT
              · rw [List.take_add_one, hy] at hz
                rw [← List.append_assoc]
                rcases List.mem_append.mp hz with hz | hz
                · exact List.mem_append_left _ (tk z hz)
                · exact List.mem_append_right _ hz
              · rw [← List.append_assoc] at hx ⊢
                rcases List.mem_append.mp hx with hx | hx
                · rcases cl x hx with c | c | c
                  · exact .inl (List.mem_append_left _ c)
                  · exact .inr (.inl c)
                  · exact .inr (.inr fun z hz => List.mem_append_left _ (c z hz))
                · exact .inl (List.mem_append_right _ hx)
              · have e3 : upd (upd Hy t1 (.lst [.str y])) t2 (.lst (zs ++ [.str y])) t2 = some (.lst (zs ++ [.str y])) := upd_same
                have ne2R : t2 ≠ R := fun z => by
                  have := (same_upd (o := .lst [V.str y]) n1) _ _ wi.eR
                  rw [← z, n2] at this
                  cases this
                have ne2D : t2 ≠ D := ne_of_lst e3 (sA _ _ wi.eD)
                refine All2.snoc ⟨rfl, t2, rfl, ne2R, ?_, none_back wi.sm (none_back (same_upd n1) n2)⟩ (va.imp fun kv w hw => hw.up fun q us nq e => ?_)
                · rw [upd_ne ne2R, upd_ne ne2D, e3, ez, List.map_append]
                  rfl
                · have := sA _ _ e
                  rw [upd_ne nq, upd_ne (ne_of_lst this (sA _ _ wi.eD))]
                  exact this
              · rw [List.map_append, ka, ← List.append_assoc]
                rfl
              · rw [pj]
                unfold addT
                rw [if_neg (by rw [ka]; exact hno)]
            · have hyes : y ∈ ks ++ rs := of_decide_eq_true (by rw [Bool.not_eq_false'] at h; exact h)
              rw [List.take_add_one, hy] at hz
              rcases List.mem_append.mp hz with hz | hz
              · exact tk z hz
              · have : z = y := by simpa using hz
                rw [this]
                exact hyes
            · have hyes : y ∈ ks ++ rs := of_decide_eq_true (by rw [Bool.not_eq_false'] at h; exact h)
              rw [pj]
              unfold addT
              rw [if_pos (by rw [ka]; exact hyes)]
          · clear va ka pa
            rintro σ Hy ⟨rs, kvs, wx, o6, rfl, wi, eN, eT, tk, cl, va, ka, pa⟩
            rw [List.length_map, List.take_length] at tk pa
            refine ⟨rs, kvs, wx, _, _, rfl, wi, eN, fun x hx => ?_, va, ka, pa.trans (take_fold (f := lastT fun x => tkr x gs) hlast).symm⟩
            rcases cl x hx with c | c | c
            · exact .inl c
            · have hi : i < nw.length := (List.getElem?_eq_some_iff.mp hlast).1
              rw [List.drop_eq_getElem_cons hi] at c
              rcases List.mem_cons.mp c with c | c
              · have : x = last := by
                  rw [c]
                  exact (List.getElem?_eq_some_iff.mp hlast).2
                subst this
                exact .inr (.inr tk)
              · exact .inr (.inl c)
            · exact .inr (.inr c)
        · rintro σ Hx ⟨rs, kvs, wx, o5, o6, rfl, wi, eN, cl, va, ka, pa⟩
          rw [List.length_map, List.drop_length] at cl
          rw [List.length_map, List.take_length] at pa
          have klen : (ks ++ rs).length ≤ 60 := Nat.le_trans (nd_len wi.nd fun x hx => (wi.rc x hx).nm hn hm) l60
          refine ⟨2 * (60 - (ks ++ rs).length) + (if rs = [] then 0 else 1), ?_, R, rs, ks ++ rs, kvs, wx, r + 1, _, _, _, rfl, ⟨wi.sm, wi.eD, wi.ky, fun R' hR' => ?_, wi.eR⟩, ⟨wi.nd, List.mem_append_left _ hk, wi.rc, fun x hx => List.mem_append_right _ hx, fun x hx => ?_⟩, ⟨fun R' hR' => ?_, ka, fun k => ?_, ?_, fun z => ?_⟩, rfl⟩
          · rw [List.length_append] at klen ⊢
            by_cases z : rs = []
            · rw [if_pos z, z]
              show 2 * (60 - (ks.length + 0)) + 0 < _
              omega
            · rw [if_neg z]
              have : 0 < rs.length := List.length_pos_iff.mpr z
              omega
          · intro kv hkv
            obtain ⟨p, zs, a1, a2, a3, a4⟩ := wi.vl kv hkv
            refine ⟨p, zs, a1, fun z => ?_, a3, a4⟩
            rw [z, hR'] at a3
            cases a3
          · rcases cl x hx with c | c | c
            · exact .inl c
            · cases c
            · exact .inr c
          · refine va.imp fun kv w hw => ?_
            obtain ⟨b1, p, b2, b3, b4, b5⟩ := hw
            refine ⟨b1, p, b2, fun z => ?_, b4, b5⟩
            rw [z, hR'] at b4
            cases b4
          · have e : k + (r + 1) = (k + 1) + r := by omega
            rw [e, bf, bfs_step _ _ hne, pa]
            rfl
          · rw [List.length_append]
            have := rk1 hne
            omega
          · rw [List.length_append]
            have := rk1 hne
            have : 0 < rs.length := List.length_pos_iff.mpr z
            omega
      · have hz : nw = [] := by
          cases nw with
          | nil => rfl
          | cons x l => cases h
        subst hz
        have k60 : ks.length ≤ 60 := Nat.le_trans (nd_len nd ksnm) l60
        have ew : wfs gs n = ws := by
          have := bf (60 - r)
          rw [show 60 - r + r = 60 by omega, bfs_nil] at this
          exact this
        rw [← ew] at kw wv
        have mm : ∀ x, Rch gs n x → x ∈ ks := fun x hx => rch_sub hk (fun a ha y hy => by
          rcases cl a ha with c | c
          · cases c
          · exact c y hy) hx
        exact q D kvs _ (s1.trans s2) hD (s2 _ _ eD) ((wv e0 he0).imp fun kv w ⟨b1, p, b2, _, b4, b5⟩ => ⟨b1, p, b2, s2 _ _ b4, b5⟩) (by rw [kw]; exact ky) (by rw [kw]; exact nd) fun x => by
          rw [kw]
          exact ⟨rc x, mm x⟩
def sp_above (K : PySem.W.Frag) (ns : List Int) : Sp := fun vs H Q E => match vs with
  | [.ref L, .str n] => ∃ (gs : List Gm) (nm : List Str), (Bk K H L gs ∧ (∀ g ∈ gs, g.a ∈ nm ∧ g.b ∈ nm) ∧ nm.length ≤ 60 ∧ ∀ x ∈ nm, PyData.strOk x = true) ∧ (n ∈ plr gs → ∀ D (fs : List Str) H', Same H H' → H D = none → H' D = some (.lst (fs.map V.str)) → Inc fs → (∀ x, x ∈ fs ↔ Rch gs n x) → Q (.ref D) H') ∧ (n ∉ plr gs → ∀ H', Same H H' → ExN K "NoPlayer" E H')
  | _ => False
theorem sc_above : FnScope ["games", "name"] ["games", "name"] (defScope s_above) := ⟨rfl, rfl, rfl, by decide +kernel, rfl, by decide +kernel, by decide +kernel⟩
theorem ok_above (d : Dfn K mg "above" s_above ["games", "name"]) (er : Errs K mg c_NoPlayer) (n_sorted : mg "sorted" = none)  (c_ways_from : Cal P w K mg base "ways_from" ["games", "name"] 4 (sp_ways_from K ns)) (c_check_player : Cal P w K mg base "check_player" ["games", "name"] 2 (sp_check_player K ns)) : Cal P w K mg base "above" ["games", "name"] 5 (sp_above K ns) := by
  refine d.calX (k := 4) sc_above (fun vs H Q E h => ?_) (fun f cdv A outer s H vs Q E hr h => ?_)
  · match vs, h with
    | [.ref L, .str n], _ => rfl
  · match vs, h with
    | [.ref L, .str n], ⟨gs, nm, ⟨hB, hm, l60, sok⟩, k1, k2⟩ =>
      refine ⟨_, (@pss_cons _ _ _ _ _ (@ps_expr _ _ _ _ (@e_callX _ _ _ _ _ _ _ _ _ _ _ _ _ _ _ _ _ _ _ _ _ _ _ _ _ c_check_player hr (by decide) (by rfl) (@pa_cons _ _ _ _ _ (dv 0) (@pa_cons _ _ _ _ _ (dv 1) pa_nil (by rfl)) (by rfl)) (by decide) (by rfl) (by rfl)) (by rfl)) (@pss_one _ _ _ (@ps_ret _ _ _ _ (@pe_callB _ _ _ _ _ _ _ _ _ c_sortD (by rfl) n_sorted (by decide +kernel) (@pa_cons _ _ _ _ _ (@e_call _ _ _ _ _ _ _ _ _ _ _ c_ways_from hr (by decide) (by rfl) (@pa_cons _ _ _ _ _ (dv 0) (@pa_cons _ _ _ _ _ (dv 1) pa_nil (by rfl)) (by rfl)) (by decide) (by rfl) (by rfl)) pa_nil (by rfl)) (by decide) (by decide) (by rfl) (by rfl))))), ?_⟩
      have p64 : (plr gs).length < 64 := Nat.lt_of_le_of_lt (Nat.le_trans (plr_len hm) l60) (by decide)
      refine ⟨gs, ⟨hB, p64⟩, fun h H1 s1 => ⟨gs, nm, ⟨hB.up s1, hm, l60, plr_sub hm h, sok⟩, fun D kvs H2 s2 d2 e2 wv ky nd mem => ⟨kvs, (wfs gs n).map (·.1), e2, ky, ?_, nd, fun F hF => ?_⟩⟩, fun h H1 s1 => k2 h H1 s1⟩
      · exact Nat.lt_of_le_of_lt (Nat.le_trans (nd_len nd fun x hx => ((mem x).mp hx).nm (plr_sub hm h) hm) l60) (by decide)
      · have s := s1.trans s2
        exact k1 h F (srt ((wfs gs n).map (·.1))) _ (s.trans (same_upd hF)) (none_back s hF) upd_same (inc_srt _) fun x => mem_srt.trans (mem x)
theorem val_some {kvs : List (Key × V)} {ks : List Str} (h : kvs.map (·.1) = ks.map Sum.inr) {x : Str} (hx : x ∈ ks) : ∃ v, valV kvs (Sum.inr x) = some v := by
  have := val_key h x
  rw [decide_eq_true hx] at this
  exact Option.isSome_iff_exists.mp this
theorem val_none {kvs : List (Key × V)} {ks : List Str} (h : kvs.map (·.1) = ks.map Sum.inr) {x : Str} (hx : x ∉ ks) : valV kvs (Sum.inr x) = none := by
  have := val_key h x
  rw [decide_eq_false hx] at this
  cases hh : valV kvs (Sum.inr x) with
  | none => rfl
  | some v => rw [hh] at this; cases this
def sp_way (K : PySem.W.Frag) (ns : List Int) : Sp := fun vs H Q E => match vs with
  | [.ref L, .str x, .str y] => ∃ (gs : List Gm) (nm : List Str), (Bk K H L gs ∧ (∀ g ∈ gs, g.a ∈ nm ∧ g.b ∈ nm) ∧ nm.length ≤ 60 ∧ ∀ x ∈ nm, PyData.strOk x = true) ∧ (x ∈ plr gs → y ∈ plr gs → (Rch gs x y → ∀ p H', Same H H' → H p = none → y ∈ (wfs gs x).map (·.1) → H' p = some (.lst ((valW (wfs gs x) y).map V.str)) → Q (.ref p) H') ∧ (¬ Rch gs x y → ∀ H', Same H H' → Q .non H')) ∧ (x ∉ plr gs ∨ y ∉ plr gs → ∀ H', Same H H' → ExN K "NoPlayer" E H')
  | _ => False
theorem sc_way : FnScope ["games", "one", "other"] ["games", "one", "other"] (defScope s_way) := ⟨rfl, rfl, rfl, by decide +kernel, rfl, by decide +kernel, by decide +kernel⟩
theorem ok_way (d : Dfn K mg "way" s_way ["games", "one", "other"]) (er : Errs K mg c_NoPlayer)   (c_ways_from : Cal P w K mg base "ways_from" ["games", "name"] 4 (sp_ways_from K ns)) (c_check_player : Cal P w K mg base "check_player" ["games", "name"] 2 (sp_check_player K ns)) : Cal P w K mg base "way" ["games", "one", "other"] 5 (sp_way K ns) := by
  refine d.calX (k := 4) sc_way (fun vs H Q E h => ?_) (fun f cdv A outer s H vs Q E hr h => ?_)
  · match vs, h with
    | [.ref L, .str x, .str y], _ => rfl
  · match vs, h with
    | [.ref L, .str x, .str y], ⟨gs, nm, ⟨hB, hm, l60, sok⟩, k1, k2⟩ =>
      refine ⟨_, (@pss_cons _ _ _ _ _ (@ps_expr _ _ _ _ (@e_callX _ _ _ _ _ _ _ _ _ _ _ _ _ _ _ _ _ _ _ _ _ _ _ _ _ c_check_player hr (by decide) (by rfl) (@pa_cons _ _ _ _ _ (dv 0) (@pa_cons _ _ _ _ _ (dv 1) pa_nil (by rfl)) (by rfl)) (by decide) (by rfl) (by rfl)) (by rfl)) (@pss_cons _ _ _ _ _ (@ps_expr _ _ _ _ (@e_callX _ _ _ _ _ _ _ _ _ _ _ _ _ _ _ _ _ _ _ _ _ _ _ _ _ c_check_player hr (by decide) (by rfl) (@pa_cons _ _ _ _ _ (dv 0) (@pa_cons _ _ _ _ _ (dv 2) pa_nil (by rfl)) (by rfl)) (by decide) (by rfl) (by rfl)) (by rfl)) (@pss_one _ _ _ (@ps_ret _ _ _ _ (@pe_dget1 _ _ _ _ _ _ _ (@u1 _ _ hr.units) (@e_call _ _ _ _ _ _ _ _ _ _ _ c_ways_from hr (by decide) (by rfl) (@pa_cons _ _ _ _ _ (dv 0) (@pa_cons _ _ _ _ _ (dv 1) pa_nil (by rfl)) (by rfl)) (by decide) (by rfl) (by rfl)) (dv 2) ⟨rfl, rfl, rfl, rfl⟩))))), ?_⟩
      have p64 : (plr gs).length < 64 := Nat.lt_of_le_of_lt (Nat.le_trans (plr_len hm) l60) (by decide)
      refine ⟨gs, ⟨hB, p64⟩, fun hx H1 s1 => ⟨gs, ⟨hB.up s1, p64⟩, fun hy H2 s2 => ?_, fun h H2 s2 => k2 (.inr h) H2 (s1.trans s2)⟩, fun h H1 s1 => k2 (.inl h) H1 s1⟩
      have s12 := s1.trans s2
      refine ⟨gs, nm, ⟨hB.up s12, hm, l60, plr_sub hm hx, sok⟩, fun D kvs H3 s3 d3 e3 wv ky nd mem => ?_⟩
      obtain ⟨q1, q2⟩ := k1 hx hy
      have s := s12.trans s3
      by_cases hr : Rch gs x y
      · obtain ⟨v, hv⟩ := val_some ky ((mem y).mpr hr)
        obtain ⟨p, rfl, h1, h2⟩ := ww_at wv hv
        have g := DGet.k (k := Sum.inr y) e3
        rw [hv] at g
        exact ⟨D, rfl, .inl ⟨_, .inl e3⟩, _, g, q1 hr p H3 s (none_back s12 h2) ((mem y).mpr hr) h1⟩
      · have hv := val_none ky (fun h => hr ((mem y).mp h))
        have g := DGet.k (k := Sum.inr y) e3
        rw [hv] at g
        exact ⟨D, rfl, .inl ⟨_, .inl e3⟩, _, g, q2 hr H3 s⟩
noncomputable def abv (gs : List Gm) (n : Str) : List Str := srt ((n :: plr gs).filter fun x => @decide (Rch gs n x) (Classical.propDecidable _))
theorem rch_plr {gs : List Gm} {n x : Str} (h : Rch gs n x) : x = n ∨ x ∈ plr gs := by
  cases h with
  | here => exact .inl rfl
  | step h t =>
    obtain ⟨g, hg, t⟩ := mem_tkr.mp t
    refine .inr (mem_plr.mpr ⟨g, hg, ?_⟩)
    rcases t with ⟨_, _, t⟩ | ⟨_, _, _, t⟩
    · exact .inr t
    · exact .inl t
theorem mem_abv {gs : List Gm} {n x : Str} : x ∈ abv gs n ↔ Rch gs n x := by
  unfold abv
  rw [mem_srt, List.mem_filter]
  constructor
  · intro h
    exact @of_decide_eq_true _ (Classical.propDecidable _) h.2
  · intro h
    refine ⟨?_, @decide_eq_true _ (Classical.propDecidable _) h⟩
    rcases rch_plr h with e | e
    · rw [e]
      exact List.mem_cons_self ..
    · exact List.mem_cons_of_mem _ e
theorem abv_inc (gs : List Gm) (n : Str) : Inc (abv gs n) := inc_srt _
theorem abv_eq {gs : List Gm} {n : Str} {fs : List Str} (inc : Inc fs) (mem : ∀ x, x ∈ fs ↔ Rch gs n x) : fs = abv gs n := inc_ext inc (abv_inc gs n) fun x => (mem x).trans mem_abv.symm
noncomputable def jstep (gs : List Gm) (ps : List (List Str)) (n : Str) : List (List Str) := if ps.any (fun p => decide (n ∈ p)) then ps else ps ++ [abv gs n]
noncomputable def jnI (gs : List Gm) (i : Nat) : List (List Str) := ((plr gs).take i).foldl (jstep gs) []
theorem jnI_succ {gs : List Gm} {i : Nat} {n : Str} (h : (plr gs)[i]? = some n) : jnI gs (i + 1) = jstep gs (jnI gs i) n := by
  unfold jnI
  rw [List.take_add_one, h, List.foldl_append]
  rfl
theorem jstep_len (gs : List Gm) (ps : List (List Str)) (n : Str) : (jstep gs ps n).length ≤ ps.length + 1 := by
  unfold jstep
  split
  · omega
  · rw [List.length_append]
    exact Nat.le_refl _
theorem jnI_len (gs : List Gm) : ∀ i, (jnI gs i).length ≤ i
  | 0 => Nat.le_refl _
  | i + 1 => by
    cases h : (plr gs)[i]? with
    | none =>
      have e : jnI gs (i + 1) = jnI gs i := by
        unfold jnI
        rw [List.take_add_one, h]
        exact congrArg (fun l => List.foldl (jstep gs) [] l) (List.append_nil _)
      rw [e]
      exact Nat.le_succ_of_le (jnI_len gs i)
    | some n =>
      rw [jnI_succ h]
      exact Nat.le_trans (jstep_len gs _ n) (Nat.succ_le_succ (jnI_len gs i))
def Prt (H0 H : Hp) (D : Addr) (v : V) (p : List Str) : Prop := ∃ d, v = .ref d ∧ H0 d = none ∧ d ≠ D ∧ H d = some (.lst (p.map V.str))
theorem all2_bls {β : Type} {f : β → Bool} : ∀ {ms : List β} {ys : List V}, All2 (fun m y => y = V.bl (f m)) ms ys → ys = (ms.map f).map V.bl
  | _, _, .nil => rfl
  | _, _, .cons h t => by rw [h, all2_bls t]; rfl
def sp_joined (K : PySem.W.Frag) (ns : List Int) : Sp := fun vs H Q _ => match vs with
  | [.ref L] => ∃ (gs : List Gm) (nm : List Str), (Bk K H L gs ∧ (∀ g ∈ gs, g.a ∈ nm ∧ g.b ∈ nm) ∧ nm.length ≤ 60 ∧ ∀ x ∈ nm, PyData.strOk x = true) ∧ ∀ D vs H', Same H H' → H D = none → H' D = some (.lst vs) → All2 (Prt H H' D) vs (jnI gs (plr gs).length) → Q (.ref D) H'
  | _ => False
theorem sc_joined : FnScope ["games", "parts", "name"] ["games"] (defScope s_joined) := ⟨rfl, rfl, rfl, by decide +kernel, rfl, by decide +kernel, by decide +kernel⟩
theorem ok_joined (d : Dfn K mg "joined" s_joined ["games"]) (er : Errs K mg c_NoPlayer) (n_any : mg "any" = none)  (c_players : Cal P w K mg base "players" ["games"] 1 (sp_players K ns)) (c_above : Cal P w K mg base "above" ["games", "name"] 5 (sp_above K ns)) : Cal P w K mg base "joined" ["games"] 6 (sp_joined K ns) := by
  refine d.cal (k := 5) sc_joined (fun vs H Q E h => ?_) (fun f cdv A outer s H vs Q E hr h => ?_)
  · match vs, h with
    | [.ref L], _ => rfl
  · match vs, h with
    | [.ref L], ⟨gs, nm, ⟨hB, hm, l60, sok⟩, q⟩ =>
      refine ⟨_, (@pss_cons _ _ _ _ _ (@ps_set _ _ (1) _ _ _ _ sc_joined.nd rfl (by first | exact Or.inl rfl | exact Or.inr rfl) (@pe_lst _ _ _ _ pa_nil) (by rfl) (by first | exact .inl rfl | exact .inr rfl | assumption)) (@pss_cons _ _ _ _ _ (@ps_for _ _ _ _ _ _ _ _ PassesOwn.never rfl (@pi_list _ _ _ _ (@e_call _ _ _ _ _ _ _ _ _ _ _ c_players hr (by decide) (by rfl) (@pa_cons _ _ _ _ _ (dv 0) pa_nil (by rfl)) (by decide) (by rfl) (by rfl))) (@pg_name _ _ (2) _ sc_joined.nd rfl (by first | exact Or.inl rfl | exact Or.inr rfl) (by first | exact .inl rfl | exact .inr rfl | assumption)) (@pss_one _ _ _ (@s_if _ _ _ _ _ _ _ _ (@pt_not _ _ _ _ (@t_val _ _ _ (@pe_callB _ _ _ _ _ _ _ _ _ (@c_any _ rfl) (by rfl) n_any (by decide +kernel) (@pa_cons _ _ _ _ _ (@e_compN _ _ _ _ _ _ _ _ _ _ ["part"] ["name"] [2] rfl (@pi_list _ _ _ _ (dv 1)) (fun C s H fp => (@pg_name _ _ (0) _ (show List.Nodup [("part" : Str), ("name" : Str)] by decide +kernel) rfl (by first | exact Or.inl rfl | exact Or.inr rfl) (by first | exact .inl rfl | exact .inr rfl | assumption))) (fun C s H fp => (@pe_cmpR _ _ _ _ _ _ _ _ (show OpR _ _ (dInS K) from o_in) (dv 1) (dv 0) (by with_unfolding_all rfl))) rfl rfl (by decide +kernel) (by decide +kernel) (by rfl) ⟨rfl, True.intro⟩ ⟨⟨rfl, rfl, rfl, rfl⟩, True.intro⟩ (by intro _; rfl)) pa_nil (by rfl)) (by decide) (by decide) (by rfl) (by rfl)) (by intro _; rfl))) (@pss_one _ _ _ (@ps_expr _ _ _ _ (@pe_bm _ _ _ _ _ _ _ _ _ _ _ _ PySem.F.plainAttrs_list PySem.F.slot_list_append PySem.F.type_list_append mt_append (dv 1) (@pa_cons _ _ _ _ _ (@e_call _ _ _ _ _ _ _ _ _ _ _ c_above hr (by decide) (by rfl) (@pa_cons _ _ _ _ _ (dv 0) (@pa_cons _ _ _ _ _ (dv 2) pa_nil (by rfl)) (by rfl)) (by decide) (by rfl) (by rfl)) pa_nil (by rfl)) (by rfl) (by rfl) (by rfl) (by rfl) (by rfl)) (by rfl))) pss_nil)) (by intro _; rfl)) (@pss_one _ _ _ (@ps_ret _ _ _ _ (dv 1))))), ?_⟩
      have pl60 : (plr gs).length ≤ 60 := Nat.le_trans (plr_len hm) l60
      refine ⟨by decide, fun D hD => ?_⟩
      have s0 : Same H (upd H D (.lst [])) := same_upd hD
      refine ⟨gs, ⟨hB.up s0, by omega⟩, fun P H1 s1 f1 e1 => ?_⟩
      have eD1 := s1 _ _ (upd_same : upd H D (.lst []) D = some (.lst []))
      have neDP : D ≠ P := fun z => by
        rw [← z, upd_same] at f1
        cases f1
      refine ⟨P, rfl, ⟨_, SqL.of e1⟩, for_list (K := K) (a := P) (xs := (plr gs).map V.str) (fun i σ Hx => ∃ (vs : List V) (o2 : Option V), σ = [some (.ref L), some (.ref D), o2] ∧ Same H Hx ∧ Hx P = some (.lst ((plr gs).map V.str)) ∧ Hx D = some (.lst vs) ∧ All2 (Prt H Hx D) vs (jnI gs i))
        ⟨[], _, rfl, s0.trans s1, e1, eD1, .nil⟩ (fun i σ Hx _ ⟨_, _, _, _, e, _⟩ => SqL.of e) ?_ ?_⟩
      · rintro i v σ Hx hv ⟨vs, o2, rfl, s2, eP, eD, al⟩
        rw [List.getElem?_map] at hv
        obtain ⟨n, hn, rfl⟩ : ∃ x, (plr gs)[i]? = some x ∧ V.str x = v := by
          cases hh : (plr gs)[i]? with
          | none => rw [hh] at hv; cases hv
          | some x => rw [hh] at hv; exact ⟨x, rfl, Option.some.inj hv⟩
        have hi : i < (plr gs).length := (List.getElem?_eq_some_iff.mp hn).1
        have hp : n ∈ plr gs := List.mem_of_getElem? hn
        have lv : vs.length ≤ 60 := by
          rw [al.len]
          exact Nat.le_trans (jnI_len gs i) (by omega)
        refine ⟨D, rfl, ⟨_, SqL.of eD⟩, comp_abs (fun _ v p => Prt H Hx D v p) (fun _ _ _ _ _ h => h) (fun _ p y => y = V.bl (decide (n ∈ p))) (fun _ _ _ _ _ h => h) (by omega) (SqL.of eD) al ?_ ?_⟩
        · intro v p H2 hM _ s3 P hP
          obtain ⟨d, rfl, _, _, ed⟩ := hM
          refine ⟨rfl, _, .inl (SqL.of (s3 _ _ ed)), rfl, flat_strs _, ?_⟩
          rw [in_strs]
          exact hP _ _ (Same.refl _) rfl
        intro D2 H2 ys s3 _ e2 a2
        have ey := all2_bls a2
        have hany : ((jnI gs i).map fun p => decide (n ∈ p)).any id = (jnI gs i).any fun p => decide (n ∈ p) := by rw [List.any_map]; rfl
        refine ⟨(jnI gs i).map fun p => decide (n ∈ p), SqL.of (by rw [e2, ey]), ?_⟩
        rw [hany]
        refine ⟨fun h => ?_, fun h => ?_⟩
        · have h : ((jnI gs i).any fun p => decide (n ∈ p)) = false := by rw [Bool.not_eq_true'] at h; exact h
          have s23 := s2.trans s3
          refine ⟨.inl ⟨rfl, _, SqL.of (s3 _ _ eD)⟩, gs, nm, ⟨hB.up s23, hm, l60, sok⟩, fun _ Fa fs H3 s4 f3 e3 inc mem => ?_, fun hno => absurd hp hno⟩
          have ne : Fa ≠ D := fun z => by
            rw [z, s3 _ _ eD] at f3
            cases f3
          have neP : P ≠ D := Ne.symm neDP
          have eD3 := s4 _ _ (s3 _ _ eD)
          refine ⟨D, vs, _, rfl, rfl, eD3, Nat.lt_of_le_of_lt lv (by decide), vs ++ [.ref Fa], _, rfl, same_app' (s23.trans s4) hD, by rw [upd_ne neP]; exact s4 _ _ (s3 _ _ eP), upd_same, ?_⟩
          rw [jnI_succ hn]
          unfold jstep
          rw [h]
          refine All2.snoc ⟨Fa, rfl, none_back s23 f3, ne, ?_⟩ (al.imp fun v p r => ?_)
          · obtain ⟨d, r1, r2, r3, r4⟩ := r
            exact ⟨d, r1, r2, r3, by rw [upd_ne r3]; exact s4 _ _ (s3 _ _ r4)⟩
          · rw [upd_ne ne, e3, abv_eq inc mem]
        · have h : ((jnI gs i).any fun p => decide (n ∈ p)) = true := by rw [Bool.not_eq_false'] at h; exact h
          refine ⟨vs, _, rfl, s2.trans s3, s3 _ _ eP, s3 _ _ eD, ?_⟩
          rw [jnI_succ hn]
          unfold jstep
          rw [h]
          refine al.imp fun v p r => ?_
          obtain ⟨d, r1, r2, r3, r4⟩ := r
          exact ⟨d, r1, r2, r3, s3 _ _ r4⟩
      · rintro σ Hx ⟨vs, o2, rfl, s2, eP, eD, al⟩
        rw [List.length_map] at al
        exact q D vs Hx s2 hD eD al
def bad (gs : List Gm) (n : Str) : Prop := ∃ x ∈ (tld n gs).map (·.b), ¬ Rch gs n x
inductive Vd (gs : List Gm) (H H' : Hp) (T : Addr) : Prop where
  | none (i : Nat) (n : Str) (F : Addr) : (plr gs)[i]? = some n → bad gs n → (∀ j m, j < i → (plr gs)[j]? = some m → ¬ bad gs m) → H F = none → H' F = some (.lst ((abv gs n).map V.str)) → H' T = some (.tup [.str (Str.ofString "none"), .ref F]) → Vd gs H H' T
  | one (p : List Str) (F : Addr) : (∀ m ∈ plr gs, ¬ bad gs m) → jnI gs (plr gs).length = [p] → H F = none → H' F = some (.lst (p.map V.str)) → H' T = some (.tup [.str (Str.ofString "one"), .ref F]) → Vd gs H H' T
  | loose (D : Addr) (vs : List V) : (∀ m ∈ plr gs, ¬ bad gs m) → (jnI gs (plr gs).length).length ≠ 1 → H D = none → H' D = some (.lst vs) → All2 (Prt H H' D) vs (jnI gs (plr gs).length) → H' T = some (.tup [.str (Str.ofString "loose"), .ref D]) → Vd gs H H' T
def sp_verdict (K : PySem.W.Frag) (ns : List Int) : Sp := fun vs H Q _ => match vs with
  | [.ref L] => ∃ (gs : List Gm) (nm : List Str), (Bk K H L gs ∧ (∀ g ∈ gs, g.a ∈ nm ∧ g.b ∈ nm) ∧ nm.length ≤ 60 ∧ ∀ x ∈ nm, PyData.strOk x = true) ∧ ∀ T H', Same H H' → Vd gs H H' T → Q (.ref T) H'
  | _ => False
theorem sc_verdict : FnScope ["games", "name", "those", "parts"] ["games"] (defScope s_verdict) := ⟨rfl, rfl, rfl, by decide +kernel, rfl, by decide +kernel, by decide +kernel⟩
theorem ok_verdict (d : Dfn K mg "verdict" s_verdict ["games"]) (er : Errs K mg c_NoPlayer) (n_len : mg "len" = none) (n_all : mg "all" = none)  (c_joined : Cal P w K mg base "joined" ["games"] 6 (sp_joined K ns)) (c_players : Cal P w K mg base "players" ["games"] 1 (sp_players K ns)) (c_told_by : Cal P w K mg base "told_by" ["games", "name"] 2 (sp_told_by K ns)) (c_above : Cal P w K mg base "above" ["games", "name"] 5 (sp_above K ns)) : Cal P w K mg base "verdict" ["games"] 7 (sp_verdict K ns) := by
  refine d.cal (k := 6) sc_verdict (fun vs H Q E h => ?_) (fun f cdv A outer s H vs Q E hr h => ?_)
  · match vs, h with
    | [.ref L], _ => rfl
  · match vs, h with
    | [.ref L], ⟨gs, nm, ⟨hB, hm, l60, sok⟩, q⟩ =>
      refine ⟨_, (@pss_cons _ _ _ _ _ (@ps_for _ _ _ _ _ _ _ _ PassesOwn.never rfl (@pi_list _ _ _ _ (@e_call _ _ _ _ _ _ _ _ _ _ _ c_players hr (by decide) (by rfl) (@pa_cons _ _ _ _ _ (dv 0) pa_nil (by rfl)) (by decide) (by rfl) (by rfl))) (@pg_name _ _ (1) _ sc_verdict.nd rfl (by first | exact Or.inl rfl | exact Or.inr rfl) (by first | exact .inl rfl | exact .inr rfl | assumption)) (@pss_cons _ _ _ _ _ (@ps_set _ _ (2) _ _ _ _ sc_verdict.nd rfl (by first | exact Or.inl rfl | exact Or.inr rfl) (@e_call _ _ _ _ _ _ _ _ _ _ _ c_above hr (by decide) (by rfl) (@pa_cons _ _ _ _ _ (dv 0) (@pa_cons _ _ _ _ _ (dv 1) pa_nil (by rfl)) (by rfl)) (by decide) (by rfl) (by rfl)) (by rfl) (by first | exact .inl rfl | exact .inr rfl | assumption)) (@pss_one _ _ _ (@s_if _ _ _ _ _ _ _ _ (@pt_not _ _ _ _ (@t_val _ _ _ (@pe_callB _ _ _ _ _ _ _ _ _ (@c_all _ rfl) (by rfl) n_all (by decide +kernel) (@pa_cons _ _ _ _ _ (@e_compN _ _ _ _ _ _ _ _ _ _ ["played"] ["those"] [2] rfl (@pi_list _ _ _ _ (@e_call _ _ _ _ _ _ _ _ _ _ _ c_told_by hr (by decide) (by rfl) (@pa_cons _ _ _ _ _ (dv 0) (@pa_cons _ _ _ _ _ (dv 1) pa_nil (by rfl)) (by rfl)) (by decide) (by rfl) (by rfl))) (fun C s H fp => (@pg_name _ _ (0) _ (show List.Nodup [("played" : Str), ("those" : Str)] by decide +kernel) rfl (by first | exact Or.inl rfl | exact Or.inr rfl) (by first | exact .inl rfl | exact .inr rfl | assumption))) (fun C s H fp => (@pe_cmpR _ _ _ _ _ _ _ _ (show OpR _ _ (dInS K) from o_in) (@pe_ix _ _ _ _ _ _ _ i_tup (dv 0) pe_int (fun _ _ => rfl)) (dv 1) (by with_unfolding_all rfl))) rfl rfl (by decide +kernel) (by decide +kernel) (by rfl) ⟨rfl, True.intro⟩ ⟨⟨rfl, rfl, rfl, rfl⟩, True.intro⟩ (by intro _; rfl)) pa_nil (by rfl)) (by decide) (by decide) (by rfl) (by rfl)) (by intro _; rfl))) (@pss_one _ _ _ (@ps_ret _ _ _ _ (@e_tup _ _ _ _ _ (@pa_cons _ _ _ _ _ pe_str (@pa_cons _ _ _ _ _ (dv 2) pa_nil (by rfl)) (by rfl))))) pss_nil))) (by intro _; rfl)) (@pss_cons _ _ _ _ _ (@ps_set _ _ (3) _ _ _ _ sc_verdict.nd rfl (by first | exact Or.inl rfl | exact Or.inr rfl) (@e_call _ _ _ _ _ _ _ _ _ _ _ c_joined hr (by decide) (by rfl) (@pa_cons _ _ _ _ _ (dv 0) pa_nil (by rfl)) (by decide) (by rfl) (by rfl)) (by rfl) (by first | exact .inl rfl | exact .inr rfl | assumption)) (@pss_cons _ _ _ _ _ (@s_if _ _ _ _ _ _ _ _ (@t_cmp _ _ _ _ _ _ _ _ o_eq (@pe_callB _ _ _ _ _ _ _ _ _ c_len (by rfl) n_len (by decide +kernel) (@pa_cons _ _ _ _ _ (dv 3) pa_nil (by rfl)) (by decide) (by decide) (by rfl) (by rfl)) pe_int (@nomark _ _ (by decide) (by decide))) (@pss_one _ _ _ (@ps_ret _ _ _ _ (@e_tup _ _ _ _ _ (@pa_cons _ _ _ _ _ pe_str (@pa_cons _ _ _ _ _ (@pe_ix _ _ _ _ _ _ _ i_lst (dv 3) pe_int (fun _ _ => rfl)) pa_nil (by rfl)) (by rfl))))) pss_nil) (@pss_one _ _ _ (@ps_ret _ _ _ _ (@e_tup _ _ _ _ _ (@pa_cons _ _ _ _ _ pe_str (@pa_cons _ _ _ _ _ (dv 3) pa_nil (by rfl)) (by rfl)))))))), ?_⟩
      have pl60 : (plr gs).length ≤ 60 := Nat.le_trans (plr_len hm) l60
      refine ⟨gs, ⟨hB, by omega⟩, fun P H1 s1 f1 e1 => ?_⟩
      refine ⟨P, rfl, ⟨_, SqL.of e1⟩, for_list (K := K) (a := P) (xs := (plr gs).map V.str) (fun i σ Hx => ∃ (o1 o2 : Option V), σ = [some (.ref L), o1, o2, none] ∧ Same H Hx ∧ Hx P = some (.lst ((plr gs).map V.str)) ∧ ∀ j m, j < i → (plr gs)[j]? = some m → ¬ bad gs m)
        ⟨_, _, rfl, s1, e1, fun j m hj => absurd hj (Nat.not_lt_zero _)⟩ (fun i σ Hx _ ⟨_, _, _, _, e, _⟩ => SqL.of e) ?_ ?_⟩
      · rintro i v σ Hx hv ⟨o1, o2, rfl, s2, eP, good⟩
        rw [List.getElem?_map] at hv
        obtain ⟨n, hn, rfl⟩ : ∃ x, (plr gs)[i]? = some x ∧ V.str x = v := by
          cases hh : (plr gs)[i]? with
          | none => rw [hh] at hv; cases hv
          | some x => rw [hh] at hv; exact ⟨x, rfl, Option.some.inj hv⟩
        have hp : n ∈ plr gs := List.mem_of_getElem? hn
        refine ⟨gs, nm, ⟨hB.up s2, hm, l60, sok⟩, fun _ Fa fs H3 s3 f3 e3 inc mem => ?_, fun hno => absurd hp hno⟩
        have s23 := s2.trans s3
        refine ⟨gs, hB.up s23, fun D1 H4 s4 d4 ⟨vs, hx4, hm4, hl4⟩ => ?_⟩
        have e4 := s4 _ _ e3
        refine ⟨D1, rfl, ⟨_, hx4⟩, comp_abs GmAt gm_up (fun _ g y => y = V.bl (decide (g.b ∈ fs))) (fun _ _ _ _ _ h => h) (by rw [hm4.len]; omega) hx4 hm4 ?_ ?_⟩
        · intro v g H5 hM _ s5 P hP
          obtain ⟨p, rfl, e⟩ := hM
          refine ⟨rfl, _, e, _, .inl (SqL.of (s5 _ _ e4)), rfl, flat_strs _, ?_⟩
          rw [in_strs]
          exact hP _ _ (Same.refl _) rfl
        intro D2 H5 ys s5 _ e5 a5
        have ey := all2_bls a5
        have hall : (((tld n gs).map fun g => decide (g.b ∈ fs)).all id) = true ↔ ¬ bad gs n := by
          rw [List.all_map, List.all_eq_true]
          constructor
          · rintro h ⟨x, hx, hr⟩
            obtain ⟨g, hg, rfl⟩ := List.mem_map.mp hx
            exact hr ((mem _).mp (of_decide_eq_true (h g hg)))
          · intro h g hg
            refine decide_eq_true (Classical.byContradiction fun hno => h ⟨g.b, List.mem_map.mpr ⟨g, hg, rfl⟩, fun hr => hno ((mem _).mpr hr)⟩)
        refine ⟨(tld n gs).map fun g => decide (g.b ∈ fs), SqL.of (by rw [e5, ey]), ⟨fun h => ?_, fun h => ?_⟩⟩
        · rw [Bool.not_eq_true'] at h
          have hbad : bad gs n := Classical.byContradiction fun hno => by
            rw [hall.mpr hno] at h
            cases h
          intro T H6 s6 e6
          have s36 := s4.trans (s5.trans s6)
          refine q T H6 (s23.trans s36) (.none i n Fa hn hbad good (none_back s2 f3) ?_ e6)
          rw [s36 _ _ e3, abv_eq inc mem]
        · rw [Bool.not_eq_false'] at h
          have hok := hall.mp h
          refine ⟨_, _, rfl, s23.trans (s4.trans s5), s5 _ _ (s4 _ _ (s3 _ _ eP)), fun j m hj hm => ?_⟩
          by_cases z : j = i
          · subst z
            rw [hn] at hm
            cases hm
            exact hok
          · exact good j m (by omega) hm
      · rintro σ Hx ⟨o1, o2, rfl, s2, eP, good⟩
        rw [List.length_map] at good
        have good : ∀ m ∈ plr gs, ¬ bad gs m := fun m h => by
          obtain ⟨j, hj, rfl⟩ := List.getElem_of_mem h
          exact good j _ hj (List.getElem?_eq_getElem hj)
        refine ⟨gs, nm, ⟨hB.up s2, hm, l60, sok⟩, fun D vs H3 s3 d3 e3 al => ?_⟩
        have al' : All2 (Prt H H3 D) vs (jnI gs (plr gs).length) := al.imp fun v p r => by
          obtain ⟨d, r1, r2, r3, r4⟩ := r
          exact ⟨d, r1, none_back s2 r2, r3, r4⟩
        have ll := al.len
        refine ⟨_, .inl (SqL.of e3), ⟨fun h => ?_, fun h => ?_⟩⟩
        · have h : vs.length = 1 := by
            have := of_decide_eq_true h
            omega
          match vs, h, al' with
          | [v], _, al1 =>
            generalize hj : jnI gs (plr gs).length = ps at al1
            cases al1 with
            | cons r t =>
              cases t
              obtain ⟨d, rfl, r2, r3, r4⟩ := r
              refine ⟨_, _, SqL.of e3, rfl, fun T H4 s4 e4 => q T H4 ((s2.trans s3).trans s4) (.one _ d good hj r2 (s4 _ _ r4) e4)⟩
        · have h : vs.length ≠ 1 := by
            have := of_decide_eq_false h
            omega
          intro T H4 s4 e4
          refine q T H4 ((s2.trans s3).trans s4) (.loose D vs good (by omega) (none_back s2 d3) (s4 _ _ e3) (al'.imp fun v p r => ?_) e4)
          obtain ⟨d, r1, r2, r3, r4⟩ := r
          exact ⟨d, r1, r2, r3, s4 _ _ r4⟩
def sp_l_cell_at (K : PySem.W.Frag) (ns : List Int) : Sp := fun vs H Q _ => match vs with
  | [.ref a, .int k] => SqL K H a (ns.map V.int) ∧ 0 ≤ k ∧ ∀ c : Int, Q (.int c) H
  | _ => False
theorem sc_l_cell_at : FnScope ["_law_script", "_law_k"] ["_law_script", "_law_k"] (defScope s_l_cell_at) := ⟨rfl, rfl, rfl, by decide +kernel, rfl, by decide +kernel, by decide +kernel⟩
theorem ok_l_cell_at (d : Dfn K mg "_law_cell_at" s_l_cell_at ["_law_script", "_law_k"]) (er : Errs K mg c_NoPlayer) (n_len : mg "len" = none)   : Cal P w K mg base "_law_cell_at" ["_law_script", "_law_k"] 1 (sp_l_cell_at K ns) := by
  refine d.cal (k := 0) sc_l_cell_at (fun vs H Q E h => ?_) (fun f cdv A outer s H vs Q E hr h => ?_)
  · match vs, h with
    | [.ref a, .int k], _ => rfl
  · match vs, h with
    | [.ref a, .int k], ⟨hS, k0, q⟩ =>
      refine ⟨_, (@pss_cons _ _ _ _ _ (@s_if _ _ _ _ _ _ _ _ (@t_cmp _ _ _ _ _ _ _ _ o_lt (dv 1) (@pe_callB _ _ _ _ _ _ _ _ _ c_len (by rfl) n_len (by decide +kernel) (@pa_cons _ _ _ _ _ (dv 0) pa_nil (by rfl)) (by decide) (by decide) (by rfl) (by rfl)) (@nomark _ _ (by decide) (by decide))) (@pss_one _ _ _ (@ps_ret _ _ _ _ (@pe_ix _ _ _ _ _ _ _ i_lst (dv 0) (dv 1) (fun _ _ => rfl)))) pss_nil) (@pss_one _ _ _ (@ps_ret _ _ _ _ pe_int))), ?_⟩
      refine ⟨_, .inl hS, ⟨fun h => ?_, fun _ => q 0⟩⟩
      have h := of_decide_eq_true h
      rw [List.length_map] at h
      obtain ⟨j, rfl⟩ := Int.eq_ofNat_of_zero_le k0
      have hj : j < ns.length := by omega
      refine ⟨_, .int ns[j], hS, atI_nat ?_, q _⟩
      rw [List.getElem?_map, List.getElem?_eq_getElem hj]
      rfl
def l12 : List Nat := [98, 113, 99, 120, 100, 108, 101, 110, 104, 117, 115, 118]
def b8 : List Nat := [103, 109, 116, 97, 122, 107, 102, 119]
theorem l12_get {n : Int} (h0 : 0 ≤ n % 12) (h1 : n % 12 < 12) : ∃ c, atI (Str.cps "bqcxdlenhusv").toList (n % 12) = some c ∧ l12[(n % 12).toNat]? = some c := by
  obtain ⟨j, hj⟩ := Int.eq_ofNat_of_zero_le h0
  rw [hj] at h1 ⊢
  have e : (Str.cps "bqcxdlenhusv").toList = l12 := by decide +kernel
  have hl : j < l12.length := by show j < 12; omega
  exact ⟨l12[j], by rw [e]; exact atI_nat (List.getElem?_eq_getElem hl), by rw [Int.toNat_natCast, List.getElem?_eq_getElem hl]⟩
structure N8 (x : Str) : Prop where
  len1 : 1 ≤ (co x).length
  len8 : (co x).length ≤ 8
  no : ∀ c ∈ co x, c ≠ 112 ∧ c ≠ 121
  lt : ∀ c ∈ co x, c < 1114112
def n8 (n p c : Nat) : List Nat := (b8.take n).take p ++ [c] ++ (b8.take n).drop (p + 1)
theorem n8_inj {n p c d : Nat} (h : n8 n p c = n8 n p d) : c = d := by
  unfold n8 at h
  rw [List.append_assoc, List.append_assoc] at h
  have h := List.append_cancel_left h
  simpa using h
theorem n8_len {n p c : Nat} (h : p < n) (h' : n ≤ 8) : (n8 n p c).length = n := by
  have : b8.length = 8 := rfl
  unfold n8
  rw [List.length_append, List.length_append, List.length_take, List.length_take, List.length_drop, List.length_take, List.length_singleton]
  omega
theorem n8_mem {n p c : Nat} (hc : c ∈ l12) : ∀ e ∈ n8 n p c, e ∈ b8 ∨ e ∈ l12 := by
  intro e he
  unfold n8 at he
  rcases List.mem_append.mp he with he | he
  · rcases List.mem_append.mp he with he | he
    · exact .inl (List.mem_of_mem_take (List.mem_of_mem_take he))
    · exact .inr (List.mem_singleton.mp he ▸ hc)
  · exact .inl (List.mem_of_mem_take (List.mem_of_mem_drop he))
theorem n8_no {n p c : Nat} (hc : c ∈ l12) : ∀ e ∈ n8 n p c, e ≠ 112 ∧ e ≠ 121 := fun e he => by
  have hb : ∀ x ∈ b8, x ≠ 112 ∧ x ≠ 121 := by decide
  have hl : ∀ x ∈ l12, x ≠ 112 ∧ x ≠ 121 := by decide
  exact (n8_mem hc e he).elim (hb e) (hl e)
theorem n8_lt {n p c : Nat} (hc : c ∈ l12) : ∀ e ∈ n8 n p c, e < 1114112 := fun e he => by
  have hb : ∀ x ∈ b8, x < 1114112 := by decide
  have hl : ∀ x ∈ l12, x < 1114112 := by decide
  exact (n8_mem hc e he).elim (hb e) (hl e)
structure NL (nm : List Str) : Prop where
  nd : nm.Nodup
  ok : ∀ x ∈ nm, N8 x
def sp_l_names (K : PySem.W.Frag) (ns : List Int) : Sp := fun vs H Q _ => match vs with
  | [.int c, .int m] => (0 ≤ m ∧ m ≤ 8) ∧ ∀ L (nm : List Str) H', Same H H' → H L = none → H' L = some (.lst (nm.map V.str)) → (nm.length : Int) = m → NL nm → Q (.ref L) H'
  | _ => False
theorem sc_l_names : FnScope ["_law_cell", "_law_many", "_law_size", "_law_base", "_law_at", "_law_names_here", "_law_k", "_law_letter"] ["_law_cell", "_law_many"] (defScope s_l_names) := ⟨rfl, rfl, rfl, by decide +kernel, rfl, by decide +kernel, by decide +kernel⟩
theorem ok_l_names (d : Dfn K mg "_law_names" s_l_names ["_law_cell", "_law_many"]) (er : Errs K mg c_NoPlayer) (n_range : mg "range" = none)   : Cal P w K mg base "_law_names" ["_law_cell", "_law_many"] 1 (sp_l_names K ns) := by
  refine d.cal (k := 0) sc_l_names (fun vs H Q E h => ?_) (fun f cdv A outer s H vs Q E hr h => ?_)
  · match vs, h with
    | [.int c, .int m], _ => rfl
  · match vs, h with
    | [.int c, .int m], ⟨⟨m0, m8⟩, q⟩ =>
      refine ⟨_, (@pss_cons _ _ _ _ _ (@ps_set _ _ (2) _ _ _ _ sc_l_names.nd rfl (by first | exact Or.inl rfl | exact Or.inr rfl) (@pe_op _ _ _ _ _ _ _ _ o_add pe_int (@pe_op _ _ _ _ _ _ _ _ o_mod (dv 0) pe_int)) (by rfl) (by first | exact .inl rfl | exact .inr rfl | assumption)) (@pss_cons _ _ _ _ _ (@ps_set _ _ (3) _ _ _ _ sc_l_names.nd rfl (by first | exact Or.inl rfl | exact Or.inr rfl) (@pe_slice _ _ _ _ _ _ _ _ _ _ sl_str pe_str po_none (po_some (dv 2))) (by rfl) (by first | exact .inl rfl | exact .inr rfl | assumption)) (@pss_cons _ _ _ _ _ (@ps_set _ _ (4) _ _ _ _ sc_l_names.nd rfl (by first | exact Or.inl rfl | exact Or.inr rfl) (@pe_op _ _ _ _ _ _ _ _ o_mod (@pe_op _ _ _ _ _ _ _ _ o_div (dv 0) pe_int) (dv 2)) (by rfl) (by first | exact .inl rfl | exact .inr rfl | assumption)) (@pss_cons _ _ _ _ _ (@ps_set _ _ (5) _ _ _ _ sc_l_names.nd rfl (by first | exact Or.inl rfl | exact Or.inr rfl) (@pe_lst _ _ _ _ pa_nil) (by rfl) (by first | exact .inl rfl | exact .inr rfl | assumption)) (@pss_cons _ _ _ _ _ (@ps_for _ _ _ _ _ _ _ _ PassesOwn.never rfl (@pi_range1 _ _ _ _ _ _ (by rfl) n_range (@pa_cons _ _ _ _ _ (dv 1) pa_nil (by rfl)) (by rfl)) (@pg_name _ _ (6) _ sc_l_names.nd rfl (by first | exact Or.inl rfl | exact Or.inr rfl) (by first | exact .inl rfl | exact .inr rfl | assumption)) (@pss_cons _ _ _ _ _ (@ps_set _ _ (7) _ _ _ _ sc_l_names.nd rfl (by first | exact Or.inl rfl | exact Or.inr rfl) (@pe_ix _ _ _ _ _ _ _ i_str pe_str (@pe_op _ _ _ _ _ _ _ _ o_mod (@pe_op _ _ _ _ _ _ _ _ o_add (@pe_op _ _ _ _ _ _ _ _ o_div (dv 0) pe_int) (@pe_op _ _ _ _ _ _ _ _ o_mul pe_int (dv 6))) pe_int) (fun _ _ => rfl)) (by rfl) (by first | exact .inl rfl | exact .inr rfl | assumption)) (@pss_one _ _ _ (@ps_expr _ _ _ _ (@pe_bm _ _ _ _ _ _ _ _ _ _ _ _ PySem.F.plainAttrs_list PySem.F.slot_list_append PySem.F.type_list_append mt_append (dv 5) (@pa_cons _ _ _ _ _ (@pe_op _ _ _ _ _ _ _ _ o_addS (@pe_op _ _ _ _ _ _ _ _ o_addS (@pe_slice _ _ _ _ _ _ _ _ _ _ sl_str (dv 3) po_none (po_some (dv 4))) (dv 7)) (@pe_slice _ _ _ _ _ _ _ _ _ _ sl_str (dv 3) (po_some (pe_op o_add (dv 4) pe_int)) po_none)) pa_nil (by rfl)) (by rfl) (by rfl) (by rfl) (by rfl) (by rfl)) (by rfl)))) (by intro _; rfl)) (@pss_one _ _ _ (@ps_ret _ _ _ _ (dv 5)))))))), ?_⟩
      have d8 : (0 : Int) < 8 := by decide
      have a0 := Int.emod_nonneg c (show (8 : Int) ≠ 0 by decide)
      have a1 := Int.emod_lt_of_pos c d8
      obtain ⟨n, hn⟩ : ∃ n : Nat, c % 8 = n := ⟨(c % 8).toNat, by omega⟩
      have hn8 : n < 8 := by omega
      have lb : (Str.ofString "gmtazkfw").length = 8 := by decide +kernel
      have cb : co (Str.ofString "gmtazkfw") = b8 := by decide +kernel
      refine ⟨d8, _, rfl, by rw [lb]; decide, ⟨d8, bd_lit rfl⟩, by omega, by decide, fun D hD => ?_⟩
      have p0 := Int.emod_nonneg (c / 8) (show 1 + c % 8 ≠ 0 by omega)
      have p1 := Int.emod_lt_of_pos (c / 8) (show 0 < 1 + c % 8 by omega)
      obtain ⟨p, hp⟩ : ∃ p : Nat, c / 8 % (1 + c % 8) = p := ⟨(c / 8 % (1 + c % 8)).toNat, by omega⟩
      have hp1 : p < n + 1 := by omega
      have hsz : (1 : Int) + c % 8 = ((n + 1 : Nat) : Int) := by omega
      have cB : co (Txt.slice (Str.ofString "gmtazkfw") none (some (1 + c % 8))) = b8.take (n + 1) := by
        rw [hsz, co_to (by rw [lb]; omega), cb]
      generalize hB : Txt.slice (Str.ofString "gmtazkfw") none (some (1 + c % 8)) = B at cB
      have lB : B.length = n + 1 := by
        rw [← co_len, cB, List.length_take]
        show min (n + 1) 8 = n + 1
        omega
      have zB : B.length ≤ sizeLine := by rw [lB]; exact Nat.le_trans (show n + 1 ≤ 8 by omega) (by decide)
      refine ⟨m, rfl, by omega, by omega, for_range (lo := 0) (n := m.toNat) (fun i σ H' => ∃ (nm : List Str) (o1 o2 : Option V), σ = [some (.int c), some (.int m), some (.int (1 + c % 8)), some (.str B), some (.int (c / 8 % (1 + c % 8))), some (.ref D), o1, o2] ∧ H' = upd H D (.lst (nm.map V.str)) ∧ nm.length = i ∧ ∀ (j : Nat) x, nm[j]? = some x → ∃ e, co x = n8 (n + 1) p e ∧ l12[((c / 64 + 5 * (j : Int)) % 12).toNat]? = some e)
        ⟨[], none, none, by rw [← hB]; rfl, rfl, rfl, fun j x h => by simp at h⟩ ?_ ?_⟩
      · rintro i σ H' hi ⟨nm, o1, o2, rfl, rfl, hl, hall⟩
        have d12 : (0 : Int) < 12 := by decide
        have w0 := Int.emod_nonneg (c / 64 + 5 * (0 + (i : Int))) (show (12 : Int) ≠ 0 by decide)
        have w1 := Int.emod_lt_of_pos (c / 64 + 5 * (0 + (i : Int))) d12
        obtain ⟨e, he, he'⟩ := l12_get w0 w1
        refine ⟨⟨by decide, bd_lit rfl⟩, .inr (.inl ⟨by decide, by decide⟩), d12, e, by decide +kernel, he, .inl ⟨rfl, _, SqL.of upd_same⟩, ?_⟩
        have c1 : co (Txt.slice B none (some (c / 8 % (1 + c % 8)))) = (b8.take (n + 1)).take p := by rw [hp, co_to (by omega), cB]
        have c2 : co (Txt.slice B (some (c / 8 % (1 + c % 8) + 1)) none) = (b8.take (n + 1)).drop (p + 1) := by
          rw [show c / 8 % (1 + c % 8) + 1 = ((p + 1 : Nat) : Int) by omega, co_from (by omega), cB]
        have bl : (b8.take (n + 1)).length ≤ 8 := List.length_take_le' _ _
        have z1 : (Txt.slice B none (some (c / 8 % (1 + c % 8)))).length ≤ 8 := by
          rw [← co_len, c1]
          exact Nat.le_trans (List.length_take_le' _ _) bl
        have z2 : (Txt.slice B (some (c / 8 % (1 + c % 8) + 1)) none).length ≤ 8 := by
          rw [← co_len, c2, List.length_drop]
          omega
        have z3 : (⟨#[e]⟩ : Str).length = 1 := rfl
        refine ⟨_, rfl, zB, Nat.le_trans (Nat.add_le_add z1 (Nat.le_of_eq z3)) (by decide), _, rfl, zB, Nat.le_trans (Nat.add_le_add (by rw [len_app, z3]; exact Nat.add_le_add_right z1 1) z2) (by decide), D, _, _, rfl, rfl, upd_same, ?_, nm ++ [Txt.slice B none (some (c / 8 % (1 + c % 8))) ++ ⟨#[e]⟩ ++ Txt.slice B (some (c / 8 % (1 + c % 8) + 1)) none], _, _, rfl, ?_, ?_, fun j x hx => ?_⟩
        · rw [List.length_map, hl]
          exact Nat.lt_of_lt_of_le (show i < 8 by omega) (by decide)
        · rw [upd_upd, List.map_append]
          rfl
        · rw [List.length_append, hl]
          rfl
        · by_cases hj : j < nm.length
          · rw [List.getElem?_append_left hj] at hx
            exact hall j x hx
          · have ej : j = i := by
              have := (List.getElem?_eq_some_iff.mp hx).1
              rw [List.length_append, List.length_singleton] at this
              omega
            subst ej
            rw [List.getElem?_append_right (by omega), hl, Nat.sub_self] at hx
            cases hx
            refine ⟨e, ?_, by rw [Int.zero_add] at he'; exact he'⟩
            rw [co_app, co_app, c1, c2]
            rfl
      · rintro σ H' ⟨nm, o1, o2, rfl, rfl, hl, hall⟩
        refine q D nm _ (same_upd hD) hD upd_same (by omega) ⟨?_, fun x hx => ?_⟩
        · refine List.pairwise_iff_getElem.mpr fun i j hi hj lt e => ?_
          obtain ⟨x, h1, h2⟩ := hall i _ (List.getElem?_eq_getElem hi)
          obtain ⟨y, h3, h4⟩ := hall j _ (List.getElem?_eq_getElem hj)
          rw [e, h3] at h1
          have exy := n8_inj h1
          subst exy
          have r0 := Int.emod_nonneg (c / 64) (show (12 : Int) ≠ 0 by decide)
          have r1 := Int.emod_lt_of_pos (c / 64) (show (0 : Int) < 12 by decide)
          obtain ⟨r, hr⟩ : ∃ r : Nat, c / 64 % 12 = r := ⟨(c / 64 % 12).toNat, by omega⟩
          have e1 : ((c / 64 + 5 * (i : Int)) % 12).toNat = (r + 5 * i) % 12 := by omega
          have e2 : ((c / 64 + 5 * (j : Int)) % 12).toNat = (r + 5 * j) % 12 := by omega
          rw [e1] at h2
          rw [e2] at h4
          have ap : ∀ r < 12, ∀ i < 8, ∀ j < 8, l12[(r + 5 * i) % 12]? = l12[(r + 5 * j) % 12]? → i = j := by decide +kernel
          have := ap r (by omega) i (by omega) j (by omega) (h2.trans h4.symm)
          omega
        · obtain ⟨j, hj, rfl⟩ := List.mem_iff_getElem.mp hx
          obtain ⟨e, h1, h2⟩ := hall j _ (List.getElem?_eq_getElem hj)
          have hl := n8_len (c := e) hp1 (by omega)
          exact ⟨by rw [h1, hl]; omega, by rw [h1, hl]; omega, by rw [h1]; exact n8_no (List.mem_of_getElem? h2), by rw [h1]; exact n8_lt (List.mem_of_getElem? h2)⟩
structure BL (nm : List Str) (gs : List Gm) : Prop where
  mem : ∀ g ∈ gs, g.a ∈ nm ∧ g.b ∈ nm
  ne : ∀ g ∈ gs, g.a ≠ g.b
  h0 : ∀ g ∈ gs, 0 ≤ g.h ∧ g.h ≤ 2
theorem BL.nil {nm : List Str} : BL nm [] := ⟨fun g h => absurd h (by simp), fun g h => absurd h (by simp), fun g h => absurd h (by simp)⟩
theorem BL.snoc {nm : List Str} {gs : List Gm} {g : Gm} (h : BL nm gs) (h1 : g.a ∈ nm ∧ g.b ∈ nm) (h2 : g.a ≠ g.b) (h3 : 0 ≤ g.h ∧ g.h ≤ 2) : BL nm (gs ++ [g]) := by
  have one : ∀ {P : Gm → Prop}, (∀ x ∈ gs, P x) → P g → ∀ x ∈ gs ++ [g], P x := fun a b x hx => by
    rcases List.mem_append.mp hx with hx | hx
    · exact a x hx
    · rw [List.mem_singleton] at hx
      subst hx
      exact b
  exact ⟨one h.mem h1, one h.ne h2, one h.h0 h3⟩
def BkL (H : Hp) (D : Addr) (gs : List Gm) : Prop := ∃ vs, H D = some (.lst vs) ∧ All2 (GmAt H) vs gs
theorem nl_at {nm : List Str} (h : NL nm) {i j : Int} (i0 : 0 ≤ i) (i1 : i < nm.length) (j0 : 0 ≤ j) (j1 : j < nm.length) (ne : i ≠ j) : ∃ x y, atI (nm.map V.str) i = some (.str x) ∧ atI (nm.map V.str) j = some (.str y) ∧ x ∈ nm ∧ y ∈ nm ∧ x ≠ y := by
  obtain ⟨a, rfl⟩ := Int.eq_ofNat_of_zero_le i0
  obtain ⟨b, rfl⟩ := Int.eq_ofNat_of_zero_le j0
  have ha : a < nm.length := by omega
  have hb : b < nm.length := by omega
  refine ⟨nm[a], nm[b], atI_nat ?_, atI_nat ?_, List.getElem_mem ha, List.getElem_mem hb, fun e => ne ?_⟩
  · rw [List.getElem?_map, List.getElem?_eq_getElem ha]
    rfl
  · rw [List.getElem?_map, List.getElem?_eq_getElem hb]
    rfl
  · rw [(List.getElem_inj h.nd).mp e]
theorem bkl_app {H0 H : Hp} {D T : Addr} {vs : List V} {gs : List Gm} {g : Gm} (h : H D = some (.lst vs)) (a : All2 (GmAt H) vs gs) (e : H T = some (.tup [.int g.d, .str g.a, .str g.b, .int g.h, .int g.s])) : BkL (upd H D (.lst (vs ++ [.ref T]))) D (gs ++ [g]) := by
  have kt : Kt H (upd H D (.lst (vs ++ [.ref T]))) := kt_upd h
  exact ⟨_, upd_same, (a.imp fun v g r => gm_up v g _ _ kt r).snoc ⟨T, rfl, kt _ _ e⟩⟩
theorem nxt_ne {a d m : Int} (a0 : 0 ≤ a) (a1 : a < m) (d0 : 0 < d) (d1 : d < m) : 0 ≤ (a + d) % m ∧ (a + d) % m < m ∧ (a + d) % m ≠ a := by
  refine ⟨Int.emod_nonneg _ (by omega), Int.emod_lt_of_pos _ (by omega), ?_⟩
  by_cases h : a + d < m
  · rw [Int.emod_eq_of_lt (by omega) h]
    omega
  · have e : a + d = (a + d - m) + m := by omega
    rw [e, Int.add_emod_right, Int.emod_eq_of_lt (by omega) (by omega)]
    omega
theorem more_game {H Hx H2 : Hp} {D T : Addr} {vs : List V} {gs : List Gm} {g : Gm} {nm : List Str} (hD : H D = none) (s1 : Same H Hx) (e1 : Hx D = some (.lst vs)) (a1 : All2 (GmAt Hx) vs gs) (bl : BL nm gs) (s2 : Same Hx H2) (e2 : H2 T = some (.tup [.int g.d, .str g.a, .str g.b, .int g.h, .int g.s])) (gg : (g.a ∈ nm ∧ g.b ∈ nm) ∧ g.a ≠ g.b ∧ 0 ≤ g.h ∧ g.h ≤ 2) :
    Same H (upd H2 D (.lst (vs ++ [.ref T]))) ∧ BkL (upd H2 D (.lst (vs ++ [.ref T]))) D (gs ++ [g]) ∧ BL nm (gs ++ [g]) :=
  ⟨same_app' (s1.trans s2) hD, bkl_app (H0 := H) (s2 _ _ e1) (a1.imp fun v g r => gm_up v g _ _ (kt_of s2) r) e2, bl.snoc gg.1 gg.2.1 gg.2.2⟩
def sp_l_first_games (K : PySem.W.Frag) (ns : List Int) : Sp := fun vs H Q _ => match vs with
  | [.ref L, .int kd, .int ct] => ∃ nm, (H L = some (.lst (nm.map V.str)) ∧ NL nm ∧ 2 ≤ nm.length ∧ nm.length ≤ 8 ∧ 1 ≤ ct ∧ ct < nm.length) ∧ ∀ D gs H', Same H H' → H D = none → BkL H' D gs → BL nm gs → gs.length ≤ 20 → Q (.ref D) H'
  | _ => False
theorem sc_l_first_games : FnScope ["_law_names_here", "_law_kind", "_law_cut", "_law_games", "_law_many", "_law_k"] ["_law_names_here", "_law_kind", "_law_cut"] (defScope s_l_first_games) := ⟨rfl, rfl, rfl, by decide +kernel, rfl, by decide +kernel, by decide +kernel⟩
theorem ok_l_first_games (d : Dfn K mg "_law_first_games" s_l_first_games ["_law_names_here", "_law_kind", "_law_cut"]) (er : Errs K mg c_NoPlayer) (n_range : mg "range" = none) (n_len : mg "len" = none)   : Cal P w K mg base "_law_first_games" ["_law_names_here", "_law_kind", "_law_cut"] 1 (sp_l_first_games K ns) := by
  refine d.cal (k := 0) sc_l_first_games (fun vs H Q E h => ?_) (fun f cdv A outer s H vs Q E hr h => ?_)
  · match vs, h with
    | [.ref L, .int kd, .int ct], _ => rfl
  · match vs, h with
    | [.ref L, .int kd, .int ct], ⟨nm, ⟨hL, ok, n2, n8', ct1, ct2⟩, q⟩ =>
      refine ⟨_, (@pss_cons _ _ _ _ _ (@ps_set _ _ (3) _ _ _ _ sc_l_first_games.nd rfl (by first | exact Or.inl rfl | exact Or.inr rfl) (@pe_lst _ _ _ _ pa_nil) (by rfl) (by first | exact .inl rfl | exact .inr rfl | assumption)) (@pss_cons _ _ _ _ _ (@ps_set _ _ (4) _ _ _ _ sc_l_first_games.nd rfl (by first | exact Or.inl rfl | exact Or.inr rfl) (@pe_callB _ _ _ _ _ _ _ _ _ c_len (by rfl) n_len (by decide +kernel) (@pa_cons _ _ _ _ _ (dv 0) pa_nil (by rfl)) (by decide) (by decide) (by rfl) (by rfl)) (by rfl) (by first | exact .inl rfl | exact .inr rfl | assumption)) (@ss_cutE _ _ _ _ _ (@ps_for _ _ _ _ _ _ _ _ PassesOwn.never rfl (@pi_range1 _ _ _ _ _ _ (by rfl) n_range (@pa_cons _ _ _ _ _ (dv 4) pa_nil (by rfl)) (by rfl)) (@pg_name _ _ (5) _ sc_l_first_games.nd rfl (by first | exact Or.inl rfl | exact Or.inr rfl) (by first | exact .inl rfl | exact .inr rfl | assumption)) (@ss_cutE _ _ _ _ _ (@s_if _ _ _ _ _ _ _ _ (@L2.PW.pt _ _ _ (@w_or _ _ _ _ _ _ _ (@t_cmp _ _ _ _ _ _ _ _ o_eq (dv 1) pe_int (@nomark _ _ (by decide) (by decide))) (@pw_or1 _ _ _ _ (@L2.PW.pt _ _ _ (@w_and _ _ _ _ _ _ _ (@t_cmp _ _ _ _ _ _ _ _ o_eq (dv 1) pe_int (@nomark _ _ (by decide) (by decide))) (@pw_and1 _ _ _ _ (@t_cmp _ _ _ _ _ _ _ _ o_lt (@pe_op _ _ _ _ _ _ _ _ o_add (dv 5) pe_int) (dv 4) (@nomark _ _ (by decide) (by decide))))))))) (@pss_one _ _ _ (@ps_expr _ _ _ _ (@pe_bm _ _ _ _ _ _ _ _ _ _ _ _ PySem.F.plainAttrs_list PySem.F.slot_list_append PySem.F.type_list_append mt_append (dv 3) (@pa_cons _ _ _ _ _ (@e_tup _ _ _ _ _ (@pa_cons _ _ _ _ _ (dv 5) (@pa_cons _ _ _ _ _ (@pe_ix _ _ _ _ _ _ _ i_lst (dv 0) (dv 5) (fun _ _ => rfl)) (@pa_cons _ _ _ _ _ (@pe_ix _ _ _ _ _ _ _ i_lst (dv 0) (@pe_op _ _ _ _ _ _ _ _ o_mod (@pe_op _ _ _ _ _ _ _ _ o_add (dv 5) pe_int) (dv 4)) (fun _ _ => rfl)) (@pa_cons _ _ _ _ _ pe_int (@pa_cons _ _ _ _ _ (@pe_op _ _ _ _ _ _ _ _ o_sub (@pe_op _ _ _ _ _ _ _ _ o_mod (dv 5) pe_int) pe_int) pa_nil (by rfl)) (by rfl)) (by rfl)) (by rfl)) (by rfl))) pa_nil (by rfl)) (by rfl) (by rfl) (by rfl) (by rfl) (by rfl)) (by rfl))) pss_nil) (@pss_one _ _ _ (@s_if _ _ _ _ _ _ _ _ (@L2.PW.pt _ _ _ (@w_and _ _ _ _ _ _ _ (@t_cmp _ _ _ _ _ _ _ _ o_eq (dv 1) pe_int (@nomark _ _ (by decide) (by decide))) (@w_and _ _ _ _ _ _ _ (@t_cmp _ _ _ _ _ _ _ _ o_ne (dv 5) (@pe_op _ _ _ _ _ _ _ _ o_sub (dv 2) pe_int) (@nomark _ _ (by decide) (by decide))) (@pw_and1 _ _ _ _ (@t_cmp _ _ _ _ _ _ _ _ o_ne (dv 5) (@pe_op _ _ _ _ _ _ _ _ o_sub (dv 4) pe_int) (@nomark _ _ (by decide) (by decide))))))) (@pss_one _ _ _ (@ps_expr _ _ _ _ (@pe_bm _ _ _ _ _ _ _ _ _ _ _ _ PySem.F.plainAttrs_list PySem.F.slot_list_append PySem.F.type_list_append mt_append (dv 3) (@pa_cons _ _ _ _ _ (@e_tup _ _ _ _ _ (@pa_cons _ _ _ _ _ (@pe_op _ _ _ _ _ _ _ _ o_sub pe_int (dv 5)) (@pa_cons _ _ _ _ _ (@pe_ix _ _ _ _ _ _ _ i_lst (dv 0) (dv 5) (fun _ _ => rfl)) (@pa_cons _ _ _ _ _ (@pe_ix _ _ _ _ _ _ _ i_lst (dv 0) (@pe_op _ _ _ _ _ _ _ _ o_add (dv 5) pe_int) (fun _ _ => rfl)) (@pa_cons _ _ _ _ _ pe_int (@pa_cons _ _ _ _ _ pe_int pa_nil (by rfl)) (by rfl)) (by rfl)) (by rfl)) (by rfl))) pa_nil (by rfl)) (by rfl) (by rfl) (by rfl) (by rfl) (by rfl)) (by rfl))) pss_nil))) (by intro _; rfl)) (@ss_cutE _ _ _ _ _ (@s_if _ _ _ _ _ _ _ _ (@L2.PW.pt _ _ _ (@w_and _ _ _ _ _ _ _ (@t_cmp _ _ _ _ _ _ _ _ o_eq (dv 1) pe_int (@nomark _ _ (by decide) (by decide))) (@pw_and1 _ _ _ _ (@t_cmp _ _ _ _ _ _ _ _ o_gt (dv 2) pe_int (@nomark _ _ (by decide) (by decide)))))) (@pss_one _ _ _ (@ps_expr _ _ _ _ (@pe_bm _ _ _ _ _ _ _ _ _ _ _ _ PySem.F.plainAttrs_list PySem.F.slot_list_append PySem.F.type_list_append mt_append (dv 3) (@pa_cons _ _ _ _ _ (@e_tup _ _ _ _ _ (@pa_cons _ _ _ _ _ pe_int (@pa_cons _ _ _ _ _ (@pe_ix _ _ _ _ _ _ _ i_lst (dv 0) (@pe_op _ _ _ _ _ _ _ _ o_sub (dv 2) pe_int) (fun _ _ => rfl)) (@pa_cons _ _ _ _ _ (@pe_ix _ _ _ _ _ _ _ i_lst (dv 0) pe_int (fun _ _ => rfl)) (@pa_cons _ _ _ _ _ pe_int (@pa_cons _ _ _ _ _ pe_int pa_nil (by rfl)) (by rfl)) (by rfl)) (by rfl)) (by rfl))) pa_nil (by rfl)) (by rfl) (by rfl) (by rfl) (by rfl) (by rfl)) (by rfl))) pss_nil) (@ss_cutE _ _ _ _ _ (@s_if _ _ _ _ _ _ _ _ (@L2.PW.pt _ _ _ (@w_and _ _ _ _ _ _ _ (@t_cmp _ _ _ _ _ _ _ _ o_eq (dv 1) pe_int (@nomark _ _ (by decide) (by decide))) (@pw_and1 _ _ _ _ (@t_cmp _ _ _ _ _ _ _ _ o_gt (@pe_op _ _ _ _ _ _ _ _ o_sub (dv 4) (dv 2)) pe_int (@nomark _ _ (by decide) (by decide)))))) (@pss_one _ _ _ (@ps_expr _ _ _ _ (@pe_bm _ _ _ _ _ _ _ _ _ _ _ _ PySem.F.plainAttrs_list PySem.F.slot_list_append PySem.F.type_list_append mt_append (dv 3) (@pa_cons _ _ _ _ _ (@e_tup _ _ _ _ _ (@pa_cons _ _ _ _ _ pe_int (@pa_cons _ _ _ _ _ (@pe_ix _ _ _ _ _ _ _ i_lst (dv 0) (@pe_op _ _ _ _ _ _ _ _ o_sub (dv 4) pe_int) (fun _ _ => rfl)) (@pa_cons _ _ _ _ _ (@pe_ix _ _ _ _ _ _ _ i_lst (dv 0) (dv 2) (fun _ _ => rfl)) (@pa_cons _ _ _ _ _ pe_int (@pa_cons _ _ _ _ _ pe_int pa_nil (by rfl)) (by rfl)) (by rfl)) (by rfl)) (by rfl))) pa_nil (by rfl)) (by rfl) (by rfl) (by rfl) (by rfl) (by rfl)) (by rfl))) pss_nil) (@pss_one _ _ _ (@ps_ret _ _ _ _ (dv 3)))))))), ?_⟩
      refine ⟨by decide, fun D hD => ⟨_, .inl (SqL.of ((same_upd hD) _ _ hL)), ?_⟩⟩
      rw [List.length_map]
      have hm : (0 : Int) < nm.length := by omega
      have d3 : (0 : Int) < 3 := by decide
      have hh2 : (0 : Int) ≤ 2 ∧ (2 : Int) ≤ 2 := ⟨by decide, by decide⟩
      have zs : ∀ {n : Nat}, n ≤ 60 → n < sizeLine := fun h => Nat.lt_of_le_of_lt h (by decide)
      refine ⟨fun σ Hx => ∃ (gs : List Gm) (o5 : Option V), σ = [some (.ref L), some (.int kd), some (.int ct), some (.ref D), some (.int (nm.length : Int)), o5] ∧ Same H Hx ∧ BkL Hx D gs ∧ BL nm gs ∧ gs.length ≤ 16, ⟨_, rfl, by omega, by omega, for_range (lo := 0) (n := nm.length) (fun i σ Hx => ∃ (gs : List Gm) (o5 : Option V), σ = [some (.ref L), some (.int kd), some (.int ct), some (.ref D), some (.int (nm.length : Int)), o5] ∧ Same H Hx ∧ BkL Hx D gs ∧ BL nm gs ∧ gs.length ≤ 2 * i) ⟨[], none, rfl, same_upd hD, ⟨[], upd_same, .nil⟩, .nil, Nat.le_refl _⟩ ?_ ?_⟩, ?_⟩
      · rintro i σ Hx hi ⟨gs, o5, rfl, s1, b1, bl, hl⟩
        refine ⟨fun σ Hx => ∃ (gs : List Gm), σ = [some (.ref L), some (.int kd), some (.int ct), some (.ref D), some (.int (nm.length : Int)), some (.int (0 + (i : Int)))] ∧ Same H Hx ∧ BkL Hx D gs ∧ BL nm gs ∧ gs.length ≤ 2 * i + 1, ?_, ?_⟩
        · obtain ⟨vs, e1, a1⟩ := b1
          have lv := a1.len
          obtain ⟨z0, z1, z2⟩ := nxt_ne (a := (0 : Int) + i) (d := 1) (m := nm.length) (by omega) (by omega) (by decide) (by omega)
          obtain ⟨x, y, hx, hy, mx, my, ne⟩ := nl_at ok (i := (0 : Int) + i) (j := ((0 : Int) + i + 1) % nm.length) (by omega) (by omega) z0 z1 (Ne.symm z2)
          have hL' := s1 _ _ hL
          refine ⟨fun h1 => ⟨fun _ => ?_, fun h => nb h⟩, fun h1 => ⟨fun h2 => ⟨fun h3 => ?_, fun h3 => ⟨gs, rfl, s1, ⟨vs, e1, a1⟩, bl, by omega⟩⟩, fun h2 => ⟨fun h => nb h, fun _ => ⟨gs, rfl, s1, ⟨vs, e1, a1⟩, bl, by omega⟩⟩⟩⟩
          all_goals
            refine ⟨.inl ⟨rfl, _, SqL.of e1⟩, _, _, SqL.of hL', hx, hm, _, _, SqL.of hL', hy, d3, fun T H2 s2 e2 => ?_⟩
            obtain ⟨r1, r2, r3⟩ := more_game (g := ⟨0 + (i : Int), x, y, 2, (0 + (i : Int)) % 3 - 1⟩) hD s1 e1 a1 bl s2 e2 ⟨⟨mx, my⟩, ne, hh2⟩
            exact ⟨D, vs, _, rfl, rfl, s2 _ _ e1, zs (by omega), _, rfl, r1, r2, r3, by rw [List.length_append, List.length_singleton]; omega⟩
        · rintro σ Hx ⟨gs, rfl, s1, ⟨vs, e1, a1⟩, bl, hl⟩
          have lv := a1.len
          have hL' := s1 _ _ hL
          refine ⟨fun h1 => ⟨fun h2 => ⟨fun h3 => ?_, fun h3 => ⟨gs, _, rfl, s1, ⟨vs, e1, a1⟩, bl, by omega⟩⟩, fun h2 => ⟨fun h => nb h, fun _ => ⟨gs, _, rfl, s1, ⟨vs, e1, a1⟩, bl, by omega⟩⟩⟩, fun h1 => ⟨fun h => nb h, fun _ => ⟨gs, _, rfl, s1, ⟨vs, e1, a1⟩, bl, by omega⟩⟩⟩
          have h3 : (0 : Int) + i ≠ nm.length - 1 := by simpa using h3
          obtain ⟨x, y, hx, hy, mx, my, ne⟩ := nl_at ok (i := (0 : Int) + i) (j := (0 : Int) + i + 1) (by omega) (by omega) (by omega) (by omega) (by omega)
          refine ⟨.inl ⟨rfl, _, SqL.of e1⟩, _, _, SqL.of hL', hx, _, _, SqL.of hL', hy, fun T H2 s2 e2 => ?_⟩
          obtain ⟨r1, r2, r3⟩ := more_game (g := ⟨30 - (0 + (i : Int)), x, y, 2, 0⟩) hD s1 e1 a1 bl s2 e2 ⟨⟨mx, my⟩, ne, hh2⟩
          exact ⟨D, vs, _, rfl, rfl, s2 _ _ e1, zs (by omega), _, _, rfl, r1, r2, r3, by rw [List.length_append, List.length_singleton]; omega⟩
      · rintro σ Hx ⟨gs, o5, rfl, s1, b1, bl, hl⟩
        exact ⟨gs, o5, rfl, s1, b1, bl, by omega⟩
      · rintro σ Hx ⟨gs, o5, rfl, s1, ⟨vs, e1, a1⟩, bl, hl⟩
        have lv := a1.len
        have hL' := s1 _ _ hL
        refine ⟨fun σ Hx => ∃ (gs : List Gm), σ = [some (.ref L), some (.int kd), some (.int ct), some (.ref D), some (.int (nm.length : Int)), o5] ∧ Same H Hx ∧ BkL Hx D gs ∧ BL nm gs ∧ gs.length ≤ 17, ⟨fun h1 => ⟨fun h2 => ?_, fun h2 => ⟨gs, rfl, s1, ⟨vs, e1, a1⟩, bl, by omega⟩⟩, fun h1 => ⟨fun h => nb h, fun _ => ⟨gs, rfl, s1, ⟨vs, e1, a1⟩, bl, by omega⟩⟩⟩, ?_⟩
        · have h2 : 1 < ct := of_decide_eq_true h2
          obtain ⟨x, y, hx, hy, mx, my, ne⟩ := nl_at ok (i := ct - 1) (j := 0) (by omega) (by omega) (by omega) (by omega) (by omega)
          refine ⟨.inl ⟨rfl, _, SqL.of e1⟩, _, _, SqL.of hL', hx, _, _, SqL.of hL', hy, fun T H2 s2 e2 => ?_⟩
          obtain ⟨r1, r2, r3⟩ := more_game (g := ⟨3, x, y, 2, 0⟩) hD s1 e1 a1 bl s2 e2 ⟨⟨mx, my⟩, ne, hh2⟩
          exact ⟨D, vs, _, rfl, rfl, s2 _ _ e1, zs (by omega), _, rfl, r1, r2, r3, by rw [List.length_append, List.length_singleton]; omega⟩
        clear a1 e1 lv s1 bl hl hL'
        rintro σ Hx ⟨gs, rfl, s1, ⟨vs, e1, a1⟩, bl, hl⟩
        have lv := a1.len
        have hL' := s1 _ _ hL
        refine ⟨fun σ Hx => ∃ (gs : List Gm), σ = [some (.ref L), some (.int kd), some (.int ct), some (.ref D), some (.int (nm.length : Int)), o5] ∧ Same H Hx ∧ BkL Hx D gs ∧ BL nm gs ∧ gs.length ≤ 18, ⟨fun h1 => ⟨fun h2 => ?_, fun h2 => ⟨gs, rfl, s1, ⟨vs, e1, a1⟩, bl, by omega⟩⟩, fun h1 => ⟨fun h => nb h, fun _ => ⟨gs, rfl, s1, ⟨vs, e1, a1⟩, bl, by omega⟩⟩⟩, ?_⟩
        · have h2 : 1 < (nm.length : Int) - ct := of_decide_eq_true h2
          obtain ⟨x, y, hx, hy, mx, my, ne⟩ := nl_at ok (i := (nm.length : Int) - 1) (j := ct) (by omega) (by omega) (by omega) (by omega) (by omega)
          refine ⟨.inl ⟨rfl, _, SqL.of e1⟩, _, _, SqL.of hL', hx, _, _, SqL.of hL', hy, fun T H2 s2 e2 => ?_⟩
          obtain ⟨r1, r2, r3⟩ := more_game (g := ⟨5, x, y, 2, 1⟩) hD s1 e1 a1 bl s2 e2 ⟨⟨mx, my⟩, ne, hh2⟩
          exact ⟨D, vs, _, rfl, rfl, s2 _ _ e1, zs (by omega), _, rfl, r1, r2, r3, by rw [List.length_append, List.length_singleton]; omega⟩
        rintro σ Hx ⟨gs, rfl, s1, b1, bl, hl⟩
        exact q D gs Hx s1 hD b1 bl (by omega)
def sp_l_book (K : PySem.W.Frag) (ns : List Int) : Sp := fun vs H Q _ => match vs with
  | [.ref a, .ref L] => ∃ nm, (SqL K H a (ns.map V.int) ∧ H L = some (.lst (nm.map V.str)) ∧ NL nm ∧ 2 ≤ nm.length ∧ nm.length ≤ 8) ∧ ∀ D gs H', Same H H' → H D = none → BkL H' D gs → BL nm gs → gs.length ≤ 50 → Q (.ref D) H'
  | _ => False
theorem sc_l_book : FnScope ["_law_script", "_law_names_here", "_law_many", "_law_kind", "_law_cut", "_law_games", "_law_cell", "_law_one", "_law_other", "_law_halves"] ["_law_script", "_law_names_here"] (defScope s_l_book) := ⟨rfl, rfl, rfl, by decide +kernel, rfl, by decide +kernel, by decide +kernel⟩
theorem ok_l_book (d : Dfn K mg "_law_book" s_l_book ["_law_script", "_law_names_here"]) (er : Errs K mg c_NoPlayer) (n_int : mg "int" = none) (n_len : mg "len" = none)  (c_l_first_games : Cal P w K mg base "_law_first_games" ["_law_names_here", "_law_kind", "_law_cut"] 1 (sp_l_first_games K ns)) (c_l_cell_at : Cal P w K mg base "_law_cell_at" ["_law_script", "_law_k"] 1 (sp_l_cell_at K ns)) : Cal P w K mg base "_law_book" ["_law_script", "_law_names_here"] 2 (sp_l_book K ns) := by
  refine d.cal (k := 1) sc_l_book (fun vs H Q E h => ?_) (fun f cdv A outer s H vs Q E hr h => ?_)
  · match vs, h with
    | [.ref a, .ref L], _ => rfl
  · match vs, h with
    | [.ref a, .ref L], ⟨nm, ⟨hS, hL, ok, n2, n8'⟩, q⟩ =>
      refine ⟨_, (@pss_cons _ _ _ _ _ (@ps_set _ _ (2) _ _ _ _ sc_l_book.nd rfl (by first | exact Or.inl rfl | exact Or.inr rfl) (@pe_callB _ _ _ _ _ _ _ _ _ c_len (by rfl) n_len (by decide +kernel) (@pa_cons _ _ _ _ _ (dv 1) pa_nil (by rfl)) (by decide) (by decide) (by rfl) (by rfl)) (by rfl) (by first | exact .inl rfl | exact .inr rfl | assumption)) (@ss_cutE _ _ _ _ _ (@ps_set _ _ (3) _ _ _ _ sc_l_book.nd rfl (by first | exact Or.inl rfl | exact Or.inr rfl) (@pe_op _ _ _ _ _ _ _ _ o_mod (@pe_op _ _ _ _ _ _ _ _ o_div (@e_call _ _ _ _ _ _ _ _ _ _ _ c_l_cell_at hr (by decide) (by rfl) (@pa_cons _ _ _ _ _ (dv 0) (@pa_cons _ _ _ _ _ pe_int pa_nil (by rfl)) (by rfl)) (by decide) (by rfl) (by rfl)) pe_int) pe_int) (by rfl) (by first | exact .inl rfl | exact .inr rfl | assumption)) (@ss_cutE _ _ _ _ _ (@ps_set _ _ (4) _ _ _ _ sc_l_book.nd rfl (by first | exact Or.inl rfl | exact Or.inr rfl) (@pe_op _ _ _ _ _ _ _ _ o_add pe_int (@pe_op _ _ _ _ _ _ _ _ o_mod (@e_call _ _ _ _ _ _ _ _ _ _ _ c_l_cell_at hr (by decide) (by rfl) (@pa_cons _ _ _ _ _ (dv 0) (@pa_cons _ _ _ _ _ pe_int pa_nil (by rfl)) (by rfl)) (by decide) (by rfl) (by rfl)) (@pe_op _ _ _ _ _ _ _ _ o_sub (dv 2) pe_int))) (by rfl) (by first | exact .inl rfl | exact .inr rfl | assumption)) (@pss_cons _ _ _ _ _ (@ps_set _ _ (5) _ _ _ _ sc_l_book.nd rfl (by first | exact Or.inl rfl | exact Or.inr rfl) (@e_call _ _ _ _ _ _ _ _ _ _ _ c_l_first_games hr (by decide) (by rfl) (@pa_cons _ _ _ _ _ (dv 1) (@pa_cons _ _ _ _ _ (dv 3) (@pa_cons _ _ _ _ _ (dv 4) pa_nil (by rfl)) (by rfl)) (by rfl)) (by decide) (by rfl) (by rfl)) (by rfl) (by first | exact .inl rfl | exact .inr rfl | assumption)) (@pss_cons _ _ _ _ _ (@ps_for _ _ _ _ _ _ _ _ PassesOwn.never rfl (@pi_list _ _ _ _ (@pe_slice _ _ _ _ _ _ _ _ _ _ sl_lstN (dv 0) (po_some pe_int) (po_some pe_int))) (@pg_name _ _ (6) _ sc_l_book.nd rfl (by first | exact Or.inl rfl | exact Or.inr rfl) (by first | exact .inl rfl | exact .inr rfl | assumption)) (@pss_cons _ _ _ _ _ (@ps_set _ _ (7) _ _ _ _ sc_l_book.nd rfl (by first | exact Or.inl rfl | exact Or.inr rfl) (@pe_op _ _ _ _ _ _ _ _ o_mod (dv 6) (dv 2)) (by rfl) (by first | exact .inl rfl | exact .inr rfl | assumption)) (@pss_cons _ _ _ _ _ (@ps_set _ _ (8) _ _ _ _ sc_l_book.nd rfl (by first | exact Or.inl rfl | exact Or.inr rfl) (@pe_op _ _ _ _ _ _ _ _ o_mod (@pe_op _ _ _ _ _ _ _ _ o_add (@pe_op _ _ _ _ _ _ _ _ o_add (dv 7) pe_int) (@pe_op _ _ _ _ _ _ _ _ o_mod (@pe_op _ _ _ _ _ _ _ _ o_div (dv 6) pe_int) (@pe_op _ _ _ _ _ _ _ _ o_sub (dv 2) pe_int))) (dv 2)) (by rfl) (by first | exact .inl rfl | exact .inr rfl | assumption)) (@pss_cons _ _ _ _ _ (@ps_set _ _ (9) _ _ _ _ sc_l_book.nd rfl (by first | exact Or.inl rfl | exact Or.inr rfl) (@pe_op _ _ _ _ _ _ _ _ o_mod (@pe_op _ _ _ _ _ _ _ _ o_div (dv 6) pe_int) pe_int) (by rfl) (by first | exact .inl rfl | exact .inr rfl | assumption)) (@ss_cutE _ _ _ _ _ (@s_if _ _ _ _ _ _ _ _ (@L2.PW.pt _ _ _ (@w_and _ _ _ _ _ _ _ (@t_cmp _ _ _ _ _ _ _ _ o_eq (dv 3) pe_int (@nomark _ _ (by decide) (by decide))) (@pw_and1 _ _ _ _ (@t_cmp _ _ _ _ _ _ _ _ o_ne (@pe_cmpR _ _ _ _ _ _ _ _ o_lt (dv 7) (dv 4) (@nomark _ _ (by decide) (by decide))) (@pe_cmpR _ _ _ _ _ _ _ _ o_lt (dv 8) (dv 4) (@nomark _ _ (by decide) (by decide))) (@nomark _ _ (by decide) (by decide)))))) (@pss_one _ _ _ (@ps_set _ _ (9) _ _ _ _ sc_l_book.nd rfl (by first | exact Or.inl rfl | exact Or.inr rfl) (@pe_op _ _ _ _ _ _ _ _ o_mul pe_int (@pe_callTy _ _ _ _ _ _ _ _ _ c_intB (by rfl) n_int (by decide +kernel) (@pa_cons _ _ _ _ _ (@pe_cmpR _ _ _ _ _ _ _ _ o_lt (dv 7) (dv 4) (@nomark _ _ (by decide) (by decide))) pa_nil (by rfl)) (by decide) (by decide) (by rfl) (by rfl))) (by rfl) (by first | exact .inl rfl | exact .inr rfl | assumption))) pss_nil) (@pss_one _ _ _ (@ps_expr _ _ _ _ (@pe_bm _ _ _ _ _ _ _ _ _ _ _ _ PySem.F.plainAttrs_list PySem.F.slot_list_append PySem.F.type_list_append mt_append (dv 5) (@pa_cons _ _ _ _ _ (@e_tup _ _ _ _ _ (@pa_cons _ _ _ _ _ (@pe_op _ _ _ _ _ _ _ _ o_mod (@pe_op _ _ _ _ _ _ _ _ o_div (dv 6) pe_int) pe_int) (@pa_cons _ _ _ _ _ (@pe_ix _ _ _ _ _ _ _ i_lst (dv 1) (dv 7) (fun _ _ => rfl)) (@pa_cons _ _ _ _ _ (@pe_ix _ _ _ _ _ _ _ i_lst (dv 1) (dv 8) (fun _ _ => rfl)) (@pa_cons _ _ _ _ _ (dv 9) (@pa_cons _ _ _ _ _ (@pe_op _ _ _ _ _ _ _ _ o_sub (@pe_op _ _ _ _ _ _ _ _ o_mod (@pe_op _ _ _ _ _ _ _ _ o_div (dv 6) pe_int) pe_int) pe_int) pa_nil (by rfl)) (by rfl)) (by rfl)) (by rfl)) (by rfl))) pa_nil (by rfl)) (by rfl) (by rfl) (by rfl) (by rfl) (by rfl)) (by rfl))))))) (by intro _; rfl)) (@pss_one _ _ _ (@ps_ret _ _ _ _ (dv 5)))))))), ?_⟩
      refine ⟨_, .inl (SqL.of hL), ?_⟩
      rw [List.length_map]
      have hm : (0 : Int) < nm.length := by omega
      have hm1 : (0 : Int) < nm.length - 1 := by omega
      refine ⟨fun σ Hx => ∃ kd : Int, σ = [some (.ref a), some (.ref L), some (.int (nm.length : Int)), some (.int kd), none, none, none, none, none, none] ∧ Hx = H, ⟨hS, by decide, fun c => ⟨⟨by decide, bd_lit rfl⟩, (by show (0 : Int) < 4; decide), _, rfl, rfl⟩⟩, ?_⟩
      rintro σ Hx ⟨kd, rfl, rfl⟩
      refine ⟨fun σ Hy => ∃ ct : Int, σ = [some (.ref a), some (.ref L), some (.int (nm.length : Int)), some (.int kd), some (.int ct), none, none, none, none, none] ∧ Hy = Hx ∧ 1 ≤ ct ∧ ct < nm.length, ⟨hS, by decide, fun c => ⟨hm1, 1 + c % (nm.length - 1), rfl, rfl, ?_, ?_⟩⟩, ?_⟩
      · have := Int.emod_nonneg c (show (nm.length : Int) - 1 ≠ 0 by omega)
        omega
      · have := Int.emod_lt_of_pos c hm1
        omega
      rintro σ Hy ⟨ct, rfl, rfl, ct1, ct2⟩
      refine ⟨nm, ⟨hL, ok, n2, n8', ct1, ct2⟩, fun D gs0 H1 s1 hD b1 bl0 hl0 => ?_⟩
      have hL1 := s1 _ _ hL
      refine ⟨_, rfl, _, rfl, _, s1.seq hS, fun M hM0 => ?_⟩
      have hM : (cutV (ns.map V.int) (some 4) (some 34)).length ≤ 30 := by
        unfold cutV
        rw [List.length_take]
        have : HT.sIx (ns.map V.int).length (ns.map V.int).length (some 34) - HT.sIx (ns.map V.int).length 0 (some 4) ≤ 30 := by
          unfold HT.sIx
          simp
          omega
        omega
      have hin : ∀ v ∈ cutV (ns.map V.int) (some 4) (some 34), ∃ c, v = .int c := fun v hv => by
        obtain ⟨c, _, e⟩ := List.mem_map.mp (mem_cutV hv)
        exact ⟨c, e.symm⟩
      generalize cutV (ns.map V.int) (some 4) (some 34) = cs at hM hin
      have s2 : Same H1 (upd H1 M (.lst cs)) := same_upd hM0
      have e2 : upd H1 M (.lst cs) M = some (.lst cs) := upd_same
      generalize upd H1 M (.lst cs) = H2 at s2 e2
      refine ⟨M, rfl, ⟨_, SqL.of e2⟩, for_list (K := K) (a := M) (xs := cs) (fun i σ Hz => ∃ (gs : List Gm) (o6 o7 o8 o9 : Option V), σ = [some (.ref a), some (.ref L), some (.int (nm.length : Int)), some (.int kd), some (.int ct), some (.ref D), o6, o7, o8, o9] ∧ Same Hy Hz ∧ Hz M = some (.lst cs) ∧ D ≠ M ∧ BkL Hz D gs ∧ BL nm gs ∧ gs.length = gs0.length + i)
        ⟨gs0, _, _, _, _, rfl, s1.trans s2, e2, ?_, ?_, bl0, rfl⟩ (fun i σ H' _ ⟨_, _, _, _, _, _, _, e, _⟩ => SqL.of e) ?_ ?_⟩
      · obtain ⟨vs, e1, _⟩ := b1
        intro e
        rw [e, hM0] at e1
        cases e1
      · obtain ⟨vs, e1, a1⟩ := b1
        exact ⟨vs, s2 _ _ e1, a1.imp fun v g r => gm_up v g _ _ (kt_of s2) r⟩
      · rintro i v σ H' hv ⟨gs, o6, o7, o8, o9, rfl, s3, e3, ne, ⟨vs, e1, a1⟩, bl, hl⟩
        obtain ⟨c, rfl⟩ := hin v (List.mem_of_getElem? hv)
        have hi : i < cs.length := (List.getElem?_eq_some_iff.mp hv).1
        have c0 := Int.emod_nonneg c (show (nm.length : Int) ≠ 0 by omega)
        have c1 := Int.emod_lt_of_pos c hm
        have r0 := Int.emod_nonneg (c / 8) (show (nm.length : Int) - 1 ≠ 0 by omega)
        have r1 := Int.emod_lt_of_pos (c / 8) hm1
        obtain ⟨z0, z1, z2⟩ := nxt_ne (a := c % nm.length) (d := 1 + c / 8 % (nm.length - 1)) (m := nm.length) c0 c1 (by omega) (by omega)
        rw [← Int.add_assoc] at z0 z1 z2
        obtain ⟨x, y, hx, hy, mx, my, nxy⟩ := nl_at ok (i := c % nm.length) (j := (c % nm.length + 1 + c / 8 % (nm.length - 1)) % nm.length) c0 c1 z0 z1 (Ne.symm z2)
        have hL' := s3 _ _ hL
        have h30 := Int.emod_nonneg (c / 64) (show (3 : Int) ≠ 0 by decide)
        have h31 := Int.emod_lt_of_pos (c / 64) (show (0 : Int) < 3 by decide)
        refine ⟨hm, ⟨by decide, bd_lit rfl⟩, hm1, hm, ⟨by decide, bd_lit rfl⟩, (by show (0 : Int) < 3; decide), ?_⟩
        refine ⟨fun σ Hz => ∃ hv : Int, σ = [some (.ref a), some (.ref L), some (.int (nm.length : Int)), some (.int kd), some (.int ct), some (.ref D), some (.int c), some (.int (c % nm.length)), some (.int ((c % nm.length + 1 + c / 8 % (nm.length - 1)) % nm.length)), some (.int hv)] ∧ Hz = H' ∧ 0 ≤ hv ∧ hv ≤ 2, ⟨fun h1 => ⟨fun h2 => ⟨.inr (.inl ⟨by decide, by decide⟩), _, rfl, rfl, ?_, ?_⟩, fun h2 => ⟨_, rfl, rfl, h30, by omega⟩⟩, fun h1 => ⟨fun h => nb h, fun _ => ⟨_, rfl, rfl, h30, by omega⟩⟩⟩, ?_⟩
        · split <;> decide
        · split <;> decide
        rintro σ Hz ⟨hv, rfl, rfl, hv0, hv2⟩
        refine ⟨.inl ⟨rfl, _, SqL.of e1⟩, ⟨by decide, bd_lit rfl⟩, (by show (0 : Int) < 10000; decide), _, _, SqL.of hL', hx, _, _, SqL.of hL', hy, ⟨by decide, bd_lit rfl⟩, (by show (0 : Int) < 3; decide), fun T H2 s2 e2 => ?_⟩
        obtain ⟨q1, q2, q3⟩ := more_game (g := ⟨c / 1000 % 10000, x, y, hv, c / 192 % 3 - 1⟩) hD s3 e1 a1 bl s2 e2 ⟨⟨mx, my⟩, nxy, hv0, hv2⟩
        refine ⟨D, vs, _, rfl, rfl, s2 _ _ e1, ?_, _, _, _, _, _, rfl, q1, by rw [upd_ne (Ne.symm ne)]; exact s2 _ _ e3, ne, q2, q3, ?_⟩
        · rw [a1.len, hl]
          exact Nat.lt_of_lt_of_le (show gs0.length + i < 100 by omega) (by decide)
        · rw [List.length_append, hl]
          rfl
      · rintro σ H' ⟨gs, o6, o7, o8, o9, rfl, s3, e3, ne, b3, bl, hl⟩
        exact q D gs H' s3 hD b3 bl (by omega)
theorem rch_trans {gs : List Gm} {n x y : Str} (h : Rch gs n x) (h' : Rch gs x y) : Rch gs n y := by
  induction h' with
  | here => exact h
  | step _ t ih => exact .step ih t
theorem mem_met {gs : List Gm} {n x : Str} : x ∈ (tld n gs).map (·.b) ↔ ∃ g ∈ gs, (g.a = n ∧ x = g.b) ∨ (g.a ≠ n ∧ g.b = n ∧ x = g.a) := by
  unfold tld
  rw [List.mem_map]
  constructor
  · rintro ⟨g', h, rfl⟩
    obtain ⟨g, h3, rfl⟩ := List.mem_map.mp h
    obtain ⟨h4, h5⟩ := List.mem_filter.mp h3
    refine ⟨g, h4, ?_⟩
    unfold toldG
    by_cases e : g.a = n
    · rw [if_pos e]
      exact .inl ⟨e, rfl⟩
    · rw [if_neg e]
      unfold isIn at h5
      have e' : g.b = n := by
        rcases Bool.or_eq_true _ _ |>.mp h5 with z | z
        · exact absurd (eq_of_beq z).symm e
        · exact (eq_of_beq z).symm
      exact .inr ⟨e, e', rfl⟩
  · rintro ⟨g, h, ⟨h1, rfl⟩ | ⟨h1, h2, rfl⟩⟩
    · refine ⟨g, List.mem_map.mpr ⟨g, List.mem_filter.mpr ⟨h, ?_⟩, if_pos h1⟩, rfl⟩
      unfold isIn
      rw [h1]
      simp
    · refine ⟨trn g, List.mem_map.mpr ⟨g, List.mem_filter.mpr ⟨h, ?_⟩, if_neg h1⟩, rfl⟩
      unfold isIn
      rw [h2]
      simp
theorem tk_met {nm : List Str} {gs : List Gm} (bl : BL nm gs) {x y : Str} (h : y ∈ tkr x gs) : x ∈ (tld y gs).map (·.b) := by
  obtain ⟨g, hg, ⟨h1, _, h3⟩ | ⟨h1, h2, _, h3⟩⟩ := mem_tkr.mp h
  · exact mem_met.mpr ⟨g, hg, .inr ⟨fun e => bl.ne g hg (by rw [e, h3]), h3.symm, h1.symm⟩⟩
  · exact mem_met.mpr ⟨g, hg, .inl ⟨h3.symm, h2.symm⟩⟩
theorem tk_plr {gs : List Gm} {x y : Str} (h : y ∈ tkr x gs) : y ∈ plr gs := by
  obtain ⟨g, hg, ⟨_, _, e⟩ | ⟨_, _, _, e⟩⟩ := mem_tkr.mp h
  · exact mem_plr.mpr ⟨g, hg, .inr e⟩
  · exact mem_plr.mpr ⟨g, hg, .inl e⟩
theorem rch_sym {nm : List Str} {gs : List Gm} (bl : BL nm gs) (good : ∀ m ∈ plr gs, ¬ bad gs m) {n x : Str} (h : Rch gs n x) : Rch gs x n := by
  induction h with
  | here => exact .here
  | step _ t ih =>
    rename_i x y _
    refine rch_trans (Classical.byContradiction fun no => good y (tk_plr t) ⟨x, tk_met bl t, no⟩) ih
theorem jfold {gs : List Gm} : ∀ (l : List Str) (ps : List (List Str)), (∀ q ∈ ps, q ∈ l.foldl (jstep gs) ps) ∧ (∀ n ∈ l, ∃ q ∈ l.foldl (jstep gs) ps, n ∈ q) ∧ ∀ q ∈ l.foldl (jstep gs) ps, q ∈ ps ∨ ∃ m ∈ l, q = abv gs m
  | [], ps => ⟨fun q h => h, fun n h => absurd h (by simp), fun q h => .inl h⟩
  | n :: l, ps => by
    obtain ⟨h1, h2, h3⟩ := jfold l (jstep gs ps n)
    rw [List.foldl_cons]
    have in1 : ∀ q ∈ ps, q ∈ jstep gs ps n := fun q hq => by
      unfold jstep
      split
      · exact hq
      · exact List.mem_append_left _ hq
    have in2 : ∃ q ∈ jstep gs ps n, n ∈ q := by
      unfold jstep
      split
      · rename_i c
        obtain ⟨q, hq, hn⟩ := List.any_eq_true.mp c
        exact ⟨q, hq, of_decide_eq_true hn⟩
      · exact ⟨abv gs n, List.mem_append_right _ (List.mem_singleton.mpr rfl), mem_abv.mpr .here⟩
    refine ⟨fun q hq => h1 q (in1 q hq), fun x hx => ?_, fun q hq => ?_⟩
    · rcases List.mem_cons.mp hx with rfl | hx
      · obtain ⟨q, hq, hn⟩ := in2
        exact ⟨q, h1 q hq, hn⟩
      · exact h2 x hx
    · rcases h3 q hq with h | ⟨m, hm, e⟩
      · unfold jstep at h
        split at h
        · exact .inl h
        · rcases List.mem_append.mp h with h | h
          · exact .inl h
          · exact .inr ⟨n, List.mem_cons_self .., List.mem_singleton.mp h⟩
      · exact .inr ⟨m, List.mem_cons_of_mem _ hm, e⟩
theorem jn_all (gs : List Gm) : jnI gs (plr gs).length = (plr gs).foldl (jstep gs) [] := by
  unfold jnI
  rw [List.take_length]
theorem one_all {nm : List Str} {gs : List Gm} (bl : BL nm gs) (good : ∀ m ∈ plr gs, ¬ bad gs m) {p : List Str} (h : jnI gs (plr gs).length = [p]) : (∃ m ∈ plr gs, p = abv gs m) ∧ ∀ x ∈ plr gs, ∀ y ∈ plr gs, Rch gs x y := by
  rw [jn_all] at h
  obtain ⟨_, h2, h3⟩ := jfold (gs := gs) (plr gs) []
  rw [h] at h2 h3
  obtain ⟨m, hm, e⟩ : ∃ m ∈ plr gs, p = abv gs m := by
    rcases h3 p (List.mem_singleton.mpr rfl) with z | z
    · cases z
    · exact z
  have al : ∀ x ∈ plr gs, Rch gs m x := fun x hx => by
    obtain ⟨q, hq, hx'⟩ := h2 x hx
    rw [List.mem_singleton.mp hq, e] at hx'
    exact mem_abv.mp hx'
  exact ⟨⟨m, hm, e⟩, fun x hx y hy => rch_trans (rch_sym bl good (al x hx)) (al y hy)⟩
structure Mr (gs more : List Gm) (g : Gm) : Prop where
  mem : ∀ x, x ∈ more ↔ x ∈ gs ∨ x = g
  pa : g.a ∈ plr gs
  pb : g.b ∈ plr gs
  ne : g.a ≠ g.b
  h1 : 1 ≤ g.h
  h2 : g.h ≤ 2
section
variable {gs more : List Gm} {g : Gm} (M : Mr gs more g)
include M
end
theorem N8.sok {x : Str} (h : N8 x) : PyData.strOk x = true := ok_of h.lt
theorem all2_str : ∀ l : List Str, All2 (fun v m => v = V.str m) (l.map V.str) l
  | [] => .nil
  | _ :: l => .cons rfl (all2_str l)
theorem all2_ystr : ∀ {l : List Str} {ys : List V}, All2 (fun m y => y = V.str m) l ys → ys = l.map V.str
  | _, _, .nil => rfl
  | _, _, .cons h t => by rw [h, all2_ystr t]; rfl
theorem atI_last {α : Type} {xs : List α} {v : α} (h : xs.getLast? = some v) : atI xs (-1) = some v := by
  have h0 : xs ≠ [] := fun e => by simp [e] at h
  have hl : 0 < xs.length := List.length_pos_iff.mpr h0
  unfold atI ixN
  rw [if_neg (by decide), if_pos (by omega)]
  show xs[(xs.length + (-1 : Int)).toNat]? = some v
  rw [show (xs.length + (-1 : Int)).toNat = xs.length - 1 by omega, ← h, List.getLast?_eq_getElem?]
def Crs (held : List Str) (g : Gm) : Prop := (g.a ∈ held ∧ g.b ∉ held) ∨ (g.b ∈ held ∧ g.a ∉ held)
def Shut (held : List Str) (gs : List Gm) : Prop := ∀ g ∈ gs, (g.a ∈ held → g.b ∉ held → g.h = 2) ∧ (g.b ∈ held → g.a ∉ held → g.h = 0)
theorem abv_shut {nm : List Str} {gs : List Gm} (bl : BL nm gs) (n : Str) : Shut (abv gs n) gs := fun g hg => by
  have h := bl.h0 g hg
  refine ⟨fun ha hb => ?_, fun hb ha => ?_⟩
  · refine Int.le_antisymm h.2 (Int.not_lt.mp fun c => hb (mem_abv.mpr (.step (mem_abv.mp ha) (mem_tkr.mpr ⟨g, hg, .inl ⟨rfl, by omega, rfl⟩⟩))))
  · refine Int.le_antisymm (Int.not_lt.mp fun c => ha (mem_abv.mpr (.step (mem_abv.mp hb) (mem_tkr.mpr ⟨g, hg, .inr ⟨bl.ne g hg, rfl, c, rfl⟩⟩)))) h.1
theorem abv_crs {gs : List Gm} {n : Str} (hb : bad gs n) : ∃ g ∈ gs, Crs (abv gs n) g := by
  obtain ⟨x, hx, nr⟩ := hb
  have hn : n ∈ abv gs n := mem_abv.mpr .here
  have hx' : x ∉ abv gs n := fun c => nr (mem_abv.mp c)
  obtain ⟨g, hg, ⟨e1, e2⟩ | ⟨_, e1, e2⟩⟩ := mem_met.mp hx
  · exact ⟨g, hg, .inl ⟨e1 ▸ hn, e2 ▸ hx'⟩⟩
  · exact ⟨g, hg, .inr ⟨e1 ▸ hn, e2 ▸ hx'⟩⟩
theorem sh_both {T B W m y h : Int} (e : m + y = W) : 2 * W * (2 * W * T + B * (2 * m - h * W)) + 2 * W * B * (2 * y - (2 - h) * W) = 2 * W * (2 * W) * T := by
  subst e
  grind
def WkD (H : Hp) (D : Addr) (nm : List Str) : Prop := ∃ kvs, H D = some (.dK kvs) ∧ ∀ y ∈ nm, ∃ w : Int, valV kvs (Sum.inr y) = some (.int w) ∧ 1 ≤ w ∧ w ≤ 1000000
theorem WkD.up {H H' : Hp} {D : Addr} {nm : List Str} (s : Same H H') (h : WkD H D nm) : WkD H' D nm := by
  obtain ⟨kvs, e, f⟩ := h
  exact ⟨kvs, s _ _ e, f⟩
theorem put_len (kvs : List (Key × V)) (k : Key) (v : V) : (putK kvs k v).length ≤ kvs.length + 1 := by
  unfold putK
  split
  · rw [List.length_map]
    omega
  · rw [List.length_append]
    exact Nat.le_refl _
def sp_l_worths (K : PySem.W.Frag) (ns : List Int) : Sp := fun vs H Q _ => match vs with
  | [.ref a, .ref L] => ∃ nm, (SqL K H a (ns.map V.int) ∧ SqL K H L (nm.map V.str) ∧ nm.length ≤ 8) ∧ ∀ D H', Same H H' → H D = none → WkD H' D nm → Q (.ref D) H'
  | _ => False
theorem sc_l_worths : FnScope ["_law_script", "_law_names_here", "_law_worths_here", "_law_k", "_law_cell"] ["_law_script", "_law_names_here"] (defScope s_l_worths) := ⟨rfl, rfl, rfl, by decide +kernel, rfl, by decide +kernel, by decide +kernel⟩
theorem ok_l_worths (d : Dfn K mg "_law_worths" s_l_worths ["_law_script", "_law_names_here"]) (er : Errs K mg c_NoPlayer) (n_range : mg "range" = none) (n_len : mg "len" = none)  (c_l_cell_at : Cal P w K mg base "_law_cell_at" ["_law_script", "_law_k"] 1 (sp_l_cell_at K ns)) : Cal P w K mg base "_law_worths" ["_law_script", "_law_names_here"] 2 (sp_l_worths K ns) := by
  refine d.cal (k := 1) sc_l_worths (fun vs H Q E h => ?_) (fun f cdv A outer s H vs Q E hr h => ?_)
  · match vs, h with
    | [.ref a, .ref L], _ => rfl
  · match vs, h with
    | [.ref a, .ref L], ⟨nm, ⟨hS, hL, l8⟩, k⟩ =>
      refine ⟨_, (@pss_cons _ _ _ _ _ (@ps_set _ _ (2) _ _ _ _ sc_l_worths.nd rfl (by first | exact Or.inl rfl | exact Or.inr rfl) pe_dnewK (by rfl) (by first | exact .inl rfl | exact .inr rfl | assumption)) (@pss_cons _ _ _ _ _ (@ps_for _ _ _ _ _ _ _ _ PassesOwn.never rfl (@pi_range1 _ _ _ _ _ _ (by rfl) n_range (@pa_cons _ _ _ _ _ (@pe_callB _ _ _ _ _ _ _ _ _ c_len (by rfl) n_len (by decide +kernel) (@pa_cons _ _ _ _ _ (dv 1) pa_nil (by rfl)) (by decide) (by decide) (by rfl) (by rfl)) pa_nil (by rfl)) (by rfl)) (@pg_name _ _ (3) _ sc_l_worths.nd rfl (by first | exact Or.inl rfl | exact Or.inr rfl) (by first | exact .inl rfl | exact .inr rfl | assumption)) (@pss_cons _ _ _ _ _ (@ps_set _ _ (4) _ _ _ _ sc_l_worths.nd rfl (by first | exact Or.inl rfl | exact Or.inr rfl) (@e_call _ _ _ _ _ _ _ _ _ _ _ c_l_cell_at hr (by decide) (by rfl) (@pa_cons _ _ _ _ _ (dv 0) (@pa_cons _ _ _ _ _ (@pe_op _ _ _ _ _ _ _ _ o_add pe_int (dv 3)) pa_nil (by rfl)) (by rfl)) (by decide) (by rfl) (by rfl)) (by rfl) (by first | exact .inl rfl | exact .inr rfl | assumption)) (@pss_one _ _ _ (@ps_dput _ _ _ _ _ _ _ _ _ (@u1 _ _ hr.units) (dv 2) (@pe_ix _ _ _ _ _ _ _ i_lst (dv 1) (dv 3) (fun _ _ => rfl)) (@pe_op _ _ _ _ _ _ _ _ o_add pe_int (@pe_op _ _ _ _ _ _ _ _ o_mod (@pe_op _ _ _ _ _ _ _ _ o_div (dv 4) pe_int) (@pe_ix _ _ _ _ _ _ _ i_lst (@e_lst _ _ _ _ (@pa_cons _ _ _ _ _ pe_int (@pa_cons _ _ _ _ _ (@pe_op _ _ _ _ _ _ _ _ o_pow pe_int pe_int) pa_nil (by rfl)) (by rfl))) (@pe_op _ _ _ _ _ _ _ _ o_mod (dv 4) pe_int) (fun _ _ => rfl)))) rfl))) (by intro _; rfl)) (@pss_one _ _ _ (@ps_ret _ _ _ _ (dv 2))))), ?_⟩
      refine fun D hD => ?_
      have sD : Same H (upd H D (.dK [])) := same_upd hD
      have eD : upd H D (.dK []) D = some (.dK []) := upd_same
      generalize upd H D (.dK []) = H0 at sD eD
      refine ⟨_, .inl (sD.seq hL), ?_⟩
      rw [List.length_map]
      refine ⟨_, rfl, by omega, by omega, for_range (lo := 0) (n := nm.length) (fun i σ H' => ∃ (kvs : List (Key × V)) (o3 o4 : Option V), σ = [some (.ref a), some (.ref L), some (.ref D), o3, o4] ∧ Same H H' ∧ H' D = some (.dK kvs) ∧ kvs.length ≤ i ∧ ∀ (j : Nat) y, j < i → nm[j]? = some y → ∃ w : Int, valV kvs (Sum.inr y) = some (.int w) ∧ 1 ≤ w ∧ w ≤ 1000000) ⟨[], none, none, rfl, sD, eD, Nat.le_refl _, fun j y h => absurd h (by omega)⟩ ?_ ?_⟩
      rotate_left
      · rintro σ H1 ⟨kvs, o3, o4, rfl, s1, e1, _, h1⟩
        refine k D H1 s1 hD ⟨kvs, e1, fun y hy => ?_⟩
        obtain ⟨j, hj, rfl⟩ := List.getElem_of_mem hy
        exact h1 j _ hj (List.getElem?_eq_getElem hj)
      rintro i σ H1 hi ⟨kvs, o3, o4, rfl, s1, e1, lk, h1⟩
      refine ⟨s1.seq hS, by omega, fun c => ?_⟩
      have hy := List.getElem?_eq_getElem hi
      obtain ⟨y, ey⟩ : ∃ y, y = nm[i] := ⟨_, rfl⟩
      rw [← ey] at hy
      have hat : atI (nm.map V.str) (0 + (i : Int)) = some (.str y) := by
        rw [Int.zero_add]
        refine atI_nat ?_
        rw [List.getElem?_map, hy]
        rfl
      obtain ⟨u, hu, u0, u1⟩ : ∃ u : Int, atI [V.int 999, V.int (10 ^ Int.toNat 6)] (c % 2) = some (.int u) ∧ 0 < u ∧ u ≤ 1000000 := by
        have : c % 2 = 0 ∨ c % 2 = 1 := by omega
        rcases this with e | e <;> rw [e]
        · exact ⟨_, rfl, by decide, by decide⟩
        · exact ⟨_, rfl, by decide, by decide⟩
      refine ⟨⟨by decide, bd_lit rfl⟩, ⟨by decide, by decide, by decide⟩, fun L1 H2 s2 e2 => ⟨(by show (0 : Int) < 2; decide), _, _, SqL.of e2, hu, u0, _, _, (s1.trans s2).seq hL, hat, D, _, rfl, DPut.k (k := Sum.inr y) (s2 _ _ e1) (Nat.lt_of_le_of_lt (show kvs.length ≤ 10 by omega) (by decide)), ?_⟩⟩
      have z0 := Int.emod_nonneg (c / 2) (show u ≠ 0 by omega)
      have z1 := Int.emod_lt_of_pos (c / 2) u0
      refine ⟨_, _, _, rfl, same_app' (s1.trans s2) hD, upd_same, Nat.le_trans (put_len _ _ _) (by omega), fun j y' hj hy' => ?_⟩
      rw [valV_put]
      by_cases ee : (Sum.inr y' : Key) = Sum.inr y
      · rw [if_pos ee]
        exact ⟨_, rfl, by omega, by omega⟩
      · rw [if_neg ee]
        refine h1 j y' ?_ hy'
        have : j ≠ i := fun z => by
          subst z
          rw [hy] at hy'
          cases hy'
          exact ee rfl
        omega
def sp_l_short (K : PySem.W.Frag) (ns : List Int) : Sp := fun vs H Q _ => match vs with
  | [.ref G, .ref S, .ref D, .ref E] => ∃ (gs : List Gm) (nm held : List Str) (z : Q2), (Bk K H G gs ∧ BL nm gs ∧ gs.length ≤ 50 ∧ SqL K H S (held.map V.str) ∧ WkD H D nm) ∧ (H E = some (.tup [.int z.1, .int z.2]) ∧ (1 ≤ z.1 ∧ z.1 ≤ 9) ∧ 1 ≤ z.2 ∧ z.2 ≤ 9) ∧ (Shut held gs ∧ ∃ g ∈ gs, Crs held g) ∧ ∀ H', Same H H' → Q (.bl true) H'
  | _ => False
theorem sc_l_short : FnScope ["_law_games", "_law_held", "_law_worths_here", "_law_edge", "_law_top", "_law_bottom", "_law_day", "_law_one", "_law_other", "_law_halves", "_law_side", "_law_mine", "_law_yours", "_law_whole"] ["_law_games", "_law_held", "_law_worths_here", "_law_edge"] (defScope s_l_short) := ⟨rfl, rfl, rfl, by decide +kernel, rfl, by decide +kernel, by decide +kernel⟩
theorem ok_l_short (d : Dfn K mg "_law_short" s_l_short ["_law_games", "_law_held", "_law_worths_here", "_law_edge"]) (er : Errs K mg c_NoPlayer)    : Cal P w K mg base "_law_short" ["_law_games", "_law_held", "_law_worths_here", "_law_edge"] 1 (sp_l_short K ns) := by
  refine d.cal (k := 0) sc_l_short (fun vs H Q E h => ?_) (fun f cdv A outer s H vs Q E hr h => ?_)
  · match vs, h with
    | [.ref G, .ref S, .ref D, .ref E], _ => rfl
  · match vs, h with
    | [.ref G, .ref S, .ref D, .ref E], ⟨gs, nm, held, z, ⟨⟨gv, hg, hgm, hgl⟩, bl, l50, hS, ⟨kvs, eD, hD⟩⟩, ⟨eE, z1, z2⟩, ⟨sh, cr⟩, k⟩ =>
      refine ⟨_, (@pss_cons _ _ _ _ _ (@ps_set _ _ (4) _ _ _ _ sc_l_short.nd rfl (by first | exact Or.inl rfl | exact Or.inr rfl) pe_int (by rfl) (by first | exact .inl rfl | exact .inr rfl | assumption)) (@pss_cons _ _ _ _ _ (@ps_set _ _ (5) _ _ _ _ sc_l_short.nd rfl (by first | exact Or.inl rfl | exact Or.inr rfl) pe_int (by rfl) (by first | exact .inl rfl | exact .inr rfl | assumption)) (@pss_cons _ _ _ _ _ (@ps_for _ _ _ _ _ _ _ _ PassesOwn.never rfl (@pi_list _ _ _ _ (dv 0)) (@pg_tup _ _ _ _ _ _ rfl (@pgs_cons _ _ _ _ _ (@pg_name _ _ (6) _ sc_l_short.nd rfl (by first | exact Or.inl rfl | exact Or.inr rfl) (by first | exact .inl rfl | exact .inr rfl | assumption)) (@pgs_cons _ _ _ _ _ (@pg_name _ _ (7) _ sc_l_short.nd rfl (by first | exact Or.inl rfl | exact Or.inr rfl) (by first | exact .inl rfl | exact .inr rfl | assumption)) (@pgs_cons _ _ _ _ _ (@pg_name _ _ (8) _ sc_l_short.nd rfl (by first | exact Or.inl rfl | exact Or.inr rfl) (by first | exact .inl rfl | exact .inr rfl | assumption)) (@pgs_cons _ _ _ _ _ (@pg_name _ _ (9) _ sc_l_short.nd rfl (by first | exact Or.inl rfl | exact Or.inr rfl) (by first | exact .inl rfl | exact .inr rfl | assumption)) (@pgs_cons _ _ _ _ _ (@pg_name _ _ (10) _ sc_l_short.nd rfl (by first | exact Or.inl rfl | exact Or.inr rfl) (by first | exact .inl rfl | exact .inr rfl | assumption)) pgs_nil (by rfl)) (by rfl)) (by rfl)) (by rfl)) (by rfl)) (by rfl) (by rfl)) (@pss_cons _ _ _ _ _ (@ps_set _ _ (11) _ _ _ _ sc_l_short.nd rfl (by first | exact Or.inl rfl | exact Or.inr rfl) (@pe_op _ _ _ _ _ _ _ _ o_mul (@pe_dget _ _ _ _ _ _ (@u1 _ _ hr.units) (dv 2) (dv 7) (fun _ _ => rfl)) (@pe_ix _ _ _ _ _ _ _ i_tup (dv 3) pe_int (fun _ _ => rfl))) (by rfl) (by first | exact .inl rfl | exact .inr rfl | assumption)) (@ss_cutE _ _ _ _ _ (@ps_set _ _ (12) _ _ _ _ sc_l_short.nd rfl (by first | exact Or.inl rfl | exact Or.inr rfl) (@pe_op _ _ _ _ _ _ _ _ o_mul (@pe_dget _ _ _ _ _ _ (@u1 _ _ hr.units) (dv 2) (dv 8) (fun _ _ => rfl)) (@pe_ix _ _ _ _ _ _ _ i_tup (dv 3) pe_int (fun _ _ => rfl))) (by rfl) (by first | exact .inl rfl | exact .inr rfl | assumption)) (@ss_cutE _ _ _ _ _ (@s_if _ _ _ _ _ _ _ _ (@t_cmp _ _ _ _ _ _ _ _ o_eq (dv 10) pe_int (@nomark _ _ (by decide) (by decide))) (@pss_one _ _ _ (@ps_set _ _ (11) _ _ _ _ sc_l_short.nd rfl (by first | exact Or.inl rfl | exact Or.inr rfl) (@pe_op _ _ _ _ _ _ _ _ o_mul (@pe_dget _ _ _ _ _ _ (@u1 _ _ hr.units) (dv 2) (dv 7) (fun _ _ => rfl)) (@pe_ix _ _ _ _ _ _ _ i_tup (dv 3) pe_int (fun _ _ => rfl))) (by rfl) (by first | exact .inl rfl | exact .inr rfl | assumption))) pss_nil) (@ss_cutE _ _ _ _ _ (@s_if _ _ _ _ _ _ _ _ (@t_cmp _ _ _ _ _ _ _ _ o_eq (dv 10) (@pe_un _ _ _ _ _ _ u_neg pe_int) (@nomark _ _ (by decide) (by decide))) (@pss_one _ _ _ (@ps_set _ _ (12) _ _ _ _ sc_l_short.nd rfl (by first | exact Or.inl rfl | exact Or.inr rfl) (@pe_op _ _ _ _ _ _ _ _ o_mul (@pe_dget _ _ _ _ _ _ (@u1 _ _ hr.units) (dv 2) (dv 8) (fun _ _ => rfl)) (@pe_ix _ _ _ _ _ _ _ i_tup (dv 3) pe_int (fun _ _ => rfl))) (by rfl) (by first | exact .inl rfl | exact .inr rfl | assumption))) pss_nil) (@ss_cutE _ _ _ _ _ (@ps_set _ _ (13) _ _ _ _ sc_l_short.nd rfl (by first | exact Or.inl rfl | exact Or.inr rfl) (@pe_op _ _ _ _ _ _ _ _ o_add (dv 11) (dv 12)) (by rfl) (by first | exact .inl rfl | exact .inr rfl | assumption)) (@ss_cutE _ _ _ _ _ (@s_if _ _ _ _ _ _ _ _ (@t_cmp _ _ _ _ _ _ _ _ (show OpR _ _ (dInS K) from o_in) (dv 7) (dv 1) (by with_unfolding_all rfl)) (@pss_cons _ _ _ _ _ (@ps_set _ _ (4) _ _ _ _ sc_l_short.nd rfl (by first | exact Or.inl rfl | exact Or.inr rfl) (@pe_op _ _ _ _ _ _ _ _ o_add (@pe_op _ _ _ _ _ _ _ _ o_mul (@pe_op _ _ _ _ _ _ _ _ o_mul pe_int (dv 13)) (dv 4)) (@pe_op _ _ _ _ _ _ _ _ o_mul (dv 5) (@pe_op _ _ _ _ _ _ _ _ o_sub (@pe_op _ _ _ _ _ _ _ _ o_mul pe_int (dv 11)) (@pe_op _ _ _ _ _ _ _ _ o_mul (dv 9) (dv 13))))) (by rfl) (by first | exact .inl rfl | exact .inr rfl | assumption)) (@pss_one _ _ _ (@ps_set _ _ (5) _ _ _ _ sc_l_short.nd rfl (by first | exact Or.inl rfl | exact Or.inr rfl) (@pe_op _ _ _ _ _ _ _ _ o_mul (@pe_op _ _ _ _ _ _ _ _ o_mul pe_int (dv 13)) (dv 5)) (by rfl) (by first | exact .inl rfl | exact .inr rfl | assumption)))) pss_nil) (@pss_one _ _ _ (@s_if _ _ _ _ _ _ _ _ (@t_cmp _ _ _ _ _ _ _ _ (show OpR _ _ (dInS K) from o_in) (dv 8) (dv 1) (by with_unfolding_all rfl)) (@pss_cons _ _ _ _ _ (@ps_set _ _ (4) _ _ _ _ sc_l_short.nd rfl (by first | exact Or.inl rfl | exact Or.inr rfl) (@pe_op _ _ _ _ _ _ _ _ o_add (@pe_op _ _ _ _ _ _ _ _ o_mul (@pe_op _ _ _ _ _ _ _ _ o_mul pe_int (dv 13)) (dv 4)) (@pe_op _ _ _ _ _ _ _ _ o_mul (dv 5) (@pe_op _ _ _ _ _ _ _ _ o_sub (@pe_op _ _ _ _ _ _ _ _ o_mul pe_int (dv 12)) (@pe_op _ _ _ _ _ _ _ _ o_mul (@pe_op _ _ _ _ _ _ _ _ o_sub pe_int (dv 9)) (dv 13))))) (by rfl) (by first | exact .inl rfl | exact .inr rfl | assumption)) (@pss_one _ _ _ (@ps_set _ _ (5) _ _ _ _ sc_l_short.nd rfl (by first | exact Or.inl rfl | exact Or.inr rfl) (@pe_op _ _ _ _ _ _ _ _ o_mul (@pe_op _ _ _ _ _ _ _ _ o_mul pe_int (dv 13)) (dv 5)) (by rfl) (by first | exact .inl rfl | exact .inr rfl | assumption)))) pss_nil)))))))) (by intro _; rfl)) (@pss_one _ _ _ (@ps_ret _ _ _ _ (@pe_cmpR _ _ _ _ _ _ _ _ o_lt (dv 4) pe_int (@nomark _ _ (by decide) (by decide)))))))), ?_⟩
      refine ⟨G, rfl, ⟨_, hg⟩, for_list (K := K) (a := G) (xs := gv) (fun i σ H' => ∃ (T B : Int) (o6 o7 o8 o9 o10 o11 o12 o13 : Option V), σ = [some (.ref G), some (.ref S), some (.ref D), some (.ref E), some (.int T), some (.int B), o6, o7, o8, o9, o10, o11, o12, o13] ∧ H' = H ∧ (Bd (64 * i + 1) T ∧ Bd (64 * i + 1) B) ∧ 0 < B ∧ T ≤ 0 ∧ ((∃ g ∈ gs.take i, Crs held g) → T < 0))
        ⟨0, 1, _, _, _, _, _, _, _, _, rfl, rfl, ⟨(bd_lit rfl : Bd 1 0).mono (by omega), (bd_lit rfl : Bd 1 1).mono (by omega)⟩, by decide, by decide, fun ⟨g, h, _⟩ => absurd h (by simp)⟩ (fun i σ H' _ ⟨_, _, _, _, _, _, _, _, _, _, _, e, _⟩ => e ▸ hg) ?_ ?_⟩
      rotate_left
      · rintro σ H2 ⟨T, B, o6, o7, o8, o9, o10, o11, o12, o13, rfl, rfl, _, _, _, c⟩
        have el : gs.take gv.length = gs := by rw [hgm.len]; exact List.take_length
        rw [el] at c
        exact (congrArg (fun b => Q (.bl b) H2) (decide_eq_true (c cr))).mpr (k H2 (Same.refl _))
      rintro i v σ H2 hv ⟨T, B, o6, o7, o8, o9, o10, o11, o12, o13, rfl, rfl, ⟨b1, b2⟩, B0, T0, cT⟩
      obtain ⟨g, eg, p, rfl, ep⟩ := hgm.get hv
      have hi : i < gs.length := (List.getElem?_eq_some_iff.mp eg).1
      have hgi := List.mem_of_getElem? eg
      obtain ⟨wa, va, a1, a2⟩ := hD g.a (bl.mem g hgi).1
      obtain ⟨wb, vb, c1, c2⟩ := hD g.b (bl.mem g hgi).2
      have ga : DGet H2 D (.str g.a) (some (.int wa)) := va ▸ DGet.k (k := Sum.inr g.a) eD
      have gb : DGet H2 D (.str g.b) (some (.int wb)) := vb ▸ DGet.k (k := Sum.inr g.b) eD
      have pm : ∀ {w c : Int}, 1 ≤ w → w ≤ 1000000 → 1 ≤ c → c ≤ 9 → 1 ≤ w * c ∧ w * c ≤ 9000000 := fun {w c} h1 h2 h3 h4 => by
        have e1 := Int.mul_le_mul_of_nonneg_left h3 (show 0 ≤ w by omega)
        have e2 := Int.mul_le_mul_of_nonneg_left h4 (show 0 ≤ w by omega)
        omega
      have bw : ∀ {w : Int}, 1 ≤ w → w ≤ 1000000 → Bd 24 w := fun a b => bd_of (b := 1000000) (by omega) (by omega) (bd_lit rfl)
      have bz : ∀ {w : Int}, 1 ≤ w → w ≤ 9 → Bd 4 w := fun a b => bd_of (b := 9) (by omega) (by omega) (bd_lit rfl)
      have hh := bl.h0 g hgi
      refine ⟨p, _, rfl, SqT.of ep, rfl, _, _, rfl, _, _, rfl, _, _, rfl, _, _, rfl, _, _, rfl, rfl, ?_⟩
      refine ⟨D, _, rfl, ga, _, eE, cok (bw a1 a2) (bz z2.1 z2.2) (by decide) (by decide), ?_⟩
      refine ⟨fun σ H' => ∃ m y : Int, σ = [some (.ref G), some (.ref S), some (.ref D), some (.ref E), some (.int T), some (.int B), some (.int g.d), some (.str g.a), some (.str g.b), some (.int g.h), some (.int g.s), some (.int m), some (.int y), o13] ∧ H' = H2 ∧ (1 ≤ m ∧ m ≤ 9000000) ∧ 1 ≤ y ∧ y ≤ 9000000, ⟨D, _, rfl, gb, _, eE, cok (bw c1 c2) (bz z2.1 z2.2) (by decide) (by decide), _, _, rfl, rfl, pm a1 a2 z2.1 z2.2, pm c1 c2 z2.1 z2.2⟩, ?_⟩
      rintro σ H3 ⟨m, y, rfl, rfl, hm, hy⟩
      refine ⟨fun σ H' => ∃ m y : Int, σ = [some (.ref G), some (.ref S), some (.ref D), some (.ref E), some (.int T), some (.int B), some (.int g.d), some (.str g.a), some (.str g.b), some (.int g.h), some (.int g.s), some (.int m), some (.int y), o13] ∧ H' = H3 ∧ (1 ≤ m ∧ m ≤ 9000000) ∧ 1 ≤ y ∧ y ≤ 9000000, ⟨fun _ => ⟨D, _, rfl, ga, _, eE, cok (bw a1 a2) (bz z1.1 z1.2) (by decide) (by decide), _, _, rfl, rfl, pm a1 a2 z1.1 z1.2, hy⟩, fun _ => ⟨m, y, rfl, rfl, hm, hy⟩⟩, ?_⟩
      clear hm hy
      rintro σ H4 ⟨m, y, rfl, rfl, hm, hy⟩
      refine ⟨fun σ H' => ∃ m y : Int, σ = [some (.ref G), some (.ref S), some (.ref D), some (.ref E), some (.int T), some (.int B), some (.int g.d), some (.str g.a), some (.str g.b), some (.int g.h), some (.int g.s), some (.int m), some (.int y), o13] ∧ H' = H4 ∧ (1 ≤ m ∧ m ≤ 9000000) ∧ 1 ≤ y ∧ y ≤ 9000000, ⟨fun _ => ⟨D, _, rfl, gb, _, eE, cok (bw c1 c2) (bz z1.1 z1.2) (by decide) (by decide), _, _, rfl, rfl, hm, pm c1 c2 z1.1 z1.2⟩, fun _ => ⟨m, y, rfl, rfl, hm, hy⟩⟩, ?_⟩
      clear hm hy
      rintro σ H5 ⟨m, y, rfl, rfl, hm, hy⟩
      refine ⟨fun σ H' => ∃ W : Int, σ = [some (.ref G), some (.ref S), some (.ref D), some (.ref E), some (.int T), some (.int B), some (.int g.d), some (.str g.a), some (.str g.b), some (.int g.h), some (.int g.s), some (.int m), some (.int y), some (.int W)] ∧ H' = H5 ∧ m + y = W, ⟨_, rfl, rfl, rfl⟩, ?_⟩
      rintro σ H6 ⟨W, rfl, rfl, eW⟩
      have bW : Bd 25 W := bd_of (b := 18000000) (by omega) (by omega) (bd_lit rfl)
      have bm : Bd 25 m := bd_of (b := 9000000) (by omega) (by omega) (bd_lit rfl)
      have by' : Bd 25 y := bd_of (b := 9000000) (by omega) (by omega) (bd_lit rfl)
      have two : Bd 2 2 := bd_lit rfl
      have bh : Bd 2 g.h := bd_of (b := 2) (by omega) (by omega) (bd_lit rfl)
      have bh' : Bd 2 (2 - g.h) := bd_of (b := 2) (by omega) (by omega) (bd_lit rfl)
      have b2W : Bd 27 (2 * W) := two.mul bW
      have bg1 : Bd 28 (2 * m - g.h * W) := (Bd.sub ((two.mul bm).mono (show 2 + 25 ≤ 27 by decide)) ((bh.mul bW).mono (show 2 + 25 ≤ 27 by decide))).mono (by decide)
      have bg2 : Bd 28 (2 * y - (2 - g.h) * W) := (Bd.sub ((two.mul by').mono (show 2 + 25 ≤ 27 by decide)) ((bh'.mul bW).mono (show 2 + 25 ≤ 27 by decide))).mono (by decide)
      have W0 : 0 < 2 * W := by omega
      refine ⟨fun σ H' => ∃ T1 B1 : Int, σ = [some (.ref G), some (.ref S), some (.ref D), some (.ref E), some (.int T1), some (.int B1), some (.int g.d), some (.str g.a), some (.str g.b), some (.int g.h), some (.int g.s), some (.int m), some (.int y), some (.int W)] ∧ H' = H6 ∧ (Bd (64 * i + 31) T1 ∧ Bd (64 * i + 31) B1) ∧ ((g.a ∈ held ∧ T1 = 2 * W * T + B * (2 * m - g.h * W) ∧ B1 = 2 * W * B) ∨ (g.a ∉ held ∧ T1 = T ∧ B1 = B)), ?_, ?_⟩
      · refine ⟨_, .inl hS, rfl, flat_strs _, ?_⟩
        rw [in_strs]
        refine ⟨fun h => ⟨cok two bW (by decide) (by decide), cok b2W b1 (by decide) (by omega), cok two bm (by decide) (by decide), cok bh bW (by decide) (by decide), cok b2 bg1 (by omega) (by decide), cok two bW (by decide) (by decide), cok b2W b2 (by decide) (by omega), _, _, rfl, rfl, ⟨?_, (b2W.mul b2).mono (by omega)⟩, .inl ⟨of_decide_eq_true h, rfl, rfl⟩⟩, fun h => ⟨T, B, rfl, rfl, ⟨b1.mono (by omega), b2.mono (by omega)⟩, .inr ⟨of_decide_eq_false h, rfl, rfl⟩⟩⟩
        exact (Bd.add ((b2W.mul b1).mono (show 27 + (64 * i + 1) ≤ 64 * i + 29 by omega)) ((b2.mul bg1).mono (show 64 * i + 1 + 28 ≤ 64 * i + 29 by omega))).mono (by omega)
      rintro σ H7 ⟨T1, B1, rfl, rfl, ⟨d1, d2⟩, o1⟩
      refine ⟨_, .inl hS, rfl, flat_strs _, ?_⟩
      rw [in_strs]
      have tk : gs.take (i + 1) = gs.take i ++ [g] := by rw [List.take_add_one, eg]; rfl
      have nxt : ∀ {T2 B2 : Int}, Bd (64 * (i + 1) + 1) T2 → Bd (64 * (i + 1) + 1) B2 → 0 < B2 → T2 ≤ 0 → (Crs held g → T2 < 0) → (T < 0 → T2 < 0) → ∃ (T B : Int) (o6 o7 o8 o9 o10 o11 o12 o13 : Option V), [some (V.ref G), some (.ref S), some (.ref D), some (.ref E), some (.int T2), some (.int B2), some (.int g.d), some (.str g.a), some (.str g.b), some (.int g.h), some (.int g.s), some (.int m), some (.int y), some (.int W)] = [some (.ref G), some (.ref S), some (.ref D), some (.ref E), some (.int T), some (.int B), o6, o7, o8, o9, o10, o11, o12, o13] ∧ H7 = H7 ∧ (Bd (64 * (i + 1) + 1) T ∧ Bd (64 * (i + 1) + 1) B) ∧ 0 < B ∧ T ≤ 0 ∧ ((∃ g ∈ gs.take (i + 1), Crs held g) → T < 0) := fun {T2 B2} e1 e2 e3 e4 e5 e6 => ⟨T2, B2, _, _, _, _, _, _, _, _, rfl, rfl, ⟨e1, e2⟩, e3, e4, fun ⟨x, hx, c⟩ => by
        rw [tk] at hx
        rcases List.mem_append.mp hx with hx | hx
        · exact e6 (cT ⟨x, hx, c⟩)
        · rw [List.mem_singleton.mp hx] at c
          exact e5 c⟩
      have mT : ∀ {x : Int}, T ≤ 0 → 0 < x → x * T ≤ 0 := fun a b => Int.mul_nonpos_of_nonneg_of_nonpos (Int.le_of_lt b) a
      have mT' : ∀ {x : Int}, T < 0 → 0 < x → x * T < 0 := fun a b => Int.mul_neg_of_pos_of_neg b a
      refine ⟨fun h => ?_, fun h => ?_⟩
      · have hb : g.b ∈ held := of_decide_eq_true h
        refine ⟨cok two bW (by decide) (by decide), cok b2W d1 (by decide) (by omega), cok two by' (by decide) (by decide), cok bh' bW (by decide) (by decide), cok d2 bg2 (by omega) (by decide), cok two bW (by decide) (by decide), cok b2W d2 (by decide) (by omega), ?_⟩
        refine nxt ?_ ((b2W.mul d2).mono (by omega)) ?_ ?_ ?_ ?_
        · exact (Bd.add ((b2W.mul d1).mono (show 27 + (64 * i + 31) ≤ 64 * i + 60 by omega)) ((d2.mul bg2).mono (show 64 * i + 31 + 28 ≤ 64 * i + 60 by omega))).mono (by omega)
        all_goals rcases o1 with ⟨ha, e1, e2⟩ | ⟨ha, e1, e2⟩
        · rw [e2]
          exact Int.mul_pos W0 (Int.mul_pos W0 B0)
        · rw [e2]
          exact Int.mul_pos W0 B0
        · rw [e1, e2, sh_both eW]
          exact mT T0 (Int.mul_pos W0 W0)
        · have h0 := (sh g hgi).2 hb ha
          rw [e1, e2, h0]
          have a := mT T0 W0
          have b := Int.mul_pos B0 (show 0 < m by omega)
          have e : B * (2 * y - (2 - 0) * W) = -(2 * (B * m)) := by rw [← eW]; grind
          omega
        · intro c
          rcases c with c | c
          · exact absurd hb c.2
          · exact absurd ha c.2
        · intro _
          have h0 := (sh g hgi).2 hb ha
          rw [e1, e2, h0]
          have a := mT T0 W0
          have b := Int.mul_pos B0 (show 0 < m by omega)
          have e : B * (2 * y - (2 - 0) * W) = -(2 * (B * m)) := by rw [← eW]; grind
          omega
        · intro t
          rw [e1, e2, sh_both eW]
          exact mT' t (Int.mul_pos W0 W0)
        · intro t
          have h0 := (sh g hgi).2 hb ha
          rw [e1, e2, h0]
          have a := mT' t W0
          have b := Int.mul_pos B0 (show 0 < m by omega)
          have e : B * (2 * y - (2 - 0) * W) = -(2 * (B * m)) := by rw [← eW]; grind
          omega
      · have hb : g.b ∉ held := of_decide_eq_false h
        refine nxt (d1.mono (by omega)) (d2.mono (by omega)) ?_ ?_ ?_ ?_
        all_goals rcases o1 with ⟨ha, e1, e2⟩ | ⟨ha, e1, e2⟩
        · rw [e2]
          exact Int.mul_pos W0 B0
        · rw [e2]
          exact B0
        · have h0 := (sh g hgi).1 ha hb
          rw [e1, h0]
          have a := mT T0 W0
          have b := Int.mul_pos B0 (show 0 < y by omega)
          have e : B * (2 * m - 2 * W) = -(2 * (B * y)) := by rw [← eW]; grind
          omega
        · rw [e1]
          exact T0
        · intro _
          have h0 := (sh g hgi).1 ha hb
          rw [e1, h0]
          have a := mT T0 W0
          have b := Int.mul_pos B0 (show 0 < y by omega)
          have e : B * (2 * m - 2 * W) = -(2 * (B * y)) := by rw [← eW]; grind
          omega
        · intro c
          rcases c with c | c
          · exact absurd c.1 ha
          · exact absurd c.1 hb
        · intro t
          have h0 := (sh g hgi).1 ha hb
          rw [e1, h0]
          have a := mT' t W0
          have b := Int.mul_pos B0 (show 0 < y by omega)
          have e : B * (2 * m - 2 * W) = -(2 * (B * y)) := by rw [← eW]; grind
          omega
        · intro t
          rw [e1]
          exact t
def sp_l_none_seen (K : PySem.W.Frag) (ns : List Int) : Sp := fun vs H Q _ => match vs with
  | [.ref G, .ref S, .ref D, .ref E] => ∃ (gs : List Gm) (nm held : List Str) (z : Q2), (Bk K H G gs ∧ BL nm gs ∧ gs.length ≤ 50 ∧ H S = some (.lst (held.map V.str)) ∧ held.length ≤ 100 ∧ (∀ x ∈ held, x ∈ nm) ∧ WkD H D nm) ∧ (H E = some (.tup [.int z.1, .int z.2]) ∧ (1 ≤ z.1 ∧ z.1 ≤ 9) ∧ 1 ≤ z.2 ∧ z.2 ≤ 9) ∧ (Shut held gs ∧ ∃ g ∈ gs, Crs held g) ∧ ∀ H', Same H H' → Q (.bl true) H'
  | _ => False
theorem sc_l_none_seen : FnScope ["_law_games", "_law_held", "_law_worths_here", "_law_edge", "_law_joins", "_law_day", "_law_one", "_law_other", "_law_halves", "_law_side"] ["_law_games", "_law_held", "_law_worths_here", "_law_edge"] (defScope s_l_none_seen) := ⟨rfl, rfl, rfl, by decide +kernel, rfl, by decide +kernel, by decide +kernel⟩
theorem ok_l_none_seen (d : Dfn K mg "_law_none_seen" s_l_none_seen ["_law_games", "_law_held", "_law_worths_here", "_law_edge"]) (er : Errs K mg c_NoPlayer) (n_len : mg "len" = none) (n_isinstance : mg "isinstance" = none) (n_list : mg "list" = none)  (c_l_short : Cal P w K mg base "_law_short" ["_law_games", "_law_held", "_law_worths_here", "_law_edge"] 1 (sp_l_short K ns)) : Cal P w K mg base "_law_none_seen" ["_law_games", "_law_held", "_law_worths_here", "_law_edge"] 2 (sp_l_none_seen K ns) := by
  refine d.cal (k := 1) sc_l_none_seen (fun vs H Q E h => ?_) (fun f cdv A outer s H vs Q E hr h => ?_)
  · match vs, h with
    | [.ref G, .ref S, .ref D, .ref E], _ => rfl
  · match vs, h with
    | [.ref G, .ref S, .ref D, .ref E], ⟨gs, nm, held, z, ⟨hB, bl, l50, eS, lS, sub, wk⟩, hE, ⟨sh, cr⟩, k⟩ =>
      refine ⟨_, (@pss_cons _ _ _ _ _ (@s_if _ _ _ _ _ _ _ _ (@L2.PW.pt _ _ _ (@w_or _ _ _ _ _ _ _ (@pt_not _ _ _ _ (@t_val _ _ _ (@pe_callB _ _ _ _ _ _ _ _ _ c_isi (by rfl) n_isinstance (by decide +kernel) (@pa_cons _ _ _ _ _ (dv 1) (@pa_cons _ _ _ _ _ (e_ty "list" (by rfl) n_list (by decide +kernel)) pa_nil (by rfl)) (by rfl)) (by decide) (by decide) (by rfl) (by rfl)) (by intro _; rfl))) (@pw_or1 _ _ _ _ (@t_cmp _ _ _ _ _ _ _ _ o_gt (@pe_callB _ _ _ _ _ _ _ _ _ c_len (by rfl) n_len (by decide +kernel) (@pa_cons _ _ _ _ _ (@e_compIN _ _ _ _ _ _ _ _ _ _ _ _ ["_law_name"] ["_law_worths_here"] [2] rfl (@pi_list _ _ _ _ (dv 1)) (fun C s H fp => (@pg_name _ _ (0) _ (show List.Nodup [("_law_name" : Str), ("_law_worths_here" : Str)] by decide +kernel) rfl (by first | exact Or.inl rfl | exact Or.inr rfl) (by first | exact .inl rfl | exact .inr rfl | assumption))) (fun C s H fp => (@t_dnotin _ _ _ _ _ _ (@u1 _ _ hr.units) (dv 0) (dv 1) (by with_unfolding_all rfl))) (fun C s H fp => (dv 0)) rfl rfl (by decide +kernel) (by decide +kernel) (by rfl) ⟨rfl, True.intro⟩ ⟨⟨rfl, rfl, rfl, rfl⟩, True.intro⟩ (by intro _; rfl)) pa_nil (by rfl)) (by decide) (by decide) (by rfl) (by rfl)) pe_int (@nomark _ _ (by decide) (by decide)))))) (@pss_one _ _ _ (@ps_ret _ _ _ _ pe_bl)) pss_nil) (@pss_cons _ _ _ _ _ (@ps_set _ _ (4) _ _ _ _ sc_l_none_seen.nd rfl (by first | exact Or.inl rfl | exact Or.inr rfl) pe_int (by rfl) (by first | exact .inl rfl | exact .inr rfl | assumption)) (@pss_cons _ _ _ _ _ (@ps_for _ _ _ _ _ _ _ _ PassesOwn.never rfl (@pi_list _ _ _ _ (dv 0)) (@pg_tup _ _ _ _ _ _ rfl (@pgs_cons _ _ _ _ _ (@pg_name _ _ (5) _ sc_l_none_seen.nd rfl (by first | exact Or.inl rfl | exact Or.inr rfl) (by first | exact .inl rfl | exact .inr rfl | assumption)) (@pgs_cons _ _ _ _ _ (@pg_name _ _ (6) _ sc_l_none_seen.nd rfl (by first | exact Or.inl rfl | exact Or.inr rfl) (by first | exact .inl rfl | exact .inr rfl | assumption)) (@pgs_cons _ _ _ _ _ (@pg_name _ _ (7) _ sc_l_none_seen.nd rfl (by first | exact Or.inl rfl | exact Or.inr rfl) (by first | exact .inl rfl | exact .inr rfl | assumption)) (@pgs_cons _ _ _ _ _ (@pg_name _ _ (8) _ sc_l_none_seen.nd rfl (by first | exact Or.inl rfl | exact Or.inr rfl) (by first | exact .inl rfl | exact .inr rfl | assumption)) (@pgs_cons _ _ _ _ _ (@pg_name _ _ (9) _ sc_l_none_seen.nd rfl (by first | exact Or.inl rfl | exact Or.inr rfl) (by first | exact .inl rfl | exact .inr rfl | assumption)) pgs_nil (by rfl)) (by rfl)) (by rfl)) (by rfl)) (by rfl)) (by rfl) (by rfl)) (@ss_cutE _ _ _ _ _ (@s_if _ _ _ _ _ _ _ _ (@L2.PW.pt _ _ _ (@w_and _ _ _ _ _ _ _ (@t_cmp _ _ _ _ _ _ _ _ (show OpR _ _ (dInS K) from o_in) (dv 6) (dv 1) (by with_unfolding_all rfl)) (@pw_and1 _ _ _ _ (@t_cmp _ _ _ _ _ _ _ _ (show OpR _ _ (dNotInS K) from o_notin) (dv 7) (dv 1) (by with_unfolding_all rfl))))) (@pss_cons _ _ _ _ _ (@ps_set _ _ (4) _ _ _ _ sc_l_none_seen.nd rfl (by first | exact Or.inl rfl | exact Or.inr rfl) (@pe_op _ _ _ _ _ _ _ _ o_add (dv 4) pe_int) (by rfl) (by first | exact .inl rfl | exact .inr rfl | assumption)) (@pss_one _ _ _ (@s_if _ _ _ _ _ _ _ _ (@t_cmp _ _ _ _ _ _ _ _ o_ne (dv 8) pe_int (@nomark _ _ (by decide) (by decide))) (@pss_one _ _ _ (@ps_ret _ _ _ _ pe_bl)) pss_nil))) pss_nil) (@pss_one _ _ _ (@s_if _ _ _ _ _ _ _ _ (@L2.PW.pt _ _ _ (@w_and _ _ _ _ _ _ _ (@t_cmp _ _ _ _ _ _ _ _ (show OpR _ _ (dInS K) from o_in) (dv 7) (dv 1) (by with_unfolding_all rfl)) (@pw_and1 _ _ _ _ (@t_cmp _ _ _ _ _ _ _ _ (show OpR _ _ (dNotInS K) from o_notin) (dv 6) (dv 1) (by with_unfolding_all rfl))))) (@pss_cons _ _ _ _ _ (@ps_set _ _ (4) _ _ _ _ sc_l_none_seen.nd rfl (by first | exact Or.inl rfl | exact Or.inr rfl) (@pe_op _ _ _ _ _ _ _ _ o_add (dv 4) pe_int) (by rfl) (by first | exact .inl rfl | exact .inr rfl | assumption)) (@pss_one _ _ _ (@s_if _ _ _ _ _ _ _ _ (@t_cmp _ _ _ _ _ _ _ _ o_ne (dv 8) pe_int (@nomark _ _ (by decide) (by decide))) (@pss_one _ _ _ (@ps_ret _ _ _ _ pe_bl)) pss_nil))) pss_nil))) (by intro _; rfl)) (@pss_one _ _ _ (@ps_ret _ _ _ _ (@e_and _ _ _ _ _ _ _ (@pe_cmpR _ _ _ _ _ _ _ _ o_gt (dv 4) pe_int (@nomark _ _ (by decide) (by decide))) (@pe_one _ _ _ _ _ (@e_call _ _ _ _ _ _ _ _ _ _ _ c_l_short hr (by decide) (by rfl) (@pa_cons _ _ _ _ _ (dv 0) (@pa_cons _ _ _ _ _ (dv 1) (@pa_cons _ _ _ _ _ (dv 2) (@pa_cons _ _ _ _ _ (dv 3) pa_nil (by rfl)) (by rfl)) (by rfl)) (by rfl)) (by decide) (by rfl) (by rfl))))))))), ?_⟩
      refine ⟨_, true, "list", eS, rfl, rfl, ⟨fun h => nb h, fun _ => ?_⟩⟩
      refine ⟨S, rfl, ⟨_, SqL.of eS⟩, comp_absI (fun _ v m => v = V.str m) (fun _ _ _ _ _ h => h) (fun _ m y => y = V.str m) (fun _ _ _ _ _ h => h) (fun _ => false) (by rw [List.length_map]; omega) (SqL.of eS) (all2_str held) ?_ ?_⟩
      · intro v x H2 hM hmm s2 P P' hP hP'
        have hM : v = V.str x := hM
        subst hM
        obtain ⟨kvs, eD, hD⟩ := wk
        obtain ⟨w, hw, _⟩ := hD x (sub x hmm)
        exact ⟨rfl, D, _, rfl, hw ▸ DGet.k (k := Sum.inr x) (s2 _ _ eD), ⟨fun h => nb h, fun _ => hP' rfl _ (Same.refl _)⟩⟩
      intro W H2 ys s2 _ e2 a2
      have l2 := a2.len
      have zf : held.filter (fun _ => false) = [] := List.filter_eq_nil_iff.mpr fun x _ => by simp
      rw [zf] at l2
      have y0 : ys = [] := List.eq_nil_of_length_eq_zero l2.symm
      subst y0
      refine ⟨_, .inl (SqL.of e2), ⟨fun h => nb h, fun _ => ?_⟩⟩
      have eS2 := s2 _ _ eS
      obtain ⟨gv, hg, hgm, hgl⟩ := hB.up s2
      refine ⟨G, rfl, ⟨_, hg⟩, for_list (K := K) (a := G) (xs := gv) (fun i σ H' => ∃ (J : Int) (o5 o6 o7 o8 o9 : Option V), σ = [some (.ref G), some (.ref S), some (.ref D), some (.ref E), some (.int J), o5, o6, o7, o8, o9] ∧ H' = H2 ∧ 0 ≤ J ∧ ((∃ g ∈ gs.take i, Crs held g) → 0 < J))
        ⟨0, _, _, _, _, _, rfl, rfl, Int.le_refl _, fun ⟨g, h, _⟩ => absurd h (by simp)⟩ (fun i σ H' _ ⟨_, _, _, _, _, _, _, e, _⟩ => e ▸ hg) ?_ ?_⟩
      rotate_left
      · rintro σ H3 ⟨J, o5, o6, o7, o8, o9, rfl, rfl, _, c⟩
        have el : gs.take gv.length = gs := by rw [hgm.len]; exact List.take_length
        rw [el] at c
        refine ⟨fun _ => ⟨gs, nm, held, z, ⟨⟨gv, hg, hgm, hgl⟩, bl, l50, SqL.of eS2, wk.up s2⟩, ⟨s2 _ _ hE.1, hE.2⟩, ⟨sh, cr⟩, fun H4 s4 => k H4 (s2.trans s4)⟩, fun h => absurd (c cr) (of_decide_eq_false h)⟩
      rintro i v σ H3 hv ⟨J, o5, o6, o7, o8, o9, rfl, rfl, J0, cJ⟩
      obtain ⟨g, eg, p, rfl, ep⟩ := hgm.get hv
      have hgi := List.mem_of_getElem? eg
      have tk : gs.take (i + 1) = gs.take i ++ [g] := by rw [List.take_add_one, eg]; rfl
      refine ⟨p, _, rfl, SqT.of ep, rfl, _, _, rfl, _, _, rfl, _, _, rfl, _, _, rfl, _, _, rfl, rfl, ?_⟩
      refine ⟨fun σ H' => ∃ J1 : Int, σ = [some (.ref G), some (.ref S), some (.ref D), some (.ref E), some (.int J1), some (.int g.d), some (.str g.a), some (.str g.b), some (.int g.h), some (.int g.s)] ∧ H' = H3 ∧ J ≤ J1 ∧ (g.a ∈ held → g.b ∉ held → J < J1), ?_, ?_⟩
      · refine ⟨_, .inl (SqL.of eS2), rfl, flat_strs _, ?_⟩
        rw [in_strs]
        refine ⟨fun h => ⟨_, .inl (SqL.of eS2), rfl, flat_strs _, ?_⟩, fun h => ⟨fun h => nb h, fun _ => ⟨J, rfl, rfl, Int.le_refl _, fun c => absurd c (of_decide_eq_false h)⟩⟩⟩
        rw [in_strs]
        refine ⟨fun h' => ?_, fun h' => ⟨J, rfl, rfl, Int.le_refl _, fun _ c => absurd (of_decide_eq_true (by simpa using h')) c⟩⟩
        have hb : g.b ∉ held := by simpa using h'
        have h2 := (sh g hgi).1 (of_decide_eq_true h) hb
        refine ⟨fun q => ?_, fun _ => ⟨_, rfl, rfl, by omega, fun _ _ => by omega⟩⟩
        have q : ¬ g.h = 2 := by simpa using q
        exact absurd h2 q
      rintro σ H4 ⟨J1, rfl, rfl, j1, j2⟩
      have nxt : ∀ {J2 : Int}, J1 ≤ J2 → (g.b ∈ held → g.a ∉ held → J1 < J2) → ∃ (J : Int) (o5 o6 o7 o8 o9 : Option V), [some (V.ref G), some (.ref S), some (.ref D), some (.ref E), some (.int J2), some (.int g.d), some (.str g.a), some (.str g.b), some (.int g.h), some (.int g.s)] = [some (.ref G), some (.ref S), some (.ref D), some (.ref E), some (.int J), o5, o6, o7, o8, o9] ∧ H4 = H4 ∧ 0 ≤ J ∧ ((∃ g ∈ gs.take (i + 1), Crs held g) → 0 < J) := fun {J2} h1 h2 => ⟨J2, _, _, _, _, _, rfl, rfl, by omega, fun ⟨x, hx, c⟩ => by
        rw [tk] at hx
        rcases List.mem_append.mp hx with hx | hx
        · have := cJ ⟨x, hx, c⟩
          omega
        · rw [List.mem_singleton.mp hx] at c
          rcases c with c | c
          · have := j2 c.1 c.2
            omega
          · have := h2 c.1 c.2
            omega⟩
      refine ⟨_, .inl (SqL.of eS2), rfl, flat_strs _, ?_⟩
      rw [in_strs]
      refine ⟨fun h => ⟨_, .inl (SqL.of eS2), rfl, flat_strs _, ?_⟩, fun h => ⟨fun h => nb h, fun _ => nxt (Int.le_refl _) fun c => absurd c (of_decide_eq_false h)⟩⟩
      rw [in_strs]
      refine ⟨fun h' => ?_, fun h' => nxt (Int.le_refl _) fun _ c => absurd (of_decide_eq_true (by simpa using h')) c⟩
      have ha : g.a ∉ held := by simpa using h'
      have h2 := (sh g hgi).2 (of_decide_eq_true h) ha
      refine ⟨fun q => ?_, fun _ => nxt (by omega) fun _ _ => by omega⟩
      have q : ¬ g.h = 0 := by simpa using q
      exact absurd h2 q
theorem bfs_len {tk : Str → List Str} {n : Str} : ∀ (k d : Nat) (ws : List (Str × List Str)) (nw : List Str), BI tk n ws nw d → ∀ w ∈ bfsT tk k (ws, nw), w.2.length ≤ d + k
  | 0, d, ws, nw, h => h.le
  | k + 1, d, ws, nw, h => by
    by_cases z : nw = []
    · subst z
      intro w hw
      have := h.le w hw
      omega
    · rw [bfs_step tk k z]
      intro w hw
      have := bfs_len k (d + 1) _ _ h.round w hw
      omega
theorem pw_nm {nm : List Str} {gs : List Gm} (hm : ∀ g ∈ gs, g.a ∈ nm ∧ g.b ∈ nm) {n x : Str} {p : List Str} (hn : n ∈ nm) (h : Pw (fun x => tkr x gs) n p x) : ∀ w ∈ p, w ∈ nm := by
  induction h with
  | here =>
    intro w hw
    rw [List.mem_singleton.mp hw]
    exact hn
  | step _ hy ih =>
    intro w hw
    rcases List.mem_append.mp hw with hw | hw
    · exact ih w hw
    · rw [List.mem_singleton.mp hw]
      exact tkr_sub hm hy
def Sws (gs : List Gm) (ws : List Str) : Prop := ∀ (k : Nat) a b, ws[k]? = some a → ws[k + 1]? = some b → b ∈ tkr a gs
theorem pw_sws {gs : List Gm} {n x : Str} {p : List Str} (h : Pw (fun x => tkr x gs) n p x) : p[0]? = some n ∧ p.getLast? = some x ∧ Sws gs p := by
  induction h with
  | here => exact ⟨rfl, rfl, fun k a b h1 h2 => by simp at h2⟩
  | @step p x y h hy ih =>
    obtain ⟨i1, i2, i3⟩ := ih
    have pl := pw_pos h
    refine ⟨by rw [List.getElem?_append_left (by omega)]; exact i1, by simp, fun k a b h1 h2 => ?_⟩
    by_cases c : k + 1 < p.length
    · rw [List.getElem?_append_left (by omega)] at h1 h2
      exact i3 k a b h1 h2
    · have l2 := (List.getElem?_eq_some_iff.mp h2).1
      rw [List.length_append] at l2
      have : k + 1 = p.length := by simp at l2; omega
      rw [List.getElem?_append_right (by omega), this, Nat.sub_self] at h2
      rw [List.getElem?_append_left (by omega)] at h1
      rw [List.getLast?_eq_getElem?, show p.length - 1 = k by omega, h1] at i2
      cases i2
      cases h2
      exact hy
theorem eqv_ss {a b c d : Str} : PyData.eqv (.tuple [.str a, .str b]) (.tuple [.str c, .str d]) = decide (a = c ∧ b = d) := by
  show ((a == c) && ((b == d) && true)) = _
  rw [Bool.and_true]
  by_cases h1 : a = c <;> by_cases h2 : b = d <;> simp [h1, h2]
theorem sh_two {a b : Str} (ha : PyData.strOk a = true) (hb : PyData.strOk b = true) : SeqAt.shaped (.tuple [.str a, .str b]) = true := by
  unfold SeqAt.shaped
  have e : (PyData.tuple [.str a, .str b]).canLay0 = true := by
    show (PyData.canLay0 (.str a) && (PyData.canLay0 (.str b) && true)) = true
    rw [show PyData.canLay0 (.str a) = PyData.strOk a from rfl, show PyData.canLay0 (.str b) = PyData.strOk b from rfl, ha, hb]
    rfl
  have d : (PyData.tuple [.str a, .str b]).depth = 1 := rfl
  rw [e, Bool.true_and, d]
  rfl
theorem a2_swp {α β : Type} {R : α → β → Prop} : ∀ {l : List α} {m : List β}, All2 R l m → All2 (fun b a => R a b) m l
  | _, _, .nil => .nil
  | _, _, .cons h t => .cons h (a2_swp t)
def sp_l_gone (K : PySem.W.Frag) (ns : List Int) : Sp := fun vs H Q _ => match vs with
  | [.ref G, .ref F, .str x, .str y] => ∃ (gs : List Gm) (nm ws : List Str), (Bk K H G gs ∧ BL nm gs ∧ gs.length ≤ 50 ∧ (∀ x ∈ nm, PyData.strOk x = true) ∧ H F = some (.lst (ws.map V.str)) ∧ ws.length ≤ 100) ∧ (ws[0]? = some x ∧ ws.getLast? = some y ∧ Sws gs ws ∧ ∀ w ∈ ws, w ∈ nm) ∧ ∀ H', Same H H' → Q (.bl true) H'
  | _ => False
theorem sc_l_gone : FnScope ["_law_games", "_law_found", "_law_one", "_law_other", "_law_k", "_law_won"] ["_law_games", "_law_found", "_law_one", "_law_other"] (defScope s_l_gone) := ⟨rfl, rfl, rfl, by decide +kernel, rfl, by decide +kernel, by decide +kernel⟩
theorem ok_l_gone (d : Dfn K mg "_law_gone" s_l_gone ["_law_games", "_law_found", "_law_one", "_law_other"]) (er : Errs K mg c_NoPlayer) (n_range : mg "range" = none) (n_len : mg "len" = none) (n_isinstance : mg "isinstance" = none) (n_list : mg "list" = none)   : Cal P w K mg base "_law_gone" ["_law_games", "_law_found", "_law_one", "_law_other"] 1 (sp_l_gone K ns) := by
  refine d.cal (k := 0) sc_l_gone (fun vs H Q E h => ?_) (fun f cdv A outer s H vs Q E hr h => ?_)
  · match vs, h with
    | [.ref G, .ref F, .str x, .str y], _ => rfl
  · match vs, h with
    | [.ref G, .ref F, .str x, .str y], ⟨gs, nm, ws, ⟨hB, bl, l50, sok, eF, lF⟩, ⟨w0, wl, sw, sub⟩, k⟩ =>
      refine ⟨_, (@pss_cons _ _ _ _ _ (@s_if _ _ _ _ _ _ _ _ (@L2.PW.pt _ _ _ (@w_or _ _ _ _ _ _ _ (@pt_not _ _ _ _ (@t_val _ _ _ (@pe_callB _ _ _ _ _ _ _ _ _ c_isi (by rfl) n_isinstance (by decide +kernel) (@pa_cons _ _ _ _ _ (dv 1) (@pa_cons _ _ _ _ _ (e_ty "list" (by rfl) n_list (by decide +kernel)) pa_nil (by rfl)) (by rfl)) (by decide) (by decide) (by rfl) (by rfl)) (by intro _; rfl))) (@w_or _ _ _ _ _ _ _ (@t_cmp _ _ _ _ _ _ _ _ o_eq (@pe_callB _ _ _ _ _ _ _ _ _ c_len (by rfl) n_len (by decide +kernel) (@pa_cons _ _ _ _ _ (dv 1) pa_nil (by rfl)) (by decide) (by decide) (by rfl) (by rfl)) pe_int (@nomark _ _ (by decide) (by decide))) (@w_or _ _ _ _ _ _ _ (@t_cmp _ _ _ _ _ _ _ _ o_ne (@pe_ix _ _ _ _ _ _ _ i_lst (dv 1) pe_int (fun _ _ => rfl)) (dv 2) (@nomark _ _ (by decide) (by decide))) (@pw_or1 _ _ _ _ (@t_cmp _ _ _ _ _ _ _ _ o_ne (@pe_ix _ _ _ _ _ _ _ i_lst (dv 1) (@pe_un _ _ _ _ _ _ u_neg pe_int) (fun _ _ => rfl)) (dv 3) (@nomark _ _ (by decide) (by decide)))))))) (@pss_one _ _ _ (@ps_ret _ _ _ _ pe_bl)) pss_nil) (@pss_cons _ _ _ _ _ (@ps_for _ _ _ _ _ _ _ _ PassesOwn.never rfl (@pi_range2 _ _ _ _ _ _ _ (by rfl) n_range (@pa_cons _ _ _ _ _ pe_int (@pa_cons _ _ _ _ _ (@pe_callB _ _ _ _ _ _ _ _ _ c_len (by rfl) n_len (by decide +kernel) (@pa_cons _ _ _ _ _ (dv 1) pa_nil (by rfl)) (by decide) (by decide) (by rfl) (by rfl)) pa_nil (by rfl)) (by rfl)) (by rfl) (by rfl)) (@pg_name _ _ (4) _ sc_l_gone.nd rfl (by first | exact Or.inl rfl | exact Or.inr rfl) (by first | exact .inl rfl | exact .inr rfl | assumption)) (@pss_cons _ _ _ _ _ (@ps_compIN _ _ _ _ _ _ _ _ _ (5) _ _ _ _ _ _ ["_law_entry"] ["_law_found", "_law_k"] [1, 4] rfl (@pi_list _ _ _ _ (dv 0)) (fun C s H fp => (@pg_name _ _ (0) _ (show List.Nodup [("_law_entry" : Str), ("_law_found" : Str), ("_law_k" : Str)] by decide +kernel) rfl (by first | exact Or.inl rfl | exact Or.inr rfl) (by first | exact .inl rfl | exact .inr rfl | assumption))) (fun C s H fp => (@L2.PW.pt _ _ _ (@w_and _ _ _ _ _ _ _ (@t_cmp _ _ _ _ _ _ _ _ (show OpR _ _ (dEqD K) from (o_eqD hr.units)) (@pe_slice _ _ _ _ _ _ _ _ _ _ (show SlR _ (rSlT K) from sl_tup) (dv 0) (po_some pe_int) (po_some pe_int)) (@e_tup _ _ _ _ _ (@pa_cons _ _ _ _ _ (@pe_ix _ _ _ _ _ _ _ (show IxR _ (dIxL K) from i_lst) (dv 1) (dv 2) (fun _ _ => rfl)) (@pa_cons _ _ _ _ _ (@pe_ix _ _ _ _ _ _ _ (show IxR _ (dIxL K) from i_lst) (dv 1) (@pe_op _ _ _ _ _ _ _ _ o_sub (dv 2) pe_int) (fun _ _ => rfl)) pa_nil (by rfl)) (by rfl))) (@nomark _ _ (by decide) (by decide))) (@pw_and1 _ _ _ _ (@t_cmp _ _ _ _ _ _ _ _ o_gt (@pe_ix _ _ _ _ _ _ _ i_tup (dv 0) pe_int (fun _ _ => rfl)) pe_int (@nomark _ _ (by decide) (by decide))))))) (fun C s H fp => (dv 0)) rfl rfl (by decide +kernel) (by decide +kernel) (by rfl) ⟨rfl, ⟨rfl, True.intro⟩⟩ ⟨⟨rfl, rfl, rfl, rfl⟩, ⟨⟨rfl, rfl, rfl, rfl⟩, True.intro⟩⟩ sc_l_gone.nd rfl rfl (by intro _; rfl) (by rfl)) (@pss_cons _ _ _ _ _ (@ps_set _ _ (5) _ _ _ _ sc_l_gone.nd rfl (by first | exact Or.inl rfl | exact Or.inr rfl) (@pe_op _ _ _ _ _ _ _ _ o_catL (dv 5) (@e_compIN _ _ _ _ _ _ _ _ _ _ _ _ ["_law_entry"] ["_law_found", "_law_k"] [1, 4] rfl (@pi_list _ _ _ _ (dv 0)) (fun C s H fp => (@pg_name _ _ (0) _ (show List.Nodup [("_law_entry" : Str), ("_law_found" : Str), ("_law_k" : Str)] by decide +kernel) rfl (by first | exact Or.inl rfl | exact Or.inr rfl) (by first | exact .inl rfl | exact .inr rfl | assumption))) (fun C s H fp => (@L2.PW.pt _ _ _ (@w_and _ _ _ _ _ _ _ (@t_cmp _ _ _ _ _ _ _ _ (show OpR _ _ (dEqD K) from (o_eqD hr.units)) (@pe_slice _ _ _ _ _ _ _ _ _ _ (show SlR _ (rSlT K) from sl_tup) (dv 0) (po_some pe_int) (po_some pe_int)) (@e_tup _ _ _ _ _ (@pa_cons _ _ _ _ _ (@pe_ix _ _ _ _ _ _ _ (show IxR _ (dIxL K) from i_lst) (dv 1) (@pe_op _ _ _ _ _ _ _ _ o_sub (dv 2) pe_int) (fun _ _ => rfl)) (@pa_cons _ _ _ _ _ (@pe_ix _ _ _ _ _ _ _ (show IxR _ (dIxL K) from i_lst) (dv 1) (dv 2) (fun _ _ => rfl)) pa_nil (by rfl)) (by rfl))) (@nomark _ _ (by decide) (by decide))) (@pw_and1 _ _ _ _ (@t_cmp _ _ _ _ _ _ _ _ o_lt (@pe_ix _ _ _ _ _ _ _ i_tup (dv 0) pe_int (fun _ _ => rfl)) pe_int (@nomark _ _ (by decide) (by decide))))))) (fun C s H fp => (dv 0)) rfl rfl (by decide +kernel) (by decide +kernel) (by rfl) ⟨rfl, ⟨rfl, True.intro⟩⟩ ⟨⟨rfl, rfl, rfl, rfl⟩, ⟨⟨rfl, rfl, rfl, rfl⟩, True.intro⟩⟩ (by intro _; rfl))) (by rfl) (by first | exact .inl rfl | exact .inr rfl | assumption)) (@pss_one _ _ _ (@s_if _ _ _ _ _ _ _ _ (@t_cmp _ _ _ _ _ _ _ _ (@o_eqD _ hr.units) (dv 5) (@e_lst _ _ _ _ pa_nil) (@nomark _ _ (by decide) (by decide))) (@pss_one _ _ _ (@ps_ret _ _ _ _ pe_bl)) pss_nil)))) (by intro _; rfl)) (@pss_one _ _ _ (@ps_ret _ _ _ _ pe_bl)))), ?_⟩
      have lw := (List.getElem?_eq_some_iff.mp w0).1
      have hat : ∀ {i : Nat} {a : Str}, ws[i]? = some a → atI (ws.map V.str) (i : Int) = some (.str a) := fun h => atI_nat (by rw [List.getElem?_map, h]; rfl)
      refine ⟨_, true, "list", eF, rfl, rfl, ⟨fun h => nb h, fun _ => ⟨_, .inl (SqL.of eF), ⟨fun h => ?_, fun _ => ⟨_, _, SqL.of eF, hat w0, ⟨fun h => ?_, fun _ => ⟨_, _, SqL.of eF, atI_last (show (ws.map V.str).getLast? = some (.str y) by rw [List.getLast?_map, wl]; rfl), ⟨fun h => ?_, fun _ => ?_⟩⟩⟩⟩⟩⟩⟩⟩
      · have h : ((ws.map V.str).length : Int) = 0 := of_decide_eq_true h
        rw [List.length_map] at h
        omega
      · exact absurd h (by simp)
      · exact absurd h (by simp)
      refine ⟨_, .inl (SqL.of eF), ?_⟩
      rw [List.length_map]
      refine ⟨_, _, rfl, ⟨by decide, by decide, by omega, by omega⟩, for_range (lo := 1) (n := ((ws.length : Int) - 1).toNat) (fun i σ H' => ∃ o4 o5 : Option V, σ = [some (.ref G), some (.ref F), some (.str x), some (.str y), o4, o5] ∧ Same H H') ⟨none, none, rfl, Same.refl _⟩ ?_ ?_⟩
      rotate_left
      · rintro σ H1 ⟨o4, o5, rfl, s1⟩
        exact k H1 s1
      rintro i σ H1 hi ⟨o4, o5, rfl, s1⟩
      obtain ⟨b, hb⟩ : ∃ b, ws[i + 1]? = some b := ⟨_, List.getElem?_eq_getElem (by omega)⟩
      obtain ⟨a, ha⟩ : ∃ a, ws[i]? = some a := ⟨_, List.getElem?_eq_getElem (by omega)⟩
      have atB : atI (ws.map V.str) (1 + (i : Int)) = some (.str b) := by
        have := hat hb
        rw [show ((i + 1 : Nat) : Int) = 1 + (i : Int) by omega] at this
        exact this
      have atA : atI (ws.map V.str) (1 + (i : Int) - 1) = some (.str a) := by
        have := hat ha
        rw [show (i : Int) = 1 + (i : Int) - 1 by omega] at this
        exact this
      have okA := sok a (sub a (List.mem_of_getElem? ha))
      have okB := sok b (sub b (List.mem_of_getElem? hb))
      obtain ⟨gv, hg, hgm, hgl⟩ := hB.up s1
      refine ⟨G, rfl, ⟨_, hg⟩, comp_absI GmAt gm_up (fun H g y => GmAt H y g) (fun g y H H' kt h => gm_up y g _ _ kt h) (fun g => decide (g.a = b ∧ g.b = a) && decide (0 < g.h)) (by rw [hgm.len]; omega) hg hgm ?_ ?_⟩
      · intro v g H2 hM hmm s2 P P' hP hP'
        obtain ⟨p, rfl, ep⟩ := hM
        refine ⟨rfl, 1, rfl, 3, rfl, p, _, rfl, SqT.of ep, (show ¬ (1 = 0 ∧ 3 = 5) by decide), fun q hq => ?_⟩
        have s3 : Same H2 (upd H2 q (.tup (cutV [.int g.d, .str g.a, .str g.b, .int g.h, .int g.s] (some 1) (some 3)))) := same_upd hq
        have e3 : upd H2 q (.tup (cutV [.int g.d, .str g.a, .str g.b, .int g.h, .int g.s] (some 1) (some 3))) q = some (.tup [.str g.a, .str g.b]) := upd_same
        generalize upd H2 q (.tup (cutV [.int g.d, .str g.a, .str g.b, .int g.h, .int g.s] (some 1) (some 3))) = H3' at s3 e3
        have eF3 := ((s1.trans s2).trans s3) _ _ eF
        refine ⟨_, _, SqL.of eF3, atB, _, _, SqL.of eF3, atA, fun T H4 s4 e4 => ⟨_, _, .tup (SqT.of (s4 _ _ e3)) (.cons (.str _) (.cons (.str _) .nil)), .tup (SqT.of e4) (.cons (.str _) (.cons (.str _) .nil)), sh_two (sok _ (bl.mem g hmm).1) (sok _ (bl.mem g hmm).2), sh_two okB okA, ?_⟩⟩
        rw [eqv_ss]
        have s34 := s3.trans s4
        refine ⟨fun h => ⟨_, s34 _ _ ep, ⟨fun h' => hP (by rw [Bool.and_eq_true]; exact ⟨h, h'⟩) _ _ s34 ⟨p, rfl, s34 _ _ ep⟩, fun h' => hP' ?_ _ s34⟩⟩, fun h => ⟨fun h => nb h, fun _ => hP' (by rw [h, Bool.false_and]) _ s34⟩⟩
        have h' : decide (0 < g.h) = false := h'
        rw [h', Bool.and_false]
      intro D2 H2 ys s2 _ e2 a2
      have hg2 := s2.seq hg
      have hgm2 : All2 (GmAt H2) gv gs := hgm.imp fun v g r => gm_up v g _ _ (kt_of s2) r
      refine ⟨G, rfl, ⟨_, hg2⟩, comp_absI GmAt gm_up (fun H g y => GmAt H y g) (fun g y H H' kt h => gm_up y g _ _ kt h) (fun g => decide (g.a = a ∧ g.b = b) && decide (g.h < 2)) (by rw [hgm2.len]; omega) hg2 hgm2 ?_ ?_⟩
      · intro v g H3 hM hmm s3' P P' hP hP'
        obtain ⟨p, rfl, ep⟩ := hM
        refine ⟨rfl, 1, rfl, 3, rfl, p, _, rfl, SqT.of ep, (show ¬ (1 = 0 ∧ 3 = 5) by decide), fun q hq => ?_⟩
        have s3 : Same H3 (upd H3 q (.tup (cutV [.int g.d, .str g.a, .str g.b, .int g.h, .int g.s] (some 1) (some 3)))) := same_upd hq
        have e3 : upd H3 q (.tup (cutV [.int g.d, .str g.a, .str g.b, .int g.h, .int g.s] (some 1) (some 3))) q = some (.tup [.str g.a, .str g.b]) := upd_same
        generalize upd H3 q (.tup (cutV [.int g.d, .str g.a, .str g.b, .int g.h, .int g.s] (some 1) (some 3))) = H3' at s3 e3
        have eF3 := ((s1.trans (s2.trans s3')).trans s3) _ _ eF
        refine ⟨_, _, SqL.of eF3, atA, _, _, SqL.of eF3, atB, fun T H4 s4 e4 => ⟨_, _, .tup (SqT.of (s4 _ _ e3)) (.cons (.str _) (.cons (.str _) .nil)), .tup (SqT.of e4) (.cons (.str _) (.cons (.str _) .nil)), sh_two (sok _ (bl.mem g hmm).1) (sok _ (bl.mem g hmm).2), sh_two okA okB, ?_⟩⟩
        rw [eqv_ss]
        have s34 := s3.trans s4
        refine ⟨fun h => ⟨_, s34 _ _ ep, ⟨fun h' => hP (by rw [Bool.and_eq_true]; exact ⟨h, h'⟩) _ _ s34 ⟨p, rfl, s34 _ _ ep⟩, fun h' => hP' ?_ _ s34⟩⟩, fun h => ⟨fun h => nb h, fun _ => hP' (by rw [h, Bool.false_and]) _ s34⟩⟩
        have h' : decide (g.h < 2) = false := h'
        rw [h', Bool.and_false]
      intro D3 H3 zs s3 _ e3 a3
      have l2 := a2.len
      have l3 := a3.len
      have lf2 : (gs.filter fun g => decide (g.a = b ∧ g.b = a) && decide (0 < g.h)).length ≤ gs.length := List.length_filter_le _ _
      have lf3 : (gs.filter fun g => decide (g.a = a ∧ g.b = b) && decide (g.h < 2)).length ≤ gs.length := List.length_filter_le _ _
      refine ⟨_, _, s3 _ _ e2, e3, by omega, fun D4 H4 s4 e4 => fun N H5 s5 e5 => ?_⟩
      have s25 := s3.trans (s4.trans s5)
      have a2' : All2 (fun g y => GmAt H5 y g) (gs.filter fun g => decide (g.a = b ∧ g.b = a) && decide (0 < g.h)) ys := a2.imp fun g y r => gm_up y g _ _ (kt_of s25) r
      have a3' : All2 (fun g y => GmAt H5 y g) (gs.filter fun g => decide (g.a = a ∧ g.b = b) && decide (g.h < 2)) zs := a3.imp fun g y r => gm_up y g _ _ (kt_of (s4.trans s5)) r
      obtain ⟨F, hF⟩ : ∃ F, F = (gs.filter fun g => decide (g.a = b ∧ g.b = a) && decide (0 < g.h)) ++ gs.filter fun g => decide (g.a = a ∧ g.b = b) && decide (g.h < 2) := ⟨_, rfl⟩
      have aF : All2 (GmAt H5) (ys ++ zs) F := hF ▸ (a2_swp a2').app (a2_swp a3')
      have sF : ∀ g ∈ F, g ∈ gs := fun g hg => by
        rw [hF] at hg
        rcases List.mem_append.mp hg with h | h
        · exact (List.mem_filter.mp h).1
        · exact (List.mem_filter.mp h).1
      refine ⟨.list (F.map gd), .list [], rp_gms (SqL.of (s5 _ _ e4)) aF, .lst (SqL.of e5) .nil, sh_gms fun g hg => ⟨sok _ (bl.mem g (sF g hg)).1, sok _ (bl.mem g (sF g hg)).2⟩, rfl, ?_⟩
      have ne : F ≠ [] := fun c => by
        obtain ⟨g, hg, ⟨e1, e2, e3⟩ | ⟨_, e1, e2, e3⟩⟩ := mem_tkr.mp (sw i a b ha hb)
        · have : g ∈ F := by
            rw [hF]
            exact List.mem_append_right _ (List.mem_filter.mpr ⟨hg, by rw [Bool.and_eq_true]; exact ⟨decide_eq_true ⟨e1, e3.symm⟩, decide_eq_true e2⟩⟩)
          rw [c] at this
          cases this
        · have : g ∈ F := by
            rw [hF]
            exact List.mem_append_left _ (List.mem_filter.mpr ⟨hg, by rw [Bool.and_eq_true]; exact ⟨decide_eq_true ⟨e3.symm, e1⟩, decide_eq_true e2⟩⟩)
          rw [c] at this
          cases this
      have ev : PyData.eqv (.list (F.map gd)) (.list []) = false := by
        cases F with
        | nil => exact absurd rfl ne
        | cons g F => rfl
      rw [ev]
      exact ⟨fun h => nb h, fun _ => ⟨_, _, rfl, s1.trans (s2.trans s25)⟩⟩
def PrA (H : Hp) (v : V) (p : Str × Str) : Prop := ∃ t, v = .ref t ∧ H t = some (.tup [.str p.1, .str p.2])
def sp_l_all_ways (K : PySem.W.Frag) (ns : List Int) : Sp := fun vs H Q _ => match vs with
  | [.ref G, .ref P] => ∃ (gs : List Gm) (nm : List Str) (vs : List V) (ps : List (Str × Str)), (Bk K H G gs ∧ BL nm gs ∧ gs.length ≤ 50 ∧ (∀ x ∈ nm, PyData.strOk x = true) ∧ nm.length ≤ 60) ∧ (SqL K H P vs ∧ All2 (PrA H) vs ps ∧ ∀ p ∈ ps, (p.1 ∈ plr gs ∧ p.2 ∈ plr gs) ∧ Rch gs p.1 p.2 ∧ Rch gs p.2 p.1) ∧ ∀ H', Same H H' → Q (.bl true) H'
  | _ => False
theorem sc_l_all_ways : FnScope ["_law_games", "_law_pairs", "_law_one", "_law_other"] ["_law_games", "_law_pairs"] (defScope s_l_all_ways) := ⟨rfl, rfl, rfl, by decide +kernel, rfl, by decide +kernel, by decide +kernel⟩
theorem ok_l_all_ways (d : Dfn K mg "_law_all_ways" s_l_all_ways ["_law_games", "_law_pairs"]) (er : Errs K mg c_NoPlayer)   (c_l_gone : Cal P w K mg base "_law_gone" ["_law_games", "_law_found", "_law_one", "_law_other"] 1 (sp_l_gone K ns)) (c_way : Cal P w K mg base "way" ["games", "one", "other"] 5 (sp_way K ns)) : Cal P w K mg base "_law_all_ways" ["_law_games", "_law_pairs"] 6 (sp_l_all_ways K ns) := by
  refine d.cal (k := 5) sc_l_all_ways (fun vs H Q E h => ?_) (fun f cdv A outer s H vs Q E hr h => ?_)
  · match vs, h with
    | [.ref G, .ref P], _ => rfl
  · match vs, h with
    | [.ref G, .ref P], ⟨gs, nm, vs, ps, ⟨hB, bl, l50, sok, l60⟩, ⟨hP, aP, hp⟩, k⟩ =>
      refine ⟨_, (@pss_cons _ _ _ _ _ (@ps_for _ _ _ _ _ _ _ _ PassesOwn.never rfl (@pi_list _ _ _ _ (dv 1)) (@pg_tup _ _ _ _ _ _ rfl (@pgs_cons _ _ _ _ _ (@pg_name _ _ (2) _ sc_l_all_ways.nd rfl (by first | exact Or.inl rfl | exact Or.inr rfl) (by first | exact .inl rfl | exact .inr rfl | assumption)) (@pgs_cons _ _ _ _ _ (@pg_name _ _ (3) _ sc_l_all_ways.nd rfl (by first | exact Or.inl rfl | exact Or.inr rfl) (by first | exact .inl rfl | exact .inr rfl | assumption)) pgs_nil (by rfl)) (by rfl)) (by rfl) (by rfl)) (@pss_cons _ _ _ _ _ (@s_if _ _ _ _ _ _ _ _ (@pt_not _ _ _ _ (@t_val _ _ _ (@e_call _ _ _ _ _ _ _ _ _ _ _ c_l_gone hr (by decide) (by rfl) (@pa_cons _ _ _ _ _ (dv 0) (@pa_cons _ _ _ _ _ (@e_call _ _ _ _ _ _ _ _ _ _ _ c_way hr (by decide) (by rfl) (@pa_cons _ _ _ _ _ (dv 0) (@pa_cons _ _ _ _ _ (dv 2) (@pa_cons _ _ _ _ _ (dv 3) pa_nil (by rfl)) (by rfl)) (by rfl)) (by decide) (by rfl) (by rfl)) (@pa_cons _ _ _ _ _ (dv 2) (@pa_cons _ _ _ _ _ (dv 3) pa_nil (by rfl)) (by rfl)) (by rfl)) (by rfl)) (by decide) (by rfl) (by rfl)) (by intro _; rfl))) (@pss_one _ _ _ (@ps_ret _ _ _ _ pe_bl)) pss_nil) (@pss_one _ _ _ (@s_if _ _ _ _ _ _ _ _ (@pt_not _ _ _ _ (@t_val _ _ _ (@e_call _ _ _ _ _ _ _ _ _ _ _ c_l_gone hr (by decide) (by rfl) (@pa_cons _ _ _ _ _ (dv 0) (@pa_cons _ _ _ _ _ (@e_call _ _ _ _ _ _ _ _ _ _ _ c_way hr (by decide) (by rfl) (@pa_cons _ _ _ _ _ (dv 0) (@pa_cons _ _ _ _ _ (dv 3) (@pa_cons _ _ _ _ _ (dv 2) pa_nil (by rfl)) (by rfl)) (by rfl)) (by decide) (by rfl) (by rfl)) (@pa_cons _ _ _ _ _ (dv 3) (@pa_cons _ _ _ _ _ (dv 2) pa_nil (by rfl)) (by rfl)) (by rfl)) (by rfl)) (by decide) (by rfl) (by rfl)) (by intro _; rfl))) (@pss_one _ _ _ (@ps_ret _ _ _ _ pe_bl)) pss_nil))) (by intro _; rfl)) (@pss_one _ _ _ (@ps_ret _ _ _ _ pe_bl))), ?_⟩
      have one : ∀ {x y : Str}, x ∈ plr gs → y ∈ (wfs gs x).map (·.1) → (valW (wfs gs x) y)[0]? = some x ∧ (valW (wfs gs x) y).getLast? = some y ∧ Sws gs (valW (wfs gs x) y) ∧ (∀ w ∈ valW (wfs gs x) y, w ∈ nm) ∧ (valW (wfs gs x) y).length ≤ 100 := fun {x y} hx hy => by
        have m := valW_mem hy
        have q := wfs_pw m
        obtain ⟨a1, a2, a3⟩ := pw_sws q
        have l := bfs_len 60 1 _ _ (bi_0 (fun x => tkr x gs) x) _ m
        exact ⟨a1, a2, a3, pw_nm bl.mem (plr_sub bl.mem hx) q, Nat.le_trans l (by decide)⟩
      refine ⟨P, rfl, ⟨_, hP⟩, for_list (K := K) (a := P) (xs := vs) (fun i σ H' => ∃ o2 o3 : Option V, σ = [some (.ref G), some (.ref P), o2, o3] ∧ Same H H') ⟨none, none, rfl, Same.refl _⟩ (fun i σ H' _ ⟨_, _, _, s⟩ => s.seq hP) ?_ ?_⟩
      rotate_left
      · rintro σ H1 ⟨o2, o3, rfl, s1⟩
        exact k H1 s1
      rintro i v σ H1 hv ⟨o2, o3, rfl, s1⟩
      obtain ⟨⟨x, y⟩, hxy, t, rfl, et⟩ := aP.get hv
      obtain ⟨⟨px, py⟩, r1, r2⟩ := hp (x, y) (List.mem_of_getElem? hxy)
      have px : x ∈ plr gs := px
      have py : y ∈ plr gs := py
      refine ⟨t, _, rfl, SqT.of (s1 _ _ et), rfl, _, _, rfl, _, _, rfl, rfl, ?_⟩
      refine ⟨gs, nm, ⟨hB.up s1, bl.mem, l60, sok⟩, fun _ _ => ⟨fun _ p H2 s2 _ ky e2 => ?_, fun nr => absurd r1 nr⟩, fun no => no.elim (fun n => absurd px n) fun n => absurd py n⟩
      obtain ⟨w1, w2, w3, w4, w5⟩ := one px ky
      refine ⟨gs, nm, _, ⟨hB.up (s1.trans s2), bl, l50, sok, e2, w5⟩, ⟨w1, w2, w3, w4⟩, fun H3 s3 => ⟨fun h => nb h, fun _ => ?_⟩⟩
      have s13 := s1.trans (s2.trans s3)
      refine ⟨gs, nm, ⟨hB.up s13, bl.mem, l60, sok⟩, fun _ _ => ⟨fun _ p4 H4 s4 _ ky4 e4 => ?_, fun nr => absurd r2 nr⟩, fun no => no.elim (fun n => absurd py n) fun n => absurd px n⟩
      obtain ⟨w1, w2, w3, w4, w5⟩ := one py ky4
      exact ⟨gs, nm, _, ⟨hB.up (s13.trans s4), bl, l50, sok, e4, w5⟩, ⟨w1, w2, w3, w4⟩, fun H5 s5 => ⟨fun h => nb h, fun _ => ⟨_, _, rfl, s13.trans (s4.trans s5)⟩⟩⟩
structure Wh (ps : List (List Str)) (seen : List Str) (kvs : List (Key × V)) : Prop where
  ky : kvs.map (·.1) = seen.map Sum.inr
  at' : ∀ (i : Nat) p x, ps[i]? = some p → x ∈ p → x ∈ seen → valV kvs (Sum.inr x) = some (.int (i : Int))
theorem Wh.none {ps : List (List Str)} {seen : List Str} {kvs : List (Key × V)} (h : Wh ps seen kvs) {x : Str} (hx : x ∉ seen) : valV kvs (Sum.inr x) = none := by
  have := val_key h.ky x
  rw [decide_eq_false hx] at this
  cases hh : valV kvs (Sum.inr x) with
  | none => rfl
  | some v => rw [hh] at this; cases this
theorem Wh.add {ps : List (List Str)} {seen : List Str} {kvs : List (Key × V)} (h : Wh ps seen kvs) (nd : ps.flatten.Nodup) {i : Nat} {p : List Str} {x : Str} (hp : ps[i]? = some p) (hxp : x ∈ p) (hx : x ∉ seen) : Wh ps (seen ++ [x]) (putK kvs (Sum.inr x) (.int (i : Int))) := by
  have one : ∀ {l : List (List Str)} {i j : Nat} {p q : List Str}, l.flatten.Nodup → l[i]? = some p → l[j]? = some q → x ∈ p → x ∈ q → i = j := by
    intro l
    induction l with
    | nil => intro i j p q _ hp; simp at hp
    | cons a l ih =>
      intro i j p q nd hp hq xp xq
      rw [List.flatten_cons, List.nodup_append] at nd
      obtain ⟨_, n2, n3⟩ := nd
      cases i with
      | zero =>
        cases j with
        | zero => rfl
        | succ j =>
          rw [List.getElem?_cons_zero] at hp
          cases hp
          rw [List.getElem?_cons_succ] at hq
          exact absurd rfl (n3 x xp x (List.mem_flatten.mpr ⟨q, List.mem_of_getElem? hq, xq⟩))
      | succ i =>
        cases j with
        | zero =>
          rw [List.getElem?_cons_zero] at hq
          cases hq
          rw [List.getElem?_cons_succ] at hp
          exact absurd rfl (n3 x xq x (List.mem_flatten.mpr ⟨p, List.mem_of_getElem? hp, xp⟩))
        | succ j =>
          rw [List.getElem?_cons_succ] at hp hq
          rw [ih n2 hp hq xp xq]
  refine ⟨?_, fun j q y hq hy hm => ?_⟩
  · rw [keys_put h.ky]
    unfold dd
    rw [if_neg hx]
  · rw [valV_put]
    by_cases e : y = x
    · subst e
      rw [if_pos rfl, one nd hq hp hy hxp]
    · rw [if_neg (fun c => e (Sum.inr.inj c))]
      refine h.at' j q y hq hy ?_
      rcases List.mem_append.mp hm with hm | hm
      · exact hm
      · exact absurd (List.mem_singleton.mp hm) e
def sp_l_parts_seen (K : PySem.W.Frag) (ns : List Int) : Sp := fun vs H Q _ => match vs with
  | [.ref G, .ref D, .ref L] => ∃ (gs : List Gm) (nm met : List Str) (vs : List V) (ps : List (List Str)), (Bk K H G gs ∧ BL nm gs ∧ gs.length ≤ 50 ∧ met.length ≤ 60 ∧ SqL K H L (met.map V.str) ∧ met.Nodup) ∧ (H D = some (.lst vs) ∧ ps.length ≤ 60 ∧ All2 (fun v p => ∃ d, v = .ref d ∧ H d = some (.lst (p.map V.str))) vs ps) ∧ (ps.flatten.Nodup ∧ (∀ x, x ∈ ps.flatten ↔ x ∈ met) ∧ ∀ g ∈ gs, ∃ p ∈ ps, g.a ∈ p ∧ g.b ∈ p) ∧ ∀ H', Same H H' → Q (.bl true) H'
  | _ => False
theorem sc_l_parts_seen : FnScope ["_law_games", "_law_parts", "_law_names_here", "_law_where", "_law_k", "_law_name"] ["_law_games", "_law_parts", "_law_names_here"] (defScope s_l_parts_seen) := ⟨rfl, rfl, rfl, by decide +kernel, rfl, by decide +kernel, by decide +kernel⟩
theorem ok_l_parts_seen (d : Dfn K mg "_law_parts_seen" s_l_parts_seen ["_law_games", "_law_parts", "_law_names_here"]) (er : Errs K mg c_NoPlayer) (n_len : mg "len" = none) (n_range : mg "range" = none) (n_isinstance : mg "isinstance" = none) (n_list : mg "list" = none)   : Cal P w K mg base "_law_parts_seen" ["_law_games", "_law_parts", "_law_names_here"] 1 (sp_l_parts_seen K ns) := by
  refine d.cal (k := 0) sc_l_parts_seen (fun vs H Q E h => ?_) (fun f cdv A outer s H vs Q E hr h => ?_)
  · match vs, h with
    | [.ref G, .ref D, .ref L], _ => rfl
  · match vs, h with
    | [.ref G, .ref D, .ref L], ⟨gs, nm, met, vs, ps, ⟨hB, bl, l50, l60, hL, nd⟩, ⟨eD, p60, aD⟩, ⟨fnd, fmem, fg⟩, k⟩ =>
      refine ⟨_, (@pss_cons _ _ _ _ _ (@s_if _ _ _ _ _ _ _ _ (@pt_not _ _ _ _ (@t_val _ _ _ (@pe_callB _ _ _ _ _ _ _ _ _ c_isi (by rfl) n_isinstance (by decide +kernel) (@pa_cons _ _ _ _ _ (dv 1) (@pa_cons _ _ _ _ _ (e_ty "list" (by rfl) n_list (by decide +kernel)) pa_nil (by rfl)) (by rfl)) (by decide) (by decide) (by rfl) (by rfl)) (by intro _; rfl))) (@pss_one _ _ _ (@ps_ret _ _ _ _ pe_bl)) pss_nil) (@pss_cons _ _ _ _ _ (@ps_set _ _ (3) _ _ _ _ sc_l_parts_seen.nd rfl (by first | exact Or.inl rfl | exact Or.inr rfl) pe_dnewK (by rfl) (by first | exact .inl rfl | exact .inr rfl | assumption)) (@pss_cons _ _ _ _ _ (@ps_for _ _ _ _ _ _ _ _ PassesOwn.never rfl (@pi_range1 _ _ _ _ _ _ (by rfl) n_range (@pa_cons _ _ _ _ _ (@pe_callB _ _ _ _ _ _ _ _ _ c_len (by rfl) n_len (by decide +kernel) (@pa_cons _ _ _ _ _ (dv 1) pa_nil (by rfl)) (by decide) (by decide) (by rfl) (by rfl)) pa_nil (by rfl)) (by rfl)) (@pg_name _ _ (4) _ sc_l_parts_seen.nd rfl (by first | exact Or.inl rfl | exact Or.inr rfl) (by first | exact .inl rfl | exact .inr rfl | assumption)) (@pss_one _ _ _ (@ps_for _ _ _ _ _ _ _ _ PassesOwn.never rfl (@pi_list _ _ _ _ (@pe_ix _ _ _ _ _ _ _ i_lst (dv 1) (dv 4) (fun _ _ => rfl))) (@pg_name _ _ (5) _ sc_l_parts_seen.nd rfl (by first | exact Or.inl rfl | exact Or.inr rfl) (by first | exact .inl rfl | exact .inr rfl | assumption)) (@pss_cons _ _ _ _ _ (@s_if _ _ _ _ _ _ _ _ (@L2.PW.pt _ _ _ (@w_or _ _ _ _ _ _ _ (t_din (@u1 _ _ hr.units) (dv 5) (dv 3) (by with_unfolding_all rfl)) (@pw_or1 _ _ _ _ (@t_cmp _ _ _ _ _ _ _ _ (show OpR _ _ (dNotInS K) from o_notin) (dv 5) (dv 2) (by with_unfolding_all rfl))))) (@pss_one _ _ _ (@ps_ret _ _ _ _ pe_bl)) pss_nil) (@pss_one _ _ _ (@ps_dput _ _ _ _ _ _ _ _ _ (@u1 _ _ hr.units) (dv 3) (dv 5) (dv 4) rfl))) (by intro _; rfl))) (by intro _; rfl)) (@pss_cons _ _ _ _ _ (@s_if _ _ _ _ _ _ _ _ (@t_cmp _ _ _ _ _ _ _ _ o_ne (@pe_callB _ _ _ _ _ _ _ _ _ call_lenD (by rfl) n_len (by decide +kernel) (@pa_cons _ _ _ _ _ (dv 3) pa_nil (by rfl)) (by decide) (by decide) (by rfl) (by rfl)) (@pe_callB _ _ _ _ _ _ _ _ _ c_len (by rfl) n_len (by decide +kernel) (@pa_cons _ _ _ _ _ (dv 2) pa_nil (by rfl)) (by decide) (by decide) (by rfl) (by rfl)) (@nomark _ _ (by decide) (by decide))) (@pss_one _ _ _ (@ps_ret _ _ _ _ pe_bl)) pss_nil) (@pss_one _ _ _ (@ps_ret _ _ _ _ (@pe_cmpR _ _ _ _ _ _ _ _ o_eq (@pe_callB _ _ _ _ _ _ _ _ _ c_len (by rfl) n_len (by decide +kernel) (@pa_cons _ _ _ _ _ (@e_compIN _ _ _ _ _ _ _ _ _ _ _ _ ["_law_entry"] ["_law_where"] [3] rfl (@pi_list _ _ _ _ (dv 0)) (fun C s H fp => (@pg_name _ _ (0) _ (show List.Nodup [("_law_entry" : Str), ("_law_where" : Str)] by decide +kernel) rfl (by first | exact Or.inl rfl | exact Or.inr rfl) (by first | exact .inl rfl | exact .inr rfl | assumption))) (fun C s H fp => (@t_cmp _ _ _ _ _ _ _ _ o_ne (@pe_dget _ _ _ _ _ _ (@u1 _ _ hr.units) (dv 1) (@pe_ix _ _ _ _ _ _ _ i_tup (dv 0) pe_int (fun _ _ => rfl)) (fun _ _ => rfl)) (@pe_dget _ _ _ _ _ _ (@u1 _ _ hr.units) (dv 1) (@pe_ix _ _ _ _ _ _ _ i_tup (dv 0) pe_int (fun _ _ => rfl)) (fun _ _ => rfl)) (@nomark _ _ (by decide) (by decide)))) (fun C s H fp => (dv 0)) rfl rfl (by decide +kernel) (by decide +kernel) (by rfl) ⟨rfl, True.intro⟩ ⟨⟨rfl, rfl, rfl, rfl⟩, True.intro⟩ (by intro _; rfl)) pa_nil (by rfl)) (by decide) (by decide) (by rfl) (by rfl)) pe_int (@nomark _ _ (by decide) (by decide))))))))), ?_⟩
      have fl : ps.flatten.length ≤ met.length := nd_len fnd fun x hx => (fmem x).mp hx
      have fl' : met.length ≤ ps.flatten.length := nd_len nd fun x hx => (fmem x).mpr hx
      refine ⟨_, true, "list", eD, rfl, rfl, ⟨fun h => nb h, fun _ => fun W hW => ?_⟩⟩
      have s0 : Same H (upd H W (.dK [])) := same_upd hW
      have e0 : upd H W (.dK []) W = some (.dK []) := upd_same
      generalize upd H W (.dK []) = H0 at s0 e0
      refine ⟨_, .inl (SqL.of (s0 _ _ eD)), ?_⟩
      have lv := aD.len
      have split : ∀ {i : Nat} {p : List Str}, ps[i]? = some p → ps.flatten = (ps.take i).flatten ++ (p ++ (ps.drop (i + 1)).flatten) := fun {i p} hp => by
        have e : ps = ps.take i ++ p :: ps.drop (i + 1) := by
          have l := (List.getElem?_eq_some_iff.mp hp)
          obtain ⟨l1, l2⟩ := l
          rw [← l2, ← List.drop_eq_getElem_cons l1, List.take_append_drop]
        calc ps.flatten = (ps.take i ++ p :: ps.drop (i + 1)).flatten := by rw [← e]
          _ = _ := by rw [List.flatten_append, List.flatten_cons]
      refine ⟨_, rfl, by omega, by omega, for_range (lo := 0) (n := vs.length) (fun i σ H' => ∃ (kvs : List (Key × V)) (o4 o5 : Option V), σ = [some (.ref G), some (.ref D), some (.ref L), some (.ref W), o4, o5] ∧ Same H H' ∧ H' W = some (.dK kvs) ∧ Wh ps (ps.take i).flatten kvs) ⟨[], none, none, rfl, s0, e0, rfl, fun i p x _ _ h => absurd h (by simp)⟩ ?_ ?_⟩
      · rintro i σ H1 hi ⟨kvs, o4, o5, rfl, s1, e1, wh⟩
        have hv := List.getElem?_eq_getElem hi
        obtain ⟨p, hp, d, ed, gd⟩ := aD.get hv
        rw [ed] at hv
        have hat : atI vs (0 + (i : Int)) = some (.ref d) := by rw [Int.zero_add]; exact atI_nat hv
        have sp := split hp
        have pl : p.length ≤ ps.flatten.length := by
          rw [sp, List.length_append, List.length_append]
          omega
        refine ⟨_, _, SqL.of (s1 _ _ eD), hat, d, rfl, ⟨_, SqL.of (s1 _ _ gd)⟩, for_list (K := K) (a := d) (xs := p.map V.str) (fun j σ H' => ∃ (kvs : List (Key × V)) (o5 : Option V), σ = [some (.ref G), some (.ref D), some (.ref L), some (.ref W), some (.int (0 + (i : Int))), o5] ∧ Same H H' ∧ H' W = some (.dK kvs) ∧ Wh ps ((ps.take i).flatten ++ p.take j) kvs) ⟨kvs, _, rfl, s1, e1, by rw [List.take_zero, List.append_nil]; exact wh⟩ (fun j σ H' _ ⟨_, _, _, s, _⟩ => SqL.of (s _ _ gd)) ?_ ?_⟩
        · clear wh e1 s1
          rintro j v σ H2 hv2 ⟨kvs, o5, rfl, s2, e2, wh⟩
          rw [List.getElem?_map] at hv2
          obtain ⟨x, hx, rfl⟩ : ∃ x, p[j]? = some x ∧ V.str x = v := by
            cases hh : p[j]? with
            | none => rw [hh] at hv2; cases hv2
            | some x => rw [hh] at hv2; exact ⟨x, rfl, Option.some.inj hv2⟩
          have xp := List.mem_of_getElem? hx
          have pj : p = p.take j ++ x :: p.drop (j + 1) := by
            obtain ⟨l1, l2⟩ := List.getElem?_eq_some_iff.mp hx
            rw [← l2, ← List.drop_eq_getElem_cons l1, List.take_append_drop]
          have nx : x ∉ (ps.take i).flatten ++ p.take j := fun c => by
            have n := fnd
            rw [sp, pj, List.append_assoc, ← List.append_assoc, List.nodup_append] at n
            exact n.2.2 x c x List.mem_cons_self rfl
          have kl : kvs.length ≤ 60 := by
            have e := congrArg List.length wh.ky
            rw [List.length_map, List.length_map, List.length_append, List.length_take] at e
            have : ps.flatten.length = (ps.take i).flatten.length + (p.length + ((ps.drop (i + 1)).flatten).length) := by rw [sp, List.length_append, List.length_append]
            omega
          have xm : x ∈ met := (fmem x).mp (List.mem_flatten.mpr ⟨p, List.mem_of_getElem? hp, xp⟩)
          refine ⟨W, _, rfl, (wh.none nx) ▸ DGet.k (k := Sum.inr x) e2, ⟨fun h => nb h, fun _ => ⟨_, .inl (s2.seq hL), rfl, flat_strs _, ?_⟩⟩⟩
          rw [in_strs, decide_eq_true xm]
          refine ⟨fun h => nb h, fun _ => ⟨W, _, rfl, DPut.k (k := Sum.inr x) e2 (Nat.lt_of_le_of_lt kl (by decide)), _, _, rfl, same_app' s2 hW, upd_same, ?_⟩⟩
          have w2 := wh.add fnd hp xp nx
          have e : p.take (j + 1) = p.take j ++ [x] := by rw [List.take_add_one, hx]; rfl
          rw [e, ← List.append_assoc, Int.zero_add]
          exact w2
        · rintro σ H2 ⟨kvs, o5, rfl, s2, e2, wh⟩
          rw [List.length_map, List.take_length] at wh
          refine ⟨kvs, _, _, rfl, s2, e2, ?_⟩
          rw [List.take_add_one, hp, List.flatten_append]
          have e : (some p).toList.flatten = p := by simp
          rw [e]
          exact wh
      rintro σ H1 ⟨kvs, o4, o5, rfl, s1, e1, wh⟩
      rw [lv, List.take_length] at wh
      have kl : kvs.length = met.length := by
        have e := congrArg List.length wh.ky
        rw [List.length_map, List.length_map] at e
        omega
      refine ⟨W, kvs, rfl, e1, _, .inl (s1.seq hL), ⟨fun h => ?_, fun _ => ?_⟩⟩
      · rw [List.length_map, kl] at h
        exact absurd h (by simp)
      obtain ⟨gv, hg, hgm, hgl⟩ := hB.up s1
      refine ⟨G, rfl, ⟨_, hg⟩, comp_absI GmAt gm_up (fun _ _ _ => True) (fun _ _ _ _ _ h => h) (fun _ => false) (by rw [hgm.len]; omega) hg hgm ?_ ?_⟩
      · intro v g H2 hM hmm s2 P P' hP hP'
        obtain ⟨t, rfl, ep⟩ := hM
        obtain ⟨p, hp, pa, pb⟩ := fg g hmm
        obtain ⟨i, hi, e⟩ := List.getElem_of_mem hp
        have hp : ps[i]? = some p := by rw [List.getElem?_eq_getElem hi, e]
        have ina : g.a ∈ ps.flatten := List.mem_flatten.mpr ⟨p, List.mem_of_getElem? hp, pa⟩
        have inb : g.b ∈ ps.flatten := List.mem_flatten.mpr ⟨p, List.mem_of_getElem? hp, pb⟩
        have ga : DGet H2 W (.str g.a) (some (.int (i : Int))) := wh.at' i p g.a hp pa ina ▸ DGet.k (k := Sum.inr g.a) (s2 _ _ e1)
        have gb : DGet H2 W (.str g.b) (some (.int (i : Int))) := wh.at' i p g.b hp pb inb ▸ DGet.k (k := Sum.inr g.b) (s2 _ _ e1)
        refine ⟨rfl, _, ep, W, _, rfl, ga, _, ep, W, _, rfl, gb, ⟨fun h => absurd h (by simp), fun _ => hP' rfl _ (Same.refl _)⟩⟩
      intro D2 H2 ys s2 _ e2 a2
      have l2 := a2.len
      have zf : gs.filter (fun _ => false) = [] := List.filter_eq_nil_iff.mpr fun x _ => by simp
      rw [zf] at l2
      have y0 : ys = [] := List.eq_nil_of_length_eq_zero l2.symm
      subst y0
      exact ⟨_, .inl (SqL.of e2), k H2 (s1.trans s2)⟩
theorem jn_nd {nm : List Str} {gs : List Gm} (bl : BL nm gs) (good : ∀ m ∈ plr gs, ¬ bad gs m) : ∀ (l : List Str) (ps : List (List Str)), (∀ q ∈ ps, ∃ m, q = abv gs m) → ps.flatten.Nodup → (l.foldl (jstep gs) ps).flatten.Nodup
  | [], _, _, h => h
  | n :: l, ps, hq, h => by
    rw [List.foldl_cons]
    have st : jstep gs ps n = ps ∨ ((∀ q ∈ ps, n ∉ q) ∧ jstep gs ps n = ps ++ [abv gs n]) := by
      unfold jstep
      split
      · exact .inl rfl
      · rename_i c
        refine .inr ⟨fun q hq hn => c ?_, rfl⟩
        exact List.any_eq_true.mpr ⟨q, hq, decide_eq_true hn⟩
    rcases st with e | ⟨no, e⟩
    · rw [e]
      exact jn_nd bl good l ps hq h
    · rw [e]
      refine jn_nd bl good l _ (fun q h' => ?_) ?_
      · rcases List.mem_append.mp h' with h' | h'
        · exact hq q h'
        · exact ⟨n, List.mem_singleton.mp h'⟩
      · rw [List.flatten_append, List.nodup_append]
        refine ⟨h, by simpa using inc_nodup (abv_inc gs n), fun x hx y hy ee => ?_⟩
        subst ee
        have hy : x ∈ abv gs n := by simpa using hy
        obtain ⟨q, hqs, hxq⟩ := List.mem_flatten.mp hx
        obtain ⟨m, rfl⟩ := hq q hqs
        exact no _ hqs (mem_abv.mpr (rch_trans (mem_abv.mp hxq) (rch_sym bl good (mem_abv.mp hy))))
theorem jn_parts {nm : List Str} {gs : List Gm} (bl : BL nm gs) (good : ∀ m ∈ plr gs, ¬ bad gs m) : (jnI gs (plr gs).length).flatten.Nodup ∧ (∀ x, x ∈ (jnI gs (plr gs).length).flatten ↔ x ∈ plr gs) ∧ ∀ g ∈ gs, ∃ p ∈ jnI gs (plr gs).length, g.a ∈ p ∧ g.b ∈ p := by
  rw [jn_all]
  obtain ⟨_, h2, h3⟩ := jfold (gs := gs) (plr gs) []
  have cl : ∀ q ∈ (plr gs).foldl (jstep gs) [], ∃ m ∈ plr gs, q = abv gs m := fun q hq => by
    rcases h3 q hq with h | h
    · cases h
    · exact h
  refine ⟨jn_nd bl good _ [] (fun q h => absurd h (by simp)) (by simp), fun x => ⟨fun hx => ?_, fun hx => ?_⟩, fun g hg => ?_⟩
  · obtain ⟨q, hq, hx⟩ := List.mem_flatten.mp hx
    obtain ⟨m, hm, rfl⟩ := cl q hq
    rcases rch_plr (mem_abv.mp hx) with e | e
    · rw [e]; exact hm
    · exact e
  · obtain ⟨q, hq, hx⟩ := h2 x hx
    exact List.mem_flatten.mpr ⟨q, hq, hx⟩
  · have pa : g.a ∈ plr gs := mem_plr.mpr ⟨g, hg, .inl rfl⟩
    obtain ⟨q, hq, hx⟩ := h2 g.a pa
    obtain ⟨m, hm, rfl⟩ := cl q hq
    refine ⟨_, hq, hx, mem_abv.mpr (rch_trans (mem_abv.mp hx) ?_)⟩
    exact Classical.byContradiction fun no => good g.a pa ⟨g.b, mem_met.mpr ⟨g, hg, .inl ⟨rfl, rfl⟩⟩, no⟩
theorem game_both {nm : List Str} {gs : List Gm} (bl : BL nm gs) (good : ∀ m ∈ plr gs, ¬ bad gs m) {g : Gm} (hg : g ∈ gs) : (g.a ∈ plr gs ∧ g.b ∈ plr gs) ∧ Rch gs g.a g.b ∧ Rch gs g.b g.a := by
  have pa : g.a ∈ plr gs := mem_plr.mpr ⟨g, hg, .inl rfl⟩
  have r : Rch gs g.a g.b := Classical.byContradiction fun no => good g.a pa ⟨g.b, mem_met.mpr ⟨g, hg, .inl ⟨rfl, rfl⟩⟩, no⟩
  exact ⟨⟨pa, mem_plr.mpr ⟨g, hg, .inr rfl⟩⟩, r, rch_sym bl good r⟩
def Ks (gs : List Gm) (kvs : List (List Key × V)) : Prop := ∀ k ∈ kvs, ∃ g ∈ gs, k.1 = [Sum.inr g.a, Sum.inr g.b]
theorem ks_put {gs : List Gm} {g : Gm} (hg : g ∈ gs) {v : V} {kvs : List (List Key × V)} (h : Ks gs kvs) : Ks gs (putK kvs [Sum.inr g.a, Sum.inr g.b] v) := fun k hk => by
  unfold putK at hk
  split at hk
  · obtain ⟨q, hq, e⟩ := List.mem_map.mp hk
    split at e
    · rename_i c
      rw [← e]
      exact ⟨g, hg, c⟩
    · rw [← e]
      exact h q hq
  · rcases List.mem_append.mp hk with hk | hk
    · exact h k hk
    · rw [List.mem_singleton.mp hk]
      exact ⟨g, hg, rfl⟩
theorem a2_pairs {H : Hp} {gs : List Gm} : ∀ {as : List Addr} {kvs : List (List Key × V)}, All2 (fun a (k : List Key × V) => H a = some (.tup (k.1.map kV))) as kvs → Ks gs kvs → ∃ ps : List (Str × Str), All2 (PrA H) (as.map V.ref) ps ∧ ∀ p ∈ ps, ∃ g ∈ gs, p = (g.a, g.b)
  | _, _, .nil, _ => ⟨[], .nil, fun p h => absurd h (by simp)⟩
  | _, _, .cons (a := a) (b := k) (l := as) (m := kvs) h t, ks => by
    obtain ⟨ps, h1, h2⟩ := a2_pairs t fun q hq => ks q (List.mem_cons_of_mem _ hq)
    obtain ⟨g, hg, e⟩ := ks k List.mem_cons_self
    refine ⟨(g.a, g.b) :: ps, .cons ⟨a, rfl, ?_⟩ h1, fun p hp => ?_⟩
    · rw [h, e]
      rfl
    · rcases List.mem_cons.mp hp with rfl | hp
      · exact ⟨g, hg, rfl⟩
      · exact h2 p hp
theorem a2_mp {β γ : Type} {R : V → γ → Prop} {f : β → γ} : ∀ {l : List β} {ys : List V}, All2 (fun x y => R y (f x)) l ys → All2 R ys (l.map f)
  | _, _, .nil => .nil
  | _, _, .cons h t => .cons h (a2_mp t)
theorem eqv_nil {l : List Str} (h : l ≠ []) : PyData.eqv (.list (l.map PyData.str)) (.list []) = false := by
  cases l with
  | nil => exact absurd rfl h
  | cons x l => rfl
theorem sc_law : FnScope ["_law_script", "_law_many", "_law_names_here", "_law_games", "_law_cell", "_law_edge", "_law_found", "_law_pairs", "_law_entry", "_law_met"] ["_law_script"] (defScope s_law) := ⟨rfl, rfl, rfl, by decide +kernel, rfl, by decide +kernel, by decide +kernel⟩
theorem ok_law (d : Dfn K mg "law" s_law ["_law_script"]) (er : Errs K mg c_NoPlayer) (n_len : mg "len" = none) (n_sorted : mg "sorted" = none) (n_list : mg "list" = none)  (c_l_parts_seen : Cal P w K mg base "_law_parts_seen" ["_law_games", "_law_parts", "_law_names_here"] 1 (sp_l_parts_seen K ns)) (c_l_all_ways : Cal P w K mg base "_law_all_ways" ["_law_games", "_law_pairs"] 6 (sp_l_all_ways K ns)) (c_l_none_seen : Cal P w K mg base "_law_none_seen" ["_law_games", "_law_held", "_law_worths_here", "_law_edge"] 2 (sp_l_none_seen K ns)) (c_l_worths : Cal P w K mg base "_law_worths" ["_law_script", "_law_names_here"] 2 (sp_l_worths K ns)) (c_verdict : Cal P w K mg base "verdict" ["games"] 7 (sp_verdict K ns)) (c_l_cell_at : Cal P w K mg base "_law_cell_at" ["_law_script", "_law_k"] 1 (sp_l_cell_at K ns)) (c_l_book : Cal P w K mg base "_law_book" ["_law_script", "_law_names_here"] 2 (sp_l_book K ns)) (c_l_names : Cal P w K mg base "_law_names" ["_law_cell", "_law_many"] 1 (sp_l_names K ns)) : Cal P w K mg base "law" ["_law_script"] 8 (sp_law K ns) := by
  refine d.cal (k := 7) sc_law (fun vs H Q E h => ?_) (fun f cdv A outer s H vs Q E hr h => ?_)
  · match vs, h with
    | [.ref a], _ => rfl
  · match vs, h with
    | [.ref a], ⟨hS, hl, k⟩ =>
      refine ⟨_, (@ss_cutE _ _ _ _ _ (@ps_set _ _ (1) _ _ _ _ sc_law.nd rfl (by first | exact Or.inl rfl | exact Or.inr rfl) (@pe_op _ _ _ _ _ _ _ _ o_add pe_int (@pe_op _ _ _ _ _ _ _ _ o_mod (@e_call _ _ _ _ _ _ _ _ _ _ _ c_l_cell_at hr (by decide) (by rfl) (@pa_cons _ _ _ _ _ (dv 0) (@pa_cons _ _ _ _ _ pe_int pa_nil (by rfl)) (by rfl)) (by decide) (by rfl) (by rfl)) pe_int)) (by rfl) (by first | exact .inl rfl | exact .inr rfl | assumption)) (@pss_cons _ _ _ _ _ (@ps_set _ _ (2) _ _ _ _ sc_law.nd rfl (by first | exact Or.inl rfl | exact Or.inr rfl) (@e_call _ _ _ _ _ _ _ _ _ _ _ c_l_names hr (by decide) (by rfl) (@pa_cons _ _ _ _ _ (@e_call _ _ _ _ _ _ _ _ _ _ _ c_l_cell_at hr (by decide) (by rfl) (@pa_cons _ _ _ _ _ (dv 0) (@pa_cons _ _ _ _ _ pe_int pa_nil (by rfl)) (by rfl)) (by decide) (by rfl) (by rfl)) (@pa_cons _ _ _ _ _ (dv 1) pa_nil (by rfl)) (by rfl)) (by decide) (by rfl) (by rfl)) (by rfl) (by first | exact .inl rfl | exact .inr rfl | assumption)) (@pss_cons _ _ _ _ _ (@ps_set _ _ (3) _ _ _ _ sc_law.nd rfl (by first | exact Or.inl rfl | exact Or.inr rfl) (@e_call _ _ _ _ _ _ _ _ _ _ _ c_l_book hr (by decide) (by rfl) (@pa_cons _ _ _ _ _ (dv 0) (@pa_cons _ _ _ _ _ (dv 2) pa_nil (by rfl)) (by rfl)) (by decide) (by rfl) (by rfl)) (by rfl) (by first | exact .inl rfl | exact .inr rfl | assumption)) (@pss_cons _ _ _ _ _ (@ps_set _ _ (4) _ _ _ _ sc_law.nd rfl (by first | exact Or.inl rfl | exact Or.inr rfl) (@e_call _ _ _ _ _ _ _ _ _ _ _ c_l_cell_at hr (by decide) (by rfl) (@pa_cons _ _ _ _ _ (dv 0) (@pa_cons _ _ _ _ _ pe_int pa_nil (by rfl)) (by rfl)) (by decide) (by rfl) (by rfl)) (by rfl) (by first | exact .inl rfl | exact .inr rfl | assumption)) (@ss_cutE _ _ _ _ _ (@ps_set _ _ (5) _ _ _ _ sc_law.nd rfl (by first | exact Or.inl rfl | exact Or.inr rfl) (@e_tup _ _ _ _ _ (@pa_cons _ _ _ _ _ (@pe_op _ _ _ _ _ _ _ _ o_add pe_int (@pe_op _ _ _ _ _ _ _ _ o_mod (dv 4) pe_int)) (@pa_cons _ _ _ _ _ (@pe_op _ _ _ _ _ _ _ _ o_add pe_int (@pe_op _ _ _ _ _ _ _ _ o_mod (@pe_op _ _ _ _ _ _ _ _ o_div (dv 4) pe_int) pe_int)) pa_nil (by rfl)) (by rfl))) (by rfl) (by first | exact .inl rfl | exact .inr rfl | assumption)) (@pss_cons _ _ _ _ _ (@ps_set _ _ (6) _ _ _ _ sc_law.nd rfl (by first | exact Or.inl rfl | exact Or.inr rfl) (@e_call _ _ _ _ _ _ _ _ _ _ _ c_verdict hr (by decide) (by rfl) (@pa_cons _ _ _ _ _ (@pe_callTy _ _ _ _ _ _ _ _ _ c_listN (by rfl) n_list (by decide +kernel) (@pa_cons _ _ _ _ _ (dv 3) pa_nil (by rfl)) (by decide) (by decide) (by rfl) (by rfl)) pa_nil (by rfl)) (by decide) (by rfl) (by rfl)) (by rfl) (by first | exact .inl rfl | exact .inr rfl | assumption)) (@pss_cons _ _ _ _ _ (@s_if _ _ _ _ _ _ _ _ (@t_cmp _ _ _ _ _ _ _ _ o_eq (@pe_ix _ _ _ _ _ _ _ i_tup (dv 6) pe_int (fun _ _ => rfl)) pe_str (@nomark _ _ (by decide) (by decide))) (@pss_one _ _ _ (@ps_ret _ _ _ _ (@e_call _ _ _ _ _ _ _ _ _ _ _ c_l_none_seen hr (by decide) (by rfl) (@pa_cons _ _ _ _ _ (dv 3) (@pa_cons _ _ _ _ _ (@pe_ix _ _ _ _ _ _ _ i_tup (dv 6) pe_int (fun _ _ => rfl)) (@pa_cons _ _ _ _ _ (@e_call _ _ _ _ _ _ _ _ _ _ _ c_l_worths hr (by decide) (by rfl) (@pa_cons _ _ _ _ _ (dv 0) (@pa_cons _ _ _ _ _ (dv 2) pa_nil (by rfl)) (by rfl)) (by decide) (by rfl) (by rfl)) (@pa_cons _ _ _ _ _ (dv 5) pa_nil (by rfl)) (by rfl)) (by rfl)) (by rfl)) (by decide) (by rfl) (by rfl)))) pss_nil) (@pss_cons _ _ _ _ _ (@ps_set _ _ (7) _ _ _ _ sc_law.nd rfl (by first | exact Or.inl rfl | exact Or.inr rfl) pe_dnewT (by rfl) (by first | exact .inl rfl | exact .inr rfl | assumption)) (@pss_cons _ _ _ _ _ (@ps_for _ _ _ _ _ _ _ _ PassesOwn.never rfl (@pi_list _ _ _ _ (dv 3)) (@pg_name _ _ (8) _ sc_law.nd rfl (by first | exact Or.inl rfl | exact Or.inr rfl) (by first | exact .inl rfl | exact .inr rfl | assumption)) (@pss_one _ _ _ (@ps_dput _ _ _ _ _ _ _ _ _ (@u1 _ _ hr.units) (dv 7) (@pe_slice _ _ _ _ _ _ _ _ _ _ sl_tup (dv 8) (po_some pe_int) (po_some pe_int)) pe_bl rfl)) (by intro _; rfl)) (@pss_cons _ _ _ _ _ (@s_if _ _ _ _ _ _ _ _ (@pt_not _ _ _ _ (@t_val _ _ _ (@e_call _ _ _ _ _ _ _ _ _ _ _ c_l_all_ways hr (by decide) (by rfl) (@pa_cons _ _ _ _ _ (dv 3) (@pa_cons _ _ _ _ _ (@pe_callTy _ _ _ _ _ _ _ _ _ c_listT (by rfl) n_list (by decide +kernel) (@pa_cons _ _ _ _ _ (dv 7) pa_nil (by rfl)) (by decide) (by decide) (by rfl) (by rfl)) pa_nil (by rfl)) (by rfl)) (by decide) (by rfl) (by rfl)) (by intro _; rfl))) (@pss_one _ _ _ (@ps_ret _ _ _ _ pe_bl)) pss_nil) (@pss_cons _ _ _ _ _ (@ps_set _ _ (9) _ _ _ _ sc_law.nd rfl (by first | exact Or.inl rfl | exact Or.inr rfl) (@e_compIN _ _ _ _ _ _ _ _ _ _ _ _ ["_law_name"] ["_law_games"] [3] rfl (@pi_list _ _ _ _ (dv 2)) (fun C s H fp => (@pg_name _ _ (0) _ (show List.Nodup [("_law_name" : Str), ("_law_games" : Str)] by decide +kernel) rfl (by first | exact Or.inl rfl | exact Or.inr rfl) (by first | exact .inl rfl | exact .inr rfl | assumption))) (fun C s H fp => (@L2.PW.pt _ _ _ (@w_or _ _ _ _ _ _ _ (@t_cmp _ _ _ _ _ _ _ _ (show OpR _ _ (dInS K) from o_in) (dv 0) (@e_compN _ _ _ _ _ _ _ _ _ _ ["_law_entry"] [] [] rfl (show PI _ _ _ (iList K _) from pi_list (dv 1)) (fun C s H fp => (@pg_name _ _ (0) _ (show List.Nodup [("_law_entry" : Str)] by decide +kernel) rfl (by first | exact Or.inl rfl | exact Or.inr rfl) (by first | exact .inl rfl | exact .inr rfl | assumption))) (fun C s H fp => (@pe_ix _ _ _ _ _ _ _ i_tup (dv 0) pe_int (fun _ _ => rfl))) rfl rfl (by decide +kernel) (by decide +kernel) (by rfl) True.intro True.intro (by intro _; rfl)) (by with_unfolding_all rfl)) (@pw_or1 _ _ _ _ (@t_cmp _ _ _ _ _ _ _ _ (show OpR _ _ (dInS K) from o_in) (dv 0) (@e_compN _ _ _ _ _ _ _ _ _ _ ["_law_entry"] [] [] rfl (show PI _ _ _ (iList K _) from pi_list (dv 1)) (fun C s H fp => (@pg_name _ _ (0) _ (show List.Nodup [("_law_entry" : Str)] by decide +kernel) rfl (by first | exact Or.inl rfl | exact Or.inr rfl) (by first | exact .inl rfl | exact .inr rfl | assumption))) (fun C s H fp => (@pe_ix _ _ _ _ _ _ _ i_tup (dv 0) pe_int (fun _ _ => rfl))) rfl rfl (by decide +kernel) (by decide +kernel) (by rfl) True.intro True.intro (by intro _; rfl)) (by with_unfolding_all rfl)))))) (fun C s H fp => (dv 0)) rfl rfl (by decide +kernel) (by decide +kernel) (by rfl) ⟨rfl, True.intro⟩ ⟨⟨rfl, rfl, rfl, rfl⟩, True.intro⟩ (by intro _; rfl)) (by rfl) (by first | exact .inl rfl | exact .inr rfl | assumption)) (@pss_cons _ _ _ _ _ (@s_if _ _ _ _ _ _ _ _ (@t_cmp _ _ _ _ _ _ _ _ o_eq (@pe_ix _ _ _ _ _ _ _ i_tup (dv 6) pe_int (fun _ _ => rfl)) pe_str (@nomark _ _ (by decide) (by decide))) (@pss_cons _ _ _ _ _ (@s_if _ _ _ _ _ _ _ _ (@L2.PW.pt _ _ _ (@w_or _ _ _ _ _ _ _ (@t_cmp _ _ _ _ _ _ _ _ (@o_neD _ hr.units) (@pe_ix _ _ _ _ _ _ _ i_tup (dv 6) pe_int (fun _ _ => rfl)) (@pe_callB _ _ _ _ _ _ _ _ _ c_sortL (by rfl) n_sorted (by decide +kernel) (@pa_cons _ _ _ _ _ (dv 9) pa_nil (by rfl)) (by decide) (by decide) (by rfl) (by rfl)) (@nomark _ _ (by decide) (by decide))) (@pw_or1 _ _ _ _ (@t_cmp _ _ _ _ _ _ _ _ (@o_eqD _ hr.units) (dv 9) (@e_lst _ _ _ _ pa_nil) (@nomark _ _ (by decide) (by decide)))))) (@pss_one _ _ _ (@ps_ret _ _ _ _ pe_bl)) pss_nil) (@pss_one _ _ _ (@ps_ret _ _ _ _ (@e_call _ _ _ _ _ _ _ _ _ _ _ c_l_all_ways hr (by decide) (by rfl) (@pa_cons _ _ _ _ _ (dv 3) (@pa_cons _ _ _ _ _ (@e_compN _ _ _ _ _ _ _ _ _ _ ["_law_name"] ["_law_met"] [9] rfl (@pi_list _ _ _ _ (dv 9)) (fun C s H fp => (@pg_name _ _ (0) _ (show List.Nodup [("_law_name" : Str), ("_law_met" : Str)] by decide +kernel) rfl (by first | exact Or.inl rfl | exact Or.inr rfl) (by first | exact .inl rfl | exact .inr rfl | assumption))) (fun C s H fp => (@e_tup _ _ _ _ _ (@pa_cons _ _ _ _ _ (@pe_ix _ _ _ _ _ _ _ (show IxR _ (dIxL K) from i_lst) (dv 1) pe_int (fun _ _ => rfl)) (@pa_cons _ _ _ _ _ (dv 0) pa_nil (by rfl)) (by rfl)))) rfl rfl (by decide +kernel) (by decide +kernel) (by rfl) ⟨rfl, True.intro⟩ ⟨⟨rfl, rfl, rfl, rfl⟩, True.intro⟩ (by intro _; rfl)) pa_nil (by rfl)) (by rfl)) (by decide) (by rfl) (by rfl))))) pss_nil) (@pss_one _ _ _ (@ps_ret _ _ _ _ (@e_and _ _ _ _ _ _ _ (@pe_cmpR _ _ _ _ _ _ _ _ o_eq (@pe_ix _ _ _ _ _ _ _ i_tup (dv 6) pe_int (fun _ _ => rfl)) pe_str (@nomark _ _ (by decide) (by decide))) (@e_and _ _ _ _ _ _ _ (@pe_cmpR _ _ _ _ _ _ _ _ o_ne (@pe_callB _ _ _ _ _ _ _ _ _ c_len (by rfl) n_len (by decide +kernel) (@pa_cons _ _ _ _ _ (@pe_ix _ _ _ _ _ _ _ i_tup (dv 6) pe_int (fun _ _ => rfl)) pa_nil (by rfl)) (by decide) (by decide) (by rfl) (by rfl)) pe_int (@nomark _ _ (by decide) (by decide))) (@pe_one _ _ _ _ _ (@e_call _ _ _ _ _ _ _ _ _ _ _ c_l_parts_seen hr (by decide) (by rfl) (@pa_cons _ _ _ _ _ (dv 3) (@pa_cons _ _ _ _ _ (@pe_ix _ _ _ _ _ _ _ i_tup (dv 6) pe_int (fun _ _ => rfl)) (@pa_cons _ _ _ _ _ (dv 9) pa_nil (by rfl)) (by rfl)) (by rfl)) (by decide) (by rfl) (by rfl))))))))))))))))))), ?_⟩
      refine ⟨fun σ H' => ∃ m : Int, σ = [some (.ref a), some (.int m), none, none, none, none, none, none, none, none] ∧ H' = H ∧ 2 ≤ m ∧ m ≤ 8, ⟨hS, by decide, fun c => ⟨(by show (0 : Int) < 7; decide), 2 + c % 7, rfl, rfl, ?_, ?_⟩⟩, ?_⟩
      · have := Int.emod_nonneg c (show (7 : Int) ≠ 0 by decide)
        omega
      · have := Int.emod_lt_of_pos c (show (0 : Int) < 7 by decide)
        omega
      rintro σ H0 ⟨m, rfl, rfl, m2, m8⟩
      refine ⟨hS, by decide, fun c => ⟨⟨by omega, m8⟩, fun L nm H1 s1 _ e1 l1 nl => ⟨nm, ⟨s1.seq hS, e1, nl, by omega, by omega⟩, fun G gs H2 s2 _ b2 bl l2 => ?_⟩⟩⟩
      have e1 := s2 _ _ e1
      have s12 := s1.trans s2
      obtain ⟨gv, eG, aG⟩ := b2
      refine ⟨s12.seq hS, by decide, fun c2 => ?_⟩
      refine ⟨fun σ H' => ∃ (E : Addr) (z : Q2), σ = [some (.ref a), some (.int m), some (.ref L), some (.ref G), some (.int c2), some (.ref E), none, none, none, none] ∧ Same H2 H' ∧ H' E = some (.tup [.int z.1, .int z.2]) ∧ (1 ≤ z.1 ∧ z.1 ≤ 9) ∧ 1 ≤ z.2 ∧ z.2 ≤ 9, ⟨(by show (0 : Int) < 9; decide), ⟨by decide, bd_lit rfl⟩, (by show (0 : Int) < 9; decide), fun E H3 s3 e3 => ⟨E, (1 + c2 % 9, 1 + c2 / 9 % 9), rfl, s3, e3, ?_, ?_⟩⟩, ?_⟩
      · have a := Int.emod_nonneg c2 (show (9 : Int) ≠ 0 by decide)
        have b := Int.emod_lt_of_pos c2 (show (0 : Int) < 9 by decide)
        show 1 ≤ 1 + c2 % 9 ∧ 1 + c2 % 9 ≤ 9
        omega
      · have a := Int.emod_nonneg (c2 / 9) (show (9 : Int) ≠ 0 by decide)
        have b := Int.emod_lt_of_pos (c2 / 9) (show (0 : Int) < 9 by decide)
        show 1 ≤ 1 + c2 / 9 % 9 ∧ 1 + c2 / 9 % 9 ≤ 9
        omega
      rintro σ H3 ⟨E, z, rfl, s3, eE, zb⟩
      have n8 : nm.length ≤ 8 := by omega
      have l60 : nm.length ≤ 60 := by omega
      have sok : ∀ x ∈ nm, PyData.strOk x = true := fun x hx => (nl.ok x hx).sok
      have e1 := s3 _ _ e1
      have eG := s3 _ _ eG
      have aG : All2 (GmAt H3) gv gs := aG.imp fun v g r => gm_up v g _ _ (kt_of s3) r
      have s03 := s12.trans s3
      have bk : ∀ {H'}, Same H3 H' → Bk K H' G gs := fun s => ⟨gv, SqL.of (s _ _ eG), aG.imp fun v g r => gm_up v g _ _ (kt_of s) r, by omega⟩
      clear s1 s2 s12 s3
      refine ⟨_, .inl (SqL.of eG), fun C hC => ?_⟩
      have s4 : Same H3 (upd H3 C (.lst gv)) := same_upd hC
      have e4 : upd H3 C (.lst gv) C = some (.lst gv) := upd_same
      generalize upd H3 C (.lst gv) = H4 at s4 e4
      have aG4 : All2 (GmAt H4) gv gs := aG.imp fun v g r => gm_up v g _ _ (kt_of s4) r
      refine ⟨gs, nm, ⟨⟨gv, SqL.of e4, aG4, by omega⟩, bl.mem, l60, sok⟩, fun T H5 s5 vd => ?_⟩
      have s45 := s4.trans s5
      have pl60 : (plr gs).length ≤ 60 := Nat.le_trans (plr_len bl.mem) l60
      have key : (∃ (i : Nat) (n : Str) (F : Addr), (plr gs)[i]? = some n ∧ bad gs n ∧ H5 F = some (.lst ((abv gs n).map V.str)) ∧ H5 T = some (.tup [.str (Str.ofString "none"), .ref F])) ∨ ∃ (w : Str) (F : Addr), H5 T = some (.tup [.str w, .ref F]) ∧ w ≠ Str.ofString "none" ∧ (∀ m ∈ plr gs, ¬ bad gs m) ∧ ((w = Str.ofString "one" ∧ ∃ p, jnI gs (plr gs).length = [p] ∧ H5 F = some (.lst (p.map V.str))) ∨ (w = Str.ofString "loose" ∧ (jnI gs (plr gs).length).length ≠ 1 ∧ ∃ vs, H5 F = some (.lst vs) ∧ All2 (Prt H4 H5 F) vs (jnI gs (plr gs).length))) := by
        cases vd with
        | none i n F h1 hb h3 h4 eF eT => exact .inl ⟨i, n, F, h1, hb, eF, eT⟩
        | one p F good hj h3 eF eT => exact .inr ⟨_, F, eT, by decide, good, .inl ⟨rfl, p, hj, eF⟩⟩
        | loose D vs good hj h3 eD aD eT => exact .inr ⟨_, D, eT, by decide, good, .inr ⟨rfl, hj, vs, eD, aD⟩⟩
      rcases key with ⟨i, n, F, h1, hb, eF, eT⟩ | ⟨w, F, eT, wn, good, cases2⟩
      · refine ⟨_, eT, ⟨fun _ => ?_, fun h => absurd h (by decide)⟩⟩
        refine ⟨_, eT, nm, ⟨(s03.trans s45).seq hS, SqL.of (s45 _ _ e1), n8⟩, fun D H6 s6 nD wk => ?_⟩
        have s46 := s45.trans s6
        have sub : ∀ x ∈ abv gs n, x ∈ nm := fun x hx => (mem_abv.mp hx).nm (plr_sub bl.mem (List.mem_of_getElem? h1)) bl.mem
        have la : (abv gs n).length ≤ 100 := by
          have := nd_len (inc_nodup (abv_inc gs n)) sub
          omega
        exact ⟨gs, nm, abv gs n, z, ⟨bk s46, bl, l2, s6 _ _ eF, la, sub, wk⟩, ⟨s46 _ _ eE, zb⟩, ⟨abv_shut bl n, abv_crs hb⟩, fun H7 s7 => k H7⟩
      refine ⟨_, eT, ⟨fun h => absurd (of_decide_eq_true h) wn, fun _ => fun P hP => ?_⟩⟩
      have s6 : Same H5 (upd H5 P (.dT [])) := same_upd hP
      have e6 : upd H5 P (.dT []) P = some (.dT []) := upd_same
      generalize upd H5 P (.dT []) = H6 at s6 e6
      refine ⟨G, rfl, ⟨_, SqL.of ((s45.trans s6) _ _ eG)⟩, for_list (K := K) (a := G) (xs := gv) (fun i σ H' => ∃ (kvs : List (List Key × V)) (o8 : Option V), σ = [some (.ref a), some (.int m), some (.ref L), some (.ref G), some (.int c2), some (.ref E), some (.ref T), some (.ref P), o8, none] ∧ Same H5 H' ∧ H' P = some (.dT kvs) ∧ Ks gs kvs ∧ kvs.length ≤ i) ⟨[], none, rfl, s6, e6, fun k h => absurd h (by simp), Nat.le_refl _⟩ (fun i σ H' _ ⟨_, _, _, s, _⟩ => SqL.of ((s45.trans s) _ _ eG)) ?_ ?_⟩
      · rintro i v σ H7 hv ⟨kvs, o8, rfl, s7, e7, ks, lk⟩
        obtain ⟨g, eg, p, rfl, ep⟩ := aG.get hv
        have hgi := List.mem_of_getElem? eg
        have hi : i < gs.length := (List.getElem?_eq_some_iff.mp eg).1
        have ep := (s45.trans s7) _ _ ep
        refine ⟨1, rfl, 3, rfl, p, _, rfl, SqT.of ep, (show ¬ (1 = 0 ∧ 3 = 5) by decide), fun q hq => ?_⟩
        have s8 : Same H7 (upd H7 q (.tup (cutV [.int g.d, .str g.a, .str g.b, .int g.h, .int g.s] (some 1) (some 3)))) := same_upd hq
        have e8 : upd H7 q (.tup (cutV [.int g.d, .str g.a, .str g.b, .int g.h, .int g.s] (some 1) (some 3))) q = some (.tup (([Sum.inr g.a, Sum.inr g.b] : List Key).map kV)) := upd_same
        generalize upd H7 q (.tup (cutV [.int g.d, .str g.a, .str g.b, .int g.h, .int g.s] (some 1) (some 3))) = H8 at s8 e8
        exact ⟨P, _, rfl, DPut.t (k := [Sum.inr g.a, Sum.inr g.b]) (s8 _ _ e7) e8 (Nat.lt_of_le_of_lt (show kvs.length ≤ 100 by omega) (by decide)), _, _, rfl, same_app' (s7.trans s8) hP, upd_same, ks_put hgi ks, Nat.le_trans (length_putK _ _ _) (by omega)⟩
      rintro σ H7 ⟨kvs, o8, rfl, s7, e7, ks, lk⟩
      refine ⟨kvs, e7, fun q as hq a2 => ?_⟩
      have s8 : Same H7 (upd H7 q (.lst (as.map V.ref))) := same_upd hq
      have e8 : upd H7 q (.lst (as.map V.ref)) q = some (.lst (as.map V.ref)) := upd_same
      generalize upd H7 q (.lst (as.map V.ref)) = H8 at s8 e8
      obtain ⟨ps, ap, hps⟩ := a2_pairs a2 ks
      have ap : All2 (PrA H8) (as.map V.ref) ps := ap.imp fun v p ⟨t, e, f⟩ => ⟨t, e, s8 _ _ f⟩
      have s58 := s7.trans s8
      refine ⟨gs, nm, _, ps, ⟨bk (s45.trans s58), bl, l2, sok, l60⟩, ⟨SqL.of e8, ap, fun p hp => by obtain ⟨g, hg, rfl⟩ := hps p hp; exact game_both bl good hg⟩, fun H9 s9 => ⟨fun h => nb h, fun _ => ?_⟩⟩
      have s59 := s58.trans s9
      have eT := s59 _ _ eT
      have s39 := s45.trans s59
      have e1 := s39 _ _ e1
      have eG := s39 _ _ eG
      have aG : All2 (GmAt H9) gv gs := aG.imp fun v g r => gm_up v g _ _ (kt_of s39) r
      have bk9 : ∀ {H'}, Same H9 H' → Bk K H' G gs := fun s => bk (s39.trans s)
      have pin : ∀ x, x ∈ plr gs ↔ x ∈ gs.map (·.a) ∨ x ∈ gs.map (·.b) := fun x => by
        unfold plr
        rw [mem_srt, List.mem_append]
      refine ⟨L, rfl, ⟨_, SqL.of e1⟩, comp_absI (fun _ v m => v = V.str m) (fun _ _ _ _ _ h => h) (fun _ m y => y = V.str m) (fun _ _ _ _ _ h => h) (fun x => decide (x ∈ plr gs)) (by rw [List.length_map]; omega) (SqL.of e1) (all2_str nm) ?_ ?_⟩
      · intro v x H3 hM hmm s3 P P' hP hP'
        have hM : v = V.str x := hM
        subst hM
        have aG3 : All2 (GmAt H3) gv gs := aG.imp fun v g r => gm_up v g _ _ (kt_of s3) r
        refine ⟨rfl, G, rfl, ⟨_, SqL.of (s3 _ _ eG)⟩, comp_abs GmAt gm_up (fun _ g y => y = V.str g.a) (fun _ _ _ _ _ h => h) (by rw [aG3.len]; omega) (SqL.of (s3 _ _ eG)) aG3 ?_ ?_⟩
        · intro v g H4 hg _ s4 P hP
          obtain ⟨p, rfl, e⟩ := hg
          exact ⟨rfl, _, e, hP _ _ (Same.refl _) rfl⟩
        intro D1 H4 ys s4 _ e4 a4
        have y4 := all2_strs a4
        refine ⟨_, .inl (SqL.of e4), rfl, ?_, ?_⟩
        · rw [y4]
          exact flat_strs _
        rw [y4, in_strs]
        refine ⟨fun h => ⟨fun _ => ?_, fun h => nb h⟩, fun h => ?_⟩
        · exact hP (decide_eq_true ((pin x).mpr (.inl (of_decide_eq_true h)))) _ _ s4 rfl
        have aG4 : All2 (GmAt H4) gv gs := aG3.imp fun v g r => gm_up v g _ _ (kt_of s4) r
        refine ⟨G, rfl, ⟨_, SqL.of ((s3.trans s4) _ _ eG)⟩, comp_abs GmAt gm_up (fun _ g y => y = V.str g.b) (fun _ _ _ _ _ h => h) (by rw [aG4.len]; omega) (SqL.of ((s3.trans s4) _ _ eG)) aG4 ?_ ?_⟩
        · intro v g H5 hg _ s5 P hP
          obtain ⟨p, rfl, e⟩ := hg
          exact ⟨rfl, _, e, hP _ _ (Same.refl _) rfl⟩
        intro D2 H5 zs s5 _ e5 a5
        have y5 := all2_strs a5
        refine ⟨_, .inl (SqL.of e5), rfl, ?_, ?_⟩
        · rw [y5]
          exact flat_strs _
        rw [y5, in_strs]
        refine ⟨fun h' => ?_, fun h' => ?_⟩
        · exact hP (decide_eq_true ((pin x).mpr (.inr (of_decide_eq_true h')))) _ _ (s4.trans s5) rfl
        · refine hP' (decide_eq_false fun z => ?_) _ (s4.trans s5)
          rcases (pin x).mp z with z | z
          · exact of_decide_eq_false h z
          · exact of_decide_eq_false h' z
      intro Me H10 ys s10 _ e10 a10
      have y10 := all2_ystr a10
      rw [y10] at e10
      have hmem : ∀ x, x ∈ nm.filter (fun x => decide (x ∈ plr gs)) ↔ x ∈ plr gs := fun x => by
        rw [List.mem_filter]
        exact ⟨fun h => of_decide_eq_true h.2, fun h => ⟨plr_sub bl.mem h, decide_eq_true h⟩⟩
      have ndm : (nm.filter fun x => decide (x ∈ plr gs)).Nodup := nl.nd.filter _
      have lm8 : (nm.filter fun x => decide (x ∈ plr gs)).length ≤ nm.length := List.length_filter_le _ _
      generalize nm.filter (fun x => decide (x ∈ plr gs)) = met at hmem ndm lm8 e10
      have mok : ∀ x ∈ met, PyData.strOk x = true := fun x hx => sok x (plr_sub bl.mem ((hmem x).mp hx))
      have eT := s10 _ _ eT
      have s510 := s59.trans s10
      refine ⟨_, eT, ⟨fun h => ?_, fun h => ?_⟩⟩
      · have h : w = Str.ofString "one" := of_decide_eq_true h
        rcases cases2 with ⟨_, p, hj, eF⟩ | ⟨e, _⟩
        · obtain ⟨⟨m0, hm0, pe⟩, allr⟩ := one_all bl good hj
          have pm : ∀ x, x ∈ p ↔ x ∈ met := fun x => by
            rw [pe, mem_abv, hmem]
            refine ⟨fun r => ?_, fun hx => allr m0 hm0 x hx⟩
            rcases rch_plr r with e | e
            · rw [e]; exact hm0
            · exact e
          have pst : p = srt met := inc_ext (pe ▸ abv_inc gs m0) (inc_srt _) fun x => (pm x).trans mem_srt.symm
          subst pst
          have sok' : ∀ x ∈ srt met, PyData.strOk x = true := fun x hx => mok x (mem_srt.mp hx)
          refine ⟨_, eT, met, SqL.of e10, by omega, ndm, fun S hS' => ?_⟩
          have s11 : Same H10 (upd H10 S (.lst ((srt met).map V.str))) := same_upd hS'
          have e11 : upd H10 S (.lst ((srt met).map V.str)) S = some (.lst ((srt met).map V.str)) := upd_same
          generalize upd H10 S (.lst ((srt met).map V.str)) = H11 at s11 e11
          refine ⟨_, _, rp_strs (SqL.of ((s510.trans s11) _ _ eF)), rp_strs (SqL.of e11), sh_strs sok', sh_strs sok', ?_⟩
          rw [eqv_shaped (sh_strs sok')]
          refine ⟨fun h => nb h, fun _ => fun N H12 s12 e12 => ?_⟩
          have e12m := (s11.trans s12) _ _ e10
          have mne : met ≠ [] := fun c => by
            have := (hmem m0).mpr hm0
            rw [c] at this
            cases this
          refine ⟨_, _, rp_strs (SqL.of e12m), .lst (SqL.of e12) .nil, sh_strs mok, rfl, ?_⟩
          rw [eqv_nil mne]
          refine ⟨fun h => nb h, fun _ => ?_⟩
          obtain ⟨y0, hy0⟩ : ∃ y0, met[0]? = some y0 := by
            cases met with
            | nil => exact absurd rfl mne
            | cons x l => exact ⟨x, rfl⟩
          have at0 : atI (met.map V.str) 0 = some (.str y0) := atI_nat (by rw [List.getElem?_map, hy0]; rfl)
          refine ⟨Me, rfl, ⟨_, SqL.of e12m⟩, comp_abs (fun _ v m => v = V.str m) (fun _ _ _ _ _ h => h) (fun H x y => PrA H y (y0, x)) (fun x y H H' kt ⟨t, e, f⟩ => ⟨t, e, kt _ _ f⟩) (by rw [List.length_map]; omega) (SqL.of e12m) (all2_str met) ?_ ?_⟩
          · intro v x H13 hM hx s13 P' hP'
            have hM : v = V.str x := hM
            subst hM
            exact ⟨rfl, _, _, SqL.of (s13 _ _ e12m), at0, fun T' H14 s14 e14 => hP' _ _ s14 ⟨T', rfl, e14⟩⟩
          intro D13 H13 zs s13 _ e13 a13
          have py0 := (hmem y0).mp (List.mem_of_getElem? hy0)
          refine ⟨gs, nm, zs, met.map (fun x => (y0, x)), ⟨bk9 (s10.trans (s11.trans (s12.trans s13))), bl, l2, sok, l60⟩, ⟨SqL.of e13, a2_mp a13, fun q hq => ?_⟩, fun H14 s14 => k H14⟩
          obtain ⟨x, hx, rfl⟩ := List.mem_map.mp hq
          have px := (hmem x).mp hx
          exact ⟨⟨py0, px⟩, allr y0 py0 x px, allr x px y0 py0⟩
        · rw [e] at h
          exact absurd h (by decide)
      · have h : ¬ w = Str.ofString "one" := of_decide_eq_false h
        rcases cases2 with ⟨e, _⟩ | ⟨e, hj, vs, eF, aF⟩
        · exact absurd e h
        · have eF := s510 _ _ eF
          obtain ⟨j1, j2, j3⟩ := jn_parts bl good
          have jl := jnI_len gs (plr gs).length
          have lj := aF.len
          refine ⟨_, eT, ⟨fun _ => ⟨_, eT, _, .inl (SqL.of eF), ⟨fun _ => ⟨_, eT, gs, nm, met, vs, jnI gs (plr gs).length, ⟨bk9 s10, bl, l2, by omega, SqL.of e10, ndm⟩, ⟨eF, by omega, aF.imp fun v q ⟨d, e, _, _, f⟩ => ⟨d, e, s510 _ _ f⟩⟩, ⟨j1, fun x => (j2 x).trans (hmem x).symm, j3⟩, fun H11 s11 => k H11⟩, fun h => ?_⟩⟩, fun h => ?_⟩⟩
          · have h : (vs.length : Int) = 1 := by simpa using h
            omega
          · exact absurd e (of_decide_eq_false h)
theorem ok_all {ns : List Int} (d_turned : Dfn K mg "turned" s_turned ["played"]) (d_players : Dfn K mg "players" s_players ["games"]) (d_told_by : Dfn K mg "told_by" s_told_by ["games", "name"]) (d_check_player : Dfn K mg "check_player" s_check_player ["games", "name"]) (d_takers : Dfn K mg "takers" s_takers ["games", "name"]) (d_above : Dfn K mg "above" s_above ["games", "name"]) (d_way : Dfn K mg "way" s_way ["games", "one", "other"]) (d_ways_from : Dfn K mg "ways_from" s_ways_from ["games", "name"]) (d_verdict : Dfn K mg "verdict" s_verdict ["games"]) (d_joined : Dfn K mg "joined" s_joined ["games"]) (d_l_cell_at : Dfn K mg "_law_cell_at" s_l_cell_at ["_law_script", "_law_k"]) (d_l_names : Dfn K mg "_law_names" s_l_names ["_law_cell", "_law_many"]) (d_l_first_games : Dfn K mg "_law_first_games" s_l_first_games ["_law_names_here", "_law_kind", "_law_cut"]) (d_l_book : Dfn K mg "_law_book" s_l_book ["_law_script", "_law_names_here"]) (d_l_worths : Dfn K mg "_law_worths" s_l_worths ["_law_script", "_law_names_here"]) (d_l_short : Dfn K mg "_law_short" s_l_short ["_law_games", "_law_held", "_law_worths_here", "_law_edge"]) (d_l_none_seen : Dfn K mg "_law_none_seen" s_l_none_seen ["_law_games", "_law_held", "_law_worths_here", "_law_edge"]) (d_l_gone : Dfn K mg "_law_gone" s_l_gone ["_law_games", "_law_found", "_law_one", "_law_other"]) (d_l_all_ways : Dfn K mg "_law_all_ways" s_l_all_ways ["_law_games", "_law_pairs"]) (d_l_parts_seen : Dfn K mg "_law_parts_seen" s_l_parts_seen ["_law_games", "_law_parts", "_law_names_here"]) (d_law : Dfn K mg "law" s_law ["_law_script"]) (er : Errs K mg c_NoPlayer) (n_all : mg "all" = none) (n_any : mg "any" = none) (n_int : mg "int" = none) (n_isinstance : mg "isinstance" = none) (n_len : mg "len" = none) (n_list : mg "list" = none) (n_range : mg "range" = none) (n_set : mg "set" = none) (n_sorted : mg "sorted" = none)  : Cal P w K mg base "law" ["_law_script"] 8 (sp_law K ns) := by
  have c_turned : Cal P w K mg base "turned" ["played"] 1 (sp_turned K ns) := ok_turned d_turned er
  have c_players : Cal P w K mg base "players" ["games"] 1 (sp_players K ns) := ok_players d_players er n_sorted n_set
  have c_l_cell_at : Cal P w K mg base "_law_cell_at" ["_law_script", "_law_k"] 1 (sp_l_cell_at K ns) := ok_l_cell_at d_l_cell_at er n_len
  have c_l_names : Cal P w K mg base "_law_names" ["_law_cell", "_law_many"] 1 (sp_l_names K ns) := ok_l_names d_l_names er n_range
  have c_l_first_games : Cal P w K mg base "_law_first_games" ["_law_names_here", "_law_kind", "_law_cut"] 1 (sp_l_first_games K ns) := ok_l_first_games d_l_first_games er n_range n_len
  have c_l_short : Cal P w K mg base "_law_short" ["_law_games", "_law_held", "_law_worths_here", "_law_edge"] 1 (sp_l_short K ns) := ok_l_short d_l_short er
  have c_l_gone : Cal P w K mg base "_law_gone" ["_law_games", "_law_found", "_law_one", "_law_other"] 1 (sp_l_gone K ns) := ok_l_gone d_l_gone er n_range n_len n_isinstance n_list
  have c_l_parts_seen : Cal P w K mg base "_law_parts_seen" ["_law_games", "_law_parts", "_law_names_here"] 1 (sp_l_parts_seen K ns) := ok_l_parts_seen d_l_parts_seen er n_len n_range n_isinstance n_list
  have c_told_by : Cal P w K mg base "told_by" ["games", "name"] 2 (sp_told_by K ns) := ok_told_by d_told_by er c_turned
  have c_check_player : Cal P w K mg base "check_player" ["games", "name"] 2 (sp_check_player K ns) := ok_check_player d_check_player er c_players
  have c_l_book : Cal P w K mg base "_law_book" ["_law_script", "_law_names_here"] 2 (sp_l_book K ns) := ok_l_book d_l_book er n_int n_len c_l_first_games c_l_cell_at
  have c_l_worths : Cal P w K mg base "_law_worths" ["_law_script", "_law_names_here"] 2 (sp_l_worths K ns) := ok_l_worths d_l_worths er n_range n_len c_l_cell_at
  have c_l_none_seen : Cal P w K mg base "_law_none_seen" ["_law_games", "_law_held", "_law_worths_here", "_law_edge"] 2 (sp_l_none_seen K ns) := ok_l_none_seen d_l_none_seen er n_len n_isinstance n_list c_l_short
  have c_takers : Cal P w K mg base "takers" ["games", "name"] 3 (sp_takers K ns) := ok_takers d_takers er n_sorted n_set c_told_by
  have c_ways_from : Cal P w K mg base "ways_from" ["games", "name"] 4 (sp_ways_from K ns) := ok_ways_from d_ways_from er c_takers
  have c_above : Cal P w K mg base "above" ["games", "name"] 5 (sp_above K ns) := ok_above d_above er n_sorted c_ways_from c_check_player
  have c_way : Cal P w K mg base "way" ["games", "one", "other"] 5 (sp_way K ns) := ok_way d_way er c_ways_from c_check_player
  have c_joined : Cal P w K mg base "joined" ["games"] 6 (sp_joined K ns) := ok_joined d_joined er n_any c_players c_above
  have c_l_all_ways : Cal P w K mg base "_law_all_ways" ["_law_games", "_law_pairs"] 6 (sp_l_all_ways K ns) := ok_l_all_ways d_l_all_ways er c_l_gone c_way
  have c_verdict : Cal P w K mg base "verdict" ["games"] 7 (sp_verdict K ns) := ok_verdict d_verdict er n_len n_all c_joined c_players c_told_by c_above
  have c_law : Cal P w K mg base "law" ["_law_script"] 8 (sp_law K ns) := ok_law d_law er n_len n_sorted n_list c_l_parts_seen c_l_all_ways c_l_none_seen c_l_worths c_verdict c_l_cell_at c_l_book c_l_names
  exact c_law
end
theorem lenE1 : ∀ us : List Value, us.length = 1 → ∃ y0 : Value, us = [y0]
  | [y0], _ => ⟨_, rfl⟩
theorem lenE2 : ∀ us : List Value, us.length = 2 → ∃ y0 y1 : Value, us = [y0, y1]
  | [y0, y1], _ => ⟨_, _, rfl⟩
theorem lenE3 : ∀ us : List Value, us.length = 3 → ∃ y0 y1 y2 : Value, us = [y0, y1, y2]
  | [y0, y1, y2], _ => ⟨_, _, _, rfl⟩
theorem lenE4 : ∀ us : List Value, us.length = 4 → ∃ y0 y1 y2 y3 : Value, us = [y0, y1, y2, y3]
  | [y0, y1, y2, y3], _ => ⟨_, _, _, _, rfl⟩
theorem all_mk {l : PySem.W.OpenLaw} {w : World} {K : PySem.W.Frag} {h : Heap} {mg : Str → Option Value} {fa : Addr} {f0 : Addr} {od0 an0 : Option Addr} {sl0 : Array (Option Value)} {oc0 kV0 dc0 pm0 cd0 ct0 : Value} {f1 : Addr} {od1 an1 : Option Addr} {sl1 : Array (Option Value)} {oc1 kV1 dc1 pm1 cd1 ct1 : Value} {f2 : Addr} {od2 an2 : Option Addr} {sl2 : Array (Option Value)} {oc2 kV2 dc2 pm2 cd2 ct2 : Value} {f3 : Addr} {od3 an3 : Option Addr} {sl3 : Array (Option Value)} {oc3 kV3 dc3 pm3 cd3 ct3 : Value} {f4 : Addr} {od4 an4 : Option Addr} {sl4 : Array (Option Value)} {oc4 kV4 dc4 pm4 cd4 ct4 : Value} {f5 : Addr} {od5 an5 : Option Addr} {sl5 : Array (Option Value)} {oc5 kV5 dc5 pm5 cd5 ct5 : Value} {f6 : Addr} {od6 an6 : Option Addr} {sl6 : Array (Option Value)} {oc6 kV6 dc6 pm6 cd6 ct6 : Value} {f7 : Addr} {od7 an7 : Option Addr} {sl7 : Array (Option Value)} {oc7 kV7 dc7 pm7 cd7 ct7 : Value} {f8 : Addr} {od8 an8 : Option Addr} {sl8 : Array (Option Value)} {oc8 kV8 dc8 pm8 cd8 ct8 : Value} {f9 : Addr} {od9 an9 : Option Addr} {sl9 : Array (Option Value)} {oc9 kV9 dc9 pm9 cd9 ct9 : Value} {f10 : Addr} {od10 an10 : Option Addr} {sl10 : Array (Option Value)} {oc10 kV10 dc10 pm10 cd10 ct10 : Value} {f11 : Addr} {od11 an11 : Option Addr} {sl11 : Array (Option Value)} {oc11 kV11 dc11 pm11 cd11 ct11 : Value} {f12 : Addr} {od12 an12 : Option Addr} {sl12 : Array (Option Value)} {oc12 kV12 dc12 pm12 cd12 ct12 : Value} {f13 : Addr} {od13 an13 : Option Addr} {sl13 : Array (Option Value)} {oc13 kV13 dc13 pm13 cd13 ct13 : Value} {f14 : Addr} {od14 an14 : Option Addr} {sl14 : Array (Option Value)} {oc14 kV14 dc14 pm14 cd14 ct14 : Value} {f15 : Addr} {od15 an15 : Option Addr} {sl15 : Array (Option Value)} {oc15 kV15 dc15 pm15 cd15 ct15 : Value} {f16 : Addr} {od16 an16 : Option Addr} {sl16 : Array (Option Value)} {oc16 kV16 dc16 pm16 cd16 ct16 : Value} {f17 : Addr} {od17 an17 : Option Addr} {sl17 : Array (Option Value)} {oc17 kV17 dc17 pm17 cd17 ct17 : Value} {f18 : Addr} {od18 an18 : Option Addr} {sl18 : Array (Option Value)} {oc18 kV18 dc18 pm18 cd18 ct18 : Value} {f19 : Addr} {od19 an19 : Option Addr} {sl19 : Array (Option Value)} {oc19 kV19 dc19 pm19 cd19 ct19 : Value} {f20 : Addr} {od20 an20 : Option Addr} {sl20 : Array (Option Value)} {oc20 kV20 dc20 pm20 cd20 ct20 : Value} {c_NoPlayer : Addr} (X : K.In h) (G : h.Ns mainGlobals mg) (hfa : mg "law" = some (.ref fa)) (a0 : PySem.W.nsIn K mainGlobals "turned" = some (some (.ref f0))) (l0 : K.lookup f0 = some ⟨oc0, od0, .func (PySem.W.fnOf "turned" "turned" (defArgs s_turned) (defBody s_turned) (defScope s_turned) .none kV0 dc0 pm0 an0 cd0 ct0), sl0⟩) (e0 : PySem.W.codeIn K cd0 "turned" = true) (k0 : PySem.W.keepIn K (.ref f0) = true) (a1 : PySem.W.nsIn K mainGlobals "players" = some (some (.ref f1))) (l1 : K.lookup f1 = some ⟨oc1, od1, .func (PySem.W.fnOf "players" "players" (defArgs s_players) (defBody s_players) (defScope s_players) .none kV1 dc1 pm1 an1 cd1 ct1), sl1⟩) (e1 : PySem.W.codeIn K cd1 "players" = true) (k1 : PySem.W.keepIn K (.ref f1) = true) (a2 : PySem.W.nsIn K mainGlobals "told_by" = some (some (.ref f2))) (l2 : K.lookup f2 = some ⟨oc2, od2, .func (PySem.W.fnOf "told_by" "told_by" (defArgs s_told_by) (defBody s_told_by) (defScope s_told_by) .none kV2 dc2 pm2 an2 cd2 ct2), sl2⟩) (e2 : PySem.W.codeIn K cd2 "told_by" = true) (k2 : PySem.W.keepIn K (.ref f2) = true) (a3 : PySem.W.nsIn K mainGlobals "check_player" = some (some (.ref f3))) (l3 : K.lookup f3 = some ⟨oc3, od3, .func (PySem.W.fnOf "check_player" "check_player" (defArgs s_check_player) (defBody s_check_player) (defScope s_check_player) .none kV3 dc3 pm3 an3 cd3 ct3), sl3⟩) (e3 : PySem.W.codeIn K cd3 "check_player" = true) (k3 : PySem.W.keepIn K (.ref f3) = true) (a4 : PySem.W.nsIn K mainGlobals "takers" = some (some (.ref f4))) (l4 : K.lookup f4 = some ⟨oc4, od4, .func (PySem.W.fnOf "takers" "takers" (defArgs s_takers) (defBody s_takers) (defScope s_takers) .none kV4 dc4 pm4 an4 cd4 ct4), sl4⟩) (e4 : PySem.W.codeIn K cd4 "takers" = true) (k4 : PySem.W.keepIn K (.ref f4) = true) (a5 : PySem.W.nsIn K mainGlobals "above" = some (some (.ref f5))) (l5 : K.lookup f5 = some ⟨oc5, od5, .func (PySem.W.fnOf "above" "above" (defArgs s_above) (defBody s_above) (defScope s_above) .none kV5 dc5 pm5 an5 cd5 ct5), sl5⟩) (e5 : PySem.W.codeIn K cd5 "above" = true) (k5 : PySem.W.keepIn K (.ref f5) = true) (a6 : PySem.W.nsIn K mainGlobals "way" = some (some (.ref f6))) (l6 : K.lookup f6 = some ⟨oc6, od6, .func (PySem.W.fnOf "way" "way" (defArgs s_way) (defBody s_way) (defScope s_way) .none kV6 dc6 pm6 an6 cd6 ct6), sl6⟩) (e6 : PySem.W.codeIn K cd6 "way" = true) (k6 : PySem.W.keepIn K (.ref f6) = true) (a7 : PySem.W.nsIn K mainGlobals "ways_from" = some (some (.ref f7))) (l7 : K.lookup f7 = some ⟨oc7, od7, .func (PySem.W.fnOf "ways_from" "ways_from" (defArgs s_ways_from) (defBody s_ways_from) (defScope s_ways_from) .none kV7 dc7 pm7 an7 cd7 ct7), sl7⟩) (e7 : PySem.W.codeIn K cd7 "ways_from" = true) (k7 : PySem.W.keepIn K (.ref f7) = true) (a8 : PySem.W.nsIn K mainGlobals "verdict" = some (some (.ref f8))) (l8 : K.lookup f8 = some ⟨oc8, od8, .func (PySem.W.fnOf "verdict" "verdict" (defArgs s_verdict) (defBody s_verdict) (defScope s_verdict) .none kV8 dc8 pm8 an8 cd8 ct8), sl8⟩) (e8 : PySem.W.codeIn K cd8 "verdict" = true) (k8 : PySem.W.keepIn K (.ref f8) = true) (a9 : PySem.W.nsIn K mainGlobals "joined" = some (some (.ref f9))) (l9 : K.lookup f9 = some ⟨oc9, od9, .func (PySem.W.fnOf "joined" "joined" (defArgs s_joined) (defBody s_joined) (defScope s_joined) .none kV9 dc9 pm9 an9 cd9 ct9), sl9⟩) (e9 : PySem.W.codeIn K cd9 "joined" = true) (k9 : PySem.W.keepIn K (.ref f9) = true) (a10 : PySem.W.nsIn K mainGlobals "_law_cell_at" = some (some (.ref f10))) (l10 : K.lookup f10 = some ⟨oc10, od10, .func (PySem.W.fnOf "_law_cell_at" "_law_cell_at" (defArgs s_l_cell_at) (defBody s_l_cell_at) (defScope s_l_cell_at) .none kV10 dc10 pm10 an10 cd10 ct10), sl10⟩) (e10 : PySem.W.codeIn K cd10 "_law_cell_at" = true) (k10 : PySem.W.keepIn K (.ref f10) = true) (a11 : PySem.W.nsIn K mainGlobals "_law_names" = some (some (.ref f11))) (l11 : K.lookup f11 = some ⟨oc11, od11, .func (PySem.W.fnOf "_law_names" "_law_names" (defArgs s_l_names) (defBody s_l_names) (defScope s_l_names) .none kV11 dc11 pm11 an11 cd11 ct11), sl11⟩) (e11 : PySem.W.codeIn K cd11 "_law_names" = true) (k11 : PySem.W.keepIn K (.ref f11) = true) (a12 : PySem.W.nsIn K mainGlobals "_law_first_games" = some (some (.ref f12))) (l12 : K.lookup f12 = some ⟨oc12, od12, .func (PySem.W.fnOf "_law_first_games" "_law_first_games" (defArgs s_l_first_games) (defBody s_l_first_games) (defScope s_l_first_games) .none kV12 dc12 pm12 an12 cd12 ct12), sl12⟩) (e12 : PySem.W.codeIn K cd12 "_law_first_games" = true) (k12 : PySem.W.keepIn K (.ref f12) = true) (a13 : PySem.W.nsIn K mainGlobals "_law_book" = some (some (.ref f13))) (l13 : K.lookup f13 = some ⟨oc13, od13, .func (PySem.W.fnOf "_law_book" "_law_book" (defArgs s_l_book) (defBody s_l_book) (defScope s_l_book) .none kV13 dc13 pm13 an13 cd13 ct13), sl13⟩) (e13 : PySem.W.codeIn K cd13 "_law_book" = true) (k13 : PySem.W.keepIn K (.ref f13) = true) (a14 : PySem.W.nsIn K mainGlobals "_law_worths" = some (some (.ref f14))) (l14 : K.lookup f14 = some ⟨oc14, od14, .func (PySem.W.fnOf "_law_worths" "_law_worths" (defArgs s_l_worths) (defBody s_l_worths) (defScope s_l_worths) .none kV14 dc14 pm14 an14 cd14 ct14), sl14⟩) (e14 : PySem.W.codeIn K cd14 "_law_worths" = true) (k14 : PySem.W.keepIn K (.ref f14) = true) (a15 : PySem.W.nsIn K mainGlobals "_law_short" = some (some (.ref f15))) (l15 : K.lookup f15 = some ⟨oc15, od15, .func (PySem.W.fnOf "_law_short" "_law_short" (defArgs s_l_short) (defBody s_l_short) (defScope s_l_short) .none kV15 dc15 pm15 an15 cd15 ct15), sl15⟩) (e15 : PySem.W.codeIn K cd15 "_law_short" = true) (k15 : PySem.W.keepIn K (.ref f15) = true) (a16 : PySem.W.nsIn K mainGlobals "_law_none_seen" = some (some (.ref f16))) (l16 : K.lookup f16 = some ⟨oc16, od16, .func (PySem.W.fnOf "_law_none_seen" "_law_none_seen" (defArgs s_l_none_seen) (defBody s_l_none_seen) (defScope s_l_none_seen) .none kV16 dc16 pm16 an16 cd16 ct16), sl16⟩) (e16 : PySem.W.codeIn K cd16 "_law_none_seen" = true) (k16 : PySem.W.keepIn K (.ref f16) = true) (a17 : PySem.W.nsIn K mainGlobals "_law_gone" = some (some (.ref f17))) (l17 : K.lookup f17 = some ⟨oc17, od17, .func (PySem.W.fnOf "_law_gone" "_law_gone" (defArgs s_l_gone) (defBody s_l_gone) (defScope s_l_gone) .none kV17 dc17 pm17 an17 cd17 ct17), sl17⟩) (e17 : PySem.W.codeIn K cd17 "_law_gone" = true) (k17 : PySem.W.keepIn K (.ref f17) = true) (a18 : PySem.W.nsIn K mainGlobals "_law_all_ways" = some (some (.ref f18))) (l18 : K.lookup f18 = some ⟨oc18, od18, .func (PySem.W.fnOf "_law_all_ways" "_law_all_ways" (defArgs s_l_all_ways) (defBody s_l_all_ways) (defScope s_l_all_ways) .none kV18 dc18 pm18 an18 cd18 ct18), sl18⟩) (e18 : PySem.W.codeIn K cd18 "_law_all_ways" = true) (k18 : PySem.W.keepIn K (.ref f18) = true) (a19 : PySem.W.nsIn K mainGlobals "_law_parts_seen" = some (some (.ref f19))) (l19 : K.lookup f19 = some ⟨oc19, od19, .func (PySem.W.fnOf "_law_parts_seen" "_law_parts_seen" (defArgs s_l_parts_seen) (defBody s_l_parts_seen) (defScope s_l_parts_seen) .none kV19 dc19 pm19 an19 cd19 ct19), sl19⟩) (e19 : PySem.W.codeIn K cd19 "_law_parts_seen" = true) (k19 : PySem.W.keepIn K (.ref f19) = true) (a20 : PySem.W.nsIn K mainGlobals "law" = some (some (.ref f20))) (l20 : K.lookup f20 = some ⟨oc20, od20, .func (PySem.W.fnOf "law" "law" (defArgs s_law) (defBody s_law) (defScope s_law) .none kV20 dc20 pm20 an20 cd20 ct20), sl20⟩) (e20 : PySem.W.codeIn K cd20 "law" = true) (k20 : PySem.W.keepIn K (.ref f20) = true) (z_all : PySem.W.nsIn K mainGlobals "all" = some none) (z_any : PySem.W.nsIn K mainGlobals "any" = some none) (z_int : PySem.W.nsIn K mainGlobals "int" = some none) (z_isinstance : PySem.W.nsIn K mainGlobals "isinstance" = some none) (z_len : PySem.W.nsIn K mainGlobals "len" = some none) (z_list : PySem.W.nsIn K mainGlobals "list" = some none) (z_range : PySem.W.nsIn K mainGlobals "range" = some none) (z_set : PySem.W.nsIn K mainGlobals "set" = some none) (z_sorted : PySem.W.nsIn K mainGlobals "sorted" = some none) (y_NoPlayer : PySem.W.nsIn K mainGlobals "NoPlayer" = some (some (.ref c_NoPlayer))) (q_NoPlayer_nw : PySem.W.excIn K c_NoPlayer vB "ValueError.__new__" = true) (q_NoPlayer_ga : PySem.W.findIn K (.ref c_NoPlayer) "__getattribute__" = some (some (.builtin "BaseException.__getattribute__"))) (q_NoPlayer_gn : PySem.W.findIn K (.ref c_NoPlayer) "__getattr__" = some none) (q_NoPlayer_cl : PySem.W.findIn K (.ref c_NoPlayer) "__class__" = some (some (.builtin "object.__class__"))) (q_NoPlayer_mo : PySem.W.mroIn K c_NoPlayer (.type "object") = some true) (q_NoPlayer_mb : PySem.W.mroIn K c_NoPlayer (.type "BaseException") = some true) (kv_NoPlayer : PySem.W.kitOne K (.ref c_NoPlayer) (.type "ValueError") = some true) (kk_NoPlayer_NoPlayer : PySem.W.kitOne K (.ref c_NoPlayer) (.ref c_NoPlayer) = some true) :
    ∃ fd : FuncData, (∀ (s : Shared) (v : Value), BindsTo s fd ⟨[v], []⟩ [("_law_script", v)]) ∧ ∀ base : Heap, K.In base → base.Ns mainGlobals mg → FnOk l.prog w K mg base (CXE l.prog w) 8 fa fd ["_law_script"] (sp_lawA K) := by
  have F0 := fun_mk (st := s_turned) l0 e0 k0
  have d0 : Dfn K mg "turned" s_turned ["played"] := ⟨⟨_, _, F0, PySem.W.mg_of X G a0, F0.binds fun _ _ _ _ _ _ us hl => by obtain ⟨_, rfl⟩ := lenE1 us hl; rfl⟩⟩
  have F1 := fun_mk (st := s_players) l1 e1 k1
  have d1 : Dfn K mg "players" s_players ["games"] := ⟨⟨_, _, F1, PySem.W.mg_of X G a1, F1.binds fun _ _ _ _ _ _ us hl => by obtain ⟨_, rfl⟩ := lenE1 us hl; rfl⟩⟩
  have F2 := fun_mk (st := s_told_by) l2 e2 k2
  have d2 : Dfn K mg "told_by" s_told_by ["games", "name"] := ⟨⟨_, _, F2, PySem.W.mg_of X G a2, F2.binds fun _ _ _ _ _ _ us hl => by obtain ⟨_, _, rfl⟩ := lenE2 us hl; rfl⟩⟩
  have F3 := fun_mk (st := s_check_player) l3 e3 k3
  have d3 : Dfn K mg "check_player" s_check_player ["games", "name"] := ⟨⟨_, _, F3, PySem.W.mg_of X G a3, F3.binds fun _ _ _ _ _ _ us hl => by obtain ⟨_, _, rfl⟩ := lenE2 us hl; rfl⟩⟩
  have F4 := fun_mk (st := s_takers) l4 e4 k4
  have d4 : Dfn K mg "takers" s_takers ["games", "name"] := ⟨⟨_, _, F4, PySem.W.mg_of X G a4, F4.binds fun _ _ _ _ _ _ us hl => by obtain ⟨_, _, rfl⟩ := lenE2 us hl; rfl⟩⟩
  have F5 := fun_mk (st := s_above) l5 e5 k5
  have d5 : Dfn K mg "above" s_above ["games", "name"] := ⟨⟨_, _, F5, PySem.W.mg_of X G a5, F5.binds fun _ _ _ _ _ _ us hl => by obtain ⟨_, _, rfl⟩ := lenE2 us hl; rfl⟩⟩
  have F6 := fun_mk (st := s_way) l6 e6 k6
  have d6 : Dfn K mg "way" s_way ["games", "one", "other"] := ⟨⟨_, _, F6, PySem.W.mg_of X G a6, F6.binds fun _ _ _ _ _ _ us hl => by obtain ⟨_, _, _, rfl⟩ := lenE3 us hl; rfl⟩⟩
  have F7 := fun_mk (st := s_ways_from) l7 e7 k7
  have d7 : Dfn K mg "ways_from" s_ways_from ["games", "name"] := ⟨⟨_, _, F7, PySem.W.mg_of X G a7, F7.binds fun _ _ _ _ _ _ us hl => by obtain ⟨_, _, rfl⟩ := lenE2 us hl; rfl⟩⟩
  have F8 := fun_mk (st := s_verdict) l8 e8 k8
  have d8 : Dfn K mg "verdict" s_verdict ["games"] := ⟨⟨_, _, F8, PySem.W.mg_of X G a8, F8.binds fun _ _ _ _ _ _ us hl => by obtain ⟨_, rfl⟩ := lenE1 us hl; rfl⟩⟩
  have F9 := fun_mk (st := s_joined) l9 e9 k9
  have d9 : Dfn K mg "joined" s_joined ["games"] := ⟨⟨_, _, F9, PySem.W.mg_of X G a9, F9.binds fun _ _ _ _ _ _ us hl => by obtain ⟨_, rfl⟩ := lenE1 us hl; rfl⟩⟩
  have F10 := fun_mk (st := s_l_cell_at) l10 e10 k10
  have d10 : Dfn K mg "_law_cell_at" s_l_cell_at ["_law_script", "_law_k"] := ⟨⟨_, _, F10, PySem.W.mg_of X G a10, F10.binds fun _ _ _ _ _ _ us hl => by obtain ⟨_, _, rfl⟩ := lenE2 us hl; rfl⟩⟩
  have F11 := fun_mk (st := s_l_names) l11 e11 k11
  have d11 : Dfn K mg "_law_names" s_l_names ["_law_cell", "_law_many"] := ⟨⟨_, _, F11, PySem.W.mg_of X G a11, F11.binds fun _ _ _ _ _ _ us hl => by obtain ⟨_, _, rfl⟩ := lenE2 us hl; rfl⟩⟩
  have F12 := fun_mk (st := s_l_first_games) l12 e12 k12
  have d12 : Dfn K mg "_law_first_games" s_l_first_games ["_law_names_here", "_law_kind", "_law_cut"] := ⟨⟨_, _, F12, PySem.W.mg_of X G a12, F12.binds fun _ _ _ _ _ _ us hl => by obtain ⟨_, _, _, rfl⟩ := lenE3 us hl; rfl⟩⟩
  have F13 := fun_mk (st := s_l_book) l13 e13 k13
  have d13 : Dfn K mg "_law_book" s_l_book ["_law_script", "_law_names_here"] := ⟨⟨_, _, F13, PySem.W.mg_of X G a13, F13.binds fun _ _ _ _ _ _ us hl => by obtain ⟨_, _, rfl⟩ := lenE2 us hl; rfl⟩⟩
  have F14 := fun_mk (st := s_l_worths) l14 e14 k14
  have d14 : Dfn K mg "_law_worths" s_l_worths ["_law_script", "_law_names_here"] := ⟨⟨_, _, F14, PySem.W.mg_of X G a14, F14.binds fun _ _ _ _ _ _ us hl => by obtain ⟨_, _, rfl⟩ := lenE2 us hl; rfl⟩⟩
  have F15 := fun_mk (st := s_l_short) l15 e15 k15
  have d15 : Dfn K mg "_law_short" s_l_short ["_law_games", "_law_held", "_law_worths_here", "_law_edge"] := ⟨⟨_, _, F15, PySem.W.mg_of X G a15, F15.binds fun _ _ _ _ _ _ us hl => by obtain ⟨_, _, _, _, rfl⟩ := lenE4 us hl; rfl⟩⟩
  have F16 := fun_mk (st := s_l_none_seen) l16 e16 k16
  have d16 : Dfn K mg "_law_none_seen" s_l_none_seen ["_law_games", "_law_held", "_law_worths_here", "_law_edge"] := ⟨⟨_, _, F16, PySem.W.mg_of X G a16, F16.binds fun _ _ _ _ _ _ us hl => by obtain ⟨_, _, _, _, rfl⟩ := lenE4 us hl; rfl⟩⟩
  have F17 := fun_mk (st := s_l_gone) l17 e17 k17
  have d17 : Dfn K mg "_law_gone" s_l_gone ["_law_games", "_law_found", "_law_one", "_law_other"] := ⟨⟨_, _, F17, PySem.W.mg_of X G a17, F17.binds fun _ _ _ _ _ _ us hl => by obtain ⟨_, _, _, _, rfl⟩ := lenE4 us hl; rfl⟩⟩
  have F18 := fun_mk (st := s_l_all_ways) l18 e18 k18
  have d18 : Dfn K mg "_law_all_ways" s_l_all_ways ["_law_games", "_law_pairs"] := ⟨⟨_, _, F18, PySem.W.mg_of X G a18, F18.binds fun _ _ _ _ _ _ us hl => by obtain ⟨_, _, rfl⟩ := lenE2 us hl; rfl⟩⟩
  have F19 := fun_mk (st := s_l_parts_seen) l19 e19 k19
  have d19 : Dfn K mg "_law_parts_seen" s_l_parts_seen ["_law_games", "_law_parts", "_law_names_here"] := ⟨⟨_, _, F19, PySem.W.mg_of X G a19, F19.binds fun _ _ _ _ _ _ us hl => by obtain ⟨_, _, _, rfl⟩ := lenE3 us hl; rfl⟩⟩
  have F20 := fun_mk (st := s_law) l20 e20 k20
  have d20 : Dfn K mg "law" s_law ["_law_script"] := ⟨⟨_, _, F20, PySem.W.mg_of X G a20, F20.binds fun _ _ _ _ _ _ us hl => by obtain ⟨_, rfl⟩ := lenE1 us hl; rfl⟩⟩
  have e := hfa.symm.trans (PySem.W.mg_of X G a20)
  cases e
  exact ⟨PySem.W.fnOf "law" "law" (defArgs s_law) (defBody s_law) (defScope s_law) .none kV20 dc20 pm20 an20 cd20 ct20, fun s v => .of_eq rfl, fun base _ _ => law_fn F20 (PySem.W.mg_of X G a20) fun ns => ok_all (ns := ns) d0 d1 d2 d3 d4 d5 d6 d7 d8 d9 d10 d11 d12 d13 d14 d15 d16 d17 d18 d19 d20 ⟨PySem.W.mg_of X G y_NoPlayer, y_NoPlayer, ⟨q_NoPlayer_nw, q_NoPlayer_ga, q_NoPlayer_gn, q_NoPlayer_cl, q_NoPlayer_mo, q_NoPlayer_mb⟩, kv_NoPlayer, kk_NoPlayer_NoPlayer⟩ (PySem.W.mg_none_of X G z_all) (PySem.W.mg_none_of X G z_any) (PySem.W.mg_none_of X G z_int) (PySem.W.mg_none_of X G z_isinstance) (PySem.W.mg_none_of X G z_len) (PySem.W.mg_none_of X G z_list) (PySem.W.mg_none_of X G z_range) (PySem.W.mg_none_of X G z_set) (PySem.W.mg_none_of X G z_sorted) ⟩
theorem walk {l : PySem.W.OpenLaw} {q : Program} {loose : List Str} {XP : (Str → Option Value) → Heap → Prop} {YP : World → Heap → Prop} {d : DefRec} {K : Params → PySem.W.Frag} (hn : l.most = some 63) (hdf : d.params.defaults = [])
    (hY : ∀ (w : World) (h : Heap), YP w h → (K w.params).In h)
    (F : ∀ (w : World) (mg : Str → Option Value) (fa : Addr) (h : Heap), (K w.params).In h → h.Ns mainGlobals mg → mg d.name = some (.ref fa) →
      ∃ fd : FuncData, (∀ (s : Shared) (u : Value), BindsTo s fd ⟨[u], []⟩ [("_law_script", u)]) ∧ ∀ base : Heap, (K w.params).In base → base.Ns mainGlobals mg → FnOk l.prog w (K w.params) mg base (CXE l.prog w) 8 fa fd ["_law_script"] (sp_lawA (K w.params))) :
    PySem.W.WalkO q loose XP YP l.row.toRowW d [] (fun f vs => PySem.call f vs) :=
  L2.walk_of (n := 63) (k := 8) (x := "_law_script") (CX := fun w => CXE l.prog w) (sp := fun w => sp_lawA (K w.params)) hn (by decide) hdf ⟨rfl, by decide, by decide⟩ hY F (fun _ _ a ns hl _ hS => ⟨ns, a, rfl, hS, hl, fun _ => rfl⟩) fun _ _ _ _ _ z => cxe0 z
end My
open PySem PySem.W PyProof.Rows
set_option maxRecDepth 100000 in
set_option maxHeartbeats 0 in
theorem PySem.Challenge.cw_ladderworth_k18_whole_no_worths_or_ways_holds : PySem.Challenge.rw_ladderworth_k18_whole_no_worths_or_ways.Holds := by
  w_on; o_law; k_head; (case hw => w_witness2)
  k_fill
  refine My.walk (l := PySem.Challenge.rw_ladderworth_k18_whole_no_worths_or_ways) rfl rfl (fun w h Y => PySem.W.kIn_of Y) ?F
  case F =>
    intro w mg fa h KX G hmg
    refine' My.all_mk KX G hmg ?a0 ?l0 ?e0 ?k0 ?a1 ?l1 ?e1 ?k1 ?a2 ?l2 ?e2 ?k2 ?a3 ?l3 ?e3 ?k3 ?a4 ?l4 ?e4 ?k4 ?a5 ?l5 ?e5 ?k5 ?a6 ?l6 ?e6 ?k6 ?a7 ?l7 ?e7 ?k7 ?a8 ?l8 ?e8 ?k8 ?a9 ?l9 ?e9 ?k9 ?a10 ?l10 ?e10 ?k10 ?a11 ?l11 ?e11 ?k11 ?a12 ?l12 ?e12 ?k12 ?a13 ?l13 ?e13 ?k13 ?a14 ?l14 ?e14 ?k14 ?a15 ?l15 ?e15 ?k15 ?a16 ?l16 ?e16 ?k16 ?a17 ?l17 ?e17 ?k17 ?a18 ?l18 ?e18 ?k18 ?a19 ?l19 ?e19 ?k19 ?a20 ?l20 ?e20 ?k20 ?z_all ?z_any ?z_int ?z_isinstance ?z_len ?z_list ?z_range ?z_set ?z_sorted ?y_NoPlayer ?q_NoPlayer_nw ?q_NoPlayer_ga ?q_NoPlayer_gn ?q_NoPlayer_cl ?q_NoPlayer_mo ?q_NoPlayer_mb ?kv_NoPlayer ?kk_NoPlayer_NoPlayer
    (case a0 => k_is)
    (case l0 => k_is)
    (case e0 => k_is)
    (case k0 => k_is)
    (case a1 => k_is)
    (case l1 => k_is)
    (case e1 => k_is)
    (case k1 => k_is)
    (case a2 => k_is)
    (case l2 => k_is)
    (case e2 => k_is)
    (case k2 => k_is)
    (case a3 => k_is)
    (case l3 => k_is)
    (case e3 => k_is)
    (case k3 => k_is)
    (case a4 => k_is)
    (case l4 => k_is)
    (case e4 => k_is)
    (case k4 => k_is)
    (case a5 => k_is)
    (case l5 => k_is)
    (case e5 => k_is)
    (case k5 => k_is)
    (case a6 => k_is)
    (case l6 => k_is)
    (case e6 => k_is)
    (case k6 => k_is)
    (case a7 => k_is)
    (case l7 => k_is)
    (case e7 => k_is)
    (case k7 => k_is)
    (case a8 => k_is)
    (case l8 => k_is)
    (case e8 => k_is)
    (case k8 => k_is)
    (case a9 => k_is)
    (case l9 => k_is)
    (case e9 => k_is)
    (case k9 => k_is)
    (case a10 => k_is)
    (case l10 => k_is)
    (case e10 => k_is)
    (case k10 => k_is)
    (case a11 => k_is)
    (case l11 => k_is)
    (case e11 => k_is)
    (case k11 => k_is)
    (case a12 => k_is)
    (case l12 => k_is)
    (case e12 => k_is)
    (case k12 => k_is)
    (case a13 => k_is)
    (case l13 => k_is)
    (case e13 => k_is)
    (case k13 => k_is)
    (case a14 => k_is)
    (case l14 => k_is)
    (case e14 => k_is)
    (case k14 => k_is)
    (case a15 => k_is)
    (case l15 => k_is)
    (case e15 => k_is)
    (case k15 => k_is)
    (case a16 => k_is)
    (case l16 => k_is)
    (case e16 => k_is)
    (case k16 => k_is)
    (case a17 => k_is)
    (case l17 => k_is)
    (case e17 => k_is)
    (case k17 => k_is)
    (case a18 => k_is)
    (case l18 => k_is)
    (case e18 => k_is)
    (case k18 => k_is)
    (case a19 => k_is)
    (case l19 => k_is)
    (case e19 => k_is)
    (case k19 => k_is)
    (case a20 => k_is)
    (case l20 => k_is)
    (case e20 => k_is)
    (case k20 => k_is)
    (case z_all => k_is)
    (case z_any => k_is)
    (case z_int => k_is)
    (case z_isinstance => k_is)
    (case z_len => k_is)
    (case z_list => k_is)
    (case z_range => k_is)
    (case z_set => k_is)
    (case z_sorted => k_is)
    (case y_NoPlayer => first | k_is | k_exc | kernel_rfl)
    (case q_NoPlayer_nw => first | k_is | k_exc | kernel_rfl)
    (case q_NoPlayer_ga => first | k_is | k_exc | kernel_rfl)
    (case q_NoPlayer_gn => first | k_is | k_exc | kernel_rfl)
    (case q_NoPlayer_cl => first | k_is | k_exc | kernel_rfl)
    (case q_NoPlayer_mo => first | k_is | k_exc | kernel_rfl)
    (case q_NoPlayer_mb => first | k_is | k_exc | kernel_rfl)
    (case kv_NoPlayer => first | k_is | k_exc | kernel_rfl)
    (case kk_NoPlayer_NoPlayer => first | k_is | k_exc | kernel_rfl)
#print axioms PySem.Challenge.cw_ladderworth_k18_whole_no_worths_or_ways_holds
