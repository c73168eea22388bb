import PyProof.Rows.All
import Wide.All
import OpenK.AllK
import Wide.FinOn
import Lean
import PyProof.EqAt
import PyProof.EqKinds
import PyProof.TupleCall
import KE.KSortTup
import PySem.Challenge.RW_ladderworth_k11_books_read
set_option Elab.async false
set_option linter.all false
set_option maxRecDepth 100000
namespace L2
open PySem PySem.Spec PyProof.Rows
abbrev Key := Sum Int Str
def keyIs : Key → Value → Bool
  | .inl k, v => Value.isInt k v
  | .inr x, v => Value.isStrOf x v
def keyH (w : World) : Key → Int
  | .inl k => hashInt k
  | .inr x => hashStr w x
theorem keyIs_shape : ∀ {k : Key} {v : Value}, keyIs k v = true → (∃ i t, k = Sum.inl i ∧ v = Value.int i t) ∨ (∃ x t, k = Sum.inr x ∧ v = Value.str x t)
  | .inl i, v, h => by
    obtain ⟨t, e⟩ := Value.isInt_shape (k := i) (v := v) h
    exact .inl ⟨i, t, rfl, e⟩
  | .inr x, v, h => by
    obtain ⟨t, e⟩ := Value.isStrOf_shape (x := x) (v := v) h
    exact .inr ⟨x, t, rfl, e⟩
theorem key_ll (a b : Int) : decide ((Sum.inl a : Key) = Sum.inl b) = (a == b) := by
  by_cases e : a = b
  · subst e; simp
  · have h : ¬ (Sum.inl a : Key) = Sum.inl b := fun q => e (Sum.inl.inj q)
    rw [decide_eq_false h]
    exact (beq_eq_false_iff_ne.mpr e).symm
theorem key_rr (a b : Str) : decide ((Sum.inr a : Key) = Sum.inr b) = decide (a = b) := by
  by_cases e : a = b
  · subst e; simp
  · have h : ¬ (Sum.inr a : Key) = Sum.inr b := fun q => e (Sum.inr.inj q)
    rw [decide_eq_false h, decide_eq_false e]
theorem key_lr (a : Int) (b : Str) : decide ((Sum.inl a : Key) = Sum.inr b) = false := decide_eq_false (fun q => nomatch q)
theorem key_rl (a : Str) (b : Int) : decide ((Sum.inr a : Key) = Sum.inl b) = false := decide_eq_false (fun q => nomatch q)
def mixKind (prog : Program) (w : World) : PySem.KeyKind prog w Key where
  is := keyIs
  hash := keyH w
  inj := fun v a b ha hb => by
    rcases keyIs_shape ha with ⟨i, t, rfl, rfl⟩ | ⟨x, t, rfl, rfl⟩
    · rcases keyIs_shape hb with ⟨j, u, rfl, e⟩ | ⟨y, u, rfl, e⟩
      · injection e with e1 _; rw [e1]
      · exact nomatch e
    · rcases keyIs_shape hb with ⟨j, u, rfl, e⟩ | ⟨y, u, rfl, e⟩
      · exact nomatch e
      · injection e with e1 _; rw [e1]
  byValue := fun k v h => by
    rcases keyIs_shape h with ⟨i, t, rfl, rfl⟩ | ⟨x, t, rfl, rfl⟩ <;> rfl
  pyHash := fun hv h => by
    rcases keyIs_shape hv with ⟨i, t, rfl, rfl⟩ | ⟨x, t, rfl, rfl⟩
    · exact wpAny_pyHash_int h
    · exact wpAny_pyHash_str h
  eqBool := fun hu hv h => by
    rcases keyIs_shape hu with ⟨i, t, rfl, rfl⟩ | ⟨x, t, rfl, rfl⟩
    · rcases keyIs_shape hv with ⟨j, u, rfl, rfl⟩ | ⟨y, u, rfl, rfl⟩
      · rw [key_ll] at h; exact wpAny_eqBool_int h
      · rw [key_lr] at h; exact SeqAt.EqAt.int_str i t y u _ _ _ _ h
    · rcases keyIs_shape hv with ⟨j, u, rfl, rfl⟩ | ⟨y, u, rfl, rfl⟩
      · rw [key_rl] at h; exact SeqAt.EqAt.str_int x t j u _ _ _ _ h
      · rw [key_rr] at h; exact wpAny_eqBool_str h
  «strs» := fun k x t v h => by
    rcases keyIs_shape h with ⟨i, u, rfl, e⟩ | ⟨y, u, rfl, e⟩
    · exact nomatch e
    · injection e with e1 _
      subst e1
      cases v <;> rfl
end L2
namespace L2
open PySem PySem.Spec PyProof.Rows
inductive V where
  | non | bl (b : Bool) | int (i : Int) | str (x : Str) | byt (b : Array UInt8) | flt (b : UInt64) | ref (a : Addr) | ty (n : String)
  deriving DecidableEq
def RelV : V → Value → Prop
  | .non, u => u = Value.none
  | .bl b, u => u = Value.bool b
  | .int i, u => ∃ t, u = Value.int i t
  | .str x, u => ∃ t, u = Value.str x t
  | .byt b, u => ∃ t, u = Value.bytes b t
  | .flt b, u => ∃ t, u = Value.float b t
  | .ref a, u => u = Value.ref a
  | .ty n, u => u = Value.type n
abbrev Vals : List V → List Value → Prop := Paired RelV
theorem Vals.length {xs : List V} {us : List Value} (r : Vals xs us) : xs.length = us.length := Paired.length r
theorem Vals.get : ∀ {xs : List V} {us : List Value} {i : Nat} {x : V}, Vals xs us → xs[i]? = some x → ∃ u, us[i]? = some u ∧ RelV x u
  | _, _, _, _, .nil, e => by simp at e
  | _, _, 0, _, .cons r _, e => by simp at e; subst e; exact ⟨_, rfl, r⟩
  | _, _, i + 1, x, .cons _ t, e => by
    obtain ⟨u, h1, h2⟩ := Vals.get (i := i) (x := x) t (by simpa using e)
    exact ⟨u, by simpa using h1, h2⟩
theorem Vals.set {x : V} {u : Value} (r : RelV x u) : ∀ {xs : List V} {us : List Value} (i : Nat), Vals xs us → Vals (xs.set i x) (us.set i u)
  | _, _, _, .nil => .nil
  | _, _, 0, .cons _ t => .cons r t
  | _, _, i + 1, .cons q t => .cons q (Vals.set r i t)
theorem Vals.append : ∀ {xs ys : List V} {us ws : List Value}, Vals xs us → Vals ys ws → Vals (xs ++ ys) (us ++ ws)
  | _, _, _, _, .nil, s => s
  | _, _, _, _, .cons r t, s => .cons r (Vals.append t s)
theorem Vals.take : ∀ {xs : List V} {us : List Value} (n : Nat), Vals xs us → Vals (xs.take n) (us.take n)
  | _, _, 0, _ => .nil
  | _, _, _ + 1, .nil => .nil
  | _, _, n + 1, .cons r t => .cons r (Vals.take n t)
theorem Vals.drop : ∀ {xs : List V} {us : List Value} (n : Nat), Vals xs us → Vals (xs.drop n) (us.drop n)
  | _, _, 0, r => r
  | _, _, _ + 1, .nil => .nil
  | _, _, n + 1, .cons _ t => Vals.drop n t
def RelO : Option V → Option Value → Prop
  | some v, some u => RelV v u
  | none, none => True
  | _, _ => False
def KV {κ : Type} : List (κ × V) → List (κ × Value) → Prop := Paired fun (p : κ × V) (q : κ × Value) => p.1 = q.1 ∧ RelV p.2 q.2
def kV : Key → V
  | .inl i => .int i
  | .inr x => .str x
inductive HO where
  | lst (xs : List V)
  | tup (xs : List V)
  | dK (kvs : List (Key × V)) | dT (kvs : List (List Key × V))
  | set (S : Int → Bool) (n : Nat)
  | ins (C dx : Addr) (fs : List (Str × V))
  | own (x : Addr)
  | xd (fs : List (Str × V))
  | met (f x : Addr)
  | rng (lo hi : Int)
  | frz (o : Obj) (u : HO)
  | tbl (ps : Array Value)
  | ext (φ : Heap → Prop)
abbrev Hp := Addr → Option HO
def upd (H : Hp) (a : Addr) (o : HO) : Hp := fun b => if b = a then some o else H b
theorem upd_same {H : Hp} {a : Addr} {o : HO} : upd H a o a = some o := by unfold upd; rw [if_pos rfl]
theorem upd_ne {H : Hp} {a b : Addr} {o : HO} (h : b ≠ a) : upd H a o b = H b := by unfold upd; rw [if_neg h]
theorem upd_upd {H : Hp} {a : Addr} {o u : HO} : upd (upd H a o) a u = upd H a u := by
  funext b; unfold upd; split <;> rfl
theorem ne_of_none {H : Hp} {a b : Addr} {o : HO} (h : H a = some o) (h' : H b = none) : a ≠ b := by
  intro e; subst e; rw [h] at h'; cases h'
section
variable (P : Program) (w : World)
def ObjOk (H : Hp) (h : Heap) (a : Addr) : HO → Prop
  | .lst xs => xs.length ≤ sizeLine ∧ ∃ (its : List Value) (n : Nat), Vals xs its ∧ h.get? a = some { cls := .type "list", data := .seq its.toArray n }
  | .tup xs => xs.length ≤ sizeLine ∧ ∃ its : List Value, Vals xs its ∧ IsTup h a its.toArray
  | .dK kvs => kvs.length ≤ sizeLine ∧ (a == sysModules) = false ∧ ∃ vs, KV kvs vs ∧ h.DictOf (mixKind P w) a vs
  | .dT kvs => kvs.length ≤ sizeLine ∧ (a == sysModules) = false ∧ ∃ xs : List (List Key × Addr × Value),
      Paired (fun (p : List Key × V) (q : List Key × Addr × Value) => p.1 = q.1 ∧ H q.2.1 = some (.tup (p.1.map kV)) ∧ RelV p.2 q.2.2) kvs xs ∧
      ∃ o es ep, h.get? a = some o ∧ o.ExactDict ∧ o.data = .dict es ep ∧ es.toList = xs.map (entryOfKey (tupleKind (mixKind P w))) ∧ (xs.map (·.1)).Nodup
  | .set S n => h.SetOf (intKind P w) a S n
  | .ins C dx fs => H dx = some (.own a) ∧ fs.length ≤ 1000 ∧ dx ≠ a ∧ h.get? a = some (PySem.W.instObj C dx) ∧
      ∃ mA, h.Ns1 dx mA ∧ (∀ f, RelO (fs.lookup f) (mA f)) ∧ PySem.Within mA (fs.map (·.1))
  | .own _ => ∃ o, h.get? a = some o
  | .xd fs => ∃ mA, h.Ns1 a mA ∧ ∀ f, RelO (fs.lookup f) (mA f)
  | .rng lo hi => ∃ t u v, h.get? a = some { cls := .type "range", data := .fields #[.int lo t, .int hi u, .int 1 v] }
  | .frz o u => h.get? a = some o ∧ ObjOk H h a u
  | .tbl ps => h.get? a = some { cls := .none, data := .fields ps }
  | .met f x => h.get? a = some (PySem.W.methodObj (.ref f) (.ref x))
  | .ext φ => φ h ∧ (∃ o, h.get? a = some o) ∧ ∀ h1 h2 : Heap, φ h1 → (∀ o, h1.get? a = some o → h2.get? a = some o) → φ h2
def HOk (H : Hp) (h : Heap) : Prop := ∀ a o, H a = some o → ObjOk P w H h a o
end
section
variable {P : Program} {w : World} {H H' : Hp} {h h' : Heap} {a : Addr} {o : HO}
theorem ObjOk.lt (x : ObjOk P w H h a o) : a < h.objs.size := by
  cases o with
  | lst xs => obtain ⟨_, _, _, _, e⟩ := x; exact Heap.lt_size e
  | tup xs => obtain ⟨_, _, _, p⟩ := x; exact p.lt
  | dK kvs => obtain ⟨_, _, _, _, o, _, _, e, _⟩ := x; exact Heap.lt_size e
  | dT kvs => obtain ⟨_, _, _, _, o, _, _, e, _⟩ := x; exact Heap.lt_size e
  | set S n => obtain ⟨o, _, _, _, e, _⟩ := x; exact Heap.lt_size e
  | ins C dx fs => obtain ⟨_, _, _, e, _⟩ := x; exact Heap.lt_size e
  | own y => obtain ⟨_, e⟩ := x; exact Heap.lt_size e
  | xd fs => obtain ⟨_, ⟨_, _, _, e, _⟩, _⟩ := x; exact Heap.lt_size e
  | rng lo hi => obtain ⟨_, _, _, e⟩ := x; exact Heap.lt_size e
  | frz ob u => obtain ⟨e, _⟩ := x; exact Heap.lt_size e
  | tbl ps => exact Heap.lt_size (show h.get? a = some _ from x)
  | met f y => exact Heap.lt_size (show h.get? a = some _ from x)
  | ext φ => obtain ⟨_, ⟨_, e⟩, _⟩ := x; exact Heap.lt_size e
theorem Paired.mapP {α β : Type} {F G : α → β → Prop} : ∀ {l₁ : List α} {l₂ : List β}, Paired F l₁ l₂ → (∀ a b, F a b → G a b) → Paired G l₁ l₂
  | _, _, .nil, _ => .nil
  | _, _, .cons r t, f => .cons (f _ _ r) (Paired.mapP t f)
theorem ObjOk.stay (x : ObjOk P w H h a o) (k : ∀ b u, (b = a ∨ H b = some (.own a)) → h.get? b = some u → h'.get? b = some u)
    (ho : ∀ b, H b = some (.own a) → H' b = some (.own a)) (ht : ∀ b xs, H b = some (.tup xs) → H' b = some (.tup xs)) : ObjOk P w H' h' a o := by
  induction o with
  | lst xs => obtain ⟨z, its, n, r, e⟩ := x; exact ⟨z, its, n, r, k _ _ (.inl rfl) e⟩
  | tup xs => obtain ⟨z, its, r, ob, e, c⟩ := x; exact ⟨z, its, r, ob, k _ _ (.inl rfl) e, c⟩
  | dK kvs => obtain ⟨z, y, vs, r, ob, es, ep, e, c⟩ := x; exact ⟨z, y, vs, r, ob, es, ep, k _ _ (.inl rfl) e, c⟩
  | dT kvs =>
    obtain ⟨z, y, xs, r, ob, es, ep, e, c⟩ := x
    exact ⟨z, y, xs, Paired.mapP r fun p q z => ⟨z.1, ht _ _ z.2.1, z.2.2⟩, ob, es, ep, k _ _ (.inl rfl) e, c⟩
  | set S n => obtain ⟨ob, es, ep, t, e, c⟩ := x; exact ⟨ob, es, ep, t, k _ _ (.inl rfl) e, c⟩
  | ins C dx fs =>
    obtain ⟨d, z, ne, e, mA, ⟨od, es, ep, e2, c⟩, r⟩ := x
    exact ⟨ho _ d, z, ne, k _ _ (.inl rfl) e, mA, ⟨od, es, ep, k _ _ (.inr d) e2, c⟩, r⟩
  | own y => obtain ⟨ob, e⟩ := x; exact ⟨ob, k _ _ (.inl rfl) e⟩
  | xd fs => obtain ⟨mA, ⟨od, es, ep, e, c⟩, r⟩ := x; exact ⟨mA, ⟨od, es, ep, k _ _ (.inl rfl) e, c⟩, r⟩
  | rng lo hi => obtain ⟨t, u, v, e⟩ := x; exact ⟨t, u, v, k _ _ (.inl rfl) e⟩
  | frz ob u ih => obtain ⟨e, q⟩ := x; exact ⟨k _ _ (.inl rfl) e, ih q⟩
  | tbl ps =>
    have e : h.get? a = some { cls := .none, data := .fields ps } := x
    show h'.get? a = some { cls := .none, data := .fields ps }
    exact k a _ (.inl rfl) e
  | met f y =>
    have e : h.get? a = some (PySem.W.methodObj (.ref f) (.ref y)) := x
    show h'.get? a = some (PySem.W.methodObj (.ref f) (.ref y))
    exact k a _ (.inl rfl) e
  | ext φ => obtain ⟨p, ⟨o, e⟩, st⟩ := x; exact ⟨st _ _ p fun o q => k _ _ (.inl rfl) q, ⟨o, k _ _ (.inl rfl) e⟩, st⟩
theorem HOk.lt (x : HOk P w H h) (e : H a = some o) : a < h.objs.size := (x a o e).lt
theorem HOk.fresh (x : HOk P w H h) (e : h.objs.size ≤ a) : H a = none := by
  cases q : H a with
  | none => rfl
  | some u => exact absurd (Nat.lt_of_lt_of_le (x.lt q) e) (Nat.lt_irrefl _)
theorem HOk.kept (x : HOk P w H h) (k : ∀ b u, h.get? b = some u → h'.get? b = some u) : HOk P w H h' := fun a o e =>
  (x a o e).stay (fun b u _ q => k b u q) (fun _ q => q) fun _ _ q => q
theorem HOk.laid (x : HOk P w H h) (k : ∀ b u, h.get? b = some u → h'.get? b = some u) (hp : h.objs.size ≤ a) (new : ObjOk P w (upd H a o) h' a o) : HOk P w (upd H a o) h' := fun b u e => by
  have hn := x.fresh hp
  by_cases hb : b = a
  · subst hb; rw [upd_same] at e; cases e; exact new
  · rw [upd_ne hb] at e
    exact (x b u e).stay (fun c v _ q => k c v q) (fun c q => by rw [upd_ne (ne_of_none q hn)]; exact q) fun c xs q => by rw [upd_ne (ne_of_none q hn)]; exact q
end
def Rd (H : Hp) (a : Addr) (u : HO) : Prop := H a = some u ∨ ∃ o, H a = some (.frz o u)
theorem Rd.ok {P : Program} {w : World} {H : Hp} {h : Heap} {a : Addr} {u : HO} (r : Rd H a u) (x : HOk P w H h) : ObjOk P w H h a u := by
  rcases r with r | ⟨o, r⟩
  · exact x a u r
  · obtain ⟨_, q⟩ := x a _ r
    exact q
def Mut : Option HO → Prop
  | some (.lst _) => True
  | some (.dK _) => True
  | some (.dT _) => True
  | some (.set _ _) => True
  | some (.ins _ _ _) => True
  | some (.ext _) => True
  | _ => False
section
variable {P : Program} {w : World} {H : Hp} {h h' : Heap} {x e : Addr} {o' : HO}
theorem HOk.write (ok : HOk P w H h) (mu : Mut (H x)) (he : e = x ∨ H e = some (.own x)) (k : ∀ b u, b ≠ e → h.get? b = some u → h'.get? b = some u) (heo : ∃ u, h'.get? e = some u)
    (new : ObjOk P w (upd H x o') h' x o') : HOk P w (upd H x o') h' := fun b u q => by
  have nown : ∀ c y, H c = some (.own y) → c ≠ x := fun c y r z => by subst z; rw [r] at mu; exact mu
  have ntup : ∀ c xs, H c = some (.tup xs) → c ≠ x := fun c xs r z => by subst z; rw [r] at mu; exact mu
  by_cases hb : b = x
  · subst hb; rw [upd_same] at q; cases q; exact new
  · rw [upd_ne hb] at q
    by_cases hbe : b = e
    · have q' : H b = some (.own x) := by
        rcases he with z | z
        · exact absurd (hbe.trans z) hb
        · rw [hbe]; exact z
      rw [q] at q'; cases q'
      obtain ⟨v, hv⟩ := heo
      exact ⟨v, by rw [hbe]; exact hv⟩
    · refine (ok b u q).stay (fun c v hc r => k c v ?_ r) (fun c r => by rw [upd_ne (nown c b r)]; exact r) fun c xs r => by rw [upd_ne (ntup c xs r)]; exact r
      rcases hc with rfl | hc
      · exact hbe
      · rintro rfl
        rcases he with z | z
        · exact nown c b hc z
        · rw [hc] at z; cases z; exact hb rfl
end
structure Un (fs ex : List Addr) (H H' : Hp) (h h' : Heap) : Prop where
  keep : ∀ b o, h.get? b = some o → H b = none → b ∉ fs → b ∉ ex → h'.get? b = some o
  slot : ∀ b o, h.get? b = some o → H b = none → b ∈ fs → b ∉ ex → ∃ sl, h'.get? b = some { o with slots := sl }
  free : ∀ b o, h.get? b = some o → H b = none → b ∉ ex → H' b = none
  there : ∀ b o, h.get? b = some o → b ∉ ex → ∃ o', h'.get? b = some o'
  tups : ∀ b xs, H b = some (.tup xs) → H' b = some (.tup xs)
  frzs : ∀ b o u, H b = some (.frz o u) → H' b = some (.frz o u)
  tbls : ∀ b ps, H b = some (.tbl ps) → ∃ more, H' b = some (.tbl (ps ++ more))
section
variable {fs fs' ex ex' : List Addr} {H H1 H2 : Hp} {h h1 h2 h' : Heap} {a x e : Addr} {o : HO}
theorem Un.any (u : Un fs ex H H1 h h1) {b : Addr} {ob : Obj} (q : h.get? b = some ob) (n : H b = none) (hx : b ∉ ex) : ∃ sl, h1.get? b = some { ob with slots := sl } := by
  by_cases hb : b ∈ fs
  · exact u.slot b ob q n hb hx
  · exact ⟨ob.slots, u.keep b ob q n hb hx⟩
theorem Un.kept (k : ∀ b u, h.get? b = some u → h'.get? b = some u) : Un fs ex H H h h' :=
  ⟨fun b ob q _ _ _ => k b ob q, fun b ob q _ _ _ => ⟨ob.slots, k b ob q⟩, fun _ _ _ n _ => n, fun b ob q _ => ⟨ob, k b ob q⟩, fun _ _ q => q, fun _ _ _ q => q, fun _ ps q => ⟨#[], by rw [q]; simp⟩⟩
theorem Un.refl : Un fs ex H H h h := Un.kept fun _ _ q => q
theorem Un.laid (k : ∀ b u, h.get? b = some u → h'.get? b = some u) (hp : h.objs.size ≤ a) (hn : H a = none) : Un fs ex H (upd H a o) h h' where
  keep := fun b u q _ _ _ => k b u q
  slot := fun b u q _ _ _ => ⟨u.slots, k b u q⟩
  free := fun b u q n _ => by rw [upd_ne (Nat.ne_of_lt (Nat.lt_of_lt_of_le (Heap.lt_size q) hp))]; exact n
  there := fun b u q _ => ⟨u, k b u q⟩
  tups := fun b xs q => by rw [upd_ne (ne_of_none q hn)]; exact q
  frzs := fun b u xs q => by rw [upd_ne (ne_of_none q hn)]; exact q
  tbls := fun b ps q => ⟨#[], by rw [upd_ne (ne_of_none q hn), q]; simp⟩
theorem Un.write (mu : Mut (H x)) (he : e = x ∨ H e = some (.own x)) (k : ∀ b u, b ≠ e → h.get? b = some u → h'.get? b = some u) (heo : ∃ u, h'.get? e = some u) : Un fs ex H (upd H x o) h h' := by
  have hx : ∀ b, H b = none → b ≠ x := fun b n z => by subst z; rw [n] at mu; exact mu
  have hb : ∀ b, H b = none → b ≠ e := fun b n z => by
    subst z
    rcases he with r | r
    · exact hx b n r
    · rw [n] at r; cases r
  have hm : ∀ b u, H b = some u → ¬ Mut (some u) → b ≠ x := fun b u q nm z => by subst z; rw [q] at mu; exact nm mu
  refine ⟨fun b u q n _ _ => k b u (hb b n) q, fun b u q n _ _ => ⟨u.slots, k b u (hb b n) q⟩, fun b u q n _ => by rw [upd_ne (hx b n)]; exact n, fun b u q _ => ?_,
    fun b xs q => by rw [upd_ne (hm b _ q fun z => z)]; exact q, fun b u xs q => by rw [upd_ne (hm b _ q fun z => z)]; exact q, fun b ps q => ⟨#[], by rw [upd_ne (hm b _ q fun z => z), q]; simp⟩⟩
  by_cases hbe : b = e
  · subst hbe; exact heo
  · exact ⟨u, k b u hbe q⟩
end
def trk (h : Heap) (H : Hp) : List Addr := (List.range h.objs.size).filter fun a => (H a).isSome
def hidT (h : Heap) (H : Hp) : Heap := PySem.W.hideAll h (trk h H)
theorem hidT_size (h : Heap) (H : Hp) : (hidT h H).objs.size = h.objs.size := PySem.W.hideAll_size _ _
theorem hidT_get {h : Heap} {H : Hp} {b : Addr} {o : Obj} (e : h.get? b = some o) (n : H b = none) : (hidT h H).get? b = some o :=
  PySem.W.hideAll_get _ e fun hm => by
    have q : (H b).isSome = true := (List.mem_filter.mp hm).2
    rw [n] at q; simp at q
theorem of_hidT {h : Heap} {H : Hp} {b : Addr} {o : Obj} (e : (hidT h H).get? b = some o) : h.get? b = some o ∧ H b = none := by
  have e' : h.get? b = some o := PySem.W.of_hideAll (trk h H) e
  refine ⟨e', ?_⟩
  cases q : H b with
  | none => rfl
  | some x =>
    have hm : b ∈ trk h H := List.mem_filter.mpr ⟨List.mem_range.mpr (Heap.lt_size e'), by simp [q]⟩
    have z : (hidT h H).get? b = none := PySem.W.hideAll_none (trk h H) hm
    rw [z] at e; cases e
def allNews (g h : Heap) (L : Addr) : List (Addr × Obj) := (List.range h.objs.size).filterMap fun a => if a = L ∨ (g.get? a).isSome = true then none else (h.get? a).map fun o => (a, o)
def rest (g h : Heap) (L d : Addr) : List (Addr × Obj) := (allNews g h L).filter fun p => decide (p.1 ≠ d)
end L2
namespace L2
open PySem PySem.Spec PyProof.Rows
structure Mod (K : PySem.W.Frag) (mg : Str → Option Value) (base : Heap) : Prop where
  kin : K.In base
  glob : base.Ns mainGlobals mg
  blt : ∃ mb, base.Ns builtinsNs mb ∧ ∀ x : Str, x ≠ "__name__" → mb x = bootBuiltins x
  nolimit : base.NoLimit
/-- the context: a def's body (or a comprehension's block) running. base: fixed through the whole law; s₀, H₀: the entry; outer: the frames whose slots others may change (a def's callers); stack: all frames that run;
   ex: iterators that were made ahead of the entry and are walked here (a comprehension's); fn: the names whose cells were made at the entry (a def: all; a comprehension's block: its own); calm: not within an except suite; pn: pins that every state bears; xe: what is wanted of an exception that leaves the code -/
structure Cx where
  prog : Program
  w : World
  K : PySem.W.Frag
  mg : Str → Option Value
  base : Heap
  A : Around
  N : List Str
  s₀ : Shared
  H₀ : Hp
  env : Env
  outer : List Env
  stack : List Env
  ex : List Addr
  fn : Str → Bool
  calm : Bool
  pn : List (Addr × Obj)
  xe : Value → Shared → Prop
def frs (l : List Env) : List Addr := l.filterMap (·.frame)
abbrev Cx.fs (X : Cx) : List Addr := frs X.outer
def Vis (sc : Scope) (x : Str) : Prop := sc.names.lookup x = some .local ∨ sc.names.lookup x = some .cell ∨ sc.names.lookup x = some .free
def Loc (sc : Scope) (x : Str) : Prop := sc.names.lookup x = some .local ∨ sc.names.lookup x = some .cell
def Look (env : Env) (h : Heap) (m : Str → Option Value) (x : Str) (u : Value) : Prop :=
  (env.kindOf x = some .local ∧ m x = some u) ∨ ((env.kindOf x = some .cell ∨ env.kindOf x = some .free) ∧ ∃ c, env.cells.lookup x = some c ∧ h.IsCell c (some u))
structure Cx.Ok (X : Cx) : Prop where
  mod : Mod X.K X.mg X.base
  kind : X.env.scope.kind = .function
  glob : X.env.globals = mainGlobals
  blt : X.env.builtins = builtinsNs
  above : X.s₀.heap.objs.size ≤ X.env.locals
  inj : ∀ x y c, X.env.cells.lookup x = some c → X.env.cells.lookup y = some c → x = y
  has : ∀ x, (X.env.kindOf x = some .cell ∨ X.env.kindOf x = some .free) → ∃ c, X.env.cells.lookup x = some c
  cab : ∀ x c, X.fn x = true → X.env.cells.lookup x = some c → X.s₀.heap.objs.size ≤ c
  hd : X.calm = true → X.A.handled = none
  frames : X.A.frames = some X.stack
  stk : X.stack = X.outer ∨ (X.stack = X.env :: X.outer ∧ X.env.frame = some X.env.locals)
  exf : ∀ b ∈ X.ex, b ≠ X.env.locals ∧ ∀ x c, X.env.cells.lookup x = some c → c ≠ b
  bs : ∀ b o, X.base.get? b = some o → X.s₀.heap.get? b = some o ∧ X.H₀ b = none
  bsz : X.base.objs.size ≤ X.s₀.heap.objs.size
  noex : ∀ b o, X.base.get? b = some o → b ∉ X.ex
  exfs : ∀ b ∈ X.ex, b ∉ X.fs
  funs : X.s₀.heap.FunFrames X.base X.outer
  frf : ∀ b ∈ X.fs, X.H₀ b = none
structure Inv (X : Cx) (pins : List (Addr × Obj)) (σ : List (Option V)) (H : Hp) (s : Shared) : Prop where
  ok : X.Ok
  os : s.os = X.s₀.os
  bare : AllBare s.gens
  base : Un X.fs X.ex X.H₀ H X.s₀.heap s.heap
  loc : ∃ m, s.heap.Ns X.env.locals m ∧ ∀ (i : Nat) (x : Str) (v : V), X.N[i]? = some x → σ[i]? = some (some v) → Vis X.env.scope x → ∃ u, RelV v u ∧ Look X.env s.heap m x u
  cell : ∀ x c, X.env.cells.lookup x = some c → ∃ v, s.heap.IsCell c v
  free : H X.env.locals = none
  freeC : ∀ x c, X.env.cells.lookup x = some c → H c = none
  pin : ∀ p ∈ X.pn ++ pins, s.heap.get? p.1 = some p.2 ∧ H p.1 = none ∧ p.1 ≠ X.env.locals ∧ p.1 ∉ X.fs ∧ ∀ v, p.2.data ≠ .cell v
  hok : HOk X.prog X.w H s.heap
  len : σ.length = X.N.length
section
variable {X : Cx} {pins : List (Addr × Obj)} {σ : List (Option V)} {H H' : Hp} {s : Shared} {h' : Heap}
theorem Cx.Ok.nofr (ok : X.Ok) {b : Addr} {o : Obj} (e : X.base.get? b = some o) : b ∉ X.fs := fun hb => by
  have := (ok.funs.mem hb).1
  rw [e] at this; cases this
theorem Inv.bs (I : Inv X pins σ H s) : ∀ b o, X.base.get? b = some o → s.heap.get? b = some o ∧ H b = none := fun b o e =>
  ⟨I.base.keep b o (I.ok.bs b o e).1 (I.ok.bs b o e).2 (I.ok.nofr e) (I.ok.noex b o e), I.base.free b o (I.ok.bs b o e).1 (I.ok.bs b o e).2 (I.ok.noex b o e)⟩
theorem Inv.bk (I : Inv X pins σ H s) : ∀ b o, X.base.get? b = some o → s.heap.get? b = some o := fun b o e => (I.bs b o e).1
theorem Inv.mod (I : Inv X pins σ H s) : Mod X.K X.mg X.base := I.ok.mod
theorem Inv.kIn (I : Inv X pins σ H s) : X.K.In s.heap := I.ok.mod.kin.keeps I.bk
theorem Inv.lt (I : Inv X pins σ H s) : X.env.locals < s.heap.objs.size := let ⟨_, hn, _⟩ := I.loc; hn.lt
theorem Inv.sz (I : Inv X pins σ H s) : X.s₀.heap.objs.size ≤ s.heap.objs.size := Nat.le_trans I.ok.above (Nat.le_of_lt I.lt)
theorem Inv.nofs (I : Inv X pins σ H s) {a : Addr} (h : s.heap.objs.size ≤ a) : a ∉ X.fs := fun hb => by
  obtain ⟨_, o, ho, _⟩ := I.ok.funs.mem hb
  exact absurd (Nat.lt_of_lt_of_le (Heap.lt_size ho) (Nat.le_trans I.sz h)) (Nat.lt_irrefl _)
theorem Inv.cne (I : Inv X pins σ H s) : ∀ x c, X.env.cells.lookup x = some c → c ≠ X.env.locals := fun x c e z => by
  obtain ⟨v, o, ho, hd⟩ := I.cell x c e
  obtain ⟨m, ⟨o', es, ep, ho', hd', _⟩, _⟩ := I.loc
  rw [z, ho'] at ho; cases ho; rw [hd'] at hd; cases hd
theorem Inv.funs (I : Inv X pins σ H s) : s.heap.FunFrames X.base X.outer := by
  have all : ∀ (l : List Env), (∀ b ∈ frs l, b ∈ X.fs) → X.s₀.heap.FunFrames X.base l → s.heap.FunFrames X.base l := by
    intro l
    induction l with
    | nil => intro _ _; trivial
    | cons env r ih =>
      intro hs hl
      obtain ⟨hk, ⟨L, o, hf, hn, ho, hd⟩, hr⟩ := hl
      have hL : L ∈ X.fs := hs L (by unfold frs; rw [List.filterMap_cons, hf]; exact List.mem_cons_self)
      obtain ⟨sl, e⟩ := I.base.slot L o ho (I.ok.frf L hL) hL fun z => I.ok.exfs L z hL
      exact ⟨hk, ⟨L, _, hf, hn, e, hd⟩, ih (fun b hb => hs b (by unfold frs; rw [List.filterMap_cons, hf]; exact List.mem_cons_of_mem _ hb)) hr⟩
  exact all X.outer (fun _ hb => hb) I.ok.funs
theorem Inv.stack (I : Inv X pins σ H s) : s.heap.FunFrames X.base X.stack := by
  rcases I.ok.stk with e | ⟨e, hf⟩
  · rw [e]; exact I.funs
  · rw [e]
    obtain ⟨m, hn, _⟩ := I.loc
    refine .cons (by rw [I.ok.kind]; decide) hf hn ?_ I.funs
    exact Heap.get?_none_of_le (Nat.le_trans I.ok.bsz I.ok.above)
theorem Inv.stkSub (I : Inv X pins σ H s) : ∀ b ∈ frs X.stack, b ∈ X.env.locals :: X.fs := fun b hb => by
  rcases I.ok.stk with e | ⟨e, hf⟩
  · rw [e] at hb; exact List.mem_cons_of_mem _ hb
  · rw [e] at hb
    unfold frs at hb
    rw [List.filterMap_cons, hf] at hb
    exact hb
theorem Inv.stkFree (I : Inv X pins σ H s) : ∀ b ∈ frs X.stack, H b = none := fun b hb => by
  rcases List.mem_cons.mp (I.stkSub b hb) with e | hb
  · rw [e]; exact I.free
  · obtain ⟨_, o, ho, _⟩ := I.ok.funs.mem hb
    exact I.base.free b o ho (I.ok.frf b hb) fun z => I.ok.exfs b z hb
theorem Inv.step {g' : Array GenState} {t' : Nat} {d' : Drawn} {ch : List Addr} (I : Inv X pins σ H s)
    (hch : ∀ b ∈ ch, (b ∈ X.ex ∨ X.s₀.heap.objs.size ≤ b) ∧ b ≠ X.env.locals ∧ (∀ x c, X.env.cells.lookup x = some c → c ≠ b) ∧ ∀ p ∈ X.pn ++ pins, p.1 ≠ b)
    (keep : ∀ b o, b ≠ X.env.locals → b ∉ X.fs → b ∉ ch → s.heap.get? b = some o → H b = none → h'.get? b = some o)
    (slot : ∀ b o, b ≠ X.env.locals → b ∈ X.fs → b ∉ ch → s.heap.get? b = some o → H b = none → ∃ sl, h'.get? b = some { o with slots := sl }) (free : ∀ b o, b ∉ ch → s.heap.get? b = some o → H b = none → H' b = none)
    (there : ∀ b o, b ∉ ch → s.heap.get? b = some o → ∃ o', h'.get? b = some o')
    (tups : ∀ b xs, H b = some (.tup xs) → H' b = some (.tup xs)) (frzs : ∀ b o u, H b = some (.frz o u) → H' b = some (.frz o u)) (tbls : ∀ b ps, H b = some (.tbl ps) → ∃ more, H' b = some (.tbl (ps ++ more)))
    (ns : ∀ m, s.heap.Ns X.env.locals m → h'.Ns X.env.locals m) (hok : HOk X.prog X.w H' h') (hg : AllBare g') :
    Inv X pins σ H' { s with heap := h', gens := g', drawn := d', toks := t' } := by
  have neL : ∀ b o, X.s₀.heap.get? b = some o → b ≠ X.env.locals := fun b o e => Nat.ne_of_lt (Nat.lt_of_lt_of_le (Heap.lt_size e) I.ok.above)
  have neC : ∀ b o, X.s₀.heap.get? b = some o → b ∉ X.ex → b ∉ ch := fun b o e hx hb => by
    rcases (hch b hb).1 with z | z
    · exact hx z
    · exact absurd (Nat.lt_of_lt_of_le (Heap.lt_size e) z) (Nat.lt_irrefl _)
  have cellK : ∀ x c, X.env.cells.lookup x = some c → ∀ v, s.heap.IsCell c v → h'.IsCell c v := fun x c e v ⟨o, ho, hd⟩ => by
    have nch : c ∉ ch := fun z => (hch c z).2.2.1 x c e rfl
    by_cases hc : c ∈ X.fs
    · obtain ⟨sl, q⟩ := slot c o (I.cne x c e) hc nch ho (I.freeC x c e)
      exact ⟨_, q, hd⟩
    · exact ⟨o, keep c o (I.cne x c e) hc nch ho (I.freeC x c e), hd⟩
  refine ⟨I.ok, I.os, hg, ⟨fun b o e n hb hx => ?_, fun b o e n hb hx => ?_, fun b o e n hx => ?_, fun b o e hx => ?_, fun b xs e => tups b xs (I.base.tups b xs e), fun b o xs e => frzs b o xs (I.base.frzs b o xs e), fun b ps e => ?_⟩, ?_, fun x c e => ?_, ?_, fun x c e => ?_, fun p hp => ?_, hok, I.len⟩
  · exact keep b o (neL b o e) hb (neC b o e hx) (I.base.keep b o e n hb hx) (I.base.free b o e n hx)
  · obtain ⟨sl, e1⟩ := I.base.slot b o e n hb hx
    obtain ⟨sl', e2⟩ := slot b _ (neL b o e) hb (neC b o e hx) e1 (I.base.free b o e n hx)
    exact ⟨sl', e2⟩
  · obtain ⟨o', e1⟩ := I.base.there b o e hx
    exact free b o' (neC b o e hx) e1 (I.base.free b o e n hx)
  · obtain ⟨o', e1⟩ := I.base.there b o e hx
    exact there b o' (neC b o e hx) e1
  · obtain ⟨m1, e1⟩ := I.base.tbls b ps e
    obtain ⟨m2, e2⟩ := tbls b _ e1
    exact ⟨m1 ++ m2, by rw [e2, Array.append_assoc]⟩
  · obtain ⟨m, hn, hl⟩ := I.loc
    refine ⟨m, ns m hn, fun i x v e1 e2 e3 => ?_⟩
    obtain ⟨u, r, l⟩ := hl i x v e1 e2 e3
    refine ⟨u, r, ?_⟩
    rcases l with l | ⟨k, c, e, z⟩
    · exact .inl l
    · exact .inr ⟨k, c, e, cellK x c e _ z⟩
  · obtain ⟨v, z⟩ := I.cell x c e
    exact ⟨v, cellK x c e v z⟩
  · obtain ⟨m, ⟨o, _, _, ho, _⟩, _⟩ := I.loc
    exact free _ o (fun z => (hch _ z).2.1 rfl) ho I.free
  · obtain ⟨v, o, ho, hd⟩ := I.cell x c e
    exact free c o (fun z => (hch c z).2.2.1 x c e rfl) ho (I.freeC x c e)
  · obtain ⟨e, n, ne, nf, d⟩ := I.pin p hp
    have nch : p.1 ∉ ch := fun z => (hch p.1 z).2.2.2 p hp rfl
    exact ⟨keep p.1 p.2 ne nf nch e n, free p.1 p.2 nch e n, ne, nf, d⟩
theorem Inv.un {t' : Nat} (I : Inv X pins σ H s) (u : Un X.fs [] H H' s.heap h') (hok : HOk X.prog X.w H' h') : Inv X pins σ H' { s with heap := h', toks := t' } := by
  obtain ⟨m, ⟨o, es, ep, ho, r⟩, _⟩ := id I.loc
  obtain ⟨sl, hL⟩ := u.any ho I.free (by simp)
  exact I.step (g' := s.gens) (d' := s.drawn) (ch := []) (fun _ z => nomatch z) (fun b o _ hb _ e n => u.keep b o e n hb (by simp)) (fun b o _ hb _ e n => u.slot b o e n hb (by simp)) (fun b o _ e n => u.free b o e n (by simp)) (fun b o _ e => u.there b o e (by simp)) u.tups u.frzs u.tbls (fun m' hm => by
    obtain ⟨o', es', ep', ho', r'⟩ := hm
    rw [ho] at ho'; cases ho'
    exact ⟨_, es', ep', hL, r'⟩) hok I.bare
theorem Inv.call {g' : Array GenState} {t' : Nat} {d' : Drawn} {ch : List Addr} (I : Inv X pins σ H s) (u : Un (frs X.stack) ch H H' s.heap h') (hok : HOk X.prog X.w H' h') (hg : AllBare g')
    (hch : ∀ b ∈ ch, (b ∈ X.ex ∨ X.s₀.heap.objs.size ≤ b) ∧ b ≠ X.env.locals ∧ (∀ x c, X.env.cells.lookup x = some c → c ≠ b) ∧ ∀ p ∈ X.pn ++ pins, p.1 ≠ b) :
    Inv X pins σ H' { s with heap := h', gens := g', drawn := d', toks := t' } := by
  obtain ⟨m, ⟨o, es, ep, ho, r⟩, _⟩ := id I.loc
  obtain ⟨sl, hL⟩ := u.any ho I.free fun z => (hch _ z).2.1 rfl
  exact I.step (ch := ch) hch (fun b o hL hb hc e n => u.keep b o e n (fun z => (List.mem_cons.mp (I.stkSub b z)).elim hL hb) hc) (fun b o _ _ hc e n => u.any e n hc) (fun b o hc e n => u.free b o e n hc) (fun b o hc e => u.there b o e hc) u.tups u.frzs u.tbls (fun m' hm => by
    obtain ⟨o', es', ep', ho', r'⟩ := hm
    rw [ho] at ho'; cases ho'
    exact ⟨_, es', ep', hL, r'⟩) hok hg
theorem Inv.turned {t' : Nat} {it : Addr} (I : Inv X pins σ H s) (k : ∀ b o, b ≠ it → s.heap.get? b = some o → h'.get? b = some o) (hn : H it = none) (hL : it ≠ X.env.locals)
    (h1 : it ∈ X.ex ∨ X.s₀.heap.objs.size ≤ it) (h2 : ∀ x c, X.env.cells.lookup x = some c → c ≠ it) (h3 : ∀ p ∈ X.pn ++ pins, p.1 ≠ it) : Inv X pins σ H { s with heap := h', toks := t' } := by
  have nit : ∀ b u, H b = some u → b ≠ it := fun b u e z => by rw [z, hn] at e; cases e
  refine I.step (g' := s.gens) (d' := s.drawn) (ch := [it]) (fun b hb => ?_) (fun b o _ _ hc e _ => k b o (fun z => hc (by simp [z])) e) (fun b o _ _ hc e _ => ⟨o.slots, k b o (fun z => hc (by simp [z])) e⟩) (fun _ _ _ _ n => n)
    (fun b o hc e => ⟨o, k b o (fun z => hc (by simp [z])) e⟩) (fun _ _ e => e) (fun _ _ _ e => e) (fun b ps e => ⟨#[], by rw [e]; simp⟩) (fun m hm => ?_) (fun b u e => ?_) I.bare
  · have e : b = it := by simpa using hb
    subst e
    exact ⟨h1, hL, h2, h3⟩
  · obtain ⟨o, es, ep, ho, r⟩ := hm
    exact ⟨o, es, ep, k _ o (Ne.symm hL) ho, r⟩
  · refine (I.hok b u e).stay (fun c v hc q => k c v ?_ q) (fun _ q => q) fun _ _ q => q
    rcases hc with z | z
    · rw [z]; exact nit b u e
    · exact nit c _ z
theorem Inv.tok (I : Inv X pins σ H s) (t : Nat) : Inv X pins σ H { s with toks := t } := I.un (h' := s.heap) (t' := t) Un.refl I.hok
theorem Inv.kept {t' : Nat} (I : Inv X pins σ H s) (k : ∀ b u, s.heap.get? b = some u → h'.get? b = some u) : Inv X pins σ H { s with heap := h', toks := t' } := I.un (Un.kept k) (I.hok.kept k)
theorem Inv.laid {a : Addr} {o : HO} {t' : Nat} (I : Inv X pins σ H s) (k : ∀ b u, s.heap.get? b = some u → h'.get? b = some u) (hp : s.heap.objs.size ≤ a) (new : ObjOk X.prog X.w (upd H a o) h' a o) :
    Inv X pins σ (upd H a o) { s with heap := h', toks := t' } := I.un (Un.laid k hp (I.hok.fresh hp)) (I.hok.laid k hp new)
theorem Inv.write {x e : Addr} {o : HO} {t' : Nat} (I : Inv X pins σ H s) (mu : Mut (H x)) (he : e = x ∨ H e = some (.own x)) (k : ∀ b u, b ≠ e → s.heap.get? b = some u → h'.get? b = some u) (heo : ∃ u, h'.get? e = some u)
    (new : ObjOk X.prog X.w (upd H x o) h' x o) : Inv X pins σ (upd H x o) { s with heap := h', toks := t' } := I.un (Un.write mu he k heo) (I.hok.write mu he k heo new)
theorem Inv.weak {σ' : List (Option V)} (I : Inv X pins σ H s) (hl : σ'.length = σ.length) (w : ∀ (i : Nat) v, σ'[i]? = some (some v) → σ[i]? = some (some v)) : Inv X pins σ' H s :=
  ⟨I.ok, I.os, I.bare, I.base, let ⟨m, hn, hl'⟩ := I.loc; ⟨m, hn, fun i x v e1 e2 e3 => hl' i x v e1 (w i v e2) e3⟩, I.cell, I.free, I.freeC, I.pin, I.hok, hl.trans I.len⟩
theorem Inv.pins_of {pins' : List (Addr × Obj)} (I : Inv X pins σ H s) (h : ∀ p ∈ pins', s.heap.get? p.1 = some p.2 ∧ H p.1 = none ∧ p.1 ≠ X.env.locals ∧ p.1 ∉ X.fs ∧ ∀ v, p.2.data ≠ .cell v) : Inv X pins' σ H s :=
  ⟨I.ok, I.os, I.bare, I.base, I.loc, I.cell, I.free, I.freeC, fun p hp => (List.mem_append.mp hp).elim (fun z => I.pin p (List.mem_append_left _ z)) (h p), I.hok, I.len⟩
theorem nodup_ix {N : List Str} (hN : N.Nodup) {i j : Nat} {x : Str} (a : N[i]? = some x) (b : N[j]? = some x) : i = j := by
  obtain ⟨h1, e1⟩ := List.getElem?_eq_some_iff.mp a
  obtain ⟨h2, e2⟩ := List.getElem?_eq_some_iff.mp b
  exact (List.getElem_inj hN).mp (e1.trans e2.symm)
theorem store_ok2 {M : Model} {A : Around} {E : Value → Shared → Prop} {i : Nat} {x : Str} {v : V} {u : Value} {Q : Unit → Shared → Prop} (I : Inv X pins σ H s) (hN : X.N.Nodup) (hi : X.N[i]? = some x) (hx : Loc X.env.scope x) (r : RelV v u)
    (h : ∀ s', Inv X pins (σ.set i (some v)) H s' → (∃ a, Heap.SameBut a s.heap s'.heap ∧ (a = X.env.locals ∨ X.env.cells.lookup x = some a)) → Q () s') (hf : X.fn x = true ∨ X.env.scope.names.lookup x = some .local := by first | exact .inl rfl | exact .inr rfl | assumption) : wpAny M A (storeName X.env x u) Q E s := by
  obtain ⟨m, hn, hl⟩ := id I.loc
  have hcls : (X.env.scope.kind == .class || (X.env.scope.kind == .module && X.env.locals != X.env.globals)) = false := by rw [I.ok.kind]; rfl
  have hiσ : i < σ.length := by rw [I.len]; exact (List.getElem?_eq_some_iff.mp hi).1
  have cne := I.cne
  have tracked : ∀ {a : Addr} {h' : Heap}, (∃ o, s.heap.get? a = some o ∧ H a = none) → Heap.SameBut a s.heap h' → HOk X.prog X.w H h' := fun {a h'} ha hs b ob e => by
    obtain ⟨_, _, hfree⟩ := ha
    refine (I.hok b ob e).stay (fun c w' hc q => (hs.2 c ?_).trans q) (fun _ q => q) fun _ _ q => q
    rintro rfl
    rcases hc with rfl | hc
    · rw [hfree] at e; cases e
    · rw [hfree] at hc; cases hc
  rcases hx with hk | hk
  · refine wpAny_storeName_local hk hn (fun h' hn' hs => ?_) hcls
    obtain ⟨oL, _, _, hoL, _⟩ := id hn
    refine h _ ⟨I.ok, I.os, I.bare, ⟨fun b o e n hb hx => ?_, fun b o e n hb hx => ?_, I.base.free, fun b o e hx => ?_, I.base.tups, I.base.frzs, I.base.tbls⟩, ⟨_, hn', fun j y v' e1 e2 e3 => ?_⟩, fun y c e => ?_, I.free, I.freeC, fun p hp => ?_, tracked ⟨oL, hoL, I.free⟩ hs, by simpa using I.len⟩ ⟨_, hs, .inl rfl⟩
    · exact (hs.2 b (Nat.ne_of_lt (Nat.lt_of_lt_of_le (Heap.lt_size e) I.ok.above))).trans (I.base.keep b o e n hb hx)
    · obtain ⟨sl, e1⟩ := I.base.slot b o e n hb hx
      exact ⟨sl, (hs.2 b (Nat.ne_of_lt (Nat.lt_of_lt_of_le (Heap.lt_size e) I.ok.above))).trans e1⟩
    · obtain ⟨o', e1⟩ := I.base.there b o e hx
      exact ⟨o', (hs.2 b (Nat.ne_of_lt (Nat.lt_of_lt_of_le (Heap.lt_size e) I.ok.above))).trans e1⟩
    · by_cases hj : j = i
      · subst hj
        rw [hi] at e1; cases e1
        rw [List.getElem?_set_self hiσ] at e2
        cases e2
        exact ⟨u, r, .inl ⟨hk, by simp⟩⟩
      · rw [List.getElem?_set_ne (Ne.symm hj)] at e2
        obtain ⟨u', r', q⟩ := hl j y v' e1 e2 e3
        refine ⟨u', r', ?_⟩
        rcases q with ⟨k, e⟩ | ⟨k, c, e, z⟩
        · refine .inl ⟨k, ?_⟩
          have : y ≠ x := fun e => hj (nodup_ix hN e1 (e ▸ hi))
          simp [this, e]
        · exact .inr ⟨k, c, e, z.sameBut hs (cne y c e)⟩
    · obtain ⟨w', z⟩ := I.cell y c e
      exact ⟨w', z.sameBut hs (cne y c e)⟩
    · obtain ⟨e, n, ne, nf, d⟩ := I.pin p hp
      exact ⟨(hs.2 p.1 ne).trans e, n, ne, nf, d⟩
  · have hfn : X.fn x = true := by
      rcases hf with z | z
      · exact z
      · rw [z] at hk; cases hk
    obtain ⟨c, hc⟩ := I.ok.has x (.inl hk)
    obtain ⟨w', z⟩ := I.cell x c hc
    refine wpAny_storeName_cell I.ok.kind hk hc z (fun h' hc' hs => ?_)
    obtain ⟨oc, hoc, hocd⟩ := id z
    refine h { s with heap := h' } ⟨I.ok, I.os, I.bare, ⟨fun b o e n hb hx => ?_, fun b o e n hb hx => ?_, I.base.free, fun b o e hx => ?_, I.base.tups, I.base.frzs, I.base.tbls⟩, ⟨m, hn.sameBut hs (Ne.symm (cne x c hc)), fun j y v' e1 e2 e3 => ?_⟩, fun y c' e => ?_, I.free, I.freeC, fun p hp => ?_, tracked ⟨oc, hoc, I.freeC x c hc⟩ hs, by simpa using I.len⟩ ⟨c, hs, .inr hc⟩
    · exact (hs.2 b (Nat.ne_of_lt (Nat.lt_of_lt_of_le (Heap.lt_size e) (I.ok.cab x c hfn hc)))).trans (I.base.keep b o e n hb hx)
    · obtain ⟨sl, e1⟩ := I.base.slot b o e n hb hx
      exact ⟨sl, (hs.2 b (Nat.ne_of_lt (Nat.lt_of_lt_of_le (Heap.lt_size e) (I.ok.cab x c hfn hc)))).trans e1⟩
    · obtain ⟨o', e1⟩ := I.base.there b o e hx
      exact ⟨o', (hs.2 b (Nat.ne_of_lt (Nat.lt_of_lt_of_le (Heap.lt_size e) (I.ok.cab x c hfn hc)))).trans e1⟩
    · by_cases hj : j = i
      · subst hj
        rw [hi] at e1; cases e1
        rw [List.getElem?_set_self hiσ] at e2
        cases e2
        exact ⟨u, r, .inr ⟨.inl hk, c, hc, hc'⟩⟩
      · rw [List.getElem?_set_ne (Ne.symm hj)] at e2
        obtain ⟨u', r', q⟩ := hl j y v' e1 e2 e3
        refine ⟨u', r', ?_⟩
        rcases q with q | ⟨k, c', e, z'⟩
        · exact .inl q
        · refine .inr ⟨k, c', e, z'.sameBut hs ?_⟩
          rintro rfl
          exact hj (nodup_ix hN e1 (I.ok.inj _ _ _ e hc ▸ hi))
    · by_cases hcc : c' = c
      · subst hcc; exact ⟨_, hc'⟩
      · obtain ⟨w2, z2⟩ := I.cell y c' e
        exact ⟨w2, z2.sameBut hs hcc⟩
    · obtain ⟨e, n, ne, nf, d⟩ := I.pin p hp
      refine ⟨(hs.2 p.1 ?_).trans e, n, ne, nf, d⟩
      intro q
      rw [q, hoc] at e
      have q' : oc = p.2 := Option.some.inj e
      exact d w' (by rw [← q']; exact hocd)
theorem store_ok {M : Model} {A : Around} {E : Value → Shared → Prop} {i : Nat} {x : Str} {v : V} {u : Value} {Q : Unit → Shared → Prop} (I : Inv X pins σ H s) (hN : X.N.Nodup) (hi : X.N[i]? = some x) (hx : Loc X.env.scope x) (r : RelV v u)
    (h : ∀ s', Inv X pins (σ.set i (some v)) H s' → Q () s') (hf : X.fn x = true ∨ X.env.scope.names.lookup x = some .local := by first | exact .inl rfl | exact .inr rfl | assumption) : wpAny M A (storeName X.env x u) Q E s :=
  store_ok2 I hN hi hx r (fun s' I' _ => h s' I') hf
theorem Inv.call' {s' : Shared} {ch : List Addr} (I : Inv X pins σ H s) (ho : s'.os = s.os) (u : Un (frs X.stack) ch H H' s.heap s'.heap) (hok : HOk X.prog X.w H' s'.heap) (hg : AllBare s'.gens)
    (hch : ∀ b ∈ ch, (b ∈ X.ex ∨ X.s₀.heap.objs.size ≤ b) ∧ b ≠ X.env.locals ∧ (∀ x c, X.env.cells.lookup x = some c → c ≠ b) ∧ ∀ p ∈ X.pn ++ pins, p.1 ≠ b) : Inv X pins σ H' s' := by
  obtain ⟨h', g', d', t', o'⟩ := s'
  have e : o' = s.os := ho
  subst e
  exact I.call (g' := g') (t' := t') (d' := d') u hok hg hch
end
abbrev XK := Value → Option Addr → Hp → Prop
abbrev St := List (Option V)
abbrev VK := V → Hp → Prop
abbrev TE := St → Hp → VK → Prop
abbrev TT := St → Hp → (Bool → Hp → Prop) → Prop
abbrev TA := St → Hp → (List V → Hp → Prop) → Prop
structure Ends where
  nx : St → Hp → Prop
  rt : VK
  bk : St → Hp → Prop := fun _ _ => False
  ct : St → Hp → Prop := fun _ _ => False
abbrev TS := Ends → St → Hp → Prop
def EP (X : Cx) (pins : List (Addr × Obj)) (σ : St) (Q : VK) (u : Value) (s' : Shared) : Prop := ∃ v H', Inv X pins σ H' s' ∧ RelV v u ∧ Q v H'
def TP (X : Cx) (pins : List (Addr × Obj)) (σ : St) (Q : Bool → Hp → Prop) (b : Bool) (s' : Shared) : Prop := ∃ H', Inv X pins σ H' s' ∧ Q b H'
def AP (X : Cx) (pins : List (Addr × Obj)) (σ : St) (Q : List V → Hp → Prop) (us : List Value) (s' : Shared) : Prop := ∃ vs H', Inv X pins σ H' s' ∧ Vals vs us ∧ Q vs H'
def SP (X : Cx) (pins : List (Addr × Obj)) (D : Ends) (f : Flow) (s' : Shared) : Prop :=
  match f with
  | .next => ∃ σ' H', Inv X pins σ' H' s' ∧ D.nx σ' H'
  | .brk => ∃ σ' H', Inv X pins σ' H' s' ∧ D.bk σ' H'
  | .cont => ∃ σ' H', Inv X pins σ' H' s' ∧ D.ct σ' H'
  | .ret u => ∃ v σ' H', Inv X pins σ' H' s' ∧ RelV v u ∧ D.rt v H'
def PE (X : Cx) (e : Expr) (t : TE) : Prop :=
  ∀ (pins : List (Addr × Obj)) (s : Shared) (σ : St) (H : Hp) (Q : VK), Inv X pins σ H s → t σ H Q → wpAny (model X.prog X.w) X.A (eval e X.env) (EP X pins σ Q) X.xe s
def PT (X : Cx) (e : Expr) (t : TT) : Prop :=
  ∀ (pins : List (Addr × Obj)) (s : Shared) (σ : St) (H : Hp) (Q : Bool → Hp → Prop), Inv X pins σ H s → t σ H Q → wpAny (model X.prog X.w) X.A (isTrue e X.env (eval e X.env)) (TP X pins σ Q) X.xe s
def PW (X : Cx) (e : Expr) (t : TT) : Prop :=
  ∀ (whole : Sem Value) (pins : List (Addr × Obj)) (s : Shared) (σ : St) (H : Hp) (Q : Bool → Hp → Prop), Inv X pins σ H s → t σ H Q → wpAny (model X.prog X.w) X.A (isTrue e X.env whole) (TP X pins σ Q) X.xe s
theorem PW.pt {X : Cx} {e : Expr} {t : TT} (h : PW X e t) : PT X e t := h _
def PA (X : Cx) (es : List Expr) (t : TA) : Prop :=
  ∀ (pos : Pos) (pins : List (Addr × Obj)) (s : Shared) (σ : St) (H : Hp) (Q : List V → Hp → Prop), Inv X pins σ H s → t σ H Q → wpAny (model X.prog X.w) X.A (spliced (backTo pos (starEach es X.env))) (AP X pins σ Q) X.xe s
def PS (X : Cx) (st : Stmt) (t : TS) : Prop :=
  ∀ (pins : List (Addr × Obj)) (s : Shared) (σ : St) (H : Hp) (D : Ends), Inv X pins σ H s → t D σ H → wpAny (model X.prog X.w) X.A (exec st X.env) (SP X pins D) X.xe s
def PSs (X : Cx) (st : List Stmt) (t : TS) : Prop :=
  ∀ (pins : List (Addr × Obj)) (s : Shared) (σ : St) (H : Hp) (D : Ends), Inv X pins σ H s → t D σ H → wpAny (model X.prog X.w) X.A (execs st X.env) (SP X pins D) X.xe s
theorem thn {α : Type} {t : Sem α} {Q Q' : α → Shared → Prop} {M : Model} {A : Around} {E : Value → Shared → Prop} {s : Shared} (h : wpAny M A t Q E s) (hQ : ∀ a s, Q a s → Q' a s) : wpAny M A t Q' E s := wpAny_mono h hQ fun _ _ x => x
end L2
namespace L2
open PySem PySem.Spec PyProof.Rows
section
variable {X : Cx}
def tVar (i : Nat) : TE := fun σ H Q => ∃ v, σ[i]? = some (some v) ∧ Q v H
def tC (v : V) : TE := fun _ H Q => Q v H
theorem pe_var {i : Nat} {x : Str} {pos : Pos} (hN : X.N[i]? = some x) (hv : Vis X.env.scope x) (hd : (x == ("__debug__" : Str)) = false := by decide) (hcd : (x == ("__classdict__" : Str)) = false := by decide) : PE X (.Name x pos) (tVar i) := by
  intro pins s σ H Q I h
  obtain ⟨v, e, h⟩ := h
  obtain ⟨m, hn, hl⟩ := I.loc
  obtain ⟨u, r, l⟩ := hl i x v hN e hv
  have fin : EP X pins σ Q u s := ⟨v, H, I, r, h⟩
  rcases l with ⟨hk, hm⟩ | ⟨hk, c, hc, hcell⟩
  · exact wpAny_Name (wpAny_loadName_local I.ok.kind hk hn hm fin) hd
  · rcases hk with hk | hk
    · exact wpAny_Name (wpAny_loadName_cell I.ok.kind hk hc hcell fin) hd
    · exact wpAny_Name (wpAny_loadName_free I.ok.kind hk hc hcell fin hcd) hd
theorem pe_int {i j pos} : PE X (.Constant (.int i) j pos) (tC (.int i)) := fun _ _ _ H _ I h => wpAny_Constant_int ⟨.int i, H, I.tok _, ⟨_, rfl⟩, h⟩
theorem pe_bl {b j pos} : PE X (.Constant (.bool b) j pos) (tC (.bl b)) := fun _ _ _ H _ I h => Constant_bool ⟨.bl b, H, I, rfl, h⟩
theorem pe_non {j pos} : PE X (.Constant .none j pos) (tC .non) := fun _ _ _ H _ I h => Constant_none ⟨.non, H, I, rfl, h⟩
theorem pe_str {x j pos} : PE X (.Constant (.str x) j pos) (tC (.str x)) := fun _ _ _ H _ I h => Calls.Constant_str ⟨.str x, H, I.tok _, ⟨_, rfl⟩, h⟩
def Gl (X : Cx) (x : Str) : Prop := X.env.kindOf x = some .globalImplicit
theorem ld_glob {E : Value → Shared → Prop} {pins : List (Addr × Obj)} {s : Shared} {σ : St} {H : Hp} {x : Str} {u : Value} {pos : Pos} {Q : Value → Shared → Prop} (I : Inv X pins σ H s) (hg : Gl X x) (hm : X.mg x = some u) (h : Q u s)
    (hd : (x == ("__debug__" : Str)) = false := by decide) : wpAny (model X.prog X.w) X.A (eval (.Name x pos) X.env) Q E s :=
  Calls.Name_function_global I.ok.kind hg (Calls.loadGlobal_global (by rw [I.ok.glob]; exact I.mod.glob.keeps I.bk) hm h) hd
theorem ld_blt {E : Value → Shared → Prop} {pins : List (Addr × Obj)} {s : Shared} {σ : St} {H : Hp} {x : Str} {u : Value} {pos : Pos} {Q : Value → Shared → Prop} (I : Inv X pins σ H s) (hg : Gl X x) (hm : X.mg x = none) (hv : bootBuiltins x = some u) (h : Q u s)
    (hn : x ≠ "__name__" := by decide) (hd : (x == ("__debug__" : Str)) = false := by decide) : wpAny (model X.prog X.w) X.A (eval (.Name x pos) X.env) Q E s := by
  obtain ⟨mb, h1, h2⟩ := I.mod.blt
  exact Calls.Name_function_global I.ok.kind hg (Calls.loadGlobal_builtin (by rw [I.ok.glob]; exact I.mod.glob.keeps I.bk) hm (by rw [I.ok.blt]; exact h1.keeps I.bk) ((h2 x hn).trans hv) h) hd
theorem pe_glob {x : Str} {v : V} {u : Value} {pos : Pos} (hg : Gl X x) (hm : X.mg x = some u) (r : RelV v u) (hd : (x == ("__debug__" : Str)) = false := by decide) : PE X (.Name x pos) (tC v) :=
  fun _ _ _ H _ I h => ld_glob I hg hm ⟨v, H, I, r, h⟩ hd
theorem pe_bltn {x : Str} {v : V} {u : Value} {pos : Pos} (hg : Gl X x) (hm : X.mg x = none) (hv : bootBuiltins x = some u) (r : RelV v u) (hn : x ≠ "__name__" := by decide) (hd : (x == ("__debug__" : Str)) = false := by decide) : PE X (.Name x pos) (tC v) :=
  fun _ _ _ H _ I h => ld_blt I hg hm hv ⟨v, H, I, r, h⟩ hn hd
variable {a b : Expr} {ta tb : TE} {pos : Pos}
def tB (t : TE) : TT := fun σ H Q => t σ H fun x H1 => ∃ c, x = .bl c ∧ Q c H1
theorem pt_val {e : Expr} {t : TE} (h : PE X e t) (he : ∀ whole, isTrue e X.env whole = (do let v ← whole; standAt e.pos; holding [v] (truthy v)) := by intro _; rfl) : PT X e (tB t) := by
  intro pins s σ H Q I hw
  refine isTrue_plain (thn (h pins s σ H _ I hw) fun v s1 ⟨x, H1, I1, r1, q1⟩ => ?_) (he _)
  obtain ⟨d, rfl, q⟩ := q1
  cases r1
  exact wpAny_truthy_bool ⟨H1, I1, q⟩
variable {tA tB' : TT} {rest : List Expr}
def tAnd (t u : TT) : TT := fun σ H Q => t σ H fun c H1 => if c = true then u σ H1 Q else Q false H1
def tOr (t u : TT) : TT := fun σ H Q => t σ H fun c H1 => if c = true then Q true H1 else u σ H1 Q
def tNot (t : TT) : TT := fun σ H Q => t σ H fun c H1 => Q (!c) H1
theorem pw_and1 (ha : PT X a tA) : PW X (.BoolOp .And [a] pos) tA := by
  intro wh pins s σ H Q I h
  refine isTrue_and (thn (ha pins s σ H Q I h) fun c s1 e => ?_)
  cases c with
  | true => exact isTrue_and_nil e
  | false => exact e
theorem pw_or1 (ha : PT X a tA) : PW X (.BoolOp .Or [a] pos) tA := by
  intro wh pins s σ H Q I h
  refine isTrue_or (thn (ha pins s σ H Q I h) fun c s1 e => ?_)
  cases c with
  | false => exact isTrue_or_nil e
  | true => exact e
theorem pw_and (ha : PT X a tA) (hb : PW X (.BoolOp .And (b :: rest) pos) tB') : PW X (.BoolOp .And (a :: b :: rest) pos) (tAnd tA tB') := by
  intro wh pins s σ H Q I h
  refine isTrue_and (thn (ha pins s σ H _ I h) fun c s1 ⟨H1, I1, q1⟩ => ?_)
  cases c with
  | true => exact hb wh pins s1 σ H1 Q I1 q1
  | false => exact ⟨H1, I1, q1⟩
theorem pw_or (ha : PT X a tA) (hb : PW X (.BoolOp .Or (b :: rest) pos) tB') : PW X (.BoolOp .Or (a :: b :: rest) pos) (tOr tA tB') := by
  intro wh pins s σ H Q I h
  refine isTrue_or (thn (ha pins s σ H _ I h) fun c s1 ⟨H1, I1, q1⟩ => ?_)
  cases c with
  | true => exact ⟨H1, I1, q1⟩
  | false => exact hb wh pins s1 σ H1 Q I1 q1
theorem pt_not (ha : PT X a tA) : PT X (.UnaryOp .Not a pos) (tNot tA) := by
  intro pins s σ H Q I h
  exact isTrue_not (ha pins s σ H (fun c H1 => Q (!c) H1) I h)
def tAndV (ta tb : TE) : TE := fun σ H Q => ta σ H fun x H1 => ∃ c, x = .bl c ∧ if c = true then tb σ H1 Q else Q (.bl false) H1
def tNotV (ta : TE) : TE := fun σ H Q => ta σ H fun x H1 => ∃ c, x = .bl c ∧ Q (.bl (!c)) H1
theorem pe_one {op} {t : TE} (h : PE X a t) : PE X (.BoolOp op [a] pos) t := fun pins s σ H Q I hw => BoolOp_one (h pins s σ H Q I hw)
theorem pe_and (ha : PE X a ta) (hb : PE X (.BoolOp .And (b :: rest) pos) tb) : PE X (.BoolOp .And (a :: b :: rest) pos) (tAndV ta tb) := by
  intro pins s σ H Q I h
  refine BoolOp_and (thn (ha pins s σ H _ I h) fun v s1 ⟨x, H1, I1, r1, q1⟩ => ?_)
  obtain ⟨c, rfl, q1⟩ := q1
  cases r1
  refine wpAny_truthy_bool ?_
  cases c with
  | true => exact hb pins s1 σ H1 Q I1 q1
  | false => exact ⟨.bl false, H1, I1, rfl, q1⟩
theorem pe_not (ha : PE X a ta) : PE X (.UnaryOp .Not a pos) (tNotV ta) := by
  intro pins s σ H Q I h
  refine UnaryOp_ (thn (ha pins s σ H _ I h) fun v s1 ⟨x, H1, I1, r1, q1⟩ => ?_)
  obtain ⟨c, rfl, q1⟩ := q1
  cases r1
  exact not_of (wpAny_truthy_bool ⟨.bl (!c), H1, I1, rfl, q1⟩)
def tIf (t : TT) (ta tb : TE) : TE := fun σ H Q => t σ H fun c H1 => if c = true then ta σ H1 Q else tb σ H1 Q
theorem pe_ifExp {c : Expr} (hc : PT X c tA) (ha : PE X a ta) (hb : PE X b tb) : PE X (.IfExp c a b pos) (tIf tA ta tb) := by
  intro pins s σ H Q I h
  refine wpAny_IfExp (thn (hc pins s σ H _ I h) fun d s1 ⟨H1, I1, q1⟩ => ?_)
  cases d with
  | true => exact ha pins s1 σ H1 Q I1 q1
  | false => exact hb pins s1 σ H1 Q I1 q1
end
end L2
namespace L2
open PySem PySem.Spec PyProof.Rows
def SqL (K : PySem.W.Frag) (H : Hp) (a : Addr) (xs : List V) : Prop :=
  Rd H a (.lst xs) ∨
    ∃ (o : Obj) (its : Array Value) (n : Nat), K.lookup a = some o ∧ o.cls = .type "list" ∧ o.dict = none ∧ o.data = .seq its n ∧ its.size ≤ sizeLine ∧ Vals xs its.toList
def SqT (K : PySem.W.Frag) (H : Hp) (a : Addr) (xs : List V) : Prop :=
  Rd H a (.tup xs) ∨
    ∃ (o : Obj) (its : Array Value) (n : Nat), K.lookup a = some o ∧ o.cls = .type "tuple" ∧ o.data = .seq its n ∧ its.size ≤ sizeLine ∧ Vals xs its.toList
def absV : Value → Option V
  | .none => some .non
  | .bool b => some (.bl b)
  | .int i _ => some (.int i)
  | .str x _ => some (.str x)
  | .bytes b _ => some (.byt b)
  | .float b _ => some (.flt b)
  | .ref a => some (.ref a)
  | .type n => some (.ty n)
  | _ => none
theorem RelV.abs {x : V} {u : Value} (r : RelV x u) : absV u = some x := by
  cases x with
  | non => cases r; rfl
  | bl _ => cases r; rfl
  | int _ => obtain ⟨t, rfl⟩ := r; rfl
  | str _ => obtain ⟨t, rfl⟩ := r; rfl
  | byt _ => obtain ⟨t, rfl⟩ := r; rfl
  | flt _ => obtain ⟨t, rfl⟩ := r; rfl
  | ref _ => cases r; rfl
  | ty _ => cases r; rfl
theorem RelV.inj {x y : V} {u : Value} (r : RelV x u) (q : RelV y u) : x = y := Option.some.inj (r.abs.symm.trans q.abs)
theorem Vals.inj : ∀ {xs ys : List V} {us : List Value}, Vals xs us → Vals ys us → xs = ys
  | _, _, _, .nil, .nil => rfl
  | _, _, _, .cons r t, .cons r' t' => by rw [r.inj r', Vals.inj t t']
section
variable {X : Cx} {pins : List (Addr × Obj)} {σ : St} {H : Hp} {s : Shared} {a : Addr} {xs ys : List V}
theorem SqL.of {K : PySem.W.Frag} (h : H a = some (.lst xs)) : SqL K H a xs := .inl (.inl h)
theorem SqT.of {K : PySem.W.Frag} (h : H a = some (.tup xs)) : SqT K H a xs := .inl (.inl h)
theorem Inv.list (I : Inv X pins σ H s) (h : SqL X.K H a xs) : ∃ its : List Value, Vals xs its ∧ PlainL s.heap a its.toArray ∧ xs.length ≤ sizeLine := by
  rcases h with h | ⟨o, its, n, hk, hc, hd, hs, hz, r⟩
  · obtain ⟨z, its, n, r, e⟩ := h.ok I.hok
    exact ⟨its, r, ⟨_, n, e, rfl, rfl, rfl⟩, z⟩
  · refine ⟨its.toList, r, ⟨o, n, I.kIn a o hk, hc, hd, by simpa using hs⟩, ?_⟩
    have e := r.length
    simp only [Array.length_toList] at e
    omega
theorem Inv.tuple (I : Inv X pins σ H s) (h : SqT X.K H a xs) : ∃ its : List Value, Vals xs its ∧ IsTup s.heap a its.toArray ∧ xs.length ≤ sizeLine := by
  rcases h with h | ⟨o, its, n, hk, hc, hs, hz, r⟩
  · obtain ⟨z, its, r, p⟩ := h.ok I.hok
    exact ⟨its, r, p, z⟩
  · refine ⟨its.toList, r, ⟨o, I.kIn a o hk, hc, n, by simpa using hs⟩, ?_⟩
    have e := r.length
    simp only [Array.length_toList] at e
    omega
theorem Inv.list_inj (I : Inv X pins σ H s) (h : SqL X.K H a xs) (h' : SqL X.K H a ys) : xs = ys := by
  obtain ⟨its, r, ⟨o, n, e, _, _, d⟩, _⟩ := I.list h
  obtain ⟨its', r', ⟨o', n', e', _, _, d'⟩, _⟩ := I.list h'
  rw [e] at e'; cases e'
  rw [d] at d'
  injection d' with d1 _
  have : its = its' := by simpa using congrArg Array.toList d1
  subst this
  exact r.inj r'
theorem Inv.tuple_inj (I : Inv X pins σ H s) (h : SqT X.K H a xs) (h' : SqT X.K H a ys) : xs = ys := by
  obtain ⟨its, r, ⟨o, e, _, n, d⟩, _⟩ := I.tuple h
  obtain ⟨its', r', ⟨o', e', _, n', d'⟩, _⟩ := I.tuple h'
  rw [e] at e'; cases e'
  rw [d] at d'
  injection d' with d1 _
  have : its = its' := by simpa using congrArg Array.toList d1
  subst this
  exact r.inj r'
end
abbrev Cx.wish (X : Cx) (E : Value → Shared → Prop) : Cx := { X with xe := E }
abbrev Cx.nox (X : Cx) : Cx := X.wish fun _ _ => False
theorem Cx.Ok.wish {X : Cx} (ok : X.Ok) (E : Value → Shared → Prop) : (X.wish E).Ok :=
  ⟨ok.mod, ok.kind, ok.glob, ok.blt, ok.above, ok.inj, ok.has, ok.cab, ok.hd, ok.frames, ok.stk, ok.exf, ok.bs, ok.bsz, ok.noex, ok.exfs, ok.funs, ok.frf⟩
theorem Cx.Ok.unwish {X : Cx} {E : Value → Shared → Prop} (ok : (X.wish E).Ok) : X.Ok :=
  ⟨ok.mod, ok.kind, ok.glob, ok.blt, ok.above, ok.inj, ok.has, ok.cab, ok.hd, ok.frames, ok.stk, ok.exf, ok.bs, ok.bsz, ok.noex, ok.exfs, ok.funs, ok.frf⟩
section
variable {X : Cx} {pins : List (Addr × Obj)} {σ : St} {H : Hp} {s : Shared} {E : Value → Shared → Prop}
theorem Inv.wish (I : Inv X pins σ H s) (E : Value → Shared → Prop) : Inv (X.wish E) pins σ H s := ⟨I.ok.wish E, I.os, I.bare, I.base, I.loc, I.cell, I.free, I.freeC, I.pin, I.hok, I.len⟩
theorem Inv.unwish (I : Inv (X.wish E) pins σ H s) : Inv X pins σ H s := ⟨I.ok.unwish, I.os, I.bare, I.base, I.loc, I.cell, I.free, I.freeC, I.pin, I.hok, I.len⟩
theorem SP.unwish {D : Ends} {f : Flow} {s' : Shared} (h : SP (X.wish E) pins D f s') : SP X pins D f s' := by
  cases f with
  | next => obtain ⟨σ', H', I, q⟩ := h; exact ⟨σ', H', I.unwish, q⟩
  | brk => obtain ⟨σ', H', I, q⟩ := h; exact ⟨σ', H', I.unwish, q⟩
  | cont => obtain ⟨σ', H', I, q⟩ := h; exact ⟨σ', H', I.unwish, q⟩
  | ret u => obtain ⟨v, σ', H', I, r, q⟩ := h; exact ⟨v, σ', H', I.unwish, r, q⟩
theorem PSs.nox {st : List Stmt} {t : TS} (h : PSs X.nox st t) : PSs X st t := fun pins s σ H D I hw =>
  wpAny_mono (h pins s σ H D (I.wish _) hw) (fun _ _ q => q.unwish) fun _ _ z => False.elim z
end
section
variable {X : Cx} {st : Stmt} {rest : List Stmt} {t u : TS} {e : Expr} {te : TE} {pos : Pos}
def tNext : TS := fun D σ H => D.nx σ H
def tSeq (t u : TS) : TS := fun D σ H => t { D with nx := u D } σ H
theorem pss_nil : PSs X [] tNext := fun _ _ σ H _ I h => wpAny_execs_nil ⟨σ, H, I, h⟩
theorem pss_cons (h1 : PS X st t) (h2 : PSs X rest u) : PSs X (st :: rest) (tSeq t u) := by
  intro pins s σ H D I h
  refine wpAny_execs_cons (thn (h1 pins s σ H { D with nx := u D } I h) fun f s1 q => ?_)
  cases f with
  | next =>
    obtain ⟨σ', H', I', q⟩ := q
    exact h2 pins s1 σ' H' D I' q
  | ret v => exact q
  | brk => exact q
  | cont => exact q
theorem pss_one (h1 : PS X st t) : PSs X [st] t := by
  intro pins s σ H D I h
  refine wpAny_execs_cons (thn (h1 pins s σ H D I h) fun f s1 q => ?_)
  cases f with
  | next => exact wpAny_execs_nil q
  | ret v => exact q
  | brk => exact q
  | cont => exact q
theorem Inv.quiet {pins : List (Addr × Obj)} {σ : St} {H : Hp} {s : Shared} (I : Inv X pins σ H s) : interactive X.env = false := by simp [interactive, I.ok.kind]
def tDrop (te : TE) : TS := fun D σ H => te σ H fun _ H1 => D.nx σ H1
theorem ps_expr (he : PE X e te) (hs : swapsWith e none pos.line X.env = pure false := by rfl) : PS X (.Expr e pos) (tDrop te) := by
  intro pins s σ H D I h
  exact wpAny_Expr_any (thn (he pins s σ H _ I h) fun v s1 ⟨x, H1, I1, r1, q1⟩ => ⟨σ, H1, I1, q1⟩) I.quiet hs
def tRet (te : TE) : TS := fun D σ H => te σ H D.rt
theorem ps_ret (he : PE X e te) : PS X (.Return (some e) pos) (tRet te) := by
  intro pins s σ H D I h
  exact wpAny_Return_some (thn (he pins s σ H _ I h) fun v s1 ⟨x, H1, I1, r1, q1⟩ => ⟨x, σ, H1, I1, r1, q1⟩)
def tIfS (c : TT) (t u : TS) : TS := fun D σ H => c σ H fun b H1 => if b = true then t D σ H1 else u D σ H1
theorem ps_if {c : Expr} {a b : List Stmt} {tc : TT} (hc : PT X c tc) (ha : PSs X a t) (hb : PSs X b u) : PS X (.If c a b pos) (tIfS tc t u) := by
  intro pins s σ H D I h
  refine wpAny_If (thn (hc pins s σ H _ I h) fun d s1 ⟨H1, I1, q1⟩ => ?_)
  cases d with
  | true => exact ha pins s1 σ H1 D I1 q1
  | false => exact hb pins s1 σ H1 D I1 q1
end
abbrev TG := V → St → Hp → (St → Hp → Prop) → Prop
abbrev TGs := List V → St → Hp → (St → Hp → Prop) → Prop
def PG (X : Cx) (target : Expr) (t : TG) : Prop :=
  ∀ (pins : List (Addr × Obj)) (s : Shared) (σ : St) (H : Hp) (v : V) (u : Value) (Q : St → Hp → Prop), Inv X pins σ H s → RelV v u → t v σ H Q →
    wpAny (model X.prog X.w) X.A (assign target X.env u) (fun _ s' => ∃ σ' H', Inv X pins σ' H' s' ∧ Q σ' H') X.xe s
def PGs (X : Cx) (ts : List Expr) (t : TGs) : Prop :=
  ∀ (pins : List (Addr × Obj)) (s : Shared) (σ : St) (H : Hp) (vs : List V) (us : List Value) (Q : St → Hp → Prop), Inv X pins σ H s → Vals vs us → t vs σ H Q →
    wpAny (model X.prog X.w) X.A (assignInOrder ((assignEach ts X.env).map (·.2)) us) (fun _ s' => ∃ σ' H', Inv X pins σ' H' s' ∧ Q σ' H') X.xe s
abbrev TSet := V → V → V → Hp → (Hp → Prop) → Prop
def PSet (X : Cx) (t : TSet) : Prop :=
  ∀ (pins : List (Addr × Obj)) (s : Shared) (σ : St) (H : Hp) (o i v : V) (ov iv u : Value) (Q : Hp → Prop), Inv X pins σ H s → RelV o ov → RelV i iv → RelV v u → t o i v H Q →
    wpAny (model X.prog X.w) X.A (setItem ov iv u) (fun _ s' => ∃ H', Inv X pins σ H' s' ∧ Q H') X.xe s
section
variable {X : Cx} {pos : Pos}
def gName (i : Nat) : TG := fun v σ H Q => Q (σ.set i (some v)) H
theorem pg_name {i : Nat} {x : Str} (hN : X.N.Nodup) (hi : X.N[i]? = some x) (hx : Loc X.env.scope x) (hf : X.fn x = true ∨ X.env.scope.names.lookup x = some .local := by first | exact .inl rfl | exact .inr rfl | assumption) : PG X (.Name x pos) (gName i) := by
  intro pins s σ H v u Q I r h
  exact wpAny_assign_Name (store_ok I hN hi hx r (fun s' I' => ⟨_, H, I', h⟩) hf)
def gNil : TGs := fun vs σ H Q => vs = [] ∧ Q σ H
def gCons (t : TG) (u : TGs) : TGs := fun vs σ H Q => ∃ v r, vs = v :: r ∧ t v σ H fun σ' H' => u r σ' H' Q
theorem pgs_nil : PGs X [] gNil := by
  intro pins s σ H vs us Q I r h
  obtain ⟨e, h⟩ := h
  subst e
  cases r
  exact assignInOrder_nil ⟨σ, H, I, h⟩
theorem pgs_cons {e : Expr} {es : List Expr} {t : TG} {u : TGs} (h1 : PG X e t) (h2 : PGs X es u)
    (hs : (assignEach (e :: es) X.env).map (·.2) = assign e X.env :: (assignEach es X.env).map (·.2) := by rfl) : PGs X (e :: es) (gCons t u) := by
  intro pins s σ H vs us Q I r h
  obtain ⟨v, vr, e1, h⟩ := h
  subst e1
  cases r with
  | cons r rr =>
    rw [hs]
    refine assignInOrder_cons (thn (h1 pins s σ H _ _ _ I r h) fun _ s1 ⟨σ1, H1, I1, q1⟩ => ?_)
    exact h2 pins s1 σ1 H1 _ _ Q I1 rr q1
def gTup (K : PySem.W.Frag) (n : Nat) (t : TGs) : TG := fun v σ H Q => ∃ a xs, v = .ref a ∧ SqT K H a xs ∧ xs.length = n ∧ t xs σ H Q
theorem pg_tup {es : List Expr} {k : Nat} {t : TGs} {n : Nat} (hc : X.calm = true) (h : PGs X es t)
    (hn : (assignEach es X.env).length = n := by rfl) (hst : (assignEach es X.env).findIdx? (·.1) = none := by rfl) : PG X (.Tuple es k pos) (gTup X.K n t) := by
  intro pins s σ H v u Q I r hw
  obtain ⟨a, xs, e1, hq, hl, hw⟩ := hw
  subst e1
  cases r
  obtain ⟨its, rv, ht, hz⟩ := I.tuple hq
  refine assign_Tuple_tuple (I.ok.hd hc) ht (by simp [hn, ← hl, rv.length]) hst fun h' hx => ?_
  have I1 : Inv X pins σ H { s with heap := h' } := I.kept (t' := s.toks) fun b o e => hx b o (Nat.ne_of_lt (Heap.lt_size e)) e
  exact h pins _ σ H xs _ Q I1 (by simpa using rv) hw
def gSub (to ti : TE) (t : TSet) : TG := fun v σ H Q => to σ H fun o H1 => ti σ H1 fun i H2 => t o i v H2 fun H3 => Q σ H3
theorem pg_sub {o i : Expr} {to ti : TE} {t : TSet} (ho : PE X o to) (hi : PE X i ti) (hs : PSet X t)
    (ha : ∀ v, assign (.Subscript o i pos) X.env v = (do
      let ov ← holding [v] (eval o X.env)
      let iv ← holding [v, ov] (eval i X.env)
      standAt pos
      holding [v, ov, iv] (setItem ov iv v)
      release [v, ov, iv] []) := by intro _; rfl) : PG X (.Subscript o i pos) (gSub to ti t) := by
  intro pins s σ H v u Q I r h
  rw [ha]
  refine wpAny_bind (wpAny_holding (thn (ho pins s σ H _ I h) fun ov s1 ⟨x, H1, I1, r1, q1⟩ => ?_))
  refine wpAny_bind (wpAny_holding (thn (hi pins s1 σ H1 _ I1 q1) fun iv s2 ⟨y, H2, I2, r2, q2⟩ => ?_))
  refine wpAny_bind (wpAny_standAt (wpAny_bind (wpAny_holding (thn (hs pins s2 σ H2 x y v ov iv u _ I2 r1 r2 r q2) fun _ s3 ⟨H3, I3, q3⟩ => ?_))))
  exact wpAny_release ⟨σ, H3, I3, q3⟩
def tAsg (te : TE) (g : TG) : TS := fun D σ H => te σ H fun x H1 => g x σ H1 D.nx
theorem ps_asg {tg e : Expr} {te : TE} {g : TG} (he : PE X e te) (hg : PG X tg g) (hs : swapsWithSole [tg] e pos.line X.env = pure false := by rfl) (hw : swappedStores [tg] e X.env = pure none := by rfl)
    (h1 : (assignEach [tg] X.env).map (·.2) = [assign tg X.env] := by rfl) : PS X (.Assign [tg] e pos) (tAsg te g) := by
  intro pins s σ H D I h
  refine wpAny_Assign_stores (thn (he pins s σ H _ I h) fun v s1 ⟨x, H1, I1, r1, q1⟩ => ?_) hs hw
  rw [h1]
  exact thn (hg pins s1 σ H1 x v _ I1 r1 q1) fun _ s2 q => q
theorem ps_set {i : Nat} {x : Str} {e : Expr} {te : TE} {pos' : Pos} (hN : X.N.Nodup) (hi : X.N[i]? = some x) (hx : Loc X.env.scope x) (he : PE X e te) (hs : swapsWith e (some (.Name x pos')) pos.line X.env = pure false := by rfl) (hf : X.fn x = true ∨ X.env.scope.names.lookup x = some .local := by first | exact .inl rfl | exact .inr rfl | assumption) :
    PS X (.Assign [.Name x pos'] e pos) (tAsg te (gName i)) := by
  intro pins s σ H D I h
  refine wpAny_Assign_Name (thn (he pins s σ H _ I h) fun v s1 ⟨y, H1, I1, r1, q1⟩ => ?_) hs
  exact store_ok I1 hN hi hx r1 (fun s2 I2 => ⟨_, H1, I2, q1⟩) hf
end
section
variable {X : Cx} {pos : Pos}
end
structure It where
  go : Nat → Hp → Prop
  yld : Nat → Hp → V → Hp → Prop
  stop : Nat → Hp → Prop
def FpOk (X : Cx) (pins : List (Addr × Obj)) (H : Hp) (b : Addr) : Prop :=
  H b = none ∧ b ≠ X.env.locals ∧ b ∉ X.fs ∧ (b ∈ X.ex ∨ X.s₀.heap.objs.size ≤ b) ∧ (∀ x c, X.env.cells.lookup x = some c → c ≠ b) ∧ ∀ p ∈ X.pn ++ pins, p.1 ≠ b
theorem Inv.fpOk {X : Cx} {pins : List (Addr × Obj)} {σ : St} {H H' : Hp} {s : Shared} {b : Addr} (I : Inv X pins σ H s) (hb : s.heap.objs.size ≤ b) (hn : H' b = none) : FpOk X pins H' b := by
  refine ⟨hn, Nat.ne_of_gt (Nat.lt_of_lt_of_le I.lt hb), I.nofs hb, .inr (Nat.le_trans I.sz hb), fun x c e z => ?_, fun p hp z => ?_⟩
  · obtain ⟨v, q⟩ := I.cell x c e
    exact absurd (Nat.lt_of_lt_of_le q.lt (by rw [z]; exact hb)) (Nat.lt_irrefl _)
  · exact absurd (Nat.lt_of_lt_of_le (Heap.lt_size (I.pin p hp).1) (by rw [z]; exact hb)) (Nat.lt_irrefl _)
structure Turn (P : Program) (w : World) (K : PySem.W.Frag) (tg : Expr) (J : It) (fp : List Addr) (it : Addr) (tn : Nat → Heap → Prop) : Prop where
  mem : it ∈ fp
  obj : ∀ i h, tn i h → ∀ b ∈ fp, ∃ o, h.get? b = some o ∧ ∀ v, o.data ≠ .cell v
  keep : ∀ i h h', tn i h → (∀ b ∈ fp, ∀ o, h.get? b = some o → h'.get? b = some o) → tn i h'
  item : ∀ (X : Cx), X.prog = P → X.w = w → X.K = K → X.calm = true → ∀ (i : Nat) (pins : List (Addr × Obj)) (s : Shared) (σ : St) (H : Hp) (E : Value → Shared → Prop), Inv X pins σ H s → (∀ b ∈ fp, FpOk X pins H b) → tn i s.heap → J.go i H →
    wpAny (model P w) X.A (pyNext (.ref it)) (fun r s1 => ∃ u, r = some u ∧
      wpAny (model P w) X.A (letOwnedTupleGo tg (.ref it) u) (fun _ s2 => ∃ x H', Inv X pins σ H' s2 ∧ RelV x u ∧ J.yld i H x H' ∧ tn (i + 1) s2.heap ∧ ∀ b ∈ fp, H' b = none) E s1) E s
  done : ∀ (X : Cx), X.prog = P → X.w = w → X.K = K → X.calm = true → ∀ (i : Nat) (pins : List (Addr × Obj)) (s : Shared) (σ : St) (H : Hp) (E : Value → Shared → Prop), Inv X pins σ H s → (∀ b ∈ fp, FpOk X pins H b) → tn i s.heap → J.stop i H →
    wpAny (model P w) X.A (pyNext (.ref it)) (fun r s1 => r = none ∧ Inv X pins σ H s1) E s
  self : ∀ (A : Around) (i : Nat) (s : Shared) (Q : Value → Shared → Prop) (E : Value → Shared → Prop), tn i s.heap → Q (.ref it) s → wpAny (model P w) A (pyIter (.ref it)) Q E s
abbrev TI := St → Hp → (It → Hp → Prop) → Prop
def PIE (X : Cx) (pins : List (Addr × Obj)) (σ : St) (tg : Expr) (R : It → Hp → Prop) (itv : Value) (s2 : Shared) : Prop :=
  ∃ (it : Addr) (fp : List Addr) (tn : Nat → Heap → Prop) (J : It) (H' : Hp), itv = .ref it ∧ Inv X pins σ H' s2 ∧ Turn X.prog X.w X.K tg J fp it tn ∧ tn 0 s2.heap ∧ (∀ b ∈ fp, FpOk X pins H' b) ∧ R J H'
def PI (X : Cx) (tg iter : Expr) (wi : TI) : Prop :=
  ∀ (pins : List (Addr × Obj)) (s : Shared) (σ : St) (H : Hp) (R : It → Hp → Prop), Inv X pins σ H s → wi σ H R →
    wpAny (model X.prog X.w) X.A (eval iter X.env) (fun v s1 => wpAny (model X.prog X.w) X.A (pyIter v) (PIE X pins σ tg R) X.xe s1) X.xe s
theorem go_of {M : Model} {A : Around} {E : Value → Shared → Prop} {s : Shared} {tg : Expr} {it : Addr} {u : Value} {o : Obj} {n : String} {vs : Array Value} {Q : Unit → Shared → Prop} (ho : s.heap.get? it = some o) (hc : o.cls = .type n) (hd : o.data = .fields vs)
    (hn : ["enumerate", "zip", "dict_itemiterator", "dict_reverseitemiterator", "odict_iterator", "itertools.zip_longest", "itertools.pairwise"].contains n = false) (hQ : Q () s) : wpAny M A (letOwnedTupleGo tg (.ref it) u) Q E s := by
  unfold letOwnedTupleGo
  cases tg <;> first
    | exact wpAny_pure hQ
    | (cases u <;> first
        | exact wpAny_pure hQ
        | (refine wpAny_bind (wpAny_load ho ?_)
           rw [hc, hd]
           show wpAny M A (if (["enumerate", "zip", "dict_itemiterator", "dict_reverseitemiterator", "odict_iterator", "itertools.zip_longest", "itertools.pairwise"].contains n && vs[0]? == some (rawInt _)) = true then _ else _) Q E s
           rw [if_neg (by intro h; rw [hn, Bool.false_and] at h; cases h)]
           exact wpAny_pure hQ))
def Itl (K : PySem.W.Frag) (a : Addr) : It :=
  ⟨fun i H => ∃ xs x, SqL K H a xs ∧ xs[i]? = some x, fun i H x H' => H' = H ∧ ∀ xs, SqL K H a xs → xs[i]? = some x, fun i H => ∃ xs, SqL K H a xs ∧ xs.length ≤ i⟩
def Itt (K : PySem.W.Frag) (a : Addr) : It :=
  ⟨fun i H => ∃ xs x, SqT K H a xs ∧ xs[i]? = some x, fun i H x H' => H' = H ∧ ∀ xs, SqT K H a xs → xs[i]? = some x, fun i H => ∃ xs, SqT K H a xs ∧ xs.length ≤ i⟩
def Itr (lo : Int) (n : Nat) : It := ⟨fun i _ => i < n, fun i H x H' => H' = H ∧ x = .int (lo + i), fun i _ => n ≤ i⟩
theorem turn_list {P : Program} {w : World} {K : PySem.W.Frag} {tg : Expr} (a it : Addr) : Turn P w K tg (Itl K a) [it] it (fun i h => h.IsListIter it a i) where
  mem := by simp
  obj := fun i h st b hb => by
    have e : b = it := by simpa using hb
    subst e
    obtain ⟨o, e, c, d⟩ := st
    exact ⟨o, e, fun v z => by rw [d] at z; cases z⟩
  keep := fun i h h' st k => st.at fun o e => k it (by simp) o e
  item := by
    intro X hP hw hK hc i pins s σ H E I hf st hg
    subst hP hw hK
    obtain ⟨xs, x, hq, hx⟩ := hg
    obtain ⟨its, rv, p, hz⟩ := I.list hq
    obtain ⟨u, hu, ru⟩ := rv.get hx
    obtain ⟨f0, f1, f2, f3, f4, f5⟩ := hf it (by simp)
    refine wpAny_pyNext_list_item st p.isList (x := u) (by simpa using hu) fun h' st' sb => ?_
    have I1 : Inv X pins σ H { s with heap := h' } := I.turned (t' := s.toks) (fun b o hb e => (sb.2 b hb).trans e) f0 f1 f3 f4 f5
    obtain ⟨o, e, c, d⟩ := id st'
    exact ⟨u, rfl, go_of (s := { s with heap := h' }) e c d (by decide) ⟨x, H, I1, ru, ⟨rfl, fun ys hy => by rw [I.list_inj hy hq]; exact hx⟩, st', fun b hb => (hf b hb).1⟩⟩
  done := by
    intro X hP hw hK hc i pins s σ H E I hf st hg
    subst hP hw hK
    obtain ⟨xs, hq, hx⟩ := hg
    obtain ⟨its, rv, p, hz⟩ := I.list hq
    obtain ⟨f0, f1, f2, f3, f4, f5⟩ := hf it (by simp)
    have hl := rv.length
    exact wpAny_pyNext_list_end (I.ok.hd hc) st p.isList (by simp; omega) fun h' eb => ⟨rfl, I.turned (t' := s.toks) (fun b o hb e => eb b o hb e) f0 f1 f3 f4 f5⟩
  self := fun _ _ _ _ _ st h => wpAny_pyIter_listiter st h
theorem turn_tuple {P : Program} {w : World} {K : PySem.W.Frag} {tg : Expr} (a it : Addr) : Turn P w K tg (Itt K a) [it] it (fun i h => h.IsTupleIter it a i) where
  mem := by simp
  obj := fun i h st b hb => by
    have e : b = it := by simpa using hb
    subst e
    obtain ⟨o, e, c, d⟩ := st
    exact ⟨o, e, fun v z => by rw [d] at z; cases z⟩
  keep := fun i h h' st k => st.at fun o e => k it (by simp) o e
  item := by
    intro X hP hw hK hc i pins s σ H E I hf st hg
    subst hP hw hK
    obtain ⟨xs, x, hq, hx⟩ := hg
    obtain ⟨its, rv, p, hz⟩ := I.tuple hq
    obtain ⟨u, hu, ru⟩ := rv.get hx
    obtain ⟨f0, f1, f2, f3, f4, f5⟩ := hf it (by simp)
    refine wpAny_pyNext_tuple_item st (show s.heap.IsTuple a its.toArray from p) (x := u) (by simpa using hu) fun h' st' sb => ?_
    have I1 : Inv X pins σ H { s with heap := h' } := I.turned (t' := s.toks) (fun b o hb e => (sb.2 b hb).trans e) f0 f1 f3 f4 f5
    obtain ⟨o, e, c, d⟩ := id st'
    exact ⟨u, rfl, go_of (s := { s with heap := h' }) e c d (by decide) ⟨x, H, I1, ru, ⟨rfl, fun ys hy => by rw [I.tuple_inj hy hq]; exact hx⟩, st', fun b hb => (hf b hb).1⟩⟩
  done := by
    intro X hP hw hK hc i pins s σ H E I hf st hg
    subst hP hw hK
    obtain ⟨xs, hq, hx⟩ := hg
    obtain ⟨its, rv, p, hz⟩ := I.tuple hq
    obtain ⟨f0, f1, f2, f3, f4, f5⟩ := hf it (by simp)
    have hl := rv.length
    exact wpAny_pyNext_tuple_end (I.ok.hd hc) st (show s.heap.IsTuple a its.toArray from p) (by simp; omega) fun h' eb => ⟨rfl, I.turned (t' := s.toks) (fun b o hb e => eb b o hb e) f0 f1 f3 f4 f5⟩
  self := fun _ _ _ _ _ st h => wpAny_pyIter_tupleiter st h
theorem turn_range {P : Program} {w : World} {K : PySem.W.Frag} {tg : Expr} (it : Addr) (lo : Int) (n : Nat) : Turn P w K tg (Itr lo n) [it] it (fun i h => IsRangeIter h it (lo + (i : Nat) * 1) ((n : Int) - (i : Nat)) 1) where
  mem := by simp
  obj := fun i h st b hb => by
    have e : b = it := by simpa using hb
    subst e
    exact ⟨_, st, fun v z => by
      have z' : Data.fields _ = Data.cell v := z
      cases z'⟩
  keep := fun i h h' st k => k it (by simp) _ st
  item := by
    intro X hP hw hK hc i pins s σ H E I hf st hg
    subst hP hw hK
    obtain ⟨f0, f1, f2, f3, f4, f5⟩ := hf it (by simp)
    have W := Walks.range (prog := X.prog) (w := X.w) (I.ok.hd hc) it lo 1 n
    refine W.item i s _ _ hg st fun v h' tk hv st' kk => ?_
    obtain ⟨t, rfl⟩ := hv
    have I1 : Inv X pins σ H { s with heap := h', toks := tk } := I.turned (fun b o hb e => kk b o (by simpa using hb) e) f0 f1 f3 f4 f5
    refine ⟨_, rfl, go_of (s := { s with heap := h', toks := tk }) (n := "range_iterator") st' rfl rfl (by decide) ⟨.int (lo + i), H, I1, ⟨t, ?_⟩, ⟨rfl, rfl⟩, st', fun b hb => (hf b hb).1⟩⟩
    rw [Int.mul_one]
  done := by
    intro X hP hw hK hc i pins s σ H E I hf st hg
    subst hP hw hK
    obtain ⟨f0, f1, f2, f3, f4, f5⟩ := hf it (by simp)
    exact wpAny_pyNext_range_end (I.ok.hd hc) st (by have : n ≤ i := hg; omega) fun h' eb => ⟨rfl, I.turned (t' := s.toks) (fun b o hb e => eb b o hb e) f0 f1 f3 f4 f5⟩
  self := fun _ _ _ _ _ st h => wpAny_pyIter_rangeiter st h
end L2
namespace L2
open PySem PySem.Spec PyProof.Rows
section
variable {X : Cx} {tg : Expr}
def iList (K : PySem.W.Frag) (tl : TE) : TI := fun σ H R => tl σ H fun x H1 => ∃ a, x = .ref a ∧ (∃ xs, SqL K H1 a xs) ∧ R (Itl K a) H1
def iTup (K : PySem.W.Frag) (tl : TE) : TI := fun σ H R => tl σ H fun x H1 => ∃ a, x = .ref a ∧ (∃ xs, SqT K H1 a xs) ∧ R (Itt K a) H1
theorem pi_list {l : Expr} {tl : TE} (hl : PE X l tl) : PI X tg l (iList X.K tl) := by
  intro pins s σ H R I h
  refine thn (hl pins s σ H _ I h) fun v s1 ⟨x, H1, I1, r1, q1⟩ => ?_
  obtain ⟨a, e, ⟨xs, hq⟩, q⟩ := q1
  subst e
  cases r1
  obtain ⟨its, rv, p, hz⟩ := I1.list hq
  refine wpAny_pyIter_list p.isList ?_
  refine ⟨s1.heap.objs.size, [s1.heap.objs.size], _, _, H1, rfl, I1.kept (t' := s1.toks) fun b o e => Heap.get?_push_of_some _ e, turn_list a _, ⟨_, Heap.get?_push_size _ rfl, rfl, rfl⟩, fun b hb => ?_, q⟩
  have e : b = s1.heap.objs.size := by simpa using hb
  subst e
  exact I1.fpOk (Nat.le_refl _) (I1.hok.fresh (Nat.le_refl _))
theorem pi_tup {l : Expr} {tl : TE} (hl : PE X l tl) : PI X tg l (iTup X.K tl) := by
  intro pins s σ H R I h
  refine thn (hl pins s σ H _ I h) fun v s1 ⟨x, H1, I1, r1, q1⟩ => ?_
  obtain ⟨a, e, ⟨xs, hq⟩, q⟩ := q1
  subst e
  cases r1
  obtain ⟨its, rv, p, hz⟩ := I1.tuple hq
  refine wpAny_pyIter_tuple (show s1.heap.IsTuple a its.toArray from p) ?_
  refine ⟨s1.heap.objs.size, [s1.heap.objs.size], _, _, H1, rfl, I1.kept (t' := s1.toks) fun b o e => Heap.get?_push_of_some _ e, turn_tuple a _, ⟨_, Heap.get?_push_size _ rfl, rfl, rfl⟩, fun b hb => ?_, q⟩
  have e : b = s1.heap.objs.size := by simpa using hb
  subst e
  exact I1.fpOk (Nat.le_refl _) (I1.hok.fresh (Nat.le_refl _))
theorem range_it {pins : List (Addr × Obj)} {σ : St} {H : Hp} {s : Shared} {R : It → Hp → Prop} {E : Value → Shared → Prop} {lo hi : Int} {t u v : Tok} {tk : Nat} (I : Inv X pins σ H s) (h1 : -(2 ^ 62) ≤ lo) (h2 : lo < 2 ^ 62) (h3 : -(2 ^ 62) ≤ hi) (h4 : hi < 2 ^ 62)
    (q : R (Itr lo (hi - lo).toNat) H) : wpAny (model X.prog X.w) X.A (pyIter (.ref s.heap.objs.size)) (PIE X pins σ tg R) E { s with heap := s.heap.push { cls := .type "range", data := .fields #[.int lo t, .int hi u, .int 1 v] }, toks := tk } := by
  refine wpAny_pyIter_range (IsRange.new ..) (small_one h1 h2 h3 h4) ?_
  have I1 : Inv X pins σ H { s with heap := s.heap.push { cls := .type "range", data := .fields #[.int lo t, .int hi u, .int 1 v] }, toks := tk } := I.kept fun b o e => Heap.get?_push_of_some _ e
  refine ⟨(s.heap.push { cls := .type "range", data := .fields #[.int lo t, .int hi u, .int 1 v] }).objs.size, [(s.heap.push { cls := .type "range", data := .fields #[.int lo t, .int hi u, .int 1 v] }).objs.size], _, _, H, rfl,
    I1.kept (t' := tk) fun b o e => Heap.get?_push_of_some _ e, turn_range _ lo (hi - lo).toNat, ?_, fun b hb => ?_, q⟩
  · have e1 : lo + ((0 : Nat) : Int) * 1 = lo := by simp
    have e2 : (((hi - lo).toNat : Nat) : Int) - ((0 : Nat) : Int) = Builtin.Range.rangeSize lo hi 1 := by rw [rangeSize_one]; split <;> omega
    show IsRangeIter _ _ (lo + ((0 : Nat) : Int) * 1) ((((hi - lo).toNat : Nat) : Int) - ((0 : Nat) : Int)) 1
    rw [e1, e2]
    exact Heap.get?_push_size _ rfl
  · have e : b = (s.heap.push { cls := .type "range", data := .fields #[.int lo t, .int hi u, .int 1 v] }).objs.size := by simpa using hb
    subst e
    exact I1.fpOk (Nat.le_refl _) (I1.hok.fresh (Nat.le_refl _))
def iRng1 (ta : TA) : TI := fun σ H R => ta σ H fun vs H1 => ∃ j : Int, vs = [.int j] ∧ -(2 ^ 62) ≤ j ∧ j < 2 ^ 62 ∧ R (Itr 0 j.toNat) H1
theorem pi_range1 {a : Expr} {ta : TA} {p pos : Pos} (hg : Gl X "range") (hm : X.mg "range" = none) (ha : PA X [a] ta) (hs : starEach [a] X.env = [(false, eval a X.env)] := by rfl) : PI X tg (.Call (.Name "range" p) [a] [] pos) (iRng1 ta) := by
  intro pins s σ H R I h
  refine Call_ (ld_blt I hg hm boot_range (PyProof.Rows.callWith_type1 (thn (ha pos pins s σ H _ I h) fun us s1 ⟨vs, H1, I1, r1, q1⟩ => ?_) hs rfl))
  obtain ⟨j, e, q1, q2, q⟩ := q1
  subst e
  cases r1 with
  | cons r rr =>
    cases rr
    obtain ⟨t, rfl⟩ := r
    exact call_range_1 (range_it I1 (by omega) (by omega) q1 q2 (by simpa using q))
def tFor (wi : TI) (g : TG) (tb : TS) : TS := fun D σ H => wi σ H fun J H1 => ∃ W : Nat → Nat → St → Hp → Prop, (∃ m, W 0 m σ H1) ∧ ∀ i m σ H, W i m σ H →
  (J.stop i H ∧ D.nx σ H) ∨ (J.go i H ∧ ∃ N : St → Hp → Prop, (∀ σ' H', N σ' H' → ∃ m', m' < m ∧ W (i + 1) m' σ' H') ∧ ∀ x H', J.yld i H x H' → g x σ H' fun σ2 H2 => tb { D with nx := N, ct := N, bk := D.nx } σ2 H2)
def pinsAt (fp : List Addr) (h : Heap) : List (Addr × Obj) := fp.filterMap fun b => (h.get? b).map fun o => (b, o)
theorem mem_pinsAt {fp : List Addr} {h : Heap} {b : Addr} {o : Obj} (hb : b ∈ fp) (e : h.get? b = some o) : (b, o) ∈ pinsAt fp h := List.mem_filterMap.mpr ⟨b, hb, by rw [e]; rfl⟩
theorem of_pinsAt {fp : List Addr} {h : Heap} {p : Addr × Obj} (hp : p ∈ pinsAt fp h) : p.1 ∈ fp ∧ h.get? p.1 = some p.2 := by
  obtain ⟨b, hb, e⟩ := List.mem_filterMap.mp hp
  cases q : h.get? b with
  | none => rw [q] at e; cases e
  | some o =>
    rw [q] at e
    have e' : (b, o) = p := Option.some.inj e
    subst e'
    exact ⟨hb, q⟩
theorem Inv.pinned {pins : List (Addr × Obj)} {σ : St} {H : Hp} {s : Shared} {fp : List Addr} (I : Inv X pins σ H s) (hf : ∀ b ∈ fp, FpOk X pins H b) (ho : ∀ b ∈ fp, ∃ o, s.heap.get? b = some o ∧ ∀ v, o.data ≠ .cell v) : Inv X (pins ++ pinsAt fp s.heap) σ H s :=
  I.pins_of fun p hp => (List.mem_append.mp hp).elim (fun z => I.pin p (List.mem_append_right _ z)) fun z => by
    obtain ⟨hb, e⟩ := of_pinsAt z
    obtain ⟨f0, f1, f2, _⟩ := hf p.1 hb
    obtain ⟨o, e', d⟩ := ho p.1 hb
    rw [e] at e'; cases e'
    exact ⟨e, f0, f1, f2, d⟩
theorem Inv.unpinned {pins pl : List (Addr × Obj)} {σ : St} {H : Hp} {s : Shared} (I : Inv X (pins ++ pl) σ H s) : Inv X pins σ H s := I.pins_of fun p hp => I.pin p (List.mem_append_right _ (List.mem_append_left _ hp))
theorem ps_for {iter : Expr} {body : List Stmt} {wi : TI} {g : TG} {tb : TS} {pos : Pos} (hp : PassesOwn (model X.prog X.w) X.A X.env X.xe) (hc : X.calm = true) (hi : PI X tg iter wi) (hg : PG X tg g) (hb : PSs X body tb)
    (hs : ∀ x, foldedSetIterable iter X.env x = pure x := by intro _; rfl) : PS X (.For tg iter body [] pos) (tFor wi g tb) := by
  intro pins s σ H D I h
  refine wpAny_For (thn (hi pins s σ H _ I h) fun v s1 h1 => thn h1 fun itv s2 h2 => ?_) hs
  obtain ⟨it, fp, tn, J, H2, e, I2, T, st2, f2, W, ⟨m0, w0⟩, turn⟩ := h2
  subst e
  have stat : ∀ {H' : Hp}, (∀ b ∈ fp, H' b = none) → ∀ b ∈ fp, FpOk X pins H' b := fun hn b hb => ⟨hn b hb, (f2 b hb).2⟩
  refine codeAny_forLoop_any (fun n s' => ∃ i σ' H', Inv X pins σ' H' s' ∧ tn i s'.heap ∧ (∀ b ∈ fp, H' b = none) ∧ W i n σ' H') ?_ m0 ⟨0, σ, H2, I2, st2, fun b hb => (f2 b hb).1, w0⟩
  rintro n s3 ⟨i, σ3, H3, I3, st3, fr3, w3⟩
  rcases turn i n σ3 H3 w3 with ⟨stop, qn⟩ | ⟨go, N, hN, step⟩
  · refine wpAny_passesOwn hp (thn (T.done X rfl rfl rfl hc i pins s3 σ3 H3 X.xe I3 (stat fr3) st3 stop) fun r s4 ⟨hr, I4⟩ => ?_)
    subst hr
    exact wpAny_execs_nil ⟨σ3, H3, I4, qn⟩
  · refine wpAny_passesOwn hp (thn (T.item X rfl rfl rfl hc i pins s3 σ3 H3 X.xe I3 (stat fr3) st3 go) fun r s4 ⟨u, hr, h4⟩ => ?_)
    subst hr
    refine wpAny_passesOwn hp (thn h4 fun _ s5 ⟨x, H5, I5, r5, y5, st5, fr5⟩ => ?_)
    have I5' := I5.pinned (stat fr5) (T.obj _ _ st5)
    refine wpAny_passesOwn hp (thn (hg _ s5 σ3 H5 x u _ I5' r5 (step x H5 y5)) fun _ s6 ⟨σ6, H6, I6, q6⟩ => ?_)
    refine wpAny_passesOwn hp (thn (hb _ s6 σ6 H6 _ I6 q6) fun f s7 q7 => ?_)
    have again : ∀ {σ7 : St} {H7 : Hp}, Inv X (pins ++ pinsAt fp s5.heap) σ7 H7 s7 → N σ7 H7 → ∃ m, m < n ∧ ∃ i σ' H', Inv X pins σ' H' s7 ∧ tn i s7.heap ∧ (∀ b ∈ fp, H' b = none) ∧ W i m σ' H' := fun {σ7 H7} I7 n7 => by
      obtain ⟨m', hm, w7⟩ := hN σ7 H7 n7
      refine ⟨m', hm, i + 1, σ7, H7, I7.unpinned, T.keep _ _ _ st5 fun b hb o e => (I7.pin (b, o) (List.mem_append_right _ (List.mem_append_right _ (mem_pinsAt hb e)))).1, fun b hb => ?_, w7⟩
      obtain ⟨o, e, d⟩ := T.obj _ _ st5 b hb
      exact (I7.pin (b, o) (List.mem_append_right _ (List.mem_append_right _ (mem_pinsAt hb e)))).2.1
    cases f with
    | next => obtain ⟨σ7, H7, I7, n7⟩ := q7; exact again I7 n7
    | cont => obtain ⟨σ7, H7, I7, n7⟩ := q7; exact again I7 n7
    | brk => obtain ⟨σ7, H7, I7, q7⟩ := q7; exact ⟨σ7, H7, I7.unpinned, q7⟩
    | ret v => obtain ⟨x7, σ7, H7, I7, r7, q7⟩ := q7; exact ⟨x7, σ7, H7, I7.unpinned, r7, q7⟩
end
theorem for_list {K : PySem.W.Frag} {a : Addr} {xs : List V} {g : TG} {tb : TS} {D : Ends} {σ : St} {H : Hp} (Pv : Nat → St → Hp → Prop) (h0 : Pv 0 σ H) (hl : ∀ i σ H, i ≤ xs.length → Pv i σ H → SqL K H a xs)
    (hs : ∀ i x σ H, xs[i]? = some x → Pv i σ H → g x σ H fun σ2 H2 => tb { D with nx := Pv (i + 1), ct := Pv (i + 1), bk := D.nx } σ2 H2) (hd : ∀ σ H, Pv xs.length σ H → D.nx σ H) :
    ∃ W : Nat → Nat → St → Hp → Prop, (∃ m, W 0 m σ H) ∧ ∀ i m σ H, W i m σ H →
      ((Itl K a).stop i H ∧ D.nx σ H) ∨ ((Itl K a).go i H ∧ ∃ N : St → Hp → Prop, (∀ σ' H', N σ' H' → ∃ m', m' < m ∧ W (i + 1) m' σ' H') ∧ ∀ x H', (Itl K a).yld i H x H' → g x σ H' fun σ2 H2 => tb { D with nx := N, ct := N, bk := D.nx } σ2 H2) := by
  refine ⟨fun i m σ H => m = xs.length - i ∧ i ≤ xs.length ∧ Pv i σ H, ⟨xs.length, by simp, Nat.zero_le _, h0⟩, ?_⟩
  rintro i m σ H ⟨rfl, hi, p⟩
  have q := hl i σ H hi p
  by_cases hlt : i < xs.length
  · refine .inr ⟨⟨xs, xs[i], q, by simp [hlt]⟩, Pv (i + 1), fun σ' H' p' => ⟨xs.length - (i + 1), by omega, rfl, hlt, p'⟩, fun x H' y => ?_⟩
    obtain ⟨e, y⟩ := y
    subst e
    exact hs i x σ _ (y xs q) p
  · have e : i = xs.length := by omega
    subst e
    exact .inl ⟨⟨xs, q, Nat.le_refl _⟩, hd σ H p⟩
theorem for_tup {K : PySem.W.Frag} {a : Addr} {xs : List V} {g : TG} {tb : TS} {D : Ends} {σ : St} {H : Hp} (Pv : Nat → St → Hp → Prop) (h0 : Pv 0 σ H) (hl : ∀ i σ H, i ≤ xs.length → Pv i σ H → SqT K H a xs)
    (hs : ∀ i x σ H, xs[i]? = some x → Pv i σ H → g x σ H fun σ2 H2 => tb { D with nx := Pv (i + 1), ct := Pv (i + 1), bk := D.nx } σ2 H2) (hd : ∀ σ H, Pv xs.length σ H → D.nx σ H) :
    ∃ W : Nat → Nat → St → Hp → Prop, (∃ m, W 0 m σ H) ∧ ∀ i m σ H, W i m σ H →
      ((Itt K a).stop i H ∧ D.nx σ H) ∨ ((Itt K a).go i H ∧ ∃ N : St → Hp → Prop, (∀ σ' H', N σ' H' → ∃ m', m' < m ∧ W (i + 1) m' σ' H') ∧ ∀ x H', (Itt K a).yld i H x H' → g x σ H' fun σ2 H2 => tb { D with nx := N, ct := N, bk := D.nx } σ2 H2) := by
  refine ⟨fun i m σ H => m = xs.length - i ∧ i ≤ xs.length ∧ Pv i σ H, ⟨xs.length, by simp, Nat.zero_le _, h0⟩, ?_⟩
  rintro i m σ H ⟨rfl, hi, p⟩
  have q := hl i σ H hi p
  by_cases hlt : i < xs.length
  · refine .inr ⟨⟨xs, xs[i], q, by simp [hlt]⟩, Pv (i + 1), fun σ' H' p' => ⟨xs.length - (i + 1), by omega, rfl, hlt, p'⟩, fun x H' y => ?_⟩
    obtain ⟨e, y⟩ := y
    subst e
    exact hs i x σ _ (y xs q) p
  · have e : i = xs.length := by omega
    subst e
    exact .inl ⟨⟨xs, q, Nat.le_refl _⟩, hd σ H p⟩
theorem for_range {lo : Int} {n : Nat} {g : TG} {tb : TS} {D : Ends} {σ : St} {H : Hp} (Pv : Nat → St → Hp → Prop) (h0 : Pv 0 σ H)
    (hs : ∀ i σ H, i < n → Pv i σ H → g (.int (lo + i)) σ H fun σ2 H2 => tb { D with nx := Pv (i + 1), ct := Pv (i + 1), bk := D.nx } σ2 H2) (hd : ∀ σ H, Pv n σ H → D.nx σ H) :
    ∃ W : Nat → Nat → St → Hp → Prop, (∃ m, W 0 m σ H) ∧ ∀ i m σ H, W i m σ H →
      ((Itr lo n).stop i H ∧ D.nx σ H) ∨ ((Itr lo n).go i H ∧ ∃ N : St → Hp → Prop, (∀ σ' H', N σ' H' → ∃ m', m' < m ∧ W (i + 1) m' σ' H') ∧ ∀ x H', (Itr lo n).yld i H x H' → g x σ H' fun σ2 H2 => tb { D with nx := N, ct := N, bk := D.nx } σ2 H2) := by
  refine ⟨fun i m σ H => m = n - i ∧ i ≤ n ∧ Pv i σ H, ⟨n, by simp, Nat.zero_le _, h0⟩, ?_⟩
  rintro i m σ H ⟨rfl, hi, p⟩
  by_cases hlt : i < n
  · refine .inr ⟨hlt, Pv (i + 1), fun σ' H' p' => ⟨n - (i + 1), by omega, rfl, hlt, p'⟩, fun x H' y => ?_⟩
    obtain ⟨e, y⟩ := y
    subst e y
    exact hs i σ _ hlt p
  · have e : i = n := by omega
    subst e
    exact .inl ⟨Nat.le_refl _, hd σ H p⟩
end L2
namespace L2
open PySem PySem.Spec PyProof.Rows
abbrev R2 := V → V → Hp → VK → Prop
def OpR (X : Cx) (f : Value → Value → Sem Value) (r : R2) : Prop :=
  ∀ (pins : List (Addr × Obj)) (s : Shared) (σ : St) (H : Hp) (x y : V) (v u : Value) (Q : VK), Inv X pins σ H s → RelV x v → RelV y u → r x y H Q →
    wpAny (model X.prog X.w) X.A (f v u) (EP X pins σ Q) X.xe s
def UnR (X : Cx) (f : Value → Sem Value) (r : V → Hp → VK → Prop) : Prop :=
  ∀ (pins : List (Addr × Obj)) (s : Shared) (σ : St) (H : Hp) (x : V) (v : Value) (Q : VK), Inv X pins σ H s → RelV x v → r x H Q →
    wpAny (model X.prog X.w) X.A (f v) (EP X pins σ Q) X.xe s
def CallR (X : Cx) (f : Value) (r : List V → Hp → VK → Prop) : Prop :=
  ∀ (pins : List (Addr × Obj)) (s : Shared) (σ : St) (H : Hp) (xs : List V) (us : List Value) (Q : VK), Inv X pins σ H s → Vals xs us → r xs H Q →
    wpAny (model X.prog X.w) X.A (call f us) (EP X pins σ Q) X.xe s
def tOp (r : R2) (ta tb : TE) : TE := fun σ H Q => ta σ H fun x H1 => tb σ H1 fun y H2 => r x y H2 Q
def tUn (r : V → Hp → VK → Prop) (ta : TE) : TE := fun σ H Q => ta σ H fun x H1 => r x H1 Q
def rI (C : Int → Int → Prop) (g : Int → Int → V) : R2 := fun x y H Q => ∃ i j, x = .int i ∧ y = .int j ∧ C i j ∧ Q (g i j) H
def rI0 (g : Int → Int → V) : R2 := fun x y H Q => ∃ i j, x = .int i ∧ y = .int j ∧ Q (g i j) H
def rU (g : Int → V) : V → Hp → VK → Prop := fun x H Q => ∃ i, x = .int i ∧ Q (g i) H
section
variable {X : Cx} {a b c : Expr} {ta tb tc : TE} {pos : Pos}
theorem binT (ha : PE X a ta) (hb : PE X b tb) {pins : List (Addr × Obj)} {s : Shared} {σ : St} {H : Hp} {R : V → V → Hp → Prop} (I : Inv X pins σ H s)
    (h : ta σ H fun x H1 => tb σ H1 fun y H2 => R x y H2) {Q : Value → Shared → Prop} {f : Value → Value → Sem Value}
    (hf : ∀ v u s2 x y H2, Inv X pins σ H2 s2 → RelV x v → RelV y u → R x y H2 → wpAny (model X.prog X.w) X.A (f v u) Q X.xe s2) :
    wpAny (model X.prog X.w) X.A (eval a X.env) (fun v s₁ => wpAny (model X.prog X.w) X.A (eval b X.env) (fun u s₂ => wpAny (model X.prog X.w) X.A (f v u) Q X.xe s₂) X.xe s₁) X.xe s := by
  refine thn (ha pins s σ H _ I h) fun v s1 ⟨x, H1, I1, r1, q1⟩ => ?_
  refine thn (hb pins s1 σ H1 _ I1 q1) fun u s2 ⟨y, H2, I2, r2, q2⟩ => ?_
  exact hf v u s2 x y H2 I2 r1 r2 q2
theorem pe_op {op : Operator} {r : R2} (ho : OpR X (binaryOp op) r) (ha : PE X a ta) (hb : PE X b tb) : PE X (.BinOp a op b pos) (tOp r ta tb) := by
  intro pins s σ H Q I h
  exact wpAny_BinOp (binT ha hb I h fun v u s2 x y H2 I2 rx ry q => ho pins s2 σ H2 x y v u Q I2 rx ry q)
theorem pe_un {op : UnaryOp} {r : V → Hp → VK → Prop} (ho : UnR X (unaryOp op) r) (ha : PE X a ta) : PE X (.UnaryOp op a pos) (tUn r ta) := by
  intro pins s σ H Q I h
  exact UnaryOp_ (thn (ha pins s σ H _ I h) fun v s1 ⟨x, H1, I1, r1, q1⟩ => ho pins s1 σ H1 x v Q I1 r1 q1)
theorem opI {f : Value → Value → Sem Value} {C : Int → Int → Prop} {g : Int → Int → Int}
    (rule : ∀ (i j : Int) (t u : Tok) (s : Shared) (Q : Value → Shared → Prop) (E : Value → Shared → Prop), C i j → Q (.int (g i j) s.toks) { s with toks := s.toks + 1 } → wpAny (model X.prog X.w) X.A (f (.int i t) (.int j u)) Q E s) :
    OpR X f (rI C fun i j => .int (g i j)) := by
  intro pins s σ H x y v u Q I rx ry h
  obtain ⟨i, j, rfl, rfl, hc, q⟩ := h
  obtain ⟨t, rfl⟩ := rx
  obtain ⟨t', rfl⟩ := ry
  exact rule i j t t' s _ _ hc ⟨.int (g i j), H, I.tok _, ⟨_, rfl⟩, q⟩
theorem opI0 {f : Value → Value → Sem Value} {g : Int → Int → Int}
    (rule : ∀ (i j : Int) (t u : Tok) (s : Shared) (Q : Value → Shared → Prop) (E : Value → Shared → Prop), Q (.int (g i j) s.toks) { s with toks := s.toks + 1 } → wpAny (model X.prog X.w) X.A (f (.int i t) (.int j u)) Q E s) :
    OpR X f (rI0 fun i j => .int (g i j)) := by
  intro pins s σ H x y v u Q I rx ry h
  obtain ⟨i, j, rfl, rfl, q⟩ := h
  obtain ⟨t, rfl⟩ := rx
  obtain ⟨t', rfl⟩ := ry
  exact rule i j t t' s _ _ ⟨.int (g i j), H, I.tok _, ⟨_, rfl⟩, q⟩
theorem opB0 {f : Value → Value → Sem Value} {g : Int → Int → Bool}
    (rule : ∀ (i j : Int) (t u : Tok) (s : Shared) (Q : Value → Shared → Prop) (E : Value → Shared → Prop), Q (.bool (g i j)) s → wpAny (model X.prog X.w) X.A (f (.int i t) (.int j u)) Q E s) :
    OpR X f (rI0 fun i j => .bl (g i j)) := by
  intro pins s σ H x y v u Q I rx ry h
  obtain ⟨i, j, rfl, rfl, q⟩ := h
  obtain ⟨t, rfl⟩ := rx
  obtain ⟨t', rfl⟩ := ry
  exact rule i j t t' s _ _ ⟨.bl (g i j), H, I, rfl, q⟩
def CMul (i j : Int) : Prop := (-(2 ^ 64) < i ∧ i < 2 ^ 64) ∨ (-(2 ^ 64) < j ∧ j < 2 ^ 64)
theorem CMul.ok {i j : Int} (h : CMul i j) : IntMulOk i j := by
  rcases h with ⟨h1, h2⟩ | ⟨h1, h2⟩
  · exact .of_left (intBits_le_64 h1 h2)
  · exact .of_right (intBits_le_64 h1 h2)
theorem op_add : OpR X (binaryOp .Add) (rI0 fun i j => .int (i + j)) := opI0 fun _ _ _ _ _ _ _ q => add_int q
theorem op_sub : OpR X (binaryOp .Sub) (rI0 fun i j => .int (i - j)) := opI0 fun _ _ _ _ _ _ _ q => sub_int q
theorem op_mod : OpR X (binaryOp .Mod) (rI (fun _ j => 0 < j) fun i j => .int (i % j)) := opI fun i j _ _ _ _ _ hc q => by
  have h1 : (0 : Int) < j := hc
  exact mod_int' (by omega) (by rw [Int.fmod_eq_emod_of_nonneg i (by omega)]; exact q)
theorem unI {f : Value → Sem Value} {g : Int → Int}
    (rule : ∀ (i : Int) (t : Tok) (s : Shared) (Q : Value → Shared → Prop) (E : Value → Shared → Prop), Q (.int (g i) s.toks) { s with toks := s.toks + 1 } → wpAny (model X.prog X.w) X.A (f (.int i t)) Q E s) :
    UnR X f (rU fun i => .int (g i)) := by
  intro pins s σ H x v Q I rx h
  obtain ⟨i, rfl, q⟩ := h
  obtain ⟨t, rfl⟩ := rx
  exact rule i t s _ _ ⟨.int (g i), H, I.tok _, ⟨_, rfl⟩, q⟩
theorem un_neg : UnR X (unaryOp .USub) (rU fun i => .int (-i)) := unI fun _ _ _ _ _ q => neg_int q
end
def scal : V → V → Bool
  | .non, .non => true | .non, .int _ => true | .int _, .non => true | .non, .bl _ => true | .bl _, .non => true | .non, .str _ => true | .str _, .non => true
  | .int _, .int _ => true | .bl _, .bl _ => true | .str _, .str _ => true | .byt _, .byt _ => true
  | .int _, .str _ => true | .str _, .int _ => true | .bl _, .str _ => true | .str _, .bl _ => true
  | _, _ => false
def rEq : R2 := fun x y H Q => scal x y = true ∧ Q (.bl (decide (x = y))) H
def rNe : R2 := fun x y H Q => scal x y = true ∧ Q (.bl (!decide (x = y))) H
theorem dec_int {i j : Int} : decide (V.int i = V.int j) = (i == j) := by
  rw [Bool.eq_iff_iff]
  simp
theorem dec_bl {i j : Bool} : decide (V.bl i = V.bl j) = (i == j) := by
  rw [Bool.eq_iff_iff]
  simp
theorem dec_str {i j : Str} : decide (V.str i = V.str j) = (i == j) := by
  rw [Bool.eq_iff_iff]
  simp
theorem dec_byt {i j : Array UInt8} : decide (V.byt i = V.byt j) = (i.toList == j.toList) := by
  rw [Bool.eq_iff_iff]
  cases i
  cases j
  simp
section
variable {X : Cx} {a b c : Expr} {ta tb tc : TE} {pos : Pos}
theorem fin_bl {pins : List (Addr × Obj)} {σ : St} {H : Hp} {s : Shared} {Q : VK} {k k' : Bool} (I : Inv X pins σ H s) (q : Q (.bl k) H) (e : k = k') : EP X pins σ Q (.bool k') s := by
  subst e
  exact ⟨.bl k, H, I, rfl, q⟩
theorem op_eq : OpR X (compareOp .Eq) rEq := by
  intro pins s σ H x y v u Q I rx ry h
  obtain ⟨hs, q⟩ := h
  cases x with
  | non =>
    cases rx
    cases y with
    | non => cases ry; exact PySem.EqNone.eq_none_none (fin_bl I q (by simp))
    | bl j => cases ry; exact PySem.EqNone.eq_none_bool (fin_bl I q (by simp))
    | int j => obtain ⟨t', rfl⟩ := ry; exact PySem.EqNone.eq_none_int (fin_bl I q (by simp))
    | str j => obtain ⟨t', rfl⟩ := ry; exact PySem.EqNone.eq_none_str (fin_bl I q (by simp))
    | _ => exact absurd (show false = true from hs) Bool.false_ne_true
  | bl i =>
    cases rx
    cases y with
    | non => cases ry; exact PySem.EqNone.eq_bool_none (fin_bl I q (by simp))
    | bl j => cases ry; exact eq_bool (fin_bl I q dec_bl)
    | str j => obtain ⟨t', rfl⟩ := ry; exact PySem.EqMixed.eq_bool_str (fin_bl I q (by simp))
    | _ => exact absurd (show false = true from hs) Bool.false_ne_true
  | int i =>
    obtain ⟨t, rfl⟩ := rx
    cases y with
    | non => cases ry; exact PySem.EqNone.eq_int_none (fin_bl I q (by simp))
    | int j => obtain ⟨t', rfl⟩ := ry; exact eq_int (fin_bl I q dec_int)
    | str j => obtain ⟨t', rfl⟩ := ry; exact PySem.EqMixed.eq_int_str (fin_bl I q (by simp))
    | _ => exact absurd (show false = true from hs) Bool.false_ne_true
  | str i =>
    obtain ⟨t, rfl⟩ := rx
    cases y with
    | non => cases ry; exact PySem.EqNone.eq_str_none (fin_bl I q (by simp))
    | bl j => cases ry; exact PySem.EqMixed.eq_str_bool (fin_bl I q (by simp))
    | int j => obtain ⟨t', rfl⟩ := ry; exact PySem.EqMixed.eq_str_int (fin_bl I q (by simp))
    | str j => obtain ⟨t', rfl⟩ := ry; exact eq_str (fin_bl I q dec_str)
    | _ => exact absurd (show false = true from hs) Bool.false_ne_true
  | byt i =>
    obtain ⟨t, rfl⟩ := rx
    cases y with
    | byt j => obtain ⟨t', rfl⟩ := ry; exact PySem.W.eq_bytes (fin_bl I q dec_byt)
    | _ => exact absurd (show false = true from hs) Bool.false_ne_true
  | _ => cases y <;> exact absurd (show false = true from hs) Bool.false_ne_true
theorem op_ne : OpR X (compareOp .NotEq) rNe := by
  intro pins s σ H x y v u Q I rx ry h
  obtain ⟨hs, q⟩ := h
  cases x with
  | non =>
    cases rx
    cases y with
    | non => cases ry; exact PySem.EqNone.ne_none_none (fin_bl I q (by simp))
    | bl j => cases ry; exact PySem.EqNone.ne_none_bool (fin_bl I q (by simp))
    | int j => obtain ⟨t', rfl⟩ := ry; exact PySem.EqNone.ne_none_int (fin_bl I q (by simp))
    | str j => obtain ⟨t', rfl⟩ := ry; exact PySem.EqNone.ne_none_str (fin_bl I q (by simp))
    | _ => exact absurd (show false = true from hs) Bool.false_ne_true
  | bl i =>
    cases rx
    cases y with
    | non => cases ry; exact PySem.EqNone.ne_bool_none (fin_bl I q (by simp))
    | bl j => cases ry; exact ne_bool (fin_bl I q (congrArg not dec_bl))
    | str j => obtain ⟨t', rfl⟩ := ry; exact PySem.EqMixed.ne_bool_str (fin_bl I q (by simp))
    | _ => exact absurd (show false = true from hs) Bool.false_ne_true
  | int i =>
    obtain ⟨t, rfl⟩ := rx
    cases y with
    | non => cases ry; exact PySem.EqNone.ne_int_none (fin_bl I q (by simp))
    | int j => obtain ⟨t', rfl⟩ := ry; exact ne_int (fin_bl I q (congrArg not dec_int))
    | str j => obtain ⟨t', rfl⟩ := ry; exact PySem.EqMixed.ne_int_str (fin_bl I q (by simp))
    | _ => exact absurd (show false = true from hs) Bool.false_ne_true
  | str i =>
    obtain ⟨t, rfl⟩ := rx
    cases y with
    | non => cases ry; exact PySem.EqNone.ne_str_none (fin_bl I q (by simp))
    | bl j => cases ry; exact PySem.EqMixed.ne_str_bool (fin_bl I q (by simp))
    | int j => obtain ⟨t', rfl⟩ := ry; exact PySem.EqMixed.ne_str_int (fin_bl I q (by simp))
    | str j => obtain ⟨t', rfl⟩ := ry; exact ne_str (fin_bl I q (congrArg not dec_str))
    | _ => exact absurd (show false = true from hs) Bool.false_ne_true
  | byt i =>
    obtain ⟨t, rfl⟩ := rx
    cases y with
    | byt j => obtain ⟨t', rfl⟩ := ry; exact PySem.W.ne_bytes (fin_bl I q (congrArg not dec_byt))
    | _ => exact absurd (show false = true from hs) Bool.false_ne_true
  | _ => cases y <;> exact absurd (show false = true from hs) Bool.false_ne_true
theorem op_lt : OpR X (compareOp .Lt) (rI0 fun i j => .bl (decide (i < j))) := opB0 fun _ _ _ _ _ _ _ q => lt_int q
theorem op_le : OpR X (compareOp .LtE) (rI0 fun i j => .bl (decide (i ≤ j))) := opB0 fun _ _ _ _ _ _ _ q => le_int q
theorem op_gt : OpR X (compareOp .Gt) (rI0 fun i j => .bl (decide (j < i))) := opB0 fun _ _ _ _ _ _ _ q => gt_int q
theorem op_ge : OpR X (compareOp .GtE) (rI0 fun i j => .bl (decide (j ≤ i))) := opB0 fun _ _ _ _ _ _ _ q => ge_int q
theorem op_in_str : OpR X (compareOp .In) (fun x y H Q => ∃ i j, x = .str i ∧ y = .str j ∧ Q (.bl (!(Builtin.Str.occurrences j i 0 j.length 1).isEmpty)) H) := by
  intro pins s σ H x y v u Q I rx ry h
  obtain ⟨i, j, rfl, rfl, q⟩ := h
  obtain ⟨t, rfl⟩ := rx
  obtain ⟨t', rfl⟩ := ry
  exact in_str (fin_bl I q rfl)
theorem nomark (b : Expr) {op : CmpOp} (h : op ≠ .In := by decide) (h2 : op ≠ .NotIn := by decide) : behindInMarks op b = false := by
  have e1 : (op == CmpOp.In) = false := by cases op <;> first | rfl | exact absurd rfl h
  have e2 : (op == CmpOp.NotIn) = false := by cases op <;> first | rfl | exact absurd rfl h2
  cases b <;> simp [behindInMarks, e1, e2]
theorem pe_cmpR {op : CmpOp} {r : R2} (ho : OpR X (compareOp op) r) (ha : PE X a ta) (hb : PE X b tb) (hm : behindInMarks op b = false) : PE X (.Compare a [op] [b] pos) (tOp r ta tb) := by
  intro pins s σ H Q I h
  exact wpAny_Compare1 (binT ha hb I h fun v u s2 x y H2 I2 rx ry q => ho pins s2 σ H2 x y v u Q I2 rx ry q) hm
def tTest (t : TE) : TT := fun σ H Q => t σ H fun x H' => ∃ k, x = .bl k ∧ Q k H'
theorem pt_cmpR {op : CmpOp} {r : R2} (ho : OpR X (compareOp op) r) (ha : PE X a ta) (hb : PE X b tb) (hm : behindInMarks op b = false) : PT X (.Compare a [op] [b] pos) (tTest (tOp r ta tb)) := by
  intro pins s σ H Q I h
  refine wpAny_isTrue_Compare1 (thn (ha pins s σ H _ I h) fun v s1 ⟨x, H1, I1, r1, q1⟩ => thn (hb pins s1 σ H1 _ I1 q1) fun u s2 ⟨y, H2, I2, r2, q2⟩ =>
    thn (ho pins s2 σ H2 x y v u _ I2 r1 r2 q2) fun c s3 ⟨z, H3, I3, r3, k, e, q3⟩ => ?_) hm
  subst e
  cases r3
  exact wpAny_truthy_bool ⟨H3, I3, q3⟩
def tChain (r r' : R2) (ta tb tc : TE) : TE := fun σ H Q => ta σ H fun x H1 => tb σ H1 fun y H2 => r x y H2 fun z H3 => ∃ k, z = .bl k ∧
  (if k = true then tc σ H3 fun w' H4 => r' y w' H4 Q else Q (.bl false) H3)
theorem pe_chain {op op' : CmpOp} {r r' : R2} (ho : OpR X (compareOp op) r) (ho' : OpR X (compareOp op') r') (ha : PE X a ta) (hb : PE X b tb) (hc : PE X c tc)
    (hm : lastMarks [op, op'] [b, c] = false := by with_unfolding_all rfl) : PE X (.Compare a [op, op'] [b, c] pos) (tChain r r' ta tb tc) := by
  intro pins s σ H Q I h
  refine Compare_chain (thn (ha pins s σ H _ I h) fun v s1 ⟨x, H1, I1, r1, q1⟩ => chain_link (thn (hb pins s1 σ H1 _ I1 q1) fun u s2 ⟨y, H2, I2, r2, q2⟩ =>
    thn (ho pins s2 σ H2 x y v u _ I2 r1 r2 q2) fun d s3 ⟨z, H3, I3, r3, k, e, q3⟩ => ?_)) hm
  subst e
  cases r3
  refine wpAny_truthy_bool ?_
  cases k with
  | false => exact ite_ff ⟨.bl false, H3, I3, rfl, q3⟩
  | true => exact ite_tt (chain_last (thn (hc pins s3 σ H3 _ I3 q3) fun w' s4 ⟨z', H4, I4, r4, q4⟩ => ho' pins s4 σ H4 y z' u w' Q I4 r2 r4 q4))
theorem pt_chain {op op' : CmpOp} {r r' : R2} (ho : OpR X (compareOp op) r) (ho' : OpR X (compareOp op') r') (ha : PE X a ta) (hb : PE X b tb) (hc : PE X c tc)
    (hm : lastMarks [op, op'] [b, c] = false := by with_unfolding_all rfl) : PT X (.Compare a [op, op'] [b, c] pos) (tTest (tChain r r' ta tb tc)) := by
  intro pins s σ H Q I h
  refine isTrue_chain (thn (ha pins s σ H _ I h) fun v s1 ⟨x, H1, I1, r1, q1⟩ => test_link (thn (hb pins s1 σ H1 _ I1 q1) fun u s2 ⟨y, H2, I2, r2, q2⟩ =>
    thn (ho pins s2 σ H2 x y v u _ I2 r1 r2 q2) fun d s3 ⟨z, H3, I3, r3, k, e, q3⟩ => ?_)) hm
  subst e
  cases r3
  refine wpAny_truthy_bool ?_
  cases k with
  | false =>
    obtain ⟨k', e', q'⟩ := q3
    cases e'
    exact ite_ff ⟨H3, I3, q'⟩
  | true =>
    refine ite_tt (test_last (thn (hc pins s3 σ H3 _ I3 q3) fun w' s4 ⟨z', H4, I4, r4, q4⟩ => thn (ho' pins s4 σ H4 y z' u w' _ I4 r2 r4 q4) fun d' s5 ⟨z2, H5, I5, r5, k2, e2, q5⟩ => ?_))
    subst e2
    cases r5
    exact wpAny_truthy_bool ⟨H5, I5, q5⟩
theorem line63 : (sizeLine : Nat) < 2 ^ 63 := by rw [sizeLine_eq]; decide
theorem op_add_str : OpR X (binaryOp .Add) (fun x y H Q => ∃ i j, x = .str i ∧ y = .str j ∧ i.length + j.length ≤ sizeLine ∧ Q (.str (i ++ j)) H) := by
  intro pins s σ H x y v u Q I rx ry h
  obtain ⟨i, j, rfl, rfl, hz, q⟩ := h
  obtain ⟨t, rfl⟩ := rx
  obtain ⟨t', rfl⟩ := ry
  exact add_str (fun t' tk => ⟨.str (i ++ j), H, I.tok _, ⟨_, rfl⟩, q⟩) hz
theorem vals1 {x : V} {us : List Value} (r : Vals [x] us) : ∃ u, us = [u] ∧ RelV x u := by
  cases r with
  | cons r1 r2 => cases r2; exact ⟨_, rfl, r1⟩
theorem vals2 {x y : V} {us : List Value} (r : Vals [x, y] us) : ∃ u w', us = [u, w'] ∧ RelV x u ∧ RelV y w' := by
  cases r with
  | cons r1 r2 =>
    cases r2 with
    | cons r3 r4 => cases r4; exact ⟨_, _, rfl, r1, r3⟩
theorem call_str_int : CallR X (.type "str") (fun xs H Q => ∃ i, xs = [.int i] ∧ i.natAbs.log2 < 1920 ∧ Q (.str (toString i)) H) := by
  intro pins s σ H xs us Q I r h
  obtain ⟨i, rfl, hz, q⟩ := h
  obtain ⟨u, rfl, t, rfl⟩ := vals1 r
  exact PySem.P.str_of_int hz ⟨.str _, H, I.tok _, ⟨_, rfl⟩, q⟩
end
end L2
namespace L2
open PySem PySem.Spec PyProof.Rows
structure ObjM (h : Heap) (x dx C : Addr) (mA : Str → Option Value) : Prop where
  obj : h.get? x = some (PySem.W.instObj C dx)
  ns : h.Ns1 dx mA
  ne : dx ≠ x
theorem lookIn_ns {h : Heap} {dx : Addr} {mA : Str → Option Value} (n : h.Ns1 dx mA) : ∃ od, h.get? dx = some od ∧ ∀ name, PySem.W.lookIn name od = some (mA name) := by
  obtain ⟨o, es, ep, ho, hd, hk, _, hm⟩ := n
  refine ⟨o, ho, fun name => ?_⟩
  have e := hm name
  unfold nsFind findBy at e
  rw [← Array.find?_toList] at e
  unfold PySem.W.lookIn
  rw [hd]
  dsimp only
  split
  · rename_i y q
    rw [q] at e
    exact congrArg some e
  · rename_i q
    rw [q] at e
    have a : es.toList.any (·.refKey) = false := by
      rw [List.any_eq_false]
      intro y hy
      obtain ⟨z, t, hkey⟩ := hk y (Array.mem_toList_iff.mp hy)
      simp [DictEntry.refKey, hkey]
    have a' : ¬ es.toList.any (·.refKey) = true := by rw [a]; exact Bool.false_ne_true
    rw [if_neg a']
    exact congrArg some e
theorem ObjM.look {h : Heap} {x dx C : Addr} {mA : Str → Option Value} (I : ObjM h x dx C mA) : ∃ od, PySem.W.InstAt h x (PySem.W.instObj C dx) C (some od) ∧ ∀ name, PySem.W.lookIn name od = some (mA name) :=
  let ⟨od, ho, hl⟩ := lookIn_ns I.ns
  ⟨od, ⟨I.obj, rfl, rfl, ho⟩, hl⟩
section
variable {prog : Program} {w : World} {A : Around} {E : Value → Shared → Prop} {s : Shared} {K : PySem.W.Frag} {x dx C f : Addr} {mA : Str → Option Value} {name : Str} {v : Value}
end
section
variable {P : Program} {w : World} {H H' : Hp} {h h' : Heap} {a C dx : Addr} {fs fs' : List (Str × V)}
theorem ins_get (hok : HOk P w H h) (e : H a = some (.ins C dx fs)) : ∃ mA, ObjM h a dx C mA ∧ (∀ f, RelO (fs.lookup f) (mA f)) ∧ PySem.Within mA (fs.map (·.1)) ∧ fs.length ≤ 1000 ∧ H dx = some (.own a) := by
  obtain ⟨d, z, ne, ob, mA, n, r, q⟩ := (show ObjOk P w H h a (.ins C dx fs) from hok a _ e)
  exact ⟨mA, ⟨ob, n, ne⟩, r, q, z, d⟩
end
structure Cls (K : PySem.W.Frag) (C : Addr) : Prop where
  pg : PySem.W.plainGet K C Str.empty = true
  hd : PySem.W.hasDictIn K C = true
  po : PySem.W.plainOver K C = true
  sa : PySem.W.findIn K (.ref C) "__setattr__" = some (some (.builtin "object.__setattr__"))
theorem Cls.get {K : PySem.W.Frag} {C : Addr} (c : Cls K C) (f : Str) : PySem.W.plainGet K C f = true := c.pg
def NoAttr (K : PySem.W.Frag) (C : Addr) (f : Str) : Prop := PySem.W.findIn K (.ref C) f = some none
structure Con (K : PySem.W.Frag) (C : Addr) (f : Str) (v : V) (u : Value) : Prop where
  at_ : PySem.W.findIn K (.ref C) f = some (some u)
  rel : RelV v u
  get : PySem.W.specialIn K u "__get__" = some none
  cp : PySem.W.copiedNames.contains f = false
structure Meth (K : PySem.W.Frag) (C : Addr) (m : Str) (f : Addr) : Prop where
  at_ : PySem.W.findIn K (.ref C) m = some (some (.ref f))
  fn : PySem.W.isFn K (.ref f) = true
  kp : PySem.W.keepIn K (.ref f) = true
section
variable {X : Cx} {pins : List (Addr × Obj)} {σ : St} {H : Hp} {s : Shared} {a C dx : Addr} {fs : List (Str × V)} {f : Str} {v : V} {A : Around} {E : Value → Shared → Prop}
end
section
variable {X : Cx} {o e value : Expr} {f : Str} {pos pos' tpos : Pos} {ta tv : TE}
end
section
variable {X : Cx} {pins : List (Addr × Obj)} {σ : St} {H : Hp} {s : Shared} {A : Around} {E : Value → Shared → Prop} {Q : Value → Shared → Prop} {c : Value} {b : Bool}
inductive TyOf (K : PySem.W.Frag) (H : Hp) : V → Value → Prop where
  | non : TyOf K H .non (.type "NoneType")
  | bl (x : Bool) : TyOf K H (.bl x) (.type "bool")
  | int (i : Int) : TyOf K H (.int i) (.type "int")
  | str (x : Str) : TyOf K H (.str x) (.type "str")
  | flt (x : UInt64) : TyOf K H (.flt x) (.type "float")
  | lst {a : Addr} {xs : List V} (e : H a = some (.lst xs)) : TyOf K H (.ref a) (.type "list")
  | frz {a : Addr} {o : Obj} {xs : List V} (e : H a = some (.frz o (.lst xs))) : TyOf K H (.ref a) (.type "list")
  | tup {a : Addr} {xs : List V} (e : H a = some (.tup xs)) : TyOf K H (.ref a) (.type "tuple")
  | dK {a : Addr} {kvs : List (Key × V)} (e : H a = some (.dK kvs)) : TyOf K H (.ref a) (.type "dict")
  | dT {a : Addr} {kvs : List (List Key × V)} (e : H a = some (.dT kvs)) : TyOf K H (.ref a) (.type "dict")
  | ins {a C dx : Addr} {fs : List (Str × V)} (e : H a = some (.ins C dx fs)) (cl : Cls K C) (ha : PySem.W.findIn K (.ref C) "__class__" = some (some (.builtin "object.__class__")))
      (hn : PySem.W.specialIn K (.builtin "object.__class__") "__get__" = some (some (.builtin "getset_descriptor.__get__"))) (htk : PySem.W.takesIn K (.builtin "object.__class__") = some true)
      (hm : PySem.W.mroIn K C (.type "object") = some true) : TyOf K H (.ref a) (.ref C)
theorem isinst_ok {x : V} {u t : Value} (I : Inv X pins σ H s) (rx : RelV x u) (ty : TyOf X.K H x t) (e : PySem.W.kitOne X.K t c = some b) (h : ∀ tk, Q (.bool b) { s with toks := tk }) :
    wpAny (model X.prog X.w) A (call (.builtin "isinstance") [u, c]) Q E s := by
  cases ty with
  | non => cases (show u = Value.none from rx); exact PySem.W.kia_one PySem.W.kitx_none I.kIn True.intro e (fun z => nomatch z) h
  | bl y => cases (show u = Value.bool y from rx); exact PySem.W.kia_one PySem.W.kitx_bool I.kIn True.intro e (fun z => nomatch z) h
  | int i => obtain ⟨t, q⟩ := (show ∃ t, u = Value.int i t from rx); cases q; exact PySem.W.kia_one PySem.W.kitx_int I.kIn True.intro e (fun z => nomatch z) h
  | str y => obtain ⟨t, q⟩ := (show ∃ t, u = Value.str y t from rx); cases q; exact PySem.W.kia_one PySem.W.kitx_str I.kIn True.intro e (fun z => nomatch z) h
  | flt y => obtain ⟨t, q⟩ := (show ∃ t, u = Value.float y t from rx); cases q; exact PySem.W.kia_one PySem.W.kitx_float I.kIn True.intro e (fun z => nomatch z) h
  | @lst a xs ea =>
    cases (show u = Value.ref a from rx)
    obtain ⟨_, _, n, _, h1⟩ := (show ObjOk X.prog X.w H s.heap a (.lst xs) from I.hok a _ ea)
    exact PySem.W.kia_one PySem.W.kitx_list I.kIn ⟨_, h1, rfl⟩ e (fun z => nomatch z) h
  | @frz a ob xs ea =>
    cases (show u = Value.ref a from rx)
    obtain ⟨_, _, _, n, _, h1⟩ := (show ObjOk X.prog X.w H s.heap a (.frz ob (.lst xs)) from I.hok a _ ea)
    exact PySem.W.kia_one PySem.W.kitx_list I.kIn ⟨_, h1, rfl⟩ e (fun z => nomatch z) h
  | @tup a xs ea =>
    cases (show u = Value.ref a from rx)
    obtain ⟨_, _, _, p⟩ := (show ObjOk X.prog X.w H s.heap a (.tup xs) from I.hok a _ ea)
    obtain ⟨o, h1, h2, _⟩ := p
    exact PySem.W.kia_one PySem.W.kitx_tuple I.kIn ⟨o, h1, h2⟩ e (fun z => nomatch z) h
  | @dK a kvs ea =>
    cases (show u = Value.ref a from rx)
    obtain ⟨_, _, vs, _, p⟩ := (show ObjOk X.prog X.w H s.heap a (.dK kvs) from I.hok a _ ea)
    obtain ⟨o, es, ep, h1, h2, _⟩ := p
    exact PySem.W.kia_one PySem.W.kitx_dict I.kIn ⟨o, h1, h2.1⟩ e (fun z => nomatch z) h
  | @dT a kvs ea =>
    cases (show u = Value.ref a from rx)
    obtain ⟨_, _, xs, _, o, es, ep, h1, h2, _⟩ := (show ObjOk X.prog X.w H s.heap a (.dT kvs) from I.hok a _ ea)
    exact PySem.W.kia_one PySem.W.kitx_dict I.kIn ⟨o, h1, h2.1⟩ e (fun z => nomatch z) h
  | @ins a C dx fs ea cl ha hn htk hm =>
    cases (show u = Value.ref a from rx)
    obtain ⟨mA, O, _⟩ := ins_get I.hok ea
    obtain ⟨od, J, _⟩ := O.look
    exact PySem.W.kia_one (PySem.W.kitx_own (cl.get _) cl.hd ha hn htk hm) I.kIn J e (fun z => nomatch z) h
end
end L2
namespace L2
open PySem PySem.Spec PyProof.Rows
structure Room (k : Nat) (A : Around) : Prop where
  hd : A.handled = none
  dp : A.depth + 3 * k + 5 < recursionLimit
  un : A.units + 16 * k + 200 < cLine
theorem Room.mono {j k : Nat} {A : Around} (r : Room k A) (h : j ≤ k) : Room j A := ⟨r.hd, by have := r.dp; omega, by have := r.un; omega⟩
theorem Room.deeper {k : Nat} {A : Around} (r : Room (k + 1) A) (env : Env) : Room k (A.deeper env) :=
  ⟨r.hd, by have := r.dp; show A.depth + 1 + 3 * k + 5 < _; omega, by have := r.un; show A.units + 3 + 16 * k + 200 < _; omega⟩
theorem Room.depth {k : Nat} {A : Around} (r : Room k A) : A.depth < recursionLimit := by have := r.dp; omega
theorem Room.units {k : Nat} {A : Around} (r : Room k A) : A.units + 64 < cLine := by have := r.un; omega
def tNil : TA := fun _ H Q => Q [] H
def tCons (ta : TE) (tr : TA) : TA := fun σ H Q => ta σ H fun x H1 => tr σ H1 fun xs H2 => Q (x :: xs) H2
section
variable {X : Cx} {e : Expr} {es : List Expr} {te : TE} {t : TA} {pos : Pos}
theorem pa_nil : PA X [] tNil := fun _ _ _ _ H Q I h => Calls.spliced_nil ⟨[], H, I, .nil, h⟩
theorem pa_cons (ha : PE X e te) (hr : PA X es t) (hs : starEach (e :: es) X.env = (false, eval e X.env) :: starEach es X.env := by rfl) : PA X (e :: es) (tCons te t) := by
  intro pos pins s σ H Q I h
  rw [hs]
  show wpAny _ _ (spliced ((false, eval e X.env) :: backTo pos (starEach es X.env))) _ _ s
  refine Calls.spliced_cons (thn (ha pins s σ H _ I h) fun u s1 ⟨x, H1, I1, r1, q1⟩ => ?_)
  exact thn (hr pos pins s1 σ H1 _ I1 q1) fun us s2 ⟨xs, H2, I2, r2, q2⟩ => ⟨x :: xs, H2, I2, .cons r1 r2, q2⟩
def tLst (t : TA) : TE := fun σ H Q => t σ H fun xs H1 => xs.length ≤ sizeLine ∧ ∀ p, H1 p = none → Q (.ref p) (upd H1 p (.lst xs))
theorem pe_lst (h : PA X es t) : PE X (.List es pos) (tLst t) := by
  intro pins s σ H Q I hq
  refine wpAny_List_spliced (thn (h pos pins s σ H _ I hq) fun us s1 ⟨xs, H1, I1, r, z, q⟩ => ⟨by rw [← r.length]; exact z, ?_⟩)
  have hf : H1 s1.heap.objs.size = none := I1.hok.fresh (Nat.le_refl _)
  refine ⟨.ref s1.heap.objs.size, upd H1 s1.heap.objs.size (.lst xs), I1.laid (t' := s1.toks) (fun b u e => Heap.get?_push_of_some _ e) (Nat.le_refl _) ?_, rfl, q _ hf⟩
  exact ⟨z, us, 0, r, Heap.get?_push_size _ rfl⟩
end
abbrev Sp := List V → Hp → VK → XK → Prop
abbrev CXT := List Env → Hp → Shared → XK → Value → Shared → Prop
structure Env0 (P : Program) (w : World) (K : PySem.W.Frag) (mg : Str → Option Value) (base : Heap) (A : Around) (outer : List Env) (s : Shared) (H : Hp) : Prop where
  frames : A.frames = some outer
  mod : Mod K mg base
  bs : ∀ b o, base.get? b = some o → s.heap.get? b = some o ∧ H b = none
  bsz : base.objs.size ≤ s.heap.objs.size
  funs : s.heap.FunFrames base outer
  frf : ∀ b ∈ frs outer, H b = none
  hok : HOk P w H s.heap
  bare : AllBare s.gens
def CE (outer : List Env) (P : Program) (w : World) (H : Hp) (s : Shared) (Q : VK) (u : Value) (s' : Shared) : Prop :=
  ∃ v H', s'.os = s.os ∧ AllBare s'.gens ∧ Un (frs outer) [] H H' s.heap s'.heap ∧ HOk P w H' s'.heap ∧ RelV v u ∧ Q v H'
def CR (CX : CXT) (outer : List Env) (P : Program) (w : World) (H : Hp) (s : Shared) (Q : VK) (E : XK) (r : Result) (s' : Shared) : Prop :=
  match r with
  | .ok (.ret u) => CE outer P w H s Q u s'
  | .ok _ => False
  | .error e => CX outer H s E e s'
structure FnOk (P : Program) (w : World) (K : PySem.W.Frag) (mg : Str → Option Value) (base : Heap) (CX : CXT) (k : Nat) (f : Addr) (fd : FuncData) (ps : List Str) (sp : Sp) : Prop where
  len : ∀ vs H Q E, sp vs H Q E → vs.length = ps.length
  run : ∀ (A : Around) (outer : List Env) (s : Shared) (H : Hp) (args : Args) (us : List Value) (vs : List V) (Q : VK) (E : XK), Room k A → Env0 P w K mg base A outer s H → BindsTo s fd args (ps.zip us) → Vals vs us → sp vs H Q E →
    codeAny (model P w) A (.call (.ref f) args) (CR CX outer P w H s Q E) s
theorem FnOk.mono {P : Program} {w : World} {K : PySem.W.Frag} {mg : Str → Option Value} {base : Heap} {CX : CXT} {j k : Nat} {f : Addr} {fd : FuncData} {ps : List Str} {sp : Sp} (F : FnOk P w K mg base CX j f fd ps sp) (h : j ≤ k) :
    FnOk P w K mg base CX k f fd ps sp := ⟨F.len, fun A outer s H args us vs Q E hr => F.run A outer s H args us vs Q E (hr.mono h)⟩
section
variable {X : Cx} {pins : List (Addr × Obj)} {σ : St} {H : Hp} {s s' : Shared}
theorem Inv.env0 (I : Inv X pins σ H s) : Env0 X.prog X.w X.K X.mg X.base X.A X.stack s H :=
  ⟨I.ok.frames, I.ok.mod, I.bs, Nat.le_trans I.ok.bsz I.sz, I.stack, I.stkFree, I.hok, I.bare⟩
theorem Inv.after {Q : VK} {u : Value} (I : Inv X pins σ H s) (h : CE X.stack X.prog X.w H s Q u s') : EP X pins σ Q u s' := by
  obtain ⟨v, H', os, bare, un, hok, r, q⟩ := h
  obtain ⟨hh, g, d, t, os'⟩ := s'
  obtain rfl : os' = s.os := os
  exact ⟨v, H', I.call (h' := hh) (g' := g) (d' := d) (t' := t) (ch := []) un hok bare (fun b z => absurd z (by simp)), r, q⟩
end
def tCall (sp : Sp) (dvs : List V) (E : XK) (t : TA) : TE := fun σ H Q => t σ H fun vs H1 => sp (vs ++ dvs) H1 Q E
def Binds (K : PySem.W.Frag) (fd : FuncData) (ps : List Str) (ds : List Value) : Prop :=
  ∀ (s : Shared) (us : List Value), K.In s.heap → (us ++ ds).length = ps.length → BindsTo s fd ⟨us, []⟩ (ps.zip (us ++ ds))
theorem Binds.all {K : PySem.W.Frag} {fd : FuncData} {ps : List Str} (h : ∀ us : List Value, us.length = ps.length → bindArgs fd ⟨us, []⟩ = pure (ps.zip us)) : Binds K fd ps [] := fun s us _ hl => by
  rw [List.append_nil] at hl ⊢
  exact .of_eq (h us hl)
def Passes (CX : CXT) (X : Cx) (E : XK) : Prop := ∀ (pins : List (Addr × Obj)) (σ : St) (H : Hp) (s : Shared) (e : Value) (s' : Shared), Inv X pins σ H s → CX X.stack H s E e s' → X.xe e s'
section
variable {X : Cx} {CX : CXT} {k : Nat} {f C : Addr} {fd : FuncData} {ps : List Str} {sp : Sp} {dvs : List V} {ds : List Value} {E : XK} {x m : Str} {p pos apos : Pos} {e o : Expr} {es : List Expr} {ta : TE} {t : TA}
theorem run_fn {pins : List (Addr × Obj)} {σ : St} {H : Hp} {s : Shared} {Q : VK} {us : List Value} {vs : List V} (F : FnOk X.prog X.w X.K X.mg X.base CX k f fd ps sp) (hr : Room k X.A) (hb : Binds X.K fd ps ds) (hd : Vals dvs ds) (hx : Passes CX X E)
    (I : Inv X pins σ H s) (r : Vals vs us) (h : sp (vs ++ dvs) H Q E) : wpAny (model X.prog X.w) X.A (call (.ref f) us) (EP X pins σ Q) X.xe s := by
  have r2 : Vals (vs ++ dvs) (us ++ ds) := r.append hd
  have hl : (us ++ ds).length = ps.length := by rw [← r2.length]; exact F.len _ _ _ _ h
  refine wpAny_call (codeAny_mono (F.run X.A X.stack s H ⟨us, []⟩ (us ++ ds) (vs ++ dvs) Q E hr I.env0 (hb s us I.kIn hl) r2 h) fun r s' hq => ?_)
  cases r with
  | error e => exact hx pins σ H s e s' I hq
  | ok fl =>
    cases fl with
    | ret u => exact I.after hq
    | next => exact False.elim hq
    | brk => exact False.elim hq
    | cont => exact False.elim hq
theorem pe_call (F : FnOk X.prog X.w X.K X.mg X.base CX k f fd ps sp) (hr : Room k X.A) (hg : Gl X x) (hm : X.mg x = some (.ref f)) (hk : PySem.W.keepIn X.K (.ref f) = true) (hb : Binds X.K fd ps ds) (hd : Vals dvs ds) (hx : Passes CX X E)
    (ha : PA X (e :: es) t) (hdb : (x == ("__debug__" : Str)) = false := by decide) (he : starEach (e :: es) X.env = (false, eval e X.env) :: starEach es X.env := by rfl) (hpl : (backTo pos (starEach es X.env)).any (·.1) = false := by rfl) :
    PE X (.Call (.Name x p) (e :: es) [] pos) (tCall sp dvs E t) := by
  intro pins s σ H Q I h
  refine wpAny_Call_Name_kw (ld_glob I hg hm ?_ hdb)
  refine PySem.W.callWith_K (h₀ := X.base) I.ok.mod.kin hk (thn (ha pos pins s σ H _ I h) fun us s1 ⟨vs, H1, I1, r, q⟩ => ⟨I1.kIn, ?_⟩) he hpl
  exact run_fn F hr hb hd hx I1 r q
structure Mk (K : PySem.W.Frag) (C f : Addr) : Prop where
  makes : PySem.W.makesIn K C = true
  init : PySem.W.findIn K (.ref C) "__init__" = some (some (.ref f))
  fn : PySem.W.isFn K (.ref f) = true
  kp : PySem.W.keepIn K (.ref C) = true
end
section
variable {X : Cx} {CX : CXT} {k : Nat} {f C : Addr} {fd : FuncData} {ps ks : List Str} {sp : Sp} {E : XK} {x m : Str} {p pos apos kpos : Pos} {e o : Expr} {es : List Expr} {kws : List Keyword} {te ta : TE} {t tk : TA} {nm : Option Str}
structure KBinds (K : PySem.W.Frag) (fd : FuncData) (ps ks : List Str) (g : List Value → List Value → List Value) (gV : List V → List V → List V) : Prop where
  to : ∀ (s : Shared) (us ws : List Value), K.In s.heap → (g us ws).length = ps.length → BindsTo s fd ⟨us, ks.zip ws⟩ (ps.zip (g us ws))
  rel : ∀ {vs : List V} {us : List Value} {zs : List V} {ws : List Value}, Vals vs us → Vals zs ws → Vals (gV vs zs) (g us ws)
variable {g : List Value → List Value → List Value} {gV : List V → List V → List V}
end
structure FnScope (N P : List Str) (sc : Scope) : Prop where
  kind : sc.kind = .function
  co : sc.isCoroutine = false
  gen : sc.isGenerator = false
  nd : N.Nodup
  pre : N.take P.length = P
  par : ∀ x ∈ P, sc.names.lookup x = some .local ∨ sc.names.lookup x = some .cell
  nofree : ∀ y ∈ sc.names, y.2 ≠ .free
theorem bindL_out {kindOf : Str → Option NameKind} {x : Str} : ∀ {binds : List (Str × Value)} {m : Str → Option Value}, (∀ v, (x, v) ∉ binds) → bindL kindOf binds m x = m x
  | [], _, _ => rfl
  | (n, v) :: r, m, h => by
    unfold bindL
    rw [bindL_out fun w hw => h w (List.mem_cons_of_mem _ hw)]
    split
    · have : x ≠ n := by rintro rfl; exact h v List.mem_cons_self
      simp [this]
    · rfl
theorem bindC_out {kindOf : Str → Option NameKind} {x : Str} : ∀ {binds : List (Str × Value)} {m : Str → Option Value}, (∀ v, (x, v) ∉ binds) → bindC kindOf binds m x = m x
  | [], _, _ => rfl
  | (n, v) :: r, m, h => by
    unfold bindC
    rw [bindC_out fun w hw => h w (List.mem_cons_of_mem _ hw)]
    split
    · rfl
    · have : x ≠ n := by rintro rfl; exact h v List.mem_cons_self
      simp [this]
theorem bindL_get {kindOf : Str → Option NameKind} {x : Str} {v : Value} : ∀ {P : List Str} {vs : List Value} {i : Nat} {m : Str → Option Value}, P.Nodup → P[i]? = some x → vs[i]? = some v → kindOf x = some .local →
    bindL kindOf (P.zip vs) m x = some v
  | [], _, _, _, _, h, _, _ => by simp at h
  | _ :: _, [], _, _, _, _, h, _ => by simp at h
  | p :: P, w :: vs, 0, m, nd, h1, h2, hk => by
    simp at h1 h2; subst h1; subst h2
    show bindL kindOf ((p, w) :: P.zip vs) m p = _
    unfold bindL
    rw [bindL_out fun v hv => (List.nodup_cons.mp nd).1 (List.of_mem_zip hv).1, if_pos hk]
    simp
  | p :: P, w :: vs, i + 1, m, nd, h1, h2, hk => by
    show bindL kindOf ((p, w) :: P.zip vs) m x = _
    unfold bindL
    exact bindL_get (i := i) (List.nodup_cons.mp nd).2 (by simpa using h1) (by simpa using h2) hk
theorem bindC_get {kindOf : Str → Option NameKind} {x : Str} {v : Value} : ∀ {P : List Str} {vs : List Value} {i : Nat} {m : Str → Option Value}, P.Nodup → P[i]? = some x → vs[i]? = some v → kindOf x ≠ some .local →
    bindC kindOf (P.zip vs) m x = some v
  | [], _, _, _, _, h, _, _ => by simp at h
  | _ :: _, [], _, _, _, _, h, _ => by simp at h
  | p :: P, w :: vs, 0, m, nd, h1, h2, hk => by
    simp at h1 h2; subst h1; subst h2
    show bindC kindOf ((p, w) :: P.zip vs) m p = _
    unfold bindC
    rw [bindC_out fun v hv => (List.nodup_cons.mp nd).1 (List.of_mem_zip hv).1, if_neg hk]
    simp
  | p :: P, w :: vs, i + 1, m, nd, h1, h2, hk => by
    show bindC kindOf ((p, w) :: P.zip vs) m x = _
    unfold bindC
    exact bindC_get (i := i) (List.nodup_cons.mp nd).2 (by simpa using h1) (by simpa using h2) hk
def start (N : List Str) (vs : List V) : St := vs.map some ++ List.replicate (N.length - vs.length) none
def cxOf (CX : CXT) (P : Program) (w : World) (K : PySem.W.Frag) (mg : Str → Option Value) (base : Heap) (N : List Str) (qual : Str) (scope : Scope) (f : Addr) (cd : Value) (A : Around) (outer : List Env) (s : Shared) (H : Hp) (E : XK) : Cx where
  prog := P
  w := w
  K := K
  mg := mg
  base := base
  A := A.deeper (envOfC qual scope s.heap.objs.size f cd)
  N := N
  s₀ := s
  H₀ := H
  env := envOfC qual scope s.heap.objs.size f cd
  outer := outer
  stack := envOfC qual scope s.heap.objs.size f cd :: outer
  ex := []
  calm := true
  fn := fun _ => true
  pn := []
  xe := fun e s' => wpAny (model P w) (A.deeper (envOfC qual scope s.heap.objs.size f cd)) (leaving (envOfC qual scope s.heap.objs.size f cd) e) (fun _ s'' => CX outer H s E e s'') (fun e' s'' => CX outer H s E e' s'') s'
theorem cell_has {sc : Scope} {n : Nat} {x : Str} (h : sc.names.lookup x = some .cell) : ∃ c, (cellsFrom n sc.names []).lookup x = some c := by
  have q := PySem.W.cellsFrom_some sc.names n [] (.inl h)
  exact Option.isSome_iff_exists.mp q
theorem inv_start {CX : CXT} {P : Program} {w : World} {K : PySem.W.Frag} {mg : Str → Option Value} {base : Heap} {N ps : List Str} {qual : Str} {scope : Scope} {f : Addr} {cd : Value} {A : Around} {outer : List Env} {s s1 : Shared} {H : Hp} {E : XK} {us : List Value} {vs : List V}
    (S : FnScope N ps scope) (hd : A.handled = none) (e0 : Env0 P w K mg base A outer s H) (hl : vs.length = ps.length) (r : Vals vs us)
    (x : InCallC s s.heap.objs.size (bindL (envOfC qual scope s.heap.objs.size f cd).kindOf (ps.zip us) fun _ => none) (cellsFrom (s.heap.objs.size + 1) scope.names []) (bindC (envOfC qual scope s.heap.objs.size f cd).kindOf (ps.zip us) fun _ => none) s1) :
    Inv (cxOf CX P w K mg base N qual scope f cd A outer s H E) [] (start N vs) H s1 := by
  have hpl : ps.length ≤ N.length := by have := congrArg List.length S.pre; rw [List.length_take] at this; omega
  obtain ⟨h1, tk, rfl, hk⟩ := x.done
  have noA : ∀ b : Addr, b ∉ (cxOf CX P w K mg base N qual scope f cd A outer s H E).ex := fun b z => absurd (show b ∈ ([] : List Addr) from z) (by simp)
  refine ⟨⟨e0.mod, S.kind, rfl, rfl, Nat.le_refl _, fun y z c h1 h2 => ?_, fun y hy => ?_, fun y c _ h => ?_, fun _ => hd, Around.frames_deeper e0.frames, .inr ⟨rfl, rfl⟩, fun b z => absurd z (noA b), e0.bs, e0.bsz, fun b _ _ => noA b, fun b z => absurd z (noA b), e0.funs, e0.frf⟩,
    rfl, e0.bare, Un.kept hk, ⟨_, x.toInCall.ns, fun i y v h1 h2 h3 => ?_⟩, fun y c h => ⟨_, x.cell y c h⟩, e0.hok.fresh (Nat.le_refl _), fun y c h => ?_, fun p hp => absurd (show p ∈ ([] : List (Addr × Obj)) from hp) (by simp), e0.hok.kept hk, ?_⟩
  · exact name_of_addr x.apart (PySem.mem_of_lookup h1) (PySem.mem_of_lookup h2)
  · have hy : scope.names.lookup y = some .cell ∨ scope.names.lookup y = some .free := hy
    rcases hy with hy | hy
    · exact cell_has hy
    · exact absurd rfl (S.nofree _ (PySem.mem_of_lookup hy))
  · exact Nat.le_of_lt (x.above y c (PySem.mem_of_lookup h))
  · have hi : i < vs.length := by
      unfold start at h2
      by_cases hi : i < vs.length
      · exact hi
      · rw [List.getElem?_append_right (by simpa using hi)] at h2
        rw [List.getElem?_replicate] at h2
        split at h2 <;> cases h2
    have ha : vs[i]? = some v := by
      unfold start at h2
      rw [List.getElem?_append_left (by simpa using hi), List.getElem?_map] at h2
      cases e : vs[i]? with
      | none => rw [e] at h2; cases h2
      | some a => rw [e] at h2; cases h2; rfl
    obtain ⟨u, hu, rv⟩ := r.get ha
    have hp : ps[i]? = some y := by
      rw [← S.pre, List.getElem?_take_of_lt (by omega)]; exact h1
    have ndP : ps.Nodup := by rw [← S.pre]; exact S.nd.sublist (List.take_sublist _ _)
    refine ⟨u, rv, ?_⟩
    rcases S.par y (List.mem_of_getElem? hp) with k | k
    · exact .inl ⟨k, bindL_get ndP hp hu k⟩
    · obtain ⟨c, e⟩ := cell_has (n := s.heap.objs.size + 1) k
      refine .inr ⟨.inl k, c, e, ?_⟩
      have q := x.cell y c e
      rw [bindC_get ndP hp hu (by show scope.names.lookup y ≠ _; rw [k]; decide)] at q
      exact q
  · exact e0.hok.fresh (Nat.le_of_lt (x.above y c (PySem.mem_of_lookup h)))
  · unfold start
    show _ = N.length
    rw [List.length_append, List.length_map, List.length_replicate]
    omega
theorem fn_of {CX : CXT} {P : Program} {w : World} {K : PySem.W.Frag} {mg : Str → Option Value} {base : Heap} {k : Nat} {f : Addr} {name qual : Str} {params : Arguments} {body : List Stmt} {scope : Scope} {dV kV doc pm cdv ct oc : Value} {an od : Option Addr}
    {osl : Array (Option Value)} {N ps : List Str} {sp : Sp} (lk : K.lookup f = some ⟨oc, od, .func (PySem.W.fnOf name qual params body scope dV kV doc pm an cdv ct), osl⟩) (hcd : PySem.W.codeIn K cdv qual = true) (S : FnScope N ps scope)
    (len : ∀ vs H Q E, sp vs H Q E → vs.length = ps.length)
    (hbody : ∀ (A : Around) (outer : List Env) (s : Shared) (H : Hp) (vs : List V) (Q : VK) (E : XK), Room k (A.deeper (envOfC qual scope s.heap.objs.size f cdv)) → sp vs H Q E →
      ∃ t, PSs (cxOf CX P w K mg base N qual scope f cdv A outer s H E) body t ∧ t { nx := fun _ H' => Q .non H', rt := Q } (start N vs) H) :
    FnOk P w K mg base CX (k + 1) f (PySem.W.fnOf name qual params body scope dV kV doc pm an cdv ct) ps sp := by
  refine ⟨len, fun A outer s H args us vs Q E hr e0 hb r hsp => ?_⟩
  have hl := len _ _ _ _ hsp
  have KX : K.In s.heap := e0.mod.kin.keeps fun b o e => (e0.bs b o e).1
  have lim : s.heap.NoLimit := e0.mod.nolimit.keeps fun b o e => (e0.bs b o e).1
  have hkind : ∀ y ∈ ps.zip us, scope.names.lookup y.1 = some .local ∨ (scope.names.lookup y.1 = some .cell ∧ ((cellsFrom (s.heap.objs.size + 1) scope.names []).lookup y.1).isSome = true) := fun ⟨n, v⟩ hy => by
    rcases S.par n (List.of_mem_zip hy).1 with q | q
    · exact .inl q
    · exact .inr ⟨q, PySem.W.cellsFrom_some _ _ _ (.inl q)⟩
  refine codeAny_call_function hr.depth (KX _ _ lk) rfl S.co S.gen rfl (PySem.W.codeRec_of KX hcd) (hb _ _ _ _ ?_)
  refine wpAny_newFunctionEnv_cells S.kind hkind fun env he s1 x => ?_
  subst he
  refine ⟨lim.keeps x.toInCall.keep, codeAny_func ?_⟩
  obtain ⟨t, ht, hq⟩ := hbody A outer s H vs Q E (hr.deeper _) hsp
  have I : Inv (cxOf CX P w K mg base N qual scope f cdv A outer s H E) [] (start N vs) H s1 := inv_start S hr.hd e0 hl r x
  refine wpAny_mono (ht [] s1 (start N vs) H _ I hq) (fun fl s' hs => ?_) fun e s' hs => hs
  have fin : ∀ {σ' : St} {H' : Hp} {v : V} {u : Value}, Inv (cxOf CX P w K mg base N qual scope f cdv A outer s H E) [] σ' H' s' → RelV v u → Q v H' → CE outer P w H s Q u s' :=
    fun {σ' H' v u} J rv q => ⟨v, H', J.os, J.bare, J.base, J.hok, rv, q⟩
  cases fl with
  | ret u =>
    obtain ⟨v, σ', H', J, rv, q⟩ := hs
    exact fin J rv q
  | next =>
    obtain ⟨σ', H', J, q⟩ := hs
    exact fin (v := V.non) (u := Value.none) J rfl q
  | brk =>
    obtain ⟨_, _, _, q⟩ := hs
    exact False.elim q
  | cont =>
    obtain ⟨_, _, _, q⟩ := hs
    exact False.elim q
end L2
namespace L2
open PySem PySem.Spec PyProof.Rows
section
variable {X : Cx} {x : Str} {p pos : Pos} {e : Expr} {es : List Expr} {t : TA} {id T : String} {r : List V → Hp → VK → Prop}
def tCB (r : List V → Hp → VK → Prop) (t : TA) : TE := fun σ H Q => t σ H fun vs H1 => r vs H1 Q
theorem pe_callB (hc : CallR X (.builtin id) r) (hg : Gl X x) (hm : X.mg x = none) (hv : bootBuiltins x = some (.builtin id)) (ha : PA X (e :: es) t) (hn : x ≠ "__name__" := by decide) (hdb : (x == ("__debug__" : Str)) = false := by decide)
    (he : starEach (e :: es) X.env = (false, eval e X.env) :: starEach es X.env := by rfl) (hpl : (backTo pos (starEach es X.env)).any (·.1) = false := by rfl) : PE X (.Call (.Name x p) (e :: es) [] pos) (tCB r t) := by
  intro pins s σ H Q I h
  refine wpAny_Call_Name_kw (ld_blt I hg hm hv ?_ hn hdb)
  exact PyProof.Rows.callWith_builtin1 (thn (ha pos pins s σ H _ I h) fun us s1 ⟨vs, H1, I1, r1, q1⟩ => hc pins s1 σ H1 vs us Q I1 r1 q1) he hpl
theorem pe_callTy (hc : CallR X (.type T) r) (hg : Gl X x) (hm : X.mg x = none) (hv : bootBuiltins x = some (.type T)) (ha : PA X (e :: es) t) (hn : x ≠ "__name__" := by decide) (hdb : (x == ("__debug__" : Str)) = false := by decide)
    (he : starEach (e :: es) X.env = (false, eval e X.env) :: starEach es X.env := by rfl) (hpl : (backTo pos (starEach es X.env)).any (·.1) = false := by rfl) : PE X (.Call (.Name x p) (e :: es) [] pos) (tCB r t) := by
  intro pins s σ H Q I h
  refine wpAny_Call_Name_kw (ld_blt I hg hm hv ?_ hn hdb)
  exact PyProof.Rows.callWith_type1 (thn (ha pos pins s σ H _ I h) fun us s1 ⟨vs, H1, I1, r1, q1⟩ => hc pins s1 σ H1 vs us Q I1 r1 q1) he hpl
end
end L2
namespace HT
open PySem PyProof.Rows
section
open PySem.SeqAt
open PySem.AutoSeq1 (wpAny_loadPart')
open PySem.MeetsSeq PySem.MeetsSeq2 PySem.MeetsSeq3
end
section
variable {prog : Program} {w : World} {A : Around} {E : Value → Shared → Prop} {s : Shared}
def sIx (n d : Nat) : Option Int → Nat
  | none => d
  | some v => if v < 0 then (v + (n : Int)).toNat else min v.toNat n
theorem sIx_none (n d : Nat) : sIx n d none = d := rfl
theorem sIx_nat (n d k : Nat) : sIx n d (some (k : Int)) = min k n := by
  show (if (k : Int) < 0 then ((k : Int) + (n : Int)).toNat else min (k : Int).toNat n) = min k n
  rw [if_neg (by omega), Int.toNat_natCast]
theorem sIx_le (n d : Nat) (hd : d ≤ n) (o : Option Int) : sIx n d o ≤ n := by
  cases o with
  | none => exact hd
  | some v =>
    show (if v < 0 then (v + (n : Int)).toNat else min v.toNat n) ≤ n
    by_cases hv : v < 0
    · rw [if_pos hv]; omega
    · rw [if_neg hv]; exact Nat.min_le_right _ _
end
end HT
namespace L2
open PySem PySem.Spec PyProof.Rows
abbrev TO := St → Hp → (Option Int → Hp → Prop) → Prop
def PO (X : Cx) (e : Option Expr) (t : TO) : Prop :=
  ∀ (pins : List (Addr × Obj)) (s : Shared) (σ : St) (H : Hp) (Q : Option Int → Hp → Prop), Inv X pins σ H s → t σ H Q →
    wpAny (model X.prog X.w) X.A (evalPart e X.env) (fun u s' => ∃ o H', Inv X pins σ H' s' ∧ IsPart u o ∧ Q o H') X.xe s
def tNoPart : TO := fun _ H Q => Q none H
def tPart (t : TE) : TO := fun σ H Q => t σ H fun x H1 => ∃ i, x = .int i ∧ Q (some i) H1
section
variable {X : Cx} {e : Expr} {te : TE} {lo hi : Option Expr} {tl th : TO} {pos p2 : Pos}
theorem po_none : PO X none tNoPart := by
  intro pins s σ H Q I h
  rw [evalPart_none]
  exact wpAny_pure ⟨none, H, I, .none, h⟩
theorem po_some (h : PE X e te) : PO X (some e) (tPart te) := by
  intro pins s σ H Q I hw
  rw [evalPart_some]
  refine thn (h pins s σ H _ I hw) fun u s1 ⟨x, H1, I1, r1, q1⟩ => ?_
  obtain ⟨i, rfl, q⟩ := q1
  obtain ⟨t, rfl⟩ := r1
  exact ⟨some i, H1, I1, .int i t, q⟩
def SlR (X : Cx) (r : V → Option Int → Option Int → Hp → VK → Prop) : Prop :=
  ∀ (pins : List (Addr × Obj)) (s : Shared) (σ : St) (H : Hp) (x : V) (v vl vu : Value) (lo hi : Option Int) (sl : Addr) (Q : VK), Inv X pins σ H s → RelV x v → s.heap.IsSliceOf sl vl vu .none → IsPart vl lo → IsPart vu hi → r x lo hi H Q →
    ∃ T id, typeLookup (.type T) "__getitem__" = pure (some (.builtin id)) ∧ s.TypeIs v T ∧ wpAny (model X.prog X.w) X.A (getItem v (.ref sl)) (EP X pins σ Q) X.xe s
def tSl (r : V → Option Int → Option Int → Hp → VK → Prop) (te : TE) (tl th : TO) : TE := fun σ H Q => te σ H fun x H1 => tl σ H1 fun l H2 => th σ H2 fun u H3 => r x l u H3 Q
theorem pe_slice {r : V → Option Int → Option Int → Hp → VK → Prop} (hr : SlR X r) (he : PE X e te) (hl : PO X lo tl) (hu : PO X hi th) : PE X (.Subscript e (.Slice lo hi none p2) pos) (tSl r te tl th) := by
  intro pins s σ H Q I h
  refine Subscript_ (thn (he pins s σ H _ I h) fun v s1 ⟨x, H1, I1, r1, q1⟩ => ?_)
  refine wpAny_Slice (thn (hl pins s1 σ H1 _ I1 q1) fun vl s2 ⟨l, H2, I2, pl, q2⟩ => thn (hu pins s2 σ H2 _ I2 q2) fun vu s3 ⟨u, H3, I3, pu, q3⟩ => ?_)
  rw [evalPart_none]
  refine wpAny_pure ?_
  have I4 : Inv X pins σ H3 { s3 with heap := s3.heap.push { cls := .type "slice", data := .fields #[vl, vu, .none] } } := I3.kept (t' := s3.toks) fun b ob q => Heap.get?_push_of_some _ q
  obtain ⟨T, id, hT, ht, hg⟩ := hr pins { s3 with heap := s3.heap.push { cls := .type "slice", data := .fields #[vl, vu, .none] } } σ H3 x v vl vu l u s3.heap.objs.size Q I4 r1 (Heap.IsSliceOf.new ..) pl pu q3
  show wpAny (model X.prog X.w) X.A (subscriptTail e (.Slice lo hi none p2) v (.ref s3.heap.objs.size)) (EP X pins σ Q) X.xe { s3 with heap := s3.heap.push { cls := .type "slice", data := .fields #[vl, vu, .none] } }
  exact tail_any (ops := [.ref s3.heap.objs.size, v]) ht hT hg (by with_unfolding_all rfl)
def cutV (xs : List V) (lo hi : Option Int) : List V := (xs.drop (HT.sIx xs.length 0 lo)).take (HT.sIx xs.length xs.length hi - HT.sIx xs.length 0 lo)
theorem cutV_length (xs : List V) (lo hi : Option Int) : (cutV xs lo hi).length ≤ xs.length := by
  unfold cutV
  rw [List.length_take, List.length_drop]
  omega
end
end L2
namespace L2
open PySem PySem.Spec PyProof.Rows
def ixN (n : Nat) (i : Int) : Option Nat := if 0 ≤ i then (if i < n then some i.toNat else none) else if -(n : Int) ≤ i then some (i + n).toNat else none
def atI {α : Type} (xs : List α) (i : Int) : Option α := (ixN xs.length i).bind fun j => xs[j]?
theorem ixN_seq {n : Nat} {i : Int} {j : Nat} (h : ixN n i = some j) : seqIndex? i n = some j ∧ j < n ∧ -(n : Int) ≤ i ∧ i < n := by
  unfold ixN at h
  by_cases h0 : 0 ≤ i
  · rw [if_pos h0] at h
    by_cases h1 : i < n
    · rw [if_pos h1] at h
      have e : i.toNat = j := Option.some.inj h
      exact ⟨by rw [seqIndex_of h0 h1, e], by omega, by omega, h1⟩
    · rw [if_neg h1] at h; cases h
  · rw [if_neg h0] at h
    by_cases h1 : -(n : Int) ≤ i
    · rw [if_pos h1] at h
      have e : (i + n).toNat = j := Option.some.inj h
      exact ⟨by rw [seqIndex_neg (by omega) h1, e], by omega, h1, by omega⟩
    · rw [if_neg h1] at h; cases h
theorem atI_get {α : Type} {xs : List α} {i : Int} {v : α} (h : atI xs i = some v) : ∃ j, seqIndex? i xs.length = some j ∧ xs[j]? = some v ∧ j < xs.length ∧ -(xs.length : Int) ≤ i ∧ i < xs.length := by
  unfold atI at h
  cases e : ixN xs.length i with
  | none => rw [e] at h; cases h
  | some j =>
    rw [e] at h
    obtain ⟨h1, h2, h3, h4⟩ := ixN_seq e
    exact ⟨j, h1, h, h2, h3, h4⟩
theorem atI_nat {α : Type} {xs : List α} {j : Nat} {v : α} (h : xs[j]? = some v) : atI xs (j : Int) = some v := by
  have hj : j < xs.length := (List.getElem?_eq_some_iff.mp h).1
  have e : ixN xs.length (j : Int) = some j := by
    unfold ixN
    rw [if_pos (by omega), if_pos (by omega)]; simp
  unfold atI; rw [e]; exact h
def PlainIx (b : Expr) : Prop := ∀ o i, subscripted b false o i = operate [o, i] (getItem o i)
def IxR (X : Cx) (r : R2) : Prop :=
  ∀ (value slice : Expr) (pins : List (Addr × Obj)) (s : Shared) (σ : St) (H : Hp) (x y : V) (v u : Value) (Q : VK), Inv X pins σ H s → RelV x v → RelV y u → r x y H Q →
    subscripted slice false v u = operate [v, u] (getItem v u) → wpAny (model X.prog X.w) X.A (subscriptTail value slice v u) (EP X pins σ Q) X.xe s
def MtR (X : Cx) (id : String) (r : V → List V → Hp → VK → Prop) : Prop :=
  ∀ (pins : List (Addr × Obj)) (s : Shared) (σ : St) (H : Hp) (x : V) (xs : List V) (v : Value) (us : List Value) (Q : VK), Inv X pins σ H s → RelV x v → Vals xs us → r x xs H Q →
    wpAny (model X.prog X.w) X.A (call (.builtin id) (v :: us)) (EP X pins σ Q) X.xe s
section
variable {X : Cx} {a b : Expr} {ta tb : TE} {pos : Pos}
theorem pe_ix {r : R2} (hr : IxR X r) (ha : PE X a ta) (hb : PE X b tb) (hs : PlainIx b) : PE X (.Subscript a b pos) (tOp r ta tb) := by
  intro pins s σ H Q I h
  exact Subscript_ (binT ha hb I h fun v u s2 x y H2 I2 rx ry q => hr a b pins s2 σ H2 x y v u Q I2 rx ry q (hs _ _))
def rIxL (K : PySem.W.Frag) : R2 := fun x y H Q => ∃ p xs i v, x = .ref p ∧ y = .int i ∧ SqL K H p xs ∧ atI xs i = some v ∧ Q v H
def rIxT (K : PySem.W.Frag) : R2 := fun x y H Q => ∃ p xs i v, x = .ref p ∧ y = .int i ∧ SqT K H p xs ∧ atI xs i = some v ∧ Q v H
def rIxS : R2 := fun x y H Q => ∃ z i c, x = .str z ∧ y = .int i ∧ z.length ≤ sizeLine ∧ atI z.cps.toList i = some c ∧ Q (.str ⟨#[c]⟩) H
theorem ix_list : IxR X (rIxL X.K) := by
  intro value slice pins s σ H x y v u Q I rx ry h hs
  obtain ⟨p, xs, i, z, rfl, rfl, hq, he, q⟩ := h
  cases rx
  obtain ⟨t, rfl⟩ := ry
  obtain ⟨its, r, pl, hz⟩ := I.list hq
  obtain ⟨j, h1, h2, h3, h4, h5⟩ := atI_get he
  obtain ⟨w, ew, rw'⟩ := r.get h2
  have hl := r.length
  have hn := line63
  have fin : EP X pins σ Q w s := ⟨z, H, I, rw', q⟩
  by_cases h0 : 0 ≤ i
  · have hj : i.toNat = j := by
      rw [seqIndex_of h0 h5] at h1
      exact Option.some.inj h1
    exact item_listR pl.isList h0 (by omega) (by rw [hj]; simpa using ew) fin hs
  · have hj : (i + (its.toArray.size : Int)).toNat = j := by
      rw [seqIndex_neg (by omega) h4] at h1
      rw [List.size_toArray, ← hl]
      exact Option.some.inj h1
    exact subscriptTail_builtinR (x := w) pl.isList.typeIs slot_list_getitem.lookup
      (wpAny_getItem_list_neg (Q := fun r s' => r = w ∧ EP X pins σ Q r s') pl.isList (by omega) (by rw [List.size_toArray] <;> omega) (by omega) (by rw [hj]; simpa using ew) ⟨rfl, fin⟩) hs
theorem ix_tup : IxR X (rIxT X.K) := by
  intro value slice pins s σ H x y v u Q I rx ry h hs
  obtain ⟨p, xs, i, z, rfl, rfl, hq, he, q⟩ := h
  cases rx
  obtain ⟨t, rfl⟩ := ry
  obtain ⟨its, r, pl, hz⟩ := I.tuple hq
  obtain ⟨j, h1, h2, h3, h4, h5⟩ := atI_get he
  obtain ⟨w, ew, rw'⟩ := r.get h2
  have hl := r.length
  have hn := line63
  have fin : EP X pins σ Q w s := ⟨z, H, I, rw', q⟩
  exact subscriptTail_builtinR (x := w) pl.typeIs slot_tuple_getitem.lookup
    (getItem_tuple (j := j) (Q := fun r s' => r = w ∧ EP X pins σ Q r s') pl (by omega) (by omega) (by rw [List.size_toArray, ← hl]; exact h1) (by simpa using ew) ⟨rfl, fin⟩) hs
theorem ix_str : IxR X rIxS := by
  intro value slice pins s σ H x y v u Q I rx ry h hs
  obtain ⟨z, i, c, rfl, rfl, hz, he, q⟩ := h
  obtain ⟨t, rfl⟩ := rx
  obtain ⟨t', rfl⟩ := ry
  obtain ⟨j, h1, h2, h3, h4, h5⟩ := atI_get he
  have hl : z.cps.toList.length = z.length := by simp [Str.length]
  rw [hl] at h1 h4 h5
  have hn := line63
  exact tail_any (typeIs_str s z t) slot_str_getitem.lookup (getItem_str (c := c) (by
    have e1 : decide (i < -(2 ^ 63 : Int)) = false := decide_eq_false (by omega)
    have e2 : decide (i ≥ 2 ^ 63) = false := decide_eq_false (by omega)
    rw [e1, e2, Bool.or_false]) (by rw [h1]; simpa using h2) ⟨.str ⟨#[c]⟩, H, I.tok _, ⟨_, rfl⟩, q⟩) hs
theorem mapSeq_set (its : List Value) (n j : Nat) (u : Value) : Obj.mapSeq (·.setIfInBounds j u) { cls := .type "list", data := .seq its.toArray n } = { cls := .type "list", data := .seq (its.set j u).toArray n } := by
  simp [Obj.mapSeq]
theorem Inv.lst {pins : List (Addr × Obj)} {σ : St} {H : Hp} {s : Shared} {p : Addr} {xs : List V} (I : Inv X pins σ H s) (h : H p = some (.lst xs)) :
    ∃ (its : List Value) (n : Nat), Vals xs its ∧ s.heap.get? p = some { cls := .type "list", data := .seq its.toArray n } ∧ xs.length ≤ sizeLine := by
  obtain ⟨z, its, n, r, e⟩ := I.hok p _ h
  exact ⟨its, n, r, e, z⟩
theorem Inv.lstUpd {pins : List (Addr × Obj)} {σ : St} {H : Hp} {s : Shared} {p : Addr} {xs ys : List V} {its its' : List Value} {n n' : Nat} {f : Obj → Obj} (I : Inv X pins σ H s) (h : H p = some (.lst xs))
    (ho : s.heap.get? p = some { cls := .type "list", data := .seq its.toArray n }) (hf : f { cls := .type "list", data := .seq its.toArray n } = { cls := .type "list", data := .seq its'.toArray n' }) (r : Vals ys its') (hz : ys.length ≤ sizeLine) (t : Nat) :
    Inv X pins σ (upd H p (.lst ys)) { s with heap := s.heap.update p f, toks := t } := by
  have e : (s.heap.update p f).get? p = some { cls := .type "list", data := .seq its'.toArray n' } := by
    rw [Heap.get?_update_self f ho (by rw [hf] <;> rfl), hf]
  refine I.write (x := p) (e := p) (by rw [h]; trivial) (.inl rfl) (fun b u hb q => (Heap.get?_update_other _ _ (Ne.symm hb)).trans q) ⟨_, e⟩ ?_
  exact ⟨hz, its', n', r, e⟩
def rSetL : V → V → V → Hp → (Hp → Prop) → Prop := fun o i v H Q => ∃ p xs k j, o = .ref p ∧ i = .int k ∧ H p = some (.lst xs) ∧ ixN xs.length k = some j ∧ Q (upd H p (.lst (xs.set j v)))
theorem set_list : PSet X rSetL := by
  intro pins s σ H o i v ov iv u Q I ro ri rv h
  obtain ⟨p, xs, k, j, rfl, rfl, hp, hj, q⟩ := h
  cases ro
  obtain ⟨t, rfl⟩ := ri
  obtain ⟨its, n, r, ho, hz⟩ := I.lst hp
  obtain ⟨h1, h2, h3, h4⟩ := ixN_seq hj
  have hl := r.length
  have hn := line63
  have I' : Inv X pins σ (upd H p (.lst (xs.set j v))) { s with heap := s.heap.update p (Obj.mapSeq (·.setIfInBounds j u)) } :=
    I.lstUpd hp ho (mapSeq_set its n j u) (r.set rv j) (by rw [List.length_set]; exact hz) s.toks
  by_cases h0 : 0 ≤ k
  · have hk : k.toNat = j := by
      rw [seqIndex_of h0 h4] at h1
      exact Option.some.inj h1
    exact PySem.W.ki_setAt ho h0 (by omega) (by rw [List.size_toArray, ← hl]; exact h4) (by rw [hk]; exact ⟨_, I', q⟩)
  · have hk : (k + (its.toArray.size : Int)).toNat = j := by
      rw [seqIndex_neg (by omega) h3] at h1
      rw [List.size_toArray, ← hl]
      exact Option.some.inj h1
    exact PySem.W.ki_setBack ho (by omega) (by rw [List.size_toArray, ← hl]; exact h3) (by omega) (by rw [hk]; exact ⟨_, I', q⟩)
theorem slice_bounds (lo hi : Option Int) (n : Nat) : (sliceBounds lo hi none n).1 = ((HT.sIx n 0 lo : Nat) : Int) ∧ (sliceBounds lo hi none n).2.1 = ((HT.sIx n n hi : Nat) : Int) ∧ (sliceBounds lo hi none n).2.2 = 1 := by
  refine ⟨?_, ?_, rfl⟩
  · cases lo with
    | none => simp [sliceBounds, HT.sIx]
    | some i =>
      simp only [sliceBounds, HT.sIx, Option.getD_none, show (1 : Int) > 0 by decide, if_true]
      by_cases h : i < 0
      · simp only [h, if_true] <;> omega
      · simp only [h, if_false] <;> omega
  · cases hi with
    | none => simp [sliceBounds, HT.sIx]
    | some i =>
      simp only [sliceBounds, HT.sIx, Option.getD_none, show (1 : Int) > 0 by decide, if_true]
      by_cases h : i < 0
      · simp only [h, if_true] <;> omega
      · simp only [h, if_false] <;> omega
theorem slicePick_cut (its : List Value) (lo hi : Option Int) : slicePick its.toArray lo hi none = ((its.drop (HT.sIx its.length 0 lo)).take (HT.sIx its.length its.length hi - HT.sIx its.length 0 lo)).toArray := by
  obtain ⟨h1, h2, h3⟩ := slice_bounds lo hi its.toArray.size
  unfold slicePick
  rw [h1, h2, h3]
  simp only [sliceRange_one, pick_run, List.size_toArray] <;> rfl
def rSlL (K : PySem.W.Frag) : V → Option Int → Option Int → Hp → VK → Prop := fun x lo hi H Q => ∃ a xs, x = .ref a ∧ SqL K H a xs ∧ ∀ p, H p = none → Q (.ref p) (upd H p (.lst (cutV xs lo hi)))
theorem sl_list : SlR X (rSlL X.K) := by
  intro pins s σ H x v vl vu lo hi sl Q I rx hs pl pu h
  obtain ⟨a, xs, rfl, hx, q⟩ := h
  cases rx
  obtain ⟨its, r, ht, hz⟩ := I.list hx
  have hlen := r.length
  refine ⟨"list", _, slot_list_getitem.lookup, ht.isList.typeIs, ?_⟩
  refine wpAny_getItem_list_slice ht.isList hs pl pu .none (by simp) ?_ (by rw [List.size_toArray] <;> omega)
  rw [slicePick_cut, ← hlen]
  refine ⟨.ref s.heap.objs.size, _, I.laid (t' := s.toks) (o := .lst (cutV xs lo hi)) (fun b ob q => Heap.get?_push_of_some _ q) (Nat.le_refl _) ?_, rfl, q _ (I.hok.fresh (Nat.le_refl _))⟩
  exact ⟨Nat.le_trans (cutV_length xs lo hi) hz, _, 0, (r.drop (HT.sIx xs.length 0 lo)).take (HT.sIx xs.length xs.length hi - HT.sIx xs.length 0 lo), Heap.get?_push_size _ rfl⟩
def flatV : V → Bool
  | .non => true
  | .bl _ => true
  | .int _ => true
  | .str _ => true
  | _ => false
def eqV : V → V → Bool
  | .non, .non => true
  | .bl a, .bl b => a == b
  | .bl a, .int b => (if a then 1 else 0) == b
  | .int a, .bl b => a == (if b then 1 else 0)
  | .int a, .int b => a == b
  | .str a, .str b => a == b
  | _, _ => false
theorem eqAt_V {A : Around} {s : Shared} {y x : V} {u v : Value} (ry : RelV y u) (rx : RelV x v) (fy : flatV y = true) (fx : flatV x = true) : SeqAt.EqAt A s u v (eqV y x) := by
  cases y with
  | non =>
    cases ry
    cases x with
    | non => cases rx; exact SeqAt.EqAt.same _
    | bl b => cases rx; exact SeqAt.EqAt.none_bool b
    | int b => obtain ⟨t, rfl⟩ := rx; exact SeqAt.EqAt.none_int b t
    | str b => obtain ⟨t, rfl⟩ := rx; exact SeqAt.EqAt.none_str b t
    | _ => exact absurd (show false = true from fx) Bool.false_ne_true
  | bl a =>
    cases ry
    cases x with
    | non => cases rx; exact SeqAt.EqAt.bool_none a
    | bl b => cases rx; exact SeqAt.EqAt.bool_bool a b
    | int b => obtain ⟨t, rfl⟩ := rx; exact SeqAt.EqAt.bool_int a b t
    | str b => obtain ⟨t, rfl⟩ := rx; exact SeqAt.EqAt.bool_str a b t
    | _ => exact absurd (show false = true from fx) Bool.false_ne_true
  | int a =>
    obtain ⟨t', rfl⟩ := ry
    cases x with
    | non => cases rx; exact SeqAt.EqAt.int_none a t'
    | bl b => cases rx; exact SeqAt.EqAt.int_bool a t' b
    | int b => obtain ⟨t, rfl⟩ := rx; exact SeqAt.EqAt.int_int a t' b t
    | str b => obtain ⟨t, rfl⟩ := rx; exact SeqAt.EqAt.int_str a t' b t
    | _ => exact absurd (show false = true from fx) Bool.false_ne_true
  | str a =>
    obtain ⟨t', rfl⟩ := ry
    cases x with
    | non => cases rx; exact SeqAt.EqAt.str_none a t'
    | bl b => cases rx; exact SeqAt.EqAt.str_bool a t' b
    | int b => obtain ⟨t, rfl⟩ := rx; exact SeqAt.EqAt.str_int a t' b t
    | str b => obtain ⟨t, rfl⟩ := rx; exact SeqAt.EqAt.str_str a t' b t
    | _ => exact absurd (show false = true from fx) Bool.false_ne_true
  | _ => exact absurd (show false = true from fy) Bool.false_ne_true
def eqU (x : V) (u : Value) : Bool := match u with
  | .none => eqV .non x
  | .bool b => eqV (.bl b) x
  | .int i _ => eqV (.int i) x
  | .str z _ => eqV (.str z) x
  | _ => false
theorem eqU_of {x y : V} {u : Value} (r : RelV y u) (f : flatV y = true) : eqU x u = eqV y x := by
  cases y with
  | non => cases r; rfl
  | bl b => cases r; rfl
  | int i => obtain ⟨t, rfl⟩ := r; rfl
  | str z => obtain ⟨t, rfl⟩ := r; rfl
  | _ => exact absurd (show false = true from f) Bool.false_ne_true
theorem any_eqU {x : V} : ∀ {xs : List V} {us : List Value}, Vals xs us → xs.all flatV = true → us.any (eqU x) = xs.any fun y => eqV y x
  | _, _, .nil, _ => rfl
  | y :: xs, u :: us, .cons r t, f => by
    rw [List.all_cons, Bool.and_eq_true] at f
    rw [List.any_cons, List.any_cons, eqU_of r f.1, any_eqU t f.2]
theorem mem_eqAt {A : Around} {s : Shared} {x : V} {v : Value} (rx : RelV x v) (fx : flatV x = true) : ∀ {xs : List V} {us : List Value}, Vals xs us → xs.all flatV = true → ∀ u ∈ us, SeqAt.EqAt A s u v (eqU x u)
  | _, _, .nil, _ => fun u hu => by cases hu
  | y :: xs, u :: us, .cons r t, f => fun u' hu => by
    rw [List.all_cons, Bool.and_eq_true] at f
    rcases List.mem_cons.mp hu with rfl | hu
    · rw [eqU_of r f.1]; exact eqAt_V r rx f.1 fx
    · exact mem_eqAt rx fx t f.2 u' hu
def inV (x : V) (xs : List V) : Bool := xs.any fun y => eqV y x
def rIn (K : PySem.W.Frag) (neg : Bool) : R2 := fun x y H Q => ∃ p xs, y = .ref p ∧ (SqL K H p xs ∨ SqT K H p xs) ∧ flatV x = true ∧ xs.all flatV = true ∧ Q (.bl (if neg then !inV x xs else inV x xs)) H
theorem op_in_seq : OpR X (compareOp .In) (rIn X.K false) := by
  intro pins s σ H x y v u Q I rx ry h
  obtain ⟨p, xs, rfl, hq, fx, fs, q⟩ := h
  cases ry
  rcases hq with hq | hq
  · obtain ⟨its, r, pl, hz⟩ := I.list hq
    refine SeqAt.in_listAt (eqU x) pl.isList (fun w hw => mem_eqAt rx fx r fs w (by simpa using hw)) ⟨.bl _, H, I, rfl, ?_⟩
    rw [show its.toArray.any (eqU x) = its.any (eqU x) by simp, any_eqU r fs]
    exact q
  · obtain ⟨its, r, pl, hz⟩ := I.tuple hq
    refine SeqAt.in_tupleAt (eqU x) pl (fun w hw => mem_eqAt rx fx r fs w (by simpa using hw)) ⟨.bl _, H, I, rfl, ?_⟩
    rw [show its.toArray.any (eqU x) = its.any (eqU x) by simp, any_eqU r fs]
    exact q
theorem op_notIn_seq : OpR X (compareOp .NotIn) (rIn X.K true) := by
  intro pins s σ H x y v u Q I rx ry h
  obtain ⟨p, xs, rfl, hq, fx, fs, q⟩ := h
  cases ry
  rcases hq with hq | hq
  · obtain ⟨its, r, pl, hz⟩ := I.list hq
    refine SeqAt.notIn_listAt (eqU x) pl.isList (fun w hw => mem_eqAt rx fx r fs w (by simpa using hw)) ⟨.bl _, H, I, rfl, ?_⟩
    rw [show its.toArray.any (eqU x) = its.any (eqU x) by simp, any_eqU r fs]
    exact q
  · obtain ⟨its, r, pl, hz⟩ := I.tuple hq
    refine SeqAt.notIn_tupleAt (eqU x) pl (fun w hw => mem_eqAt rx fx r fs w (by simpa using hw)) ⟨.bl _, H, I, rfl, ?_⟩
    rw [show its.toArray.any (eqU x) = its.any (eqU x) by simp, any_eqU r fs]
    exact q
theorem call_len_seq : CallR X (.builtin "len") (fun xs H Q => ∃ p ys, xs = [.ref p] ∧ (SqL X.K H p ys ∨ SqT X.K H p ys) ∧ Q (.int ys.length) H) := by
  intro pins s σ H xs us Q I r h
  obtain ⟨p, ys, rfl, hq, q⟩ := h
  obtain ⟨u, rfl, rx⟩ := vals1 r
  cases rx
  have hn := line63
  rcases hq with hq | hq
  · obtain ⟨its, r', pl, hz⟩ := I.list hq
    have hlen := r'.length
    exact Calls.call_len_list pl.isList (by simp only [List.size_toArray] <;> omega) ⟨.int ys.length, H, I.tok _, ⟨s.toks + 1, by rw [List.size_toArray, hlen]⟩, q⟩
  · obtain ⟨its, r', pl, hz⟩ := I.tuple hq
    have hlen := r'.length
    exact len_tuple pl (by simp only [List.size_toArray] <;> omega) ⟨.int ys.length, H, I.tok _, ⟨s.toks + 1, by rw [List.size_toArray, hlen]⟩, q⟩
theorem call_len_str : CallR X (.builtin "len") (fun xs H Q => ∃ z, xs = [.str z] ∧ z.length ≤ sizeLine ∧ Q (.int z.length) H) := by
  intro pins s σ H xs us Q I r h
  obtain ⟨z, rfl, hz, q⟩ := h
  obtain ⟨u, rfl, t, rfl⟩ := vals1 r
  have hn := line63
  exact len_str (by omega) ⟨.int z.length, H, I.tok _, ⟨_, rfl⟩, q⟩
theorem call_list_of : CallR X (.type "list") (fun xs H Q => ∃ p ys, xs = [.ref p] ∧ (SqL X.K H p ys ∨ SqT X.K H p ys) ∧ ∀ l, H l = none → Q (.ref l) (upd H l (.lst ys))) := by
  intro pins s σ H xs us Q I r h
  obtain ⟨p, ys, rfl, hq, q⟩ := h
  obtain ⟨u, rfl, rx⟩ := vals1 r
  cases rx
  have fin : ∀ (its : List Value), Vals ys its → ys.length ≤ sizeLine → ∀ (h' : Heap) (c' : Nat), (∀ b o', s.heap.get? b = some o' → h'.get? b = some o') →
      h'.get? s.heap.objs.size = some { cls := .type "list", dict := none, data := .seq its.toArray c', slots := #[] } → EP X pins σ Q (.ref s.heap.objs.size) { s with heap := h' } := fun its r' hz h' c' kp e =>
    ⟨.ref s.heap.objs.size, _, I.laid (t' := s.toks) kp (Nat.le_refl _) (show ObjOk X.prog X.w _ h' _ (.lst ys) from ⟨hz, its, c', r', e⟩), rfl, q _ (I.hok.fresh (Nat.le_refl _))⟩
  rcases hq with hq | hq
  · obtain ⟨its, r', pl, hz⟩ := I.list hq
    have hlen := r'.length
    obtain ⟨o, ho, hc, n, hd⟩ := pl.isList
    exact call_list_seq p (.inl rfl) ho hc hd (fun h' c' kp e => fin its r' hz h' c' kp e) (by simp only [List.size_toArray] <;> omega)
  · obtain ⟨its, r', pl, hz⟩ := I.tuple hq
    have hlen := r'.length
    obtain ⟨o, ho, hc, n, hd⟩ := pl
    exact call_list_seq p (.inr rfl) ho hc hd (fun h' c' kp e => fin its r' hz h' c' kp e) (by simp only [List.size_toArray] <;> omega)
def tyV (K : PySem.W.Frag) (T : String) (x : V) (H : Hp) : Prop := match x with
  | .str _ => T = "str"
  | .int _ => T = "int"
  | .ref p => (T = "list" ∧ ∃ xs, SqL K H p xs) ∨ (T = "tuple" ∧ ∃ o, K.lookup p = some o ∧ o.cls = .type "tuple" ∧ o.dict = none) ∨
      (T = "dict" ∧ ((∃ kvs, H p = some (.dK kvs)) ∨ ∃ kvs, H p = some (.dT kvs))) ∨ (T = "set" ∧ ∃ S n, H p = some (.set S n))
  | _ => False
theorem tyV_is {pins : List (Addr × Obj)} {σ : St} {H : Hp} {s : Shared} {T : String} {x : V} {v : Value} (I : Inv X pins σ H s) (r : RelV x v) (ty : tyV X.K T x H) :
    s.TypeIs v T ∧ ∀ a, v = .ref a → ∃ ob, s.heap.get? a = some ob ∧ ob.dict = none := by
  cases x with
  | str z =>
    obtain ⟨t, rfl⟩ := r
    cases (show T = "str" from ty)
    exact ⟨typeIs_str s z t, fun _ e => nomatch e⟩
  | int i =>
    obtain ⟨t, rfl⟩ := r
    cases (show T = "int" from ty)
    exact ⟨typeIs_int s i t, fun _ e => nomatch e⟩
  | ref p =>
    cases r
    rcases ty with ⟨rfl, xs, hq⟩ | ⟨rfl, o, hk, hc, hd⟩ | ⟨rfl, hk⟩ | ⟨rfl, S, n, hk⟩
    · obtain ⟨its, _, pl, _⟩ := I.list hq
      refine ⟨pl.isList.typeIs, fun a e => ?_⟩
      cases e
      obtain ⟨o, n, e, c, hd, _⟩ := pl
      exact ⟨o, e, hd⟩
    · refine ⟨⟨o, I.kIn p o hk, hc⟩, fun a e => ?_⟩
      cases e
      exact ⟨o, I.kIn _ o hk, hd⟩
    · have z : ∃ o, s.heap.get? p = some o ∧ o.ExactDict := by
        rcases hk with ⟨kvs, hk⟩ | ⟨kvs, hk⟩
        · obtain ⟨_, _, _, _, o, _, _, e, ex, _⟩ := I.hok p _ hk
          exact ⟨o, e, ex⟩
        · obtain ⟨_, _, _, _, o, _, _, e, ex, _⟩ := I.hok p _ hk
          exact ⟨o, e, ex⟩
      obtain ⟨o, e, ex⟩ := z
      refine ⟨⟨o, e, ex.1⟩, fun a e2 => ?_⟩
      cases e2
      exact ⟨o, e, ex.2.1⟩
    · obtain ⟨o, _, _, _, e, ex, _⟩ := I.hok p _ hk
      refine ⟨⟨o, e, ex.1⟩, fun a e2 => ?_⟩
      cases e2
      exact ⟨o, e, ex.2.1⟩
  | _ => exact False.elim ty
def tBM0 (K : PySem.W.Frag) (T : String) (r : V → List V → Hp → VK → Prop) (to : TE) : TE := fun σ H Q => to σ H fun x H1 => tyV K T x H1 ∧ r x [] H1 Q
def tBM (K : PySem.W.Frag) (T : String) (r : V → List V → Hp → VK → Prop) (to : TE) (t : TA) : TE := fun σ H Q => to σ H fun x H1 => tyV K T x H1 ∧ t σ H1 fun xs H2 => r x xs H2 Q
variable {o e : Expr} {es : List Expr} {to : TE} {t : TA} {name : Str} {apos cpos : Pos} {T id : String} {r : V → List V → Hp → VK → Prop}
theorem pe_bm0 (pa : PlainAttrs T) (slot : Slot T name id) (hty : typeOf (.builtin id) = pure (.type "method_descriptor")) (hm : MtR X id r) (ho : PE X o to)
    (hbase : attributeBase o name X.env (eval o X.env) = eval o X.env := by rfl) (hline : (apos.endLine == cpos.line) = true := by rfl) : PE X (.Call (.Attribute o name apos) [] [] cpos) (tBM0 X.K T r to) := by
  intro pins s σ H Q I h
  refine wpAny_Call_method0_late hbase hline (thn (ho pins s σ H _ I h) fun v s1 ⟨x, H1, I1, r1, ty, q1⟩ => ?_)
  obtain ⟨h1, h2⟩ := tyV_is I1 r1 ty
  exact ⟨T, id, pa, slot, hty, h1, h2, Calls.callWith_builtin rfl (PySem.evalArgs_none (hm pins s1 σ H1 x [] v [] Q I1 r1 .nil q1))⟩
theorem pe_bm (pa : PlainAttrs T) (slot : Slot T name id) (hty : typeOf (.builtin id) = pure (.type "method_descriptor")) (hm : MtR X id r) (ho : PE X o to) (ha : PA X (e :: es) t)
    (hbase : attributeBase o name X.env (eval o X.env) = eval o X.env := by rfl)
    (hfew : ((backTo cpos (starEach (e :: es) X.env)).all (fun x => !x.1) && (backToKw cpos (keywordEach [] X.env)).all (fun x => x.1.isSome)
      && decide ((e :: es).length + ([] : List Keyword).length + (if ([] : List Keyword).isEmpty then 0 else 1) < 30)) = true := by rfl)
    (hline : (apos.endLine == cpos.line) = true := by rfl) (hs : starEach (e :: es) X.env = (false, eval e X.env) :: starEach es X.env := by rfl) (hplain : (backTo cpos (starEach es X.env)).any (·.1) = false := by rfl) :
    PE X (.Call (.Attribute o name apos) (e :: es) [] cpos) (tBM X.K T r to t) := by
  intro pins s σ H Q I h
  refine wpAny_Call_method_late hbase hfew hline rfl (thn (ho pins s σ H _ I h) fun v s1 ⟨x, H1, I1, r1, ty, q1⟩ => ?_)
  obtain ⟨h1, h2⟩ := tyV_is I1 r1 ty
  refine ⟨T, id, pa, slot, hty, h1, h2, ?_⟩
  have hA := ha cpos pins s1 σ H1 _ I1 q1
  rw [hs] at hA ⊢
  refine Calls.callWith_builtin (by show (false || (backTo cpos (starEach es X.env)).any (·.1)) = false; rw [hplain] <;> rfl) (Calls.evalArgs_plain ?_)
  exact thn hA fun us s2 ⟨vs, H2, I2, r2, q2⟩ => hm pins s2 σ H2 x vs v us Q I2 r1 r2 q2
/- xs.append(e), list.index on a module's tuple .. are MtR facts of 06m -/
end
end L2
namespace L2
open PySem PySem.Spec PyProof.Rows
def MtM (X : Cx) (id : String) (r : V → List V → Hp → VK → Prop) : Prop :=
  ∀ (pins : List (Addr × Obj)) (s : Shared) (σ : St) (H : Hp) (x : V) (xs : List V) (v : Value) (us : List Value) (Q : VK), Inv X pins σ H s → RelV x v → Vals xs us → r x xs H Q →
    wpAny (model X.prog X.w) X.A (call (.builtin id) (v :: us)) (EP X pins σ Q) X.xe s
theorem Vals.one : ∀ {x : V} {us : List Value}, Vals [x] us → ∃ u, us = [u] ∧ RelV x u
  | _, _, .cons r .nil => ⟨_, rfl, r⟩
section
variable {X : Cx} {pins : List (Addr × Obj)} {σ : St} {H : Hp} {s : Shared} {l b : Addr} {xs ys zs : List V}
theorem Inv.lset {its its' : List Value} {n : Nat} {f : Array Value → Array Value} {t' : Nat} (I : Inv X pins σ H s) (hH : H l = some (.lst xs))
    (e : s.heap.get? l = some { cls := .type "list", data := .seq its.toArray n }) (hf : f its.toArray = its'.toArray) (hv : Vals ys its') (hz : ys.length ≤ sizeLine) :
    Inv X pins σ (upd H l (.lst ys)) { s with heap := s.heap.update l (Obj.mapSeq f), toks := t' } := by
  have q := PySem.IsL.update e f
  rw [hf] at q
  refine I.write (x := l) (e := l) (by rw [hH]; exact trivial) (.inl rfl) (fun b' u hb hu => (Heap.get?_update_other s.heap (Obj.mapSeq f) (Ne.symm hb)).trans hu) ⟨_, q⟩ ?_
  exact ⟨hz, its', _, hv, q⟩
theorem Inv.lnew {its : List Value} {t' : Nat} (I : Inv X pins σ H s) (hv : Vals ys its) (hz : ys.length ≤ sizeLine) :
    Inv X pins σ (upd H s.heap.objs.size (.lst ys)) { s with heap := s.heap.push { cls := .type "list", data := .seq its.toArray }, toks := t' } :=
  I.laid (fun _ _ q => Heap.get?_push_of_some _ q) (Nat.le_refl _) ⟨hz, its, 0, hv, Heap.get?_push_size _ rfl⟩
theorem Inv.fresh (I : Inv X pins σ H s) : H s.heap.objs.size = none := I.hok.fresh (Nat.le_refl _)
theorem Inv.lstM (I : Inv X pins σ H s) (hH : H l = some (.lst xs)) : xs.length ≤ sizeLine ∧ ∃ (its : List Value) (n : Nat), Vals xs its ∧ xs.length = its.length ∧ s.heap.get? l = some { cls := .type "list", data := .seq its.toArray n } := by
  obtain ⟨z, its, n, r, e⟩ := I.hok l _ hH
  exact ⟨z, its, n, r, r.length, e⟩
theorem notLongL {n : Nat} (h : n ≤ sizeLine) : Builtin.List.listTooLong n = false := by
  unfold Builtin.List.listTooLong
  exact decide_eq_false (by omega)
end
section
variable {X : Cx}
def rAppend : V → List V → Hp → VK → Prop := fun x vs H Q => ∃ l xs y, x = .ref l ∧ vs = [y] ∧ H l = some (.lst xs) ∧ xs.length < sizeLine ∧ Q .non (upd H l (.lst (xs ++ [y])))
theorem mt_append : MtM X "list.append" rAppend := by
  intro pins s σ H x vs v us Q I rx rv h
  obtain ⟨l, xs, y, rfl, rfl, hH, hz, q⟩ := h
  cases rx
  obtain ⟨u, rfl, ru⟩ := rv.one
  obtain ⟨z, its, n, r, hl, e⟩ := I.lstM hH
  refine call_meets F.slot_list_append ⟨_, e, rfl⟩ F.entry_list_append (F.args_list_append_2 _ _) (PySem.list_append l its.toArray n u (by rw [List.size_toArray]; omega)) ⟨e, ?_⟩
  refine ⟨.non, _, I.lset (its' := its ++ [u]) hH e (by simp) (r.append (.cons ru .nil)) ?_, rfl, q⟩
  rw [List.length_append, List.length_singleton]
  omega
def rCat : R2 := fun x y H Q => ∃ l b xs zs, x = .ref l ∧ y = .ref b ∧ H l = some (.lst xs) ∧ H b = some (.lst zs) ∧ xs.length + zs.length ≤ sizeLine ∧ ∀ p, H p = none → Q (.ref p) (upd H p (.lst (xs ++ zs)))
theorem op_cat : OpR X (binaryOp .Add) rCat := by
  intro pins s σ H x y v u Q I rx ry h
  obtain ⟨l, b, xs, zs, rfl, rfl, hH, hB, hz, q⟩ := h
  cases rx
  cases ry
  obtain ⟨z, its, n, r, hl, e⟩ := I.lstM hH
  obtain ⟨z2, its2, n2, r2, hl2, e2⟩ := I.lstM hB
  refine PySem.P.add_list e e2 ?_ (by rw [List.size_toArray, List.size_toArray]; omega)
  have ea : its.toArray ++ its2.toArray = (its ++ its2).toArray := by simp
  rw [ea]
  exact ⟨.ref _, _, I.lnew (t' := s.toks) (r.append r2) (by rw [List.length_append]; omega), rfl, q _ I.fresh⟩
end
section
variable {prog : Program} {w : World} {A : Around} {E : Value → Shared → Prop} {s : Shared}
set_option maxRecDepth 100000 in
end
section
variable {X : Cx}
end
end L2
namespace Att
open PySem PySem.W PySem.Calls PyProof.Rows
theorem ints_of_wellAll {P : Params} {h : Heap} : ∀ (ns : List Int) (vs : List Value), WellAll P h vs (ns.map WData.int) → IntsAre vs ns := by
  intro ns
  induction ns with
  | nil =>
    intro vs w
    rw [List.map_nil] at w
    cases w
    exact .nil
  | cons n ns ih =>
    intro vs w
    rw [List.map_cons] at w
    cases w with
    | cons a b =>
      cases a
      exact .cons _ _ (ih _ b)
theorem script_of {l : OpenLaw} {n : Nat} (hn : l.most = some n) {P : Params} {h : Heap} {args : List WData} {vals : List Value}
    (hpre : l.row.toRowW.claim.pre args = true) (hwl : WellAll P h vals args) :
    ∃ a vs ns, vals = [Value.ref a] ∧ args = [WData.list (ns.map WData.int)] ∧ h.get? a = some { cls := .type "list", data := .seq vs.toArray } ∧ IntsAre vs ns ∧ ns.length ≤ n := by
  have hsh : WShape.hasAll [] args [.list .int] = true := (pre_splitW hpre).1
  have hc : l.pre.holds [] { args := args } = true := (pre_splitW hpre).2
  obtain ⟨d, r, rfl, h1, h2⟩ := hasAllW_cons hsh
  obtain rfl := hasAllW_nil h2
  obtain ⟨xs, rfl, h3⟩ := hasW_list h1
  obtain ⟨ns, rfl⟩ := items_int h3
  have hlen : ns.length ≤ n := by
    unfold OpenLaw.pre at hc
    have h4 : (WTm.not (.lt (.lit (.int (n : Int))) (.len (.arg 0)))).holds [] { args := [.list (ns.map .int)] } = true := by
      have h4 := (holds_andW hc).1
      rw [hn] at h4
      exact h4
    have h5 := condW_of h4 (w_not (w_lt w_lit (w_len_list (w_arg rfl))))
    rw [List.length_map] at h5
    refine Nat.le_of_not_lt fun q => ?_
    have q' : (n : Int) < ((ns.length : Nat) : Int) := by omega
    first
      | (rw [decide_eq_true q'] at h5; exact absurd h5 (by decide))
      | (simp at h5; omega)
  cases hwl with
  | cons w1 w2 =>
    cases w2
    cases w1 with
    | list ho hall => exact ⟨_, _, ns, rfl, rfl, ho, ints_of_wellAll ns _ hall, hlen⟩
theorem post_true (l : OpenLaw) (args : List WData) : l.row.toRowW.claim.post args (.bool true) args = true :=
  postW_of (r := l.row.toRowW) (X := (true == true))
    (show WShape.has [] (.bool true) .bool = true by first | rfl | decide | simp [WShape.has, WShape.arms, WShape.armsAll])
    (show (WTm.eq .res (.lit (.bool true))).value [] { args := args, res := some (.bool true), after := args } = some (.bool (true == true)) from w_eq_bool (w_res rfl) w_lit) rfl
theorem attach_call {l : OpenLaw} {n : Nat} {q : Program} {loose : List Str} {XP : (Str → Option Value) → Heap → Prop} {YP : World → Heap → Prop} {d : DefRec}
    (hn : l.most = some n) (hdf : d.params.defaults = [])
    (call : ∀ (w : World) (s₀ s₁ : Shared) (mg mb : Str → Option Value) (fa : Addr) (o : Obj) (pm cd doc : Value) (a : Addr) (vs : List Value) (ns : List Int),
      Ground q loose [] XP w s₀ mg mb s₁.heap → YP w s₁.heap →
      s₁.heap.get? fa = some o → o.data = .func (docDef d.name d.params d.body d.scope pm cd doc) → s₁.heap.CodeRec cd d.name → mg d.name = some (.ref fa) →
      s₁.heap.get? a = some { cls := .type "list", data := .seq vs.toArray } → IntsAre vs ns → ns.length ≤ n → s₁.gens = #[] →
      codeAny (model l.prog w) callerA (.call (.ref fa) ⟨[.ref a], []⟩) (fun r s' => r = .ok (.ret (.bool true)) ∧ OldK s₁.heap s'.heap ∧ s'.os = s₁.os ∧ AllBare s'.gens) s₁) :
    WalkO q loose XP YP l.row.toRowW d [] (fun f vs => PySem.call f vs) := by
  intro w s₀ s₁ mg mb G Y fa o pm cd doc dV kV ho hd hcd hD hmg hg args vals as hpre hlay hrd hwl hlo
  obtain rfl : dV = .none := Dflts.none hD hdf
  obtain rfl : kV = .none := Dflts.noKw hD
  obtain ⟨a, vs, ns, rfl, rfl, hobj, hints, hlen⟩ := script_of hn hpre hwl
  refine enter_call (codeAny_mono (call w s₀ s₁ mg mb fa o pm cd doc a vs ns G Y ho (fd_plain hd) hcd hmg hobj hints hlen hg) fun r s' hq => ?_)
  obtain ⟨rfl, h2, h3, h4⟩ := hq
  exact ⟨.inl ⟨.bool true, .bool true, [], rfl, fun _ => rfl, .bool true, post_true l _, fun _ => ⟨List.Pairwise.nil, fun _ hm => (nomatch hm)⟩⟩, h2, h3, h4⟩
section
variable {prog : Program} {w : World} {A : Around} {E : Value → Shared → Prop} {s : Shared} {K : Frag}
end
end Att
namespace L2
open PySem PySem.Spec PyProof.Rows
theorem vals_ints : ∀ {vs : List Value} {ns : List Int}, IntsAre vs ns → Vals (ns.map V.int) vs
  | _, _, .nil => .nil
  | _, _, .cons n t h => .cons ⟨t, rfl⟩ (vals_ints h)
def Only (H : Hp) : Prop := ∀ b, H b = none ∨ ∃ o xs, H b = some (.frz o (.lst xs))
theorem law_call {P : Program} {w : World} {K : PySem.W.Frag} {mg mb : Str → Option Value} {CX : CXT} {k : Nat} {fa a : Addr} {fd : FuncData} {x : Str} {sp : Sp} {s₁ : Shared} {vs : List Value} {ns : List Int}
    (KX : K.In s₁.heap) (hns : s₁.heap.Ns mainGlobals mg) (hb : s₁.heap.Ns builtinsNs mb) (hbb : ∀ x : Str, x ≠ "__name__" → mb x = bootBuiltins x) (hlim : s₁.heap.NoLimit) (hg : s₁.gens = #[])
    (ha : s₁.heap.get? a = some { cls := .type "list", data := .seq vs.toArray }) (hi : IntsAre vs ns) (hl : ns.length ≤ sizeLine) (hr : Room k callerA)
    (F : ∀ base : Heap, K.In base → base.Ns mainGlobals mg → FnOk P w K mg base CX k fa fd [x] sp) (hbind : ∀ (s : Shared) (u : Value), BindsTo s fd ⟨[u], []⟩ [(x, u)])
    (hsp : ∀ H : Hp, Only H → SqL K H a (ns.map V.int) → sp [.ref a] H (fun v _ => v = .bl true) fun _ _ _ => False)
    (hCX : ∀ H e s', CX [] H s₁ (fun _ _ _ => False) e s' → False) :
    codeAny (model P w) callerA (.call (.ref fa) ⟨[.ref a], []⟩) (fun r s' => r = .ok (.ret (.bool true)) ∧ OldK s₁.heap s'.heap ∧ s'.os = s₁.os ∧ AllBare s'.gens) s₁ := by
  have rv := vals_ints hi
  have lenV := hi.length
  have core : ∀ H : Hp, Only H → SqL K H a (ns.map V.int) → HOk P w H s₁.heap → (∀ b, H b ≠ none → b = a) → (H a ≠ none → K.lookup a = none) →
      codeAny (model P w) callerA (.call (.ref fa) ⟨[.ref a], []⟩) (fun r s' => r = .ok (.ret (.bool true)) ∧ OldK s₁.heap s'.heap ∧ s'.os = s₁.os ∧ AllBare s'.gens) s₁ := by
    intro H hO hS hok hA hK
    have base_of : ∀ {b : Addr} {o : Obj}, s₁.heap.get? b = some o → H b = none → (hidT s₁.heap H).get? b = some o := fun e n => hidT_get e n
    have noA : ∀ {b : Addr} {o : Obj} {es : Array DictEntry} {ep : Nat}, s₁.heap.get? b = some o → o.data = .dict es ep → H b = none := fun {b o es ep} e d => by
      cases q : H b with
      | none => rfl
      | some u =>
        have e' : b = a := hA b (by rw [q]; simp)
        subst e'
        rw [ha] at e; cases e
        have d' : Data.seq vs.toArray _ = Data.dict es ep := d
        cases d'
    have nsK : ∀ {b : Addr} {m : Str → Option Value}, s₁.heap.Ns b m → (hidT s₁.heap H).Ns b m := fun {b m} ⟨o, es, ep, e, d, r⟩ => ⟨o, es, ep, base_of e (noA e d), d, r⟩
    have hKb : K.In (hidT s₁.heap H) := fun b o e => base_of (KX b o e) (by
      cases q : H b with
      | none => rfl
      | some u =>
        have e' : b = a := hA b (by rw [q]; simp)
        subst e'
        rw [hK (by rw [q]; simp)] at e; cases e)
    have hM : Mod K mg (hidT s₁.heap H) := ⟨hKb, nsK hns, ⟨mb, nsK hb, hbb⟩, let ⟨mc, h1, h2⟩ := hlim; ⟨mc, nsK h1, h2⟩⟩
    have e0 : Env0 P w K mg (hidT s₁.heap H) callerA [] s₁ H := ⟨rfl, hM, fun b o e => of_hidT e, Nat.le_of_eq (hidT_size _ _), trivial, fun b hb => absurd (show b ∈ ([] : List Addr) from hb) (by simp), hok, .of_eq hg⟩
    refine codeAny_mono ((F _ hKb (nsK hns)).run callerA [] s₁ H ⟨[.ref a], []⟩ [.ref a] [.ref a] _ _ hr e0 (hbind s₁ (.ref a)) (.cons rfl .nil) (hsp H hO hS)) fun r s' h => ?_
    cases r with
    | error e => exact (hCX H e s' h).elim
    | ok fl =>
      cases fl with
      | next => exact False.elim h
      | brk => exact False.elim h
      | cont => exact False.elim h
      | ret u =>
        obtain ⟨v, H', os, bare, un, hok', r', q⟩ := h
        have q' : v = .bl true := q
        subst q'
        obtain rfl : u = Value.bool true := r'
        refine ⟨rfl, OldK.of_keep fun b o e => ?_, os, bare⟩
        cases q : H b with
        | none => exact un.keep b o e q (by intro z; exact absurd (show b ∈ ([] : List Addr) from z) (by simp)) (by simp)
        | some u =>
          rcases hO b with z | ⟨ob, xs, z⟩
          · rw [q] at z; cases z
          · have z2 := un.frzs b ob _ z
            obtain ⟨e1, _⟩ := hok b _ z
            obtain ⟨e2, _⟩ := hok' b _ z2
            rw [e] at e1; cases e1
            exact e2
  cases hk : K.lookup a with
  | some o =>
    have e := KX a o hk
    rw [ha] at e
    cases e
    refine core (fun _ => none) (fun _ => .inl rfl) (.inr ⟨_, vs.toArray, _, hk, rfl, rfl, rfl, by rw [List.size_toArray, lenV]; exact hl, by simpa using rv⟩) (fun b u z => by have z' : (none : Option HO) = some u := z; cases z') (fun b z => absurd rfl z) fun z => absurd rfl z
  | none =>
    refine core (fun b => if b = a then some (.frz { cls := .type "list", data := .seq vs.toArray } (.lst (ns.map V.int))) else none) (fun b => ?_) (.inl (.inr ⟨{ cls := .type "list", data := .seq vs.toArray }, if_pos rfl⟩)) (fun b u z => ?_) (fun b z => ?_) fun _ => hk
    · by_cases hb : b = a
      · exact .inr ⟨_, _, if_pos hb⟩
      · exact .inl (if_neg hb)
    · by_cases hb : b = a
      · have z' := (if_pos hb).symm.trans z
        cases z'
        subst hb
        exact ⟨ha, by rw [List.length_map]; exact hl, vs, _, rv, ha⟩
      · have z' := (if_neg hb).symm.trans z
        cases z'
    · by_cases hb : b = a
      · exact hb
      · exact absurd (if_neg hb) z
end L2
namespace L2
open PySem PySem.Spec PyProof.Rows
theorem walk_of {l : PySem.W.OpenLaw} {n k : Nat} {q : Program} {loose : List Str} {XP : (Str → Option Value) → Heap → Prop} {YP : World → Heap → Prop} {d : DefRec} {K : Params → PySem.W.Frag} {CX : World → CXT} {sp : World → Sp} {x : Str}
    (hn : l.most = some n) (hn2 : n ≤ sizeLine) (hdf : d.params.defaults = []) (hr : Room k callerA)
    (hY : ∀ (w : World) (h : Heap), YP w h → (K w.params).In h)
    (F : ∀ (w : World) (mg : Str → Option Value) (fa : Addr) (h : Heap), (K w.params).In h → h.Ns mainGlobals mg → mg d.name = some (.ref fa) →
      ∃ fd : FuncData, (∀ (s : Shared) (u : Value), BindsTo s fd ⟨[u], []⟩ [(x, u)]) ∧
        ∀ base : Heap, (K w.params).In base → base.Ns mainGlobals mg → FnOk l.prog w (K w.params) mg base (CX w) k fa fd [x] (sp w))
    (hsp : ∀ (w : World) (H : Hp) (a : Addr) (ns : List Int), ns.length ≤ n → Only H → SqL (K w.params) H a (ns.map V.int) → sp w [.ref a] H (fun v _ => v = .bl true) fun _ _ _ => False)
    (hCX : ∀ (w : World) (H : Hp) (s : Shared) (e : Value) (s' : Shared), CX w [] H s (fun _ _ _ => False) e s' → False) :
    PySem.W.WalkO q loose XP YP l.row.toRowW d [] (fun f vs => PySem.call f vs) := by
  refine Att.attach_call hn hdf fun w s₀ s₁ mg mb fa o pm cd doc a vs ns G Y ho hd hcd hmg hobj hints hlen hg => ?_
  have KX := hY w _ Y
  obtain ⟨fd, hb, hF⟩ := F w mg fa _ KX G.T.g hmg
  exact law_call KX G.T.g G.T.b G.T.builtins G.T.nolimit hg hobj hints (Nat.le_trans hlen hn2) hr hF hb (fun H hO hS => hsp w H a ns hlen hO hS) fun H e s' => hCX w H s₁ e s'
end L2
/- THE LAST THEOREM (shape; LID, My.* are yours):
   My.Adr: a structure of the addresses that your layer names (classes, functions); My.Txt K t: a structure (Prop) of the equations over K;
   My.txt_mk : {K} {implicit addresses ..} (e1 : nsIn K mainGlobals "law" = some (some (.ref f))) (e2 : K.lookup f = some ⟨oc, od, .func (fnOf "law" "law" params body scope dV kV doc pm an cdv ct), sl⟩) (e3 : codeIn K cdv "law" = true) .. : ∃ t, My.Txt K t
set_option maxRecDepth 100000 in
set_option maxHeartbeats 0 in
(the tactic k_is has no namespace: write k_is) -/
namespace L2
open PySem PySem.Spec PyProof.Rows
def defArgs (s : Stmt) : Arguments := match s with
  | .FunctionDef _ a _ _ _ _ _ _ _ _ => a
  | _ => { posonlyargs := [], args := [], vararg := none, kwonlyargs := [], kw_defaults := [], kwarg := none, defaults := [] }
def defBody (s : Stmt) : List Stmt := match s with
  | .FunctionDef _ _ b _ _ _ _ _ _ _ => b
  | _ => []
def defScope (s : Stmt) : Scope := match s with
  | .FunctionDef _ _ _ _ _ _ sc _ _ _ => sc
  | _ => { kind := .function, names := [], isGenerator := false, isCoroutine := false }
abbrev E0 : XK := fun _ _ _ => False
structure Fun (K : PySem.W.Frag) (x qual : Str) (st : Stmt) (f : Addr) (fd : FuncData) : Prop where
  ex : ∃ (oc : Value) (od : Option Addr) (kV doc pm : Value) (an : Option Addr) (cdv ct : Value) (osl : Array (Option Value)),
    fd = PySem.W.fnOf x qual (defArgs st) (defBody st) (defScope st) .none kV doc pm an cdv ct ∧ K.lookup f = some ⟨oc, od, .func fd, osl⟩ ∧ PySem.W.codeIn K cdv qual = true
  kp : PySem.W.keepIn K (.ref f) = true
section
variable {P : Program} {w : World} {K : PySem.W.Frag} {mg : Str → Option Value} {base : Heap}
theorem Fun.binds {x qual : Str} {st : Stmt} {f : Addr} {fd : FuncData} {ps : List Str} (F : Fun K x qual st f fd)
    (h : ∀ (kV doc pm : Value) (an : Option Addr) (cdv ct : Value) (us : List Value), us.length = ps.length → bindArgs (PySem.W.fnOf x qual (defArgs st) (defBody st) (defScope st) .none kV doc pm an cdv ct) ⟨us, []⟩ = pure (ps.zip us)) : Binds K fd ps [] := by
  obtain ⟨oc, od, kV, doc, pm, an, cdv, ct, osl, rfl, lk, hcd⟩ := F.ex
  exact .all (h kV doc pm an cdv ct)
theorem fun_mk {x qual : Str} {st : Stmt} {f : Addr} {oc : Value} {od an : Option Addr} {osl : Array (Option Value)} {kV doc pm cdv ct : Value} (l : K.lookup f = some ⟨oc, od, .func (PySem.W.fnOf x qual (defArgs st) (defBody st) (defScope st) .none kV doc pm an cdv ct), osl⟩)
    (c : PySem.W.codeIn K cdv qual = true) (k : PySem.W.keepIn K (.ref f) = true) : Fun K x qual st f (PySem.W.fnOf x qual (defArgs st) (defBody st) (defScope st) .none kV doc pm an cdv ct) := ⟨⟨oc, od, kV, doc, pm, an, cdv, ct, osl, rfl, l, c⟩, k⟩
end
section
variable {X : Cx}
end
def Same (H H' : Hp) : Prop := ∀ b o, H b = some o → H' b = some o
theorem Same.refl (H : Hp) : Same H H := fun _ _ h => h
theorem Same.trans {H H1 H2 : Hp} (a : Same H H1) (b : Same H1 H2) : Same H H2 := fun c o h => b c o (a c o h)
theorem Same.seq {K : PySem.W.Frag} {H H' : Hp} {a : Addr} {xs : List V} (e : Same H H') (h : SqL K H a xs) : SqL K H' a xs := by
  rcases h with (h | ⟨o, h⟩) | h
  · exact .inl (.inl (e _ _ h))
  · exact .inl (.inr ⟨o, e _ _ h⟩)
  · exact .inr h
end L2
section
set_option Elab.async false
set_option linter.all false
set_option maxRecDepth 100000
namespace L2
open PySem PySem.Spec PyProof.Rows
section
variable {κ : Type} [DecidableEq κ]
end
section
variable {P : Program} {w : World} {H : Hp} {h : Heap} {a : Addr}
end
section
variable {X : Cx} {pins : List (Addr × Obj)} {σ : St} {H : Hp} {s : Shared} {a : Addr} {y v : V} {u r : Value} {o : Option V} {A : Around} {E : Value → Shared → Prop}
end
section
variable {X : Cx} {pins : List (Addr × Obj)} {σ : St} {H : Hp} {s : Shared} {a : Addr} {kvs : List (Key × V)} {k : Key} {u : Value} {A : Around} {E : Value → Shared → Prop}
end
section
variable {X : Cx} {o i e value : Expr} {pos pos' tpos : Pos} {td ty tv : TE}
end
section
variable {X : Cx} {pos : Pos}
end
structure M1 (X : Cx) (o : Expr) (m : Str) (apos : Pos) (e : Expr) (cpos : Pos) : Prop where
  base : attributeBase o m X.env (eval o X.env) = eval o X.env
  few : ((backTo cpos (starEach [e] X.env)).all (fun x => !x.1) && (backToKw cpos (keywordEach [] X.env)).all (fun x => x.1.isSome)
    && decide (([e] : List Expr).length + ([] : List Keyword).length + (if ([] : List Keyword).isEmpty then 0 else 1) < 30)) = true
  line : (apos.endLine == cpos.line) = true
  trees : backTo cpos (starEach [e] X.env) = [(false, eval e X.env)]
structure M2 (X : Cx) (o : Expr) (m : Str) (apos : Pos) (e f : Expr) (cpos : Pos) : Prop where
  base : attributeBase o m X.env (eval o X.env) = eval o X.env
  few : ((backTo cpos (starEach [e, f] X.env)).all (fun x => !x.1) && (backToKw cpos (keywordEach [] X.env)).all (fun x => x.1.isSome)
    && decide (([e, f] : List Expr).length + ([] : List Keyword).length + (if ([] : List Keyword).isEmpty then 0 else 1) < 30)) = true
  line : (apos.endLine == cpos.line) = true
  trees : backTo cpos (starEach [e, f] X.env) = [(false, eval e X.env), (false, eval f X.env)]
section
variable {X : Cx} {pins : List (Addr × Obj)} {σ : St} {H : Hp} {s : Shared} {a : Addr} {y d : V} {u r : Value} {o : Option V} {A : Around} {E : Value → Shared → Prop}
end
section
variable {X : Cx} {o e f : Expr} {apos cpos : Pos} {td ty tx : TE}
end
section
variable {X : Cx} {pins : List (Addr × Obj)} {σ : St} {H : Hp} {s : Shared} {a : Addr} {kvs : List (Key × V)} {A : Around} {E : Value → Shared → Prop}
end
section
variable {X : Cx} {pins : List (Addr × Obj)} {σ : St} {H : Hp} {s : Shared} {a : Addr} {y : V} {u : Value} {A : Around} {E : Value → Shared → Prop}
end
end L2
namespace L2
open PySem PySem.Spec PyProof.Rows
section
variable {X : Cx}
end
section
variable {κ : Type} [DecidableEq κ]
end
end L2
end
section
set_option Elab.async false
set_option linter.all false
set_option maxRecDepth 100000
set_option maxHeartbeats 4000000
set_option autoImplicit false
namespace Lw
open PySem PySem.Spec PyProof.Rows L2
def Mild {α : Type} : Sem α → Prop
  | .pure _ => True
  | .raise _ => True
  | .unsupported _ => True
  | .finish _ => True
  | .rule _ k => Mild (k ())
  | .at _ k => Mild (k ())
  | .load _ _ k => ∀ o, Mild (k o)
  | .update _ _ f k => (∀ o, (f o).dict = o.dict ∧ (f o).isFreed = o.isFreed) ∧ Mild (k ())
  | .alloc _ k => ∀ a, Mild (k a)
  | .stack k => ∀ l, Mild (k l)
  | _ => False
def DctAt (e : Addr) (d : Option Addr) (h : Heap) : Prop := ∃ o, h.get? e = some o ∧ o.dict = d
theorem mild_wp {α : Type} {M : Model} {Γ : PySem.Ctx} {e : Addr} {d : Option Addr} {t : Sem α} : ∀ {Q : α → Pos → Shared → Prop} {E : Value → Pos → Shared → Prop} {p : Pos} {s : Shared}, Mild t → Sem.wp M Γ t Q E p s → DctAt e d s.heap →
    Sem.wp M Γ t (fun a p' s' => Q a p' s' ∧ DctAt e d s'.heap) (fun v p' s' => E v p' s' ∧ DctAt e d s'.heap) p s := by
  induction t with
  | pure a => intro Q E p s _ h D; exact ⟨h, D⟩
  | raise v => intro Q E p s _ h D; exact ⟨h, D⟩
  | unsupported _ => intro Q E p s _ h D; exact h.elim
  | finish _ => intro Q E p s _ h D; exact h.elim
  | rule _ k ih => intro Q E p s m h D; exact ih () m h D
  | «at» _ k ih => intro Q E p s m h D; exact ih () m h D
  | load a _ k ih =>
    intro Q E p s m h D
    obtain ⟨o, ho, h⟩ := h
    exact ⟨o, ho, ih o (m o) h D⟩
  | update a _ f k ih =>
    intro Q E p s m h D
    obtain ⟨ha, h⟩ := h
    refine ⟨ha, ih () m.2 h ?_⟩
    obtain ⟨o, ho, hd⟩ := D
    show DctAt e d (s.heap.update a f)
    by_cases q : a = e
    · subst q
      have hf : o.isFreed = false := (Heap.get?_some_iff.mp ho).2
      exact ⟨_, Heap.get?_update_self f ho ((m.1 o).2.trans hf), (m.1 o).1.trans hd⟩
    · exact ⟨o, (Heap.get?_update_other _ f q).trans ho, hd⟩
  | alloc o k ih =>
    intro Q E p s m h D
    refine ih _ (m _) h ?_
    obtain ⟨o', ho, hd⟩ := D
    exact ⟨o', Heap.get?_push_of_some _ ho, hd⟩
  | stack k ih => intro Q E p s m h D; exact ih _ (m _) h D
  | loadIfAlive _ _ _ | point _ _ _ | register _ _ _ | fresh _ _ | ask _ _ | choose _ _ _ _ | os _ _ _ _ | call _ _ _ _ _ _ | handled _ _ _ | newGen _ _ _ | genState _ _ _ | resume _ _ _ _ _ | yield _ _ _ _ _ | fork _ _ _ | thread _ _ | await _ _ _ _ _ _ => intro Q E p s m; exact m.elim
theorem mild_any {α : Type} {M : Model} {A : Around} {e : Addr} {d : Option Addr} {t : Sem α} {Q : α → Shared → Prop} {E : Value → Shared → Prop} {s : Shared} (m : Mild t) (D : DctAt e d s.heap) (h : wpAny M A t Q E s) :
    wpAny M A t (fun a s' => Q a s' ∧ DctAt e d s'.heap) E s := fun Γ p hΓ =>
  Sem.wp_mono M Γ t (fun _ _ _ x => x) (fun _ _ _ x => x.1) p s (mild_wp m (h Γ p hΓ) D)
theorem mild_bind {α β : Type} {m : Sem α} {f : α → Sem β} (h : Mild m) (k : ∀ a, Mild (f a)) : Mild (m >>= f) := by
  show Mild (m.bind f)
  induction m with
  | pure a => exact k a
  | raise v => exact trivial
  | unsupported _ => exact trivial
  | finish _ => exact trivial
  | rule _ g ih => exact ih () h
  | «at» _ g ih => exact ih () h
  | load a _ g ih => exact fun o => ih o (h o)
  | update a _ f g ih => exact ⟨h.1, ih () h.2⟩
  | alloc o g ih => exact fun a => ih a (h a)
  | stack g ih => exact fun l => ih l (h l)
  | loadIfAlive _ _ _ | point _ _ _ | register _ _ _ | fresh _ _ | ask _ _ | choose _ _ _ _ | os _ _ _ _ | call _ _ _ _ _ _ | handled _ _ _ | newGen _ _ _ | genState _ _ _ | resume _ _ _ _ _ | yield _ _ _ _ _ | fork _ _ _ | thread _ _ | await _ _ _ _ _ _ => exact h.elim
theorem mild_load {a : Addr} : Mild (load a) := fun _ => trivial
theorem mild_stack : Mild stack := fun _ => trivial
theorem mild_pure {α : Type} {a : α} : Mild (pure a : Sem α) := trivial
theorem mild_uns {α : Type} {w : String} : Mild (unsupported w : Sem α) := trivial
theorem mild_mapF {a : Addr} {g : Array Value → Array Value} : Mild (update a (Obj.mapFields g)) := ⟨fun o => by
  obtain ⟨c, d, dt, sl⟩ := o
  cases dt <;> exact ⟨rfl, rfl⟩, trivial⟩
theorem mild_field {v : Value} {i : Nat} : Mild (field v i) := by
  unfold field fieldsOf
  refine mild_bind ?_ fun vs => ?_
  · cases v <;> first | exact mild_uns | skip
    refine mild_bind mild_load fun o => ?_
    cases o.data <;> first | exact mild_pure | exact mild_uns
  · cases vs[i]? <;> first | exact mild_pure | exact mild_uns
theorem mild_setField {v x : Value} {i : Nat} : Mild (setField v i x) := by
  unfold setField
  cases v <;> first | exact mild_uns | skip
  refine mild_bind mild_load fun o => ?_
  cases o.data <;> first | exact mild_uns | skip
  dsimp only
  split
  · exact mild_mapF
  · exact mild_uns
theorem mild_setFlight {e : Value} {fr : Option Addr} : Mild (setFlight e fr) := by
  unfold setFlight
  refine mild_bind mild_field fun tb => ?_
  split
  · exact mild_setField
  · exact mild_pure
theorem mild_ready : ∀ {l : List Env}, Mild (readyFrames l)
  | [] => mild_pure
  | env :: outer => by
    unfold readyFrames
    cases env.frame with
    | none => exact mild_uns
    | some f =>
      refine mild_bind mild_load fun o => ?_
      split
      · exact mild_pure
      · refine mild_bind (m := behindIsImport env outer) ?_ fun imp => mild_bind (m := keptBack env imp outer) ?_ fun back => mild_bind ?_ fun _ => mild_ready
        · unfold behindIsImport
          split
          · exact mild_pure
          · split
            · exact mild_pure
            · exact mild_bind mild_field fun _ => mild_pure
        · cases outer with
          | cons c r => exact mild_pure
          | nil =>
            show Mild (if (env.scope.isGenerator || env.scope.isCoroutine) = true then _ else _)
            split
            · exact mild_pure
            · unfold underTheClaimsCaller
              refine mild_bind (mild_bind mild_stack fun _ => mild_pure) fun _ => ?_
              exact mild_pure
        · exact ⟨fun o => by obtain ⟨c, d, dt, sl⟩ := o; cases dt <;> exact ⟨rfl, rfl⟩, trivial⟩
theorem mild_frameOf {env : Env} : Mild (PySem.frameOf env) := by
  unfold PySem.frameOf frameEnvs
  refine mild_bind (mild_bind mild_stack fun _ => mild_pure) fun l => mild_bind ?_ fun r => ?_
  · generalize List.dropWhile _ l = l'
    cases l' with
    | nil => exact mild_pure
    | cons x xs => exact mild_bind mild_ready fun _ => mild_pure
  · cases r <;> first | exact mild_pure | exact mild_uns
theorem mild_entry {a b c d e : Value} {pl : List Value} : Mild (EntryCells.newEntry a b c d e pl) := by
  unfold EntryCells.newEntry newFields
  generalize [a, b, c, d, e] ++ _ = l
  unfold newObj newObjAsIs
  dsimp only
  split
  · exact mild_bind mild_uns fun _ => mild_bind (m := alloc _) (fun _ => trivial) fun _ => mild_pure
  · exact mild_bind (m := alloc _) (fun _ => trivial) fun _ => mild_pure
theorem mild_place {f : Addr} {b : Bool} : Mild (entryPlaceOf f b) := by
  unfold entryPlaceOf
  refine mild_bind mild_stack fun acts => ?_
  cases List.find? _ acts with
  | none => exact mild_pure
  | some x => exact mild_pure
theorem mild_note {e : Value} {env : Env} : Mild (noteFrame e env) := by
  unfold noteFrame
  cases env.frame with
  | none => exact mild_uns
  | some f =>
    have tl : ∀ head : Value, Mild (do setField e 1 (← EntryCells.newEntry head (← PySem.frameOf env) .none (rawInt f) .none (← entryPlaceOf f (head != .none)))) := fun head =>
      mild_bind mild_frameOf fun _ => mild_bind mild_place fun _ => mild_bind mild_entry fun _ => mild_setField
    refine mild_bind mild_field fun head => ?_
    dsimp only
    split
    · refine mild_bind mild_field fun x => ?_
      split
      · exact mild_pure
      · exact mild_bind mild_setField fun _ => tl head
    · exact tl head
theorem mild_leaving {e : Value} {env : Env} : Mild (leaving env e) := mild_bind mild_note fun _ => mild_setFlight
end Lw
end
section
set_option Elab.async false
set_option linter.all false
set_option maxRecDepth 100000
set_option maxHeartbeats 4000000
namespace Lw
open PySem PySem.Spec PyProof.Rows L2
theorem obj_some {P : Program} {w : World} {H : Hp} {h : Heap} {a : Addr} {o : HO} (x : ObjOk P w H h a o) : ∃ u, h.get? a = some u := by
  cases o with
  | lst xs => obtain ⟨_, _, _, _, e⟩ := x; exact ⟨_, e⟩
  | tup xs => obtain ⟨_, _, _, o, e, _⟩ := x; exact ⟨_, e⟩
  | dK kvs => obtain ⟨_, _, _, _, o, _, _, e, _⟩ := x; exact ⟨_, e⟩
  | dT kvs => obtain ⟨_, _, _, _, o, _, _, e, _⟩ := x; exact ⟨_, e⟩
  | set S n => obtain ⟨o, _, _, _, e, _⟩ := x; exact ⟨_, e⟩
  | ins C dx fs => obtain ⟨_, _, _, e, _⟩ := x; exact ⟨_, e⟩
  | own y => exact x
  | xd fs => obtain ⟨_, ⟨_, _, _, e, _⟩, _⟩ := x; exact ⟨_, e⟩
  | rng lo hi => obtain ⟨_, _, _, e⟩ := x; exact ⟨_, e⟩
  | frz ob u => exact ⟨_, x.1⟩
  | tbl ps => exact ⟨_, x⟩
  | met f y => exact ⟨_, x⟩
  | ext φ => exact x.2.1
structure Fly (P : Program) (w : World) (outer : List Env) (H : Hp) (s : Shared) (H' : Hp) (a : Addr) (cls : Value) (d : Option Addr) (B : Heap) (a0 : Value) (s' : Shared) : Prop where
  os : s'.os = s.os
  bare : AllBare s'.gens
  un : Un (frs outer) [] H H' s.heap s'.heap
  hok : HOk P w H' s'.heap
  fresh : s.heap.get? a = none
  free : H' a = none
  fly : Heap.FlyingW B outer a cls a0 s'.heap
  trk : ∀ b o, H' b ≠ none → s'.heap.get? b = some o → B.get? b = some o
  old : ∀ b o, s.heap.get? b = some o → H b = none → b ∉ frs outer → B.get? b = some o
  any : ∀ b o, s.heap.get? b = some o → b ∉ frs outer → ∃ o', B.get? b = some o'
  dct : DctAt a d s'.heap
section
variable {P : Program} {w : World} {outer : List Env} {H H' : Hp} {s s' : Shared} {a : Addr} {cls a0 : Value} {d : Option Addr} {B h5 : Heap}
theorem Fly.slots (F : Fly P w outer H s H' a cls d B a0 s') (U : s'.heap.UpToSlots h5) {b : Addr} {o : Obj} (hb : b ∈ frs outer) (e : s'.heap.get? b = some o) : ∃ sl, h5.get? b = some { o with slots := sl } := by
  obtain ⟨_, o', e', nf⟩ := F.fly.2.2.1.mem hb
  rw [e] at e'
  cases e'
  exact U b o e nf
theorem Fly.un5 (F : Fly P w outer H s H' a cls d B a0 s') (St : B.StaysIn h5) (U : s'.heap.UpToSlots h5) : Un (frs outer) [] H H' s.heap h5 where
  keep := fun b o e n hb _ => St b o (F.old b o e n hb)
  slot := fun b o e n hb hx => by
    obtain ⟨sl, e1⟩ := F.un.slot b o e n hb hx
    obtain ⟨sl2, e2⟩ := F.slots U hb e1
    exact ⟨sl2, e2⟩
  free := F.un.free
  there := fun b o e hx => by
    by_cases hb : b ∈ frs outer
    · obtain ⟨o', e1⟩ := F.un.there b o e hx
      obtain ⟨sl, e2⟩ := F.slots U hb e1
      exact ⟨_, e2⟩
    · obtain ⟨o', e1⟩ := F.any b o e hb
      exact ⟨o', St b o' e1⟩
  tups := F.un.tups
  frzs := F.un.frzs
  tbls := F.un.tbls
theorem Fly.hok5 (F : Fly P w outer H s H' a cls d B a0 s') (St : B.StaysIn h5) : HOk P w H' h5 := fun b u e => by
  refine (F.hok b u e).stay (fun c v hc q => St c v (F.trk c v ?_ q)) (fun _ q => q) fun _ _ q => q
  rcases hc with z | z
  · rw [z, e]; simp
  · rw [z]; simp
theorem Fly.trk5 (F : Fly P w outer H s H' a cls d B a0 s') (St : B.StaysIn h5) : ∀ b o, H' b ≠ none → h5.get? b = some o → B.get? b = some o := fun b o n e => by
  cases q : H' b with
  | none => exact absurd q n
  | some u =>
    obtain ⟨o1, e1⟩ := obj_some (F.hok b u q)
    have e2 := F.trk b o1 n e1
    have e3 := St b o1 e2
    rw [e] at e3
    cases e3
    exact e2
end
structure DefCx (X : Cx) : Prop where
  stk : X.stack = X.env :: X.outer
  fr : X.env.frame = some X.env.locals
  ex : X.ex = []
section
variable {X : Cx} {pins : List (Addr × Obj)} {σ : L2.St} {H H' : Hp} {s s' : Shared} {M : Model} {E : Value → Shared → Prop} {Q : Unit → Shared → Prop}
theorem not_stk (I : Inv X pins σ H s) {b : Addr} {o : Obj} (e : X.s₀.heap.get? b = some o) (hb : b ∉ X.fs) : b ∉ frs X.stack := fun z => by
  rcases List.mem_cons.mp (I.stkSub b z) with q | q
  · subst q
    exact Nat.lt_irrefl _ (Nat.lt_of_lt_of_le (Heap.lt_size e) I.ok.above)
  · exact hb q
theorem fresh_of (D : DefCx X) (I : Inv X pins σ H s) {a : Addr} (n : s.heap.get? a = none) : X.s₀.heap.get? a = none := by
  cases q : X.s₀.heap.get? a with
  | none => rfl
  | some o =>
    obtain ⟨o', e⟩ := I.base.there a o q (by rw [D.ex]; simp)
    rw [n] at e
    cases e
theorem fly_on {a : Addr} {cls a0 : Value} {d : Option Addr} {B : Heap} (D : DefCx X) (I : Inv X pins σ H s) (F : Fly X.prog X.w X.stack H s H' a cls d B a0 s')
    (k : ∀ s'', Fly X.prog X.w X.outer X.H₀ X.s₀ H' a cls d B a0 s'' → Q () s'') : wpAny M X.A (leaving X.env (.ref a)) Q E s' := by
  have hfr : X.A.frames = some (X.env :: X.outer) := by rw [I.ok.frames, D.stk]
  have hfl := F.fly
  rw [D.stk] at hfl
  have hex : ∀ b : Addr, b ∉ X.ex := fun b => by rw [D.ex]; simp
  refine wpAny_mono (mild_any mild_leaving F.dct (wpAny_leaves_onW (Q := fun _ s5 => ∃ h5, s5 = { s' with heap := h5 } ∧ Heap.FlyingW B X.outer a cls a0 h5 ∧ s'.heap.UpToSlots h5) hfr D.fr hfl fun h5 f5 u5 => ⟨h5, rfl, f5, u5⟩)) (fun _ s5 ⟨⟨h5, e5, f5, u5⟩, d5⟩ => ?_) fun _ _ z => z
  subst e5
  refine k _ ?_
  have I5 : Inv X pins σ H' { s' with heap := h5 } := I.call' (s' := { s' with heap := h5 }) (ch := []) F.os (F.un5 f5.1 u5) (F.hok5 f5.1) F.bare fun b hb => absurd hb (by simp)
  refine ⟨I5.os, I5.bare, ?_, I5.hok, fresh_of D I F.fresh, F.free, f5, F.trk5 f5.1, fun b o e n hb => ?_, fun b o e hb => ?_, d5⟩
  · have u := I5.base
    rw [D.ex] at u
    exact u
  · exact F.old b o (I.base.keep b o e n hb (hex b)) (I.base.free b o e n (hex b)) (not_stk I e hb)
  · obtain ⟨o1, e1⟩ := I.base.there b o e (hex b)
    exact F.any b o1 e1 (not_stk I e hb)
theorem fly_made {h' : Heap} {e : Addr} {cls : Value} {vs : List Value} (D : DefCx X) (I : Inv X pins σ H s) (hx : Heap.MadeExcOf s.heap h' e cls vs)
    (k : ∀ s'' B a0, Fly X.prog X.w X.outer X.H₀ X.s₀ H e cls none B a0 s'' → Q () s'') : wpAny M X.A (leaving X.env (.ref e)) Q E { s with heap := h' } := by
  have hfr : X.A.frames = some (X.env :: X.outer) := by rw [I.ok.frames, D.stk]
  have hex : ∀ b : Addr, b ∉ X.ex := fun b => by rw [D.ex]; simp
  have hB : ∀ b o, s.heap.get? b = some o → b ∉ frs X.stack → (PySem.W.hideAll s.heap (frs X.stack)).get? b = some o := fun b o q nm => PySem.W.hideAll_get _ q nm
  have hl : s.heap.FunFrames (PySem.W.hideAll s.heap (frs X.stack)) (X.env :: X.outer) := by
    have z := PySem.W.funFrames_hide (as := frs X.stack) I.stack fun env he b hb => List.mem_filterMap.mpr ⟨env, he, hb⟩
    rw [D.stk] at z ⊢
    exact z
  have tn : ∀ b, H b ≠ none → b ∉ frs X.stack := fun b n z => n (I.stkFree b z)
  have D0 : DctAt e none ({ s with heap := h' } : Shared).heap := by
    obtain ⟨t, q, _⟩ := hx.there
    exact ⟨_, q, rfl⟩
  refine wpAny_mono (mild_any mild_leaving D0 (wpAny_leaves_madeW (s := { s with heap := h' }) (Q := fun _ s5 => ∃ h5 t, s5 = { s with heap := h5 } ∧ Heap.FlyingW (PySem.W.hideAll s.heap (frs X.stack)) X.outer e cls (.ref t) h5 ∧ h'.UpToSlots h5) hfr D.fr (fun b o q => PySem.W.of_hideAll _ q) hl hx fun h5 t f5 _ _ u5 => ⟨h5, t, rfl, f5, u5⟩)) (fun _ s5 ⟨⟨h5, t, e5, f5, u5⟩, d5⟩ => ?_) fun _ _ z => z
  subst e5
  refine k _ (PySem.W.hideAll s.heap (frs X.stack)) (.ref t) ?_
  have St := f5.1
  have un5 : Un (frs X.stack) [] H H s.heap h5 := by
    have sl : ∀ b o, s.heap.get? b = some o → b ∈ frs X.stack → ∃ sl, h5.get? b = some { o with slots := sl } := fun b o e hb => by
      obtain ⟨_, o', e', nf⟩ := I.stack.mem hb
      rw [e] at e'
      cases e'
      exact u5 b o (hx.keeps b o e) nf
    refine ⟨fun b o e n hb _ => St b o (hB b o e hb), fun b o e n hb _ => sl b o e hb, fun _ _ _ n _ => n, fun b o e _ => ?_, fun _ _ q => q, fun _ _ _ q => q, fun b ps q => ⟨#[], by rw [q]; simp⟩⟩
    by_cases hb : b ∈ frs X.stack
    · obtain ⟨z, e1⟩ := sl b o e hb
      exact ⟨_, e1⟩
    · exact ⟨o, St b o (hB b o e hb)⟩
  have hok5 : HOk X.prog X.w H h5 := fun b u e => by
    refine (I.hok b u e).stay (fun c v hc q => St c v (hB c v q (tn c ?_))) (fun _ q => q) fun _ _ q => q
    rcases hc with z | z
    · rw [z, e]; simp
    · rw [z]; simp
  have I5 : Inv X pins σ H { s with heap := h5 } := I.call' (s' := { s with heap := h5 }) (ch := []) rfl un5 hok5 I.bare fun b hb => absurd hb (by simp)
  refine ⟨I5.os, I5.bare, ?_, hok5, fresh_of D I hx.new, ?_, f5, fun b o n q => ?_, fun b o e n hb => ?_, fun b o e hb => ?_, d5⟩
  · have u := I5.base
    rw [D.ex] at u
    exact u
  · cases q : H e with
    | none => rfl
    | some u =>
      obtain ⟨o, z⟩ := obj_some (I.hok e u q)
      rw [hx.new] at z
      cases z
  · cases z : H b with
    | none => exact absurd z n
    | some u =>
      obtain ⟨o1, e1⟩ := obj_some (I.hok b u z)
      have e2 := hB b o1 e1 (tn b n)
      have e3 := St b o1 e2
      have q' : h5.get? b = some o := q
      rw [q'] at e3
      cases e3
      exact e2
  · exact hB b o (I.base.keep b o e n hb (hex b)) (not_stk I e hb)
  · obtain ⟨o1, e1⟩ := I.base.there b o e (hex b)
    exact ⟨o1, hB b o1 e1 (not_stk I e hb)⟩
end
def CXE (P : Program) (w : World) : CXT := fun outer H s E e s' => ∃ a cls d H' B a0, e = .ref a ∧ Fly P w outer H s H' a cls d B a0 s' ∧ E cls d H'
theorem cxe0 {P : Program} {w : World} {outer : List Env} {H : Hp} {s s' : Shared} {e : Value} (h : CXE P w outer H s (fun _ _ _ => False) e s') : False := by
  obtain ⟨_, _, _, _, _, _, _, _, z⟩ := h
  exact z
theorem passX0 {X : Cx} : Passes (CXE X.prog X.w) X E0 := fun _ _ _ _ _ _ _ h => (cxe0 h).elim
section
variable {P : Program} {w : World} {K : PySem.W.Frag} {mg : Str → Option Value} {base : Heap} {N : List Str} {qual : Str} {scope : Scope} {f : Addr} {cd : Value} {A : Around} {outer : List Env} {s₀ : Shared} {H₀ : Hp} {E : XK}
theorem passX : Passes (CXE P w) (cxOf (CXE P w) P w K mg base N qual scope f cd A outer s₀ H₀ E) E := by
  intro pins σ H1 s1 e s' I h
  obtain ⟨a, cls, d, H', B, a0, rfl, F, q⟩ := h
  exact fly_on (X := cxOf (CXE P w) P w K mg base N qual scope f cd A outer s₀ H₀ E) ⟨rfl, rfl, rfl⟩ I F fun s'' F' => ⟨a, cls, d, H', B, a0, rfl, F', q⟩
theorem raiseX {pins : List (Addr × Obj)} {σ : L2.St} {H : Hp} {s : Shared} {h' : Heap} {e : Addr} {cls : Value} {vs : List Value} (I : Inv (cxOf (CXE P w) P w K mg base N qual scope f cd A outer s₀ H₀ E) pins σ H s) (hx : Heap.MadeExcOf s.heap h' e cls vs) (q : E cls none H) :
    (cxOf (CXE P w) P w K mg base N qual scope f cd A outer s₀ H₀ E).xe (.ref e) { s with heap := h' } :=
  fly_made (X := cxOf (CXE P w) P w K mg base N qual scope f cd A outer s₀ H₀ E) ⟨rfl, rfl, rfl⟩ I hx fun s'' B a0 F' => ⟨e, cls, none, H, B, a0, rfl, F', q⟩
end
end Lw
end
section
set_option Elab.async false
set_option linter.all false
set_option maxRecDepth 100000
set_option maxHeartbeats 4000000
namespace Lw
open PySem PySem.Spec PyProof.Rows L2
def Br (b : Bool) (A B : Prop) : Prop := (b = true → A) ∧ (b = false → B)
theorem br_eq (b : Bool) (A B : Prop) : Br b A B = (if b = true then A else B) := by
  unfold Br
  cases b <;> simp
def dVar (i : Nat) : TE := fun σ H Q => match σ[i]? with
  | some (some v) => Q v H
  | _ => False
theorem dVar_eq (i : Nat) : dVar i = tVar i := by
  funext σ H Q
  apply propext
  unfold dVar tVar
  cases h : σ[i]? with
  | none => simp
  | some o => cases o <;> simp
def dI (C : Int → Int → Prop) (g : Int → Int → V) : R2 := fun x y H Q => match x, y with
  | .int i, .int j => C i j ∧ Q (g i j) H
  | _, _ => False
def dI0 (g : Int → Int → V) : R2 := fun x y H Q => match x, y with
  | .int i, .int j => Q (g i j) H
  | _, _ => False
def dU (g : Int → V) : V → Hp → VK → Prop := fun x H Q => match x with
  | .int i => Q (g i) H
  | _ => False
def dTest (t : TE) : TT := fun σ H Q => t σ H fun x H' => match x with
  | .bl k => Q k H'
  | _ => False
theorem dTest_eq (t : TE) : dTest t = tTest t := by
  funext σ H Q
  unfold dTest tTest
  congr 1
  funext x H'
  apply propext
  cases x <;> simp
theorem dTest_eqB (t : TE) : dTest t = tB t := dTest_eq t
def dAnd (t u : TT) : TT := fun σ H Q => t σ H fun c H1 => Br c (u σ H1 Q) (Q false H1)
def dOr (t u : TT) : TT := fun σ H Q => t σ H fun c H1 => Br c (Q true H1) (u σ H1 Q)
theorem dAnd_eq (t u : TT) : dAnd t u = tAnd t u := by
  funext σ H Q
  unfold dAnd tAnd
  simp only [br_eq]
theorem dOr_eq (t u : TT) : dOr t u = tOr t u := by
  funext σ H Q
  unfold dOr tOr
  simp only [br_eq]
def dAndV (ta tb : TE) : TE := fun σ H Q => ta σ H fun x H1 => match x with
  | .bl c => Br c (tb σ H1 Q) (Q (.bl false) H1)
  | _ => False
def dNotV (ta : TE) : TE := fun σ H Q => ta σ H fun x H1 => match x with
  | .bl c => Q (.bl (!c)) H1
  | _ => False
theorem dAndV_eq (t u : TE) : dAndV t u = tAndV t u := by
  funext σ H Q
  unfold dAndV tAndV
  congr 1
  funext x H'
  apply propext
  cases x <;> simp [br_eq]
theorem dNotV_eq (t : TE) : dNotV t = tNotV t := by
  funext σ H Q
  unfold dNotV tNotV
  congr 1
  funext x H'
  apply propext
  cases x <;> simp
def dIfS (c : TT) (t u : TS) : TS := fun D σ H => c σ H fun b H1 => Br b (t D σ H1) (u D σ H1)
theorem dIfS_eq (c : TT) (t u : TS) : dIfS c t u = tIfS c t u := by
  funext D σ H
  unfold dIfS tIfS
  simp only [br_eq]
def dIf (t : TT) (ta tb : TE) : TE := fun σ H Q => t σ H fun c H1 => Br c (ta σ H1 Q) (tb σ H1 Q)
theorem dIf_eq (c : TT) (t u : TE) : dIf c t u = tIf c t u := by
  funext D σ H
  unfold dIf tIf
  simp only [br_eq]
section
variable {X : Cx} {a b c : Expr} {ta tb tc : TE} {pos : Pos} {tA tB' : TT} {rest : List Expr}
theorem dv (i : Nat) {x : Str} {pos : Pos} (hN : X.N[i]? = some x := by rfl) (hv : Vis X.env.scope x := by first | exact Or.inl rfl | exact Or.inr (Or.inl rfl) | exact Or.inr (Or.inr rfl)) (hd : (x == ("__debug__" : Str)) = false := by decide)
    (hcd : (x == ("__classdict__" : Str)) = false := by decide) : PE X (.Name x pos) (dVar i) := by
  rw [dVar_eq]
  exact pe_var hN hv hd hcd
theorem opD {f : Value → Value → Sem Value} {C : Int → Int → Prop} {g : Int → Int → V} (h : OpR X f (rI C g)) : OpR X f (dI C g) := by
  intro pins s σ H x y v u Q I rx ry q
  cases x <;> cases y <;> first
    | exact False.elim q
    | exact h _ _ _ _ _ _ _ _ _ I rx ry ⟨_, _, rfl, rfl, q.1, q.2⟩
theorem opD0 {f : Value → Value → Sem Value} {g : Int → Int → V} (h : OpR X f (rI0 g)) : OpR X f (dI0 g) := by
  intro pins s σ H x y v u Q I rx ry q
  cases x <;> cases y <;> first
    | exact False.elim q
    | exact h _ _ _ _ _ _ _ _ _ I rx ry ⟨_, _, rfl, rfl, q⟩
theorem unD {f : Value → Sem Value} {g : Int → V} (h : UnR X f (rU g)) : UnR X f (dU g) := by
  intro pins s σ H x v Q I rx q
  cases x <;> first
    | exact False.elim q
    | exact h _ _ _ _ _ _ _ I rx ⟨_, rfl, q⟩
def Bd (n : Nat) (x : Int) : Prop := x.natAbs < 2 ^ n
theorem Bd.bits {n : Nat} {x : Int} (h : Bd n x) : Builtin.Int.intBits x ≤ n := intBits_le_iff.mpr h
def COk (i j : Int) : Prop := (Bd 4000 i ∧ Bd 4000 j) ∨ CMul i j
theorem COk.ok {i j : Int} (h : COk i j) : IntMulOk i j := by
  rcases h with ⟨h1, h2⟩ | h
  · exact PySem.IntMulOk.of_bits (Nat.le_trans h1.bits (by decide)) (Nat.le_trans h2.bits (by decide))
  · exact h.ok
theorem pow_log {n : Nat} {x : Int} (h : Bd n x) (h0 : 0 < n) : x.natAbs.log2 < n := by
  by_cases z : x.natAbs = 0
  · rw [z]
    simpa using h0
  · exact (Nat.log2_lt z).mpr h
theorem o_add : OpR X (binaryOp .Add) (dI0 fun i j => .int (i + j)) := opD0 op_add
theorem o_sub : OpR X (binaryOp .Sub) (dI0 fun i j => .int (i - j)) := opD0 op_sub
theorem o_mul : OpR X (binaryOp .Mult) (dI COk fun i j => .int (i * j)) := opD (opI fun _ _ _ _ _ _ _ hc q => mul_int q hc.ok)
theorem o_div : OpR X (binaryOp .FloorDiv) (dI (fun _ j => 0 < j ∧ Bd 4000 j) fun i j => .int (i / j)) := opD (opI fun i j _ _ _ _ _ hc q => by
  have h1 : (0 : Int) < j := hc.1
  exact floordiv_int (by omega) (by rw [Int.fdiv_eq_ediv_of_nonneg i (by omega)]; exact q) (.inl (PyProof.noPylong_of_log2 (Nat.lt_trans (pow_log hc.2 (by decide)) (by decide)))))
theorem o_mod : OpR X (binaryOp .Mod) (dI (fun _ j => 0 < j) fun i j => .int (i % j)) := opD op_mod
theorem o_lt : OpR X (compareOp .Lt) (dI0 fun i j => .bl (decide (i < j))) := opD0 op_lt
theorem o_le : OpR X (compareOp .LtE) (dI0 fun i j => .bl (decide (i ≤ j))) := opD0 op_le
theorem o_gt : OpR X (compareOp .Gt) (dI0 fun i j => .bl (decide (j < i))) := opD0 op_gt
theorem o_ge : OpR X (compareOp .GtE) (dI0 fun i j => .bl (decide (j ≤ i))) := opD0 op_ge
theorem u_neg : UnR X (unaryOp .USub) (dU fun i => .int (-i)) := unD un_neg
def dEq : R2 := fun x y H Q => match x, y with
  | .int i, .int j => Q (.bl (decide (i = j))) H
  | .bl i, .bl j => Q (.bl (i == j)) H
  | .str i, .str j => Q (.bl (decide (i = j))) H
  | _, _ => False
def dNe : R2 := fun x y H Q => match x, y with
  | .int i, .int j => Q (.bl (!decide (i = j))) H
  | .bl i, .bl j => Q (.bl (i != j)) H
  | .str i, .str j => Q (.bl (!decide (i = j))) H
  | _, _ => False
theorem o_eq : OpR X (compareOp .Eq) dEq := by
  intro pins s σ H x y v u Q I rx ry q
  cases x <;> cases y <;> first
    | exact False.elim q
    | (refine op_eq _ _ _ _ _ _ _ _ _ I rx ry ⟨rfl, ?_⟩
       have e : ∀ (i j : Int), decide (V.int i = V.int j) = decide (i = j) := fun i j => by simp
       have e2 : ∀ (i j : Str), decide (V.str i = V.str j) = decide (i = j) := fun i j => by simp
       first
         | (rw [e]; exact q)
         | (rw [e2]; exact q)
         | (rw [dec_bl]; exact q))
theorem o_ne : OpR X (compareOp .NotEq) dNe := by
  intro pins s σ H x y v u Q I rx ry q
  cases x <;> cases y <;> first
    | exact False.elim q
    | (refine op_ne _ _ _ _ _ _ _ _ _ I rx ry ⟨rfl, ?_⟩
       have e : ∀ (i j : Int), decide (V.int i = V.int j) = decide (i = j) := fun i j => by simp
       have e2 : ∀ (i j : Str), decide (V.str i = V.str j) = decide (i = j) := fun i j => by simp
       first
         | (rw [e]; exact q)
         | (rw [e2]; exact q)
         | (rw [dec_bl]; exact q))
theorem t_cmp {op : CmpOp} {r : R2} (ho : OpR X (compareOp op) r) (ha : PE X a ta) (hb : PE X b tb) (hm : behindInMarks op b = false) : PT X (.Compare a [op] [b] pos) (dTest (tOp r ta tb)) := by
  rw [dTest_eq]
  exact pt_cmpR ho ha hb hm
theorem t_val {e : Expr} {t : TE} (h : PE X e t) (he : ∀ whole, isTrue e X.env whole = (do let v ← whole; standAt e.pos; holding [v] (truthy v)) := by intro _; rfl) : PT X e (dTest t) := by
  rw [dTest_eqB]
  exact pt_val h he
theorem w_and (ha : PT X a tA) (hb : PW X (.BoolOp .And (b :: rest) pos) tB') : PW X (.BoolOp .And (a :: b :: rest) pos) (dAnd tA tB') := by
  rw [dAnd_eq]
  exact pw_and ha hb
theorem w_or (ha : PT X a tA) (hb : PW X (.BoolOp .Or (b :: rest) pos) tB') : PW X (.BoolOp .Or (a :: b :: rest) pos) (dOr tA tB') := by
  rw [dOr_eq]
  exact pw_or ha hb
theorem e_and (ha : PE X a ta) (hb : PE X (.BoolOp .And (b :: rest) pos) tb) : PE X (.BoolOp .And (a :: b :: rest) pos) (dAndV ta tb) := by
  rw [dAndV_eq]
  exact pe_and ha hb
theorem e_not (ha : PE X a ta) : PE X (.UnaryOp .Not a pos) (dNotV ta) := by
  rw [dNotV_eq]
  exact pe_not ha
theorem e_if {c : Expr} (hc : PT X c tA) (ha : PE X a ta) (hb : PE X b tb) : PE X (.IfExp c a b pos) (dIf tA ta tb) := by
  rw [dIf_eq]
  exact pe_ifExp hc ha hb
theorem s_if {c : Expr} {a b : List Stmt} {tc : TT} {t u : TS} (hc : PT X c tc) (ha : PSs X a t) (hb : PSs X b u) : PS X (.If c a b pos) (dIfS tc t u) := by
  rw [dIfS_eq]
  exact ps_if hc ha hb
def tCut (R : L2.St → Hp → Prop) (t u : TS) : TS := fun D σ H => t { D with nx := R } σ H ∧ ∀ σ' H', R σ' H' → u D σ' H'
theorem ss_cut (R : L2.St → Hp → Prop) {st : Stmt} {r : List Stmt} {t u : TS} (h1 : PS X st t) (h2 : PSs X r u) : PSs X (st :: r) (tCut R t u) := by
  intro pins s σ H D I h
  refine wpAny_execs_cons (thn (h1 pins s σ H { D with nx := R } I h.1) fun f s1 q => ?_)
  cases f with
  | next =>
    obtain ⟨σ', H', I', q⟩ := q
    exact h2 pins s1 σ' H' D I' (h.2 σ' H' q)
  | ret v => exact q
  | brk => exact q
  | cont => exact q
structure Cal (P : Program) (w : World) (K : PySem.W.Frag) (mg : Str → Option Value) (base : Heap) (x : Str) (ps : List Str) (k : Nat) (sp : Sp) : Prop where
  ex : ∃ (f : Addr) (fd : FuncData), mg x = some (.ref f) ∧ PySem.W.keepIn K (.ref f) = true ∧ Binds K fd ps [] ∧ FnOk P w K mg base (CXE P w) k f fd ps sp ∧
    ∃ (oc : Value) (od : Option Addr) (osl : Array (Option Value)), K.lookup f = some ⟨oc, od, .func fd, osl⟩
def dCall (sp : Sp) (t : TA) : TE := fun σ H Q => t σ H fun vs H1 => sp vs H1 Q E0
theorem dCall_eq (sp : Sp) (t : TA) : dCall sp t = tCall sp [] E0 t := by
  funext σ H Q
  unfold dCall tCall
  simp only [List.append_nil]
theorem e_call {x : Str} {ps : List Str} {k k' : Nat} {sp : Sp} {p : Pos} {e : Expr} {es : List Expr} {t : TA} (C : Cal X.prog X.w X.K X.mg X.base x ps k sp) (hr : Room k' X.A) (hk : k ≤ k') (hg : Gl X x)
    (ha : PA X (e :: es) t) (hdb : (x == ("__debug__" : Str)) = false := by decide) (he : starEach (e :: es) X.env = (false, eval e X.env) :: starEach es X.env := by rfl) (hpl : (backTo pos (starEach es X.env)).any (·.1) = false := by rfl) :
    PE X (.Call (.Name x p) (e :: es) [] pos) (dCall sp t) := by
  obtain ⟨f, fd, h1, h2, h3, h4, _⟩ := C.ex
  rw [dCall_eq]
  exact pe_call (h4.mono hk) hr hg h1 h2 h3 .nil passX0 ha hdb he hpl
def lenOk (xs : List V) : Bool := Nat.ble xs.length 1000
theorem lenOk_le {xs : List V} (h : lenOk xs = true) : xs.length ≤ sizeLine := Nat.le_trans (Nat.le_of_ble_eq_true h) (by decide)
def dTup (t : TA) : TE := fun σ H Q => t σ H fun xs H1 => match lenOk xs with
  | true => ∀ p H', Same H1 H' → H' p = some (.tup xs) → Q (.ref p) H'
  | false => False
def dLst (t : TA) : TE := fun σ H Q => t σ H fun xs H1 => match lenOk xs with
  | true => ∀ p H', Same H1 H' → H' p = some (.lst xs) → Q (.ref p) H'
  | false => False
theorem same_upd {H : Hp} {p : Addr} {o : HO} (h : H p = none) : Same H (upd H p o) := fun b u e => by
  rw [upd_ne (ne_of_none e h)]
  exact e
theorem e_tup {es : List Expr} {t : TA} {x1} (h : PA X es t) : PE X (.Tuple es x1 pos) (dTup t) := by
  intro pins s σ H Q I hq
  refine wpAny_Tuple_spliced (thn (h pos pins s σ H _ I hq) fun us s1 ⟨xs, H1, I1, r, q⟩ => ?_)
  cases hl : lenOk xs with
  | false =>
    have q' : (match lenOk xs with | true => _ | false => False : Prop) := q
    rw [hl] at q'
    exact q'.elim
  | true =>
    have z := lenOk_le hl
    have q' : (match lenOk xs with | true => ∀ p H', Same H1 H' → H' p = some (.tup xs) → Q (.ref p) H' | false => False : Prop) := q
    rw [hl] at q'
    refine ⟨by rw [← r.length]; exact z, ?_⟩
    have hf : H1 s1.heap.objs.size = none := I1.hok.fresh (Nat.le_refl _)
    refine ⟨.ref s1.heap.objs.size, upd H1 s1.heap.objs.size (.tup xs), I1.laid (t' := s1.toks) (fun b u e => Heap.get?_push_of_some _ e) (Nat.le_refl _) ?_, rfl, q' _ _ (same_upd hf) upd_same⟩
    exact ⟨z, us, r, ⟨_, Heap.get?_push_size _ rfl, rfl, _, rfl⟩⟩
theorem e_lst {es : List Expr} {t : TA} (h : PA X es t) : PE X (.List es pos) (dLst t) := by
  intro pins s σ H Q I hq
  refine wpAny_List_spliced (thn (h pos pins s σ H _ I hq) fun us s1 ⟨xs, H1, I1, r, q⟩ => ?_)
  cases hl : lenOk xs with
  | false =>
    have q' : (match lenOk xs with | true => _ | false => False : Prop) := q
    rw [hl] at q'
    exact q'.elim
  | true =>
    have z := lenOk_le hl
    have q' : (match lenOk xs with | true => ∀ p H', Same H1 H' → H' p = some (.lst xs) → Q (.ref p) H' | false => False : Prop) := q
    rw [hl] at q'
    refine ⟨by rw [← r.length]; exact z, ?_⟩
    have hf : H1 s1.heap.objs.size = none := I1.hok.fresh (Nat.le_refl _)
    refine ⟨.ref s1.heap.objs.size, upd H1 s1.heap.objs.size (.lst xs), I1.laid (t' := s1.toks) (fun b u e => Heap.get?_push_of_some _ e) (Nat.le_refl _) ?_, rfl, q' _ _ (same_upd hf) upd_same⟩
    exact ⟨z, us, 0, r, Heap.get?_push_size _ rfl⟩
def nthI (xs : List V) : Int → Option V
  | .ofNat n => xs[n]?
  | .negSucc _ => none
theorem nthI_at {xs : List V} {i : Int} {v : V} (h : nthI xs i = some v) : atI xs i = some v := by
  cases i with
  | ofNat n => exact atI_nat h
  | negSucc n => cases h
def dIxT : R2 := fun x y H Q => match x, y with
  | .ref p, .int i => ∃ xs, H p = some (.tup xs) ∧ match nthI xs i with
    | some v => Q v H
    | none => False
  | _, _ => False
def dIxL (K : PySem.W.Frag) : R2 := fun x y H Q => match x, y with
  | .ref p, .int i => ∃ xs v, SqL K H p xs ∧ atI xs i = some v ∧ Q v H
  | _, _ => False
theorem i_tup : IxR X dIxT := by
  intro value slice pins s σ H x y v u Q I rx ry h hs
  cases x <;> cases y <;> first
    | exact False.elim h
    | (obtain ⟨xs, e, q⟩ := h
       cases z : nthI xs _ with
       | none =>
         rw [z] at q
         exact q.elim
       | some w =>
         rw [z] at q
         exact ix_tup value slice pins s σ H _ _ v u Q I rx ry ⟨_, xs, _, w, rfl, rfl, SqT.of e, nthI_at z, q⟩ hs)
theorem i_lst : IxR X (dIxL X.K) := by
  intro value slice pins s σ H x y v u Q I rx ry h hs
  cases x <;> cases y <;> first
    | exact False.elim h
    | (obtain ⟨xs, w, e, z, q⟩ := h
       exact ix_list value slice pins s σ H _ _ v u Q I rx ry ⟨_, xs, _, w, rfl, rfl, e, z, q⟩ hs)
theorem e_ty (T : String) {x : Str} (hg : Gl X x) (hm : X.mg x = none) (hv : bootBuiltins x = some (.type T)) (hn : x ≠ "__name__" := by decide) (hd : (x == ("__debug__" : Str)) = false := by decide) : PE X (.Name x pos) (tC (.ty T)) :=
  pe_bltn hg hm hv rfl hn hd
def dLen (K : PySem.W.Frag) : List V → Hp → VK → Prop := fun xs H Q => match xs with
  | [.ref p] => ∃ ys, (SqL K H p ys ∨ SqT K H p ys) ∧ Q (.int ys.length) H
  | [.str z] => z.length ≤ sizeLine ∧ Q (.int z.length) H
  | _ => False
theorem c_len : CallR X (.builtin "len") (dLen X.K) := by
  intro pins s σ H xs us Q I r h
  match xs, h with
  | [.ref p], ⟨ys, h1, q⟩ => exact call_len_seq pins s σ H _ us Q I r ⟨p, ys, rfl, h1, q⟩
  | [.str z], ⟨h1, q⟩ => exact call_len_str pins s σ H _ us Q I r ⟨z, rfl, h1, q⟩
def tyB (t c : String) : Option Bool :=
  if t = c then some true else if t = "bool" ∧ c = "int" then some true
  else if (t = "int" ∨ t = "bool" ∨ t = "str" ∨ t = "tuple" ∨ t = "list" ∨ t = "dict" ∨ t = "NoneType") ∧ (c = "int" ∨ c = "bool" ∨ c = "str" ∨ c = "tuple" ∨ c = "list") then some false else none
def tyHO : HO → Option String
  | .lst _ => some "list"
  | .frz _ (.lst _) => some "list"
  | .tup _ => some "tuple"
  | .dK _ => some "dict"
  | .dT _ => some "dict"
  | _ => none
def dIsi : List V → Hp → VK → Prop := fun xs H Q => match xs with
  | [.non, .ty c] => ∃ b, tyB "NoneType" c = some b ∧ Q (.bl b) H
  | [.bl _, .ty c] => ∃ b, tyB "bool" c = some b ∧ Q (.bl b) H
  | [.int _, .ty c] => ∃ b, tyB "int" c = some b ∧ Q (.bl b) H
  | [.str _, .ty c] => ∃ b, tyB "str" c = some b ∧ Q (.bl b) H
  | [.ref p, .ty c] => ∃ u b t, H p = some u ∧ tyHO u = some t ∧ tyB t c = some b ∧ Q (.bl b) H
  | _ => False
theorem kit_tyB (K : PySem.W.Frag) {t c : String} {b : Bool} (h : tyB t c = some b) : PySem.W.kitOne K (.type t) (.type c) = some b := by
  unfold tyB at h
  split at h
  · rename_i e
    subst e
    cases h
    unfold PySem.W.kitOne
    rw [if_pos (by simp)]
  · split at h
    · rename_i e
      obtain ⟨rfl, rfl⟩ := e
      cases h
      kernel_rfl
    · split at h
      · rename_i e1 e2 e
        cases h
        obtain ⟨ht, hc⟩ := e
        rcases ht with rfl | rfl | rfl | rfl | rfl | rfl | rfl <;> rcases hc with rfl | rfl | rfl | rfl | rfl <;> first
          | exact absurd rfl e1
          | exact absurd ⟨rfl, rfl⟩ e2
          | kernel_rfl
      · cases h
theorem c_isi : CallR X (.builtin "isinstance") dIsi := by
  intro pins s σ H xs us Q I r h
  match xs, h with
  | [.non, .ty c], ⟨b, e, q⟩ =>
    obtain ⟨u, w', rfl, r1, r2⟩ := vals2 r
    cases (show w' = Value.type c from r2)
    exact isinst_ok I r1 .non (kit_tyB X.K e) fun tk => ⟨.bl b, H, I.tok _, rfl, q⟩
  | [.bl y, .ty c], ⟨b, e, q⟩ =>
    obtain ⟨u, w', rfl, r1, r2⟩ := vals2 r
    cases (show w' = Value.type c from r2)
    exact isinst_ok I r1 (.bl y) (kit_tyB X.K e) fun tk => ⟨.bl b, H, I.tok _, rfl, q⟩
  | [.int y, .ty c], ⟨b, e, q⟩ =>
    obtain ⟨u, w', rfl, r1, r2⟩ := vals2 r
    cases (show w' = Value.type c from r2)
    exact isinst_ok I r1 (.int y) (kit_tyB X.K e) fun tk => ⟨.bl b, H, I.tok _, rfl, q⟩
  | [.str y, .ty c], ⟨b, e, q⟩ =>
    obtain ⟨u, w', rfl, r1, r2⟩ := vals2 r
    cases (show w' = Value.type c from r2)
    exact isinst_ok I r1 (.str y) (kit_tyB X.K e) fun tk => ⟨.bl b, H, I.tok _, rfl, q⟩
  | [.ref p, .ty c], ⟨o, b, t, e1, e2, e, q⟩ =>
    obtain ⟨u, w', rfl, r1, r2⟩ := vals2 r
    cases (show w' = Value.type c from r2)
    have ty : TyOf X.K H (.ref p) (.type t) := by
      cases o with
      | lst ys => cases e2; exact .lst e1
      | tup ys => cases e2; exact .tup e1
      | dK ys => cases e2; exact .dK e1
      | dT ys => cases e2; exact .dT e1
      | frz ob u =>
        cases u with
        | lst ys => cases e2; exact .frz e1
        | _ => cases e2
      | _ => cases e2
    exact isinst_ok I r1 ty (kit_tyB X.K e) fun tk => ⟨.bl b, H, I.tok _, rfl, q⟩
end
section
variable {X : Cx} {pos : Pos}
end
structure Dfn (K : PySem.W.Frag) (mg : Str → Option Value) (x : Str) (st : Stmt) (ps : List Str) : Prop where
  ex : ∃ (f : Addr) (fd : FuncData), Fun K x x st f fd ∧ mg x = some (.ref f) ∧ Binds K fd ps []
section
variable {P : Program} {w : World} {K : PySem.W.Frag} {mg : Str → Option Value} {base : Heap}
theorem Dfn.calX {x : Str} {st : Stmt} {N ps : List Str} {k : Nat} {sp : Sp} (d : Dfn K mg x st ps) (S : FnScope N ps (defScope st)) (len : ∀ vs H Q E, sp vs H Q E → vs.length = ps.length)
    (hbody : ∀ (f : Addr) (cdv : Value) (A : Around) (outer : List Env) (s : Shared) (H : Hp) (vs : List V) (Q : VK) (E : XK), Room k (A.deeper (envOfC x (defScope st) s.heap.objs.size f cdv)) → sp vs H Q E →
      ∃ t, PSs (cxOf (CXE P w) P w K mg base N x (defScope st) f cdv A outer s H E) (defBody st) t ∧ t { nx := fun _ H' => Q .non H', rt := Q } (start N vs) H) : Cal P w K mg base x ps (k + 1) sp := by
  obtain ⟨f, fd, F, hm, hb⟩ := d.ex
  obtain ⟨oc, od, kV, doc, pm, an, cdv, ct, osl, rfl, lk, hcd⟩ := F.ex
  exact ⟨f, _, hm, F.kp, hb, fn_of lk hcd S len fun A outer s H vs Q E hr hsp => hbody f cdv A outer s H vs Q E hr hsp, oc, od, osl, lk⟩
theorem Dfn.cal {x : Str} {st : Stmt} {N ps : List Str} {k : Nat} {sp : Sp} (d : Dfn K mg x st ps) (S : FnScope N ps (defScope st)) (len : ∀ vs H Q E, sp vs H Q E → vs.length = ps.length)
    (hbody : ∀ (f : Addr) (cdv : Value) (A : Around) (outer : List Env) (s : Shared) (H : Hp) (vs : List V) (Q : VK) (E : XK), Room k (A.deeper (envOfC x (defScope st) s.heap.objs.size f cdv)) → sp vs H Q E →
      ∃ t, PSs (cxOf (CXE P w) P w K mg base N x (defScope st) f cdv A outer s H E).nox (defBody st) t ∧ t { nx := fun _ H' => Q .non H', rt := Q } (start N vs) H) : Cal P w K mg base x ps (k + 1) sp :=
  d.calX S len fun f cdv A outer s H vs Q E hr hsp => by
    obtain ⟨t, h, q⟩ := hbody f cdv A outer s H vs Q E hr hsp
    exact ⟨t, h.nox, q⟩
def sp_law (K : PySem.W.Frag) (ns : List Int) : Sp := fun vs H Q _ => match vs with
  | [.ref a] => SqL K H a (ns.map V.int) ∧ ns.length ≤ 63 ∧ ∀ H', Q (.bl true) H'
  | _ => False
def sp_lawA (K : PySem.W.Frag) : Sp := fun vs H Q _ => ∃ (ns : List Int) (a : Addr), vs = [.ref a] ∧ SqL K H a (ns.map V.int) ∧ ns.length ≤ 63 ∧ ∀ H', Q (.bl true) H'
theorem law_fn {k : Nat} {st : Stmt} {f : Addr} {fd : FuncData} (F : Fun K "law" "law" st f fd) (hm : mg "law" = some (.ref f)) (C : ∀ ns, Cal P w K mg base "law" ["_law_script"] k (sp_law K ns)) : FnOk P w K mg base (CXE P w) k f fd ["_law_script"] (sp_lawA K) := by
  refine ⟨fun vs H Q E h => ?_, fun A outer s H args us vs Q E hr he hb hv hs => ?_⟩
  · obtain ⟨ns, a, rfl, _⟩ := h
    rfl
  · obtain ⟨ns, a, rfl, h1, h2, h3⟩ := hs
    obtain ⟨f', fd', e1, e2, e3, G, oc', od', osl', lk'⟩ := (C ns).ex
    obtain ⟨oc, od, kV, doc, pm, an, cdv, ct, osl, _, lk, _⟩ := F.ex
    rw [hm] at e1
    cases e1
    rw [lk] at lk'
    cases lk'
    exact G.run A outer s H args us _ Q E hr he hb hv ⟨h1, h2, h3⟩
end
theorem sm_sqT {K : PySem.W.Frag} {H H' : Hp} {a : Addr} {xs : List V} (e : Same H H') (h : SqT K H a xs) : SqT K H' a xs := by
  rcases h with (h | ⟨o, h⟩) | h
  · exact .inl (.inl (e _ _ h))
  · exact .inl (.inr ⟨o, e _ _ h⟩)
  · exact .inr h
mutual
inductive Rp (K : PySem.W.Frag) (H : Hp) : V → PyData → Prop where
  | non : Rp K H .non .none
  | bl (b : Bool) : Rp K H (.bl b) (.bool b)
  | int (i : Int) : Rp K H (.int i) (.int i)
  | str (x : Str) : Rp K H (.str x) (.str x)
  | tup {p : Addr} {xs : List V} {ds : List PyData} : SqT K H p xs → RpL K H xs ds → Rp K H (.ref p) (.tuple ds)
  | lst {p : Addr} {xs : List V} {ds : List PyData} : SqL K H p xs → RpL K H xs ds → Rp K H (.ref p) (.list ds)
inductive RpL (K : PySem.W.Frag) (H : Hp) : List V → List PyData → Prop where
  | nil : RpL K H [] []
  | cons {v : V} {d : PyData} {vs : List V} {ds : List PyData} : Rp K H v d → RpL K H vs ds → RpL K H (v :: vs) (d :: ds)
end
mutual
theorem Rp.up {K : PySem.W.Frag} {H H' : Hp} (s : Same H H') : ∀ {v : V} {d : PyData}, Rp K H v d → Rp K H' v d
  | _, _, .non => .non
  | _, _, .bl b => .bl b
  | _, _, .int i => .int i
  | _, _, .str x => .str x
  | _, _, .tup h r => .tup (sm_sqT s h) (RpL.up s r)
  | _, _, .lst h r => .lst (s.seq h) (RpL.up s r)
theorem RpL.up {K : PySem.W.Frag} {H H' : Hp} (s : Same H H') : ∀ {v : List V} {d : List PyData}, RpL K H v d → RpL K H' v d
  | _, _, .nil => .nil
  | _, _, .cons h r => .cons (Rp.up s h) (RpL.up s r)
end
section
variable {X : Cx}
mutual
theorem Rp.reads {pins : List (Addr × Obj)} {σ : L2.St} {H : Hp} {s : Shared} (I : Inv X pins σ H s) : ∀ {v : V} {d : PyData} {u : Value}, Rp X.K H v d → L2.RelV v u → ∃ as, Reads s.heap u d as
  | _, _, _, .non, r => by cases r; exact ⟨_, Reads.none⟩
  | _, _, _, .bl b, r => by cases r; exact ⟨_, Reads.bool b⟩
  | _, _, _, .int i, r => by obtain ⟨t, rfl⟩ := r; exact ⟨_, Reads.int i t⟩
  | _, _, _, .str i, r => by obtain ⟨t, rfl⟩ := r; exact ⟨_, Reads.str i t⟩
  | _, _, _, .tup h q, r => by
    cases r
    obtain ⟨its, rv, ⟨o, e, c, n, dd⟩, _⟩ := I.tuple h
    obtain ⟨as, ra⟩ := RpL.reads I q rv
    exact ⟨as, reads_tuple_at e c dd (by simpa using ra)⟩
  | _, _, _, .lst h q, r => by
    cases r
    obtain ⟨its, rv, ⟨o, n, e, c, _, dd⟩, _⟩ := I.list h
    obtain ⟨as, ra⟩ := RpL.reads I q rv
    exact ⟨_, reads_list_at e c dd (by simpa using ra)⟩
theorem RpL.reads {pins : List (Addr × Obj)} {σ : L2.St} {H : Hp} {s : Shared} (I : Inv X pins σ H s) : ∀ {v : List V} {d : List PyData} {u : List Value}, RpL X.K H v d → Vals v u → ∃ as, ReadsAll s.heap u d as
  | _, _, _, .nil, r => by cases r; exact ⟨_, ReadsAll.nil⟩
  | _, _, _, .cons h q, r => by
    cases r with
    | cons r1 r2 =>
      obtain ⟨as, ra⟩ := Rp.reads I h r1
      obtain ⟨bs, rb⟩ := RpL.reads I q r2
      exact ⟨_, ReadsAll.cons ra rb⟩
end
def dEqD (K : PySem.W.Frag) : R2 := fun x y H Q => ∃ d e, Rp K H x d ∧ Rp K H y e ∧ SeqAt.shaped d = true ∧ SeqAt.shaped e = true ∧ Q (.bl (PyData.eqv d e)) H
def dNeD (K : PySem.W.Frag) : R2 := fun x y H Q => ∃ d e, Rp K H x d ∧ Rp K H y e ∧ SeqAt.shaped d = true ∧ SeqAt.shaped e = true ∧ Q (.bl (!PyData.eqv d e)) H
theorem o_eqD (hu : X.A.units + 64 < cLine) : OpR X (compareOp .Eq) (dEqD X.K) := by
  intro pins s σ H x y v u Q I rx ry q
  obtain ⟨d, e, h1, h2, h3, h4, q⟩ := q
  obtain ⟨as, r1⟩ := h1.reads I rx
  obtain ⟨bs, r2⟩ := h2.reads I ry
  exact PyProof.Rows.eq_dataH r1 r2 h3 h4 hu ⟨.bl _, H, I, rfl, q⟩
theorem o_neD (hu : X.A.units + 64 < cLine) : OpR X (compareOp .NotEq) (dNeD X.K) := by
  intro pins s σ H x y v u Q I rx ry q
  obtain ⟨d, e, h1, h2, h3, h4, q⟩ := q
  obtain ⟨as, r1⟩ := h1.reads I rx
  obtain ⟨bs, r2⟩ := h2.reads I ry
  exact PyProof.Rows.ne_dataH r1 r2 h3 h4 hu ⟨.bl _, H, I, rfl, q⟩
end
end Lw
end
section
set_option Elab.async false
set_option linter.all false
set_option maxRecDepth 100000
set_option maxHeartbeats 4000000
set_option exponentiation.threshold 5000
namespace Lw
open PySem PySem.Spec PyProof.Rows L2
def cell (ns : List Int) (k : Int) : Int := if ns.length = 0 then 0 else ns.getD (k % (ns.length : Int)).toNat 0
def draw (ns : List Int) (k m : Int) : Int := (cell ns k + 1) * (k * k + 7 * k + 48271) % 99991 / 3 % m
theorem draw_nn (ns : List Int) (k : Int) {m : Int} (h : 0 < m) : 0 ≤ draw ns k m := Int.emod_nonneg _ (by omega)
theorem draw_lt (ns : List Int) (k : Int) {m : Int} (h : 0 < m) : draw ns k m < m := Int.emod_lt_of_pos _ h
theorem sq_small {k : Int} (h0 : 0 ≤ k) (h1 : k < 1000) : 0 ≤ k * k ∧ k * k ≤ 1000000 :=
  ⟨Int.mul_nonneg h0 h0, Int.le_trans (Int.mul_le_mul (Int.le_of_lt h1) (Int.le_of_lt h1) h0 (by decide)) (by decide)⟩
theorem bd_lit {n : Nat} {x : Int} (h : Nat.blt x.natAbs (2 ^ n) = true) : Bd n x := by
  unfold Bd
  exact Nat.lt_of_lt_of_le (Nat.lt_of_succ_le (Nat.le_of_ble_eq_true h)) (Nat.le_refl _)
theorem Bd.of_le {n : Nat} {x y : Int} (h : Bd n y) (l : x.natAbs ≤ y.natAbs) : Bd n x := Nat.lt_of_le_of_lt l h
theorem bd_of {x b : Int} {n : Nat} (h1 : -b ≤ x) (h2 : x ≤ b) (h : Bd n b) : Bd n x := h.of_le (by omega)
def lowT (t b : Int) : Int := t / (Int.gcd t b : Int)
def lowB (t b : Int) : Int := b / (Int.gcd t b : Int)
structure Fq (n : Nat) (H : Hp) (p : Addr) (a b : Int) : Prop where
  at' : H p = some (.tup [.int a, .int b])
  pos : 0 < b
  ba : Bd n a
  bb : Bd n b
abbrev Q2 := Int × Int
structure Pq (n : Nat) (H : Hp) (r : Addr) (lo : Q2) (hi : Option Q2) : Prop where
  ex : ∃ l x, H r = some (.tup [.ref l, x]) ∧ Fq n H l lo.1 lo.2 ∧ (hi = none ∧ x = .non ∨ ∃ q y, hi = some y ∧ x = .ref q ∧ Fq n H q y.1 y.2)
def frT (t b : Int) : Int := if b < 0 then -lowT t b else lowT t b
def frB (t b : Int) : Int := if b < 0 then -lowB t b else lowB t b
def dvs (t b : Int) : Int := if b < 0 then -(Int.gcd t b : Int) else (Int.gcd t b : Int)
structure FrAt (H : Hp) (p : Addr) (t b : Int) : Prop where
  at' : H p = some (.tup [.int (frT t b), .int (frB t b)])
end Lw
end
section
set_option Elab.async false
set_option linter.all false
set_option maxRecDepth 100000
set_option maxHeartbeats 4000000
namespace Lw
open PySem PySem.Spec PyProof.Rows L2
def ItK (kd : Bool) (h : Heap) (it l : Addr) (k : Nat) : Prop := match kd with
  | true => h.IsListIter it l k
  | false => h.IsTupleIter it l k
section
variable {prog : Program} {w : World} {A : Around} {E : Value → Shared → Prop} {s : Shared}
structure ZAt (k1 k2 : Bool) (z TI TO i1 i2 l1 l2 : Addr) (n : Nat) (h : Heap) : Prop where
  z : IsZip h z TI TO .none
  ti : IsPair h TI (.ref i1) (.ref i2)
  to : ∃ a b, IsPair h TO a b
  a : ItK k1 h i1 l1 n
  b : ItK k2 h i2 l2 n
end
section
variable {prog : Program} {w : World} {A : Around} {E : Value → Shared → Prop} {s : Shared}
end
section
variable {X : Cx}
end
section
variable {X : Cx}
def dCatL : R2 := fun x y H Q => match x, y with
  | .ref l, .ref b => ∃ xs zs, H l = some (.lst xs) ∧ H b = some (.lst zs) ∧ xs.length + zs.length ≤ 1000 ∧ ∀ p H', Same H H' → H' p = some (.lst (xs ++ zs)) → Q (.ref p) H'
  | _, _ => False
theorem o_catL : OpR X (binaryOp .Add) dCatL := by
  intro pins s σ H x y v u Q I rx ry q
  cases x <;> cases y <;> first
    | exact False.elim q
    | (obtain ⟨xs, zs, h1, h2, h3, q⟩ := q
       exact op_cat _ _ _ _ _ _ _ _ _ I rx ry ⟨_, _, xs, zs, rfl, rfl, h1, h2, Nat.le_trans h3 (by decide), fun p hp => q p _ (same_upd hp) upd_same⟩)
def dSlL (K : PySem.W.Frag) : V → Option Int → Option Int → Hp → VK → Prop := fun x lo hi H Q => match x with
  | .ref a => ∃ xs, SqL K H a xs ∧ ∀ p H', Same H H' → H' p = some (.lst (cutV xs lo hi)) → Q (.ref p) H'
  | _ => False
theorem sl_lst : SlR X (dSlL X.K) := by
  intro pins s σ H x v vl vu lo hi sl Q I rx hs pl pu h
  cases x <;> first
    | exact False.elim h
    | (obtain ⟨xs, h1, q⟩ := h
       exact sl_list _ _ _ _ _ _ _ _ _ _ _ _ I rx hs pl pu ⟨_, xs, rfl, h1, fun p hp => q p _ (same_upd hp) upd_same⟩)
end
end Lw
end
section
set_option Elab.async false
set_option linter.all false
set_option maxRecDepth 100000
set_option maxHeartbeats 4000000
namespace Lw
open PySem PySem.Spec PyProof.Rows L2
section
variable {X : Cx} {pos : Pos}
end
end Lw
end
section
set_option Elab.async false
set_option linter.all false
set_option maxRecDepth 100000
set_option maxHeartbeats 4000000
namespace Lw
open PySem PySem.Spec PyProof.Rows L2
section
variable {prog : Program} {w : World} {A : Around} {R : Result → Shared → Prop} {s : Shared}
theorem turn_eq (elt tg iter : Expr) (scope : Scope) (pos : Pos) (it acc : Value) (env : Env) :
    compTurn (.ListComp elt [⟨tg, iter, [], 0⟩] scope pos) 0 it acc env = (standAt iter.pos >>= fun _ => pyNext it >>= fun r => match r with
      | none => pure (.done .next)
      | some v => letOwnedTupleGo tg it v >>= fun _ => assign tg env v >>= fun _ => (eval elt env >>= fun x => call (.builtin "list.append") [acc, x] >>= fun _ => pure ()) >>= fun _ => again (.compLoop (.ListComp elt [⟨tg, iter, [], 0⟩] scope pos) 0 it acc env)) := rfl
theorem loop_comp {elt tg iter : Expr} {scope : Scope} {pos : Pos} {it acc : Value} {env : Env} (I : Nat → Shared → Prop)
    (turn : ∀ n s, I n s → wpAny (model prog w) A (pyNext it) (fun r s1 => (r = none ∧ R (.ok .next) s1) ∨ ∃ v, r = some v ∧ wpAny (model prog w) A (letOwnedTupleGo tg it v) (fun _ s2 => wpAny (model prog w) A (assign tg env v) (fun _ s3 =>
      wpAny (model prog w) A (eval elt env) (fun x s4 => wpAny (model prog w) A (call (.builtin "list.append") [acc, x]) (fun _ s5 => ∃ m, m < n ∧ I m s5) (fun _ _ => False) s4) (fun _ _ => False) s3) (fun _ _ => False) s2) (fun _ _ => False) s1) (fun _ _ => False) s)
    (n : Nat) (h : I n s) : codeAny (model prog w) A (.compLoop (.ListComp elt [⟨tg, iter, [], 0⟩] scope pos) 0 it acc env) R s := by
  refine codeAny_loop rfl I (fun n s hI => ?_) n h
  show wpAny _ _ ((compTurn (.ListComp elt [⟨tg, iter, [], 0⟩] scope pos) 0 it acc env).onRaise (fun x => do noteFrame x env; theTreesLotGoes x)) _ _ s
  refine wpAny_noted ?_
  rw [turn_eq]
  refine wpAny_bind (wpAny_standAt (wpAny_bind (wpAny_mono (turn n s hI) (fun r s1 h1 => ?_) fun _ _ z => z.elim)))
  rcases h1 with ⟨rfl, h1⟩ | ⟨v, rfl, h1⟩
  · exact wpAny_pure h1
  · refine wpAny_bind (wpAny_mono h1 (fun _ s2 h2 => ?_) fun _ _ z => z.elim)
    refine wpAny_bind (wpAny_mono h2 (fun _ s3 h3 => ?_) fun _ _ z => z.elim)
    refine wpAny_bind (wpAny_bind (wpAny_mono h3 (fun x s4 h4 => ?_) fun _ _ z => z.elim))
    refine wpAny_bind (wpAny_mono h4 (fun _ s5 h5 => ?_) fun _ _ z => z.elim)
    exact wpAny_pure (wpAny_pure ⟨rfl, h5⟩)
end
abbrev cxC (X : Cx) (N : List Str) (s₀ : Shared) (H₀ : Hp) (env : Env) (fp : List Addr) : Cx :=
  { X with N := N, s₀ := s₀, H₀ := H₀, env := env, outer := X.stack, ex := fp, fn := fun _ => false, pn := [], xe := fun _ _ => False }
structure Cap (X : Cx) (sc : Scope) (cl : List (Str × Addr)) (j : Nat) (y : Str) : Prop where
  nm : X.N[j]? = some y
  ko : X.env.kindOf y = some .cell
  ki : sc.names.lookup y = some .cell
  cl : cl.lookup y = X.env.cells.lookup y
def capσ (js : List Nat) (σ : L2.St) : L2.St := js.map fun j => (σ[j]?).join
@[irreducible] def CGoal (J : It) (g : TG) (te : TE) (k : Nat) (js : List Nat) (σ : L2.St) (H1 : Hp) (Q : VK) : Prop := ∀ D, H1 D = none → ∃ W : Nat → Nat → Hp → Prop, (∃ m, W 0 m (upd H1 D (.lst []))) ∧ ∀ i m H, W i m H →
  (J.stop i H ∧ Q (.ref D) H) ∨ (J.go i H ∧ ∀ x H', J.yld i H x H' → g x (List.replicate k none ++ capσ js σ) H' fun σ2 H2 => σ2.drop k = capσ js σ ∧ te σ2 H2 fun v H3 => ∃ xs, H3 D = some (.lst xs) ∧ xs.length < sizeLine ∧ ∃ m', m' < m ∧ W (i + 1) m' (upd H3 D (.lst (xs ++ [v]))))
def dComp (wi : TI) (g : TG) (te : TE) (k : Nat) (js : List Nat) : TE := fun σ H Q => wi σ H fun J H1 => CGoal J g te k js σ H1 Q
section
variable {X : Cx}
theorem comp_ok {pins : List (Addr × Obj)} {σ : L2.St} {H : Hp} {s : Shared} {N : List Str} {scope : Scope} {cl : List (Str × Addr)} {C : Addr} {fp : List Addr} (I : Inv X pins σ H s) (hk : scope.kind = .function) (hC : s.heap.objs.size ≤ C)
    (hcl : ∀ y c, cl.lookup y = some c → X.env.cells.lookup y = some c) (hhas : ∀ y, ((relabel scope X.env).names.lookup y = some .cell ∨ (relabel scope X.env).names.lookup y = some .free) → ∃ c, cl.lookup y = some c)
    (hf : ∀ b ∈ fp, FpOk X pins H b ∧ b < s.heap.objs.size) : (cxC X N s H (compEnvC scope cl C X.env) fp).Ok where
  mod := I.ok.mod
  kind := hk
  glob := I.ok.glob
  blt := I.ok.blt
  above := hC
  inj := fun x y c e1 e2 => I.ok.inj x y c (hcl x c e1) (hcl y c e2)
  has := fun x h => hhas x h
  cab := fun x c z => absurd z (by simp)
  hd := I.ok.hd
  frames := I.ok.frames
  stk := .inl rfl
  exf := fun b hb => ⟨Nat.ne_of_lt (Nat.lt_of_lt_of_le (hf b hb).2 hC), fun x c e => (hf b hb).1.2.2.2.2.1 x c (hcl x c e)⟩
  bs := I.bs
  bsz := Nat.le_trans I.ok.bsz I.sz
  noex := fun b o e hb => by
    rcases (hf b hb).1.2.2.2.1 with z | z
    · exact I.ok.noex b o e z
    · exact absurd (Nat.lt_of_lt_of_le (Heap.lt_size (I.ok.bs b o e).1) z) (Nat.lt_irrefl _)
  exfs := fun b hb hm => by
    rcases List.mem_cons.mp (I.stkSub b hm) with z | z
    · exact (hf b hb).1.2.1 z
    · exact (hf b hb).1.2.2.1 z
  funs := I.stack
  frf := I.stkFree
theorem comp_core {elt iter tg : Expr} {scope : Scope} {pos : Pos} {wi : TI} {te : TE} {g : TG} {N : List Str} {cl : List (Str × Addr)} (k : Nat) (js : List Nat) (hi : PI X tg iter wi)
    (hg : ∀ C s H fp, PG (cxC X N s H (compEnvC scope cl C X.env) fp) tg g) (he : ∀ C s H fp, PE (cxC X N s H (compEnvC scope cl C X.env) fp) elt te) (hcalm : X.calm = true)
    (hclos : closureFor scope X.env = pure cl) (hkind : scope.kind = .function) (hcell : ∀ y ∈ scope.names, y.2 ≠ .cell) (hnames : ∀ y ∈ scope.names, y.2 = .local → scope.names.lookup y.1 = some .local)
    (hcl : ∀ y c, cl.lookup y = some c → X.env.cells.lookup y = some c) (hhas : ∀ y, ((relabel scope X.env).names.lookup y = some .cell ∨ (relabel scope X.env).names.lookup y = some .free) → ∃ c, cl.lookup y = some c)
    (hlen : N.length = k + js.length) (hcap : ∀ i j, js[i]? = some j → ∃ y, N[k + i]? = some y ∧ Cap X (relabel scope X.env) cl j y)
    (hs : ∀ x, foldedSetIterable iter X.env x = pure x) {pins : List (Addr × Obj)} {s : Shared} {σ : L2.St} {H : Hp} {Q : VK} (I : Inv X pins σ H s) (h : dComp wi g te k js σ H Q) {cpos : Pos} {use : Option (Value → Sem Unit)} {Qv : Value → Shared → Prop}
    (fin : ∀ (s6 : Shared) (H5 : Hp) (D C : Addr) (m : Str → Option Value), Inv X pins σ H5 s6 → s6.heap.Ns C m → H5 C = none → X.s₀.heap.objs.size ≤ C → C ≠ X.env.locals → (∀ x c, X.env.cells.lookup x = some c → c ≠ C) → (∀ p ∈ X.pn ++ pins, p.1 ≠ C) → Q (.ref D) H5 →
      compPost (model X.prog X.w) X.A X.xe use Qv (.ref D) C (.ok .next) s6) :
    wpAny (model X.prog X.w) X.A (comprehension (.ListComp elt [⟨tg, iter, [], 0⟩] scope pos) scope X.env cpos (newList []) false (eval iter X.env) use) Qv X.xe s := by
  refine wpAny_comprehension_free (use := use) rfl hs hclos hkind hnames (thn (hi pins s σ H _ I h) fun v s1 h1 => thn h1 fun itv s2 h2 => ?_)
  obtain ⟨it, fp, tn, J, H2, rfl, I2, T, st2, f2, h2⟩ := h2
  refine wpAny_newObj_type ?_
  have hD : H2 s2.heap.objs.size = none := I2.hok.fresh (Nat.le_refl _)
  unfold CGoal at h2
  obtain ⟨W, ⟨m0, w0⟩, turn⟩ := h2 _ hD
  have I3 : Inv X pins σ (upd H2 s2.heap.objs.size (.lst [])) { s2 with heap := s2.heap.push { cls := .type "list", dict := none, data := .seq ([] : List Value).toArray } } :=
    I2.laid (t' := s2.toks) (fun b u e => Heap.get?_push_of_some _ e) (Nat.le_refl _) ⟨Nat.zero_le _, [], 0, .nil, Heap.get?_push_size _ rfl⟩
  have hlt : ∀ b ∈ fp, b < s2.heap.objs.size := fun b hb => by
    obtain ⟨o, e, _⟩ := T.obj _ _ st2 b hb
    exact Heap.lt_size e
  have f3 : ∀ b ∈ fp, FpOk X pins (upd H2 s2.heap.objs.size (.lst [])) b := fun b hb => ⟨by rw [upd_ne (Nat.ne_of_lt (hlt b hb))]; exact (f2 b hb).1, (f2 b hb).2⟩
  have st3 : tn 0 (s2.heap.push { cls := .type "list", dict := none, data := .seq ([] : List Value).toArray }) := T.keep _ _ _ st2 fun b hb o e => Heap.get?_push_of_some _ e
  have hlt3 : ∀ b ∈ fp, b < (s2.heap.push { cls := .type "list", dict := none, data := .seq ([] : List Value).toArray }).objs.size := fun b hb => Nat.lt_of_lt_of_le (hlt b hb) (by rw [Heap.size_push]; exact Nat.le_succ _)
  generalize hs3 : ({ s2 with heap := s2.heap.push { cls := .type "list", dict := none, data := .seq ([] : List Value).toArray } } : Shared) = s3 at I3
  have eh : s3.heap = s2.heap.push { cls := .type "list", dict := none, data := .seq ([] : List Value).toArray } := by rw [← hs3]
  rw [← eh] at st3 hlt3
  generalize hDD : s2.heap.objs.size = D at *
  generalize hH3 : upd H2 D (.lst []) = H3 at *
  clear hs3 eh
  refine wpAny_newFunctionEnv (s := s3) hcell (by intro y hy; simp at hy) (fun h4 n4 sb4 => ?_) hkind
  have Ok := comp_ok (N := N) (C := s3.heap.objs.size) I3 hkind (Nat.le_refl _) hcl hhas fun b hb => ⟨f3 b hb, hlt3 b hb⟩
  show codeAny _ _ (.compStart (.ListComp elt [⟨tg, iter, [], 0⟩] scope pos) 0 (.ref it) (.ref D) (compEnvC scope cl s3.heap.objs.size X.env)) _ _
  generalize hC : s3.heap.objs.size = C at *
  have old : ∀ b o, s3.heap.get? b = some o → h4.get? b = some o := fun b o e => sb4.extBut b o (by rw [← hC]; exact Nat.ne_of_lt (Heap.lt_size e)) (Heap.get?_push_of_some _ e)
  have fresh : H3 C = none := I3.hok.fresh (by rw [hC]; exact Nat.le_refl _)
  have hcapl : ∀ {i : Nat} {x : Str} {v : V}, N[i]? = some x → (List.replicate k none ++ capσ js σ)[i]? = some (some v) → ∃ u, L2.RelV v u ∧ Look (compEnvC scope cl C X.env) h4 (fun _ => none) x u := by
    intro i x v e1 e2
    by_cases hik : i < k
    · rw [List.getElem?_append_left (by simpa using hik)] at e2
      rw [List.getElem?_replicate] at e2
      simp [hik] at e2
    · rw [List.getElem?_append_right (by simpa using Nat.le_of_not_lt hik), List.length_replicate] at e2
      unfold capσ at e2
      rw [List.getElem?_map] at e2
      cases ej : js[i - k]? with
      | none =>
        rw [ej] at e2
        cases e2
      | some j =>
        rw [ej] at e2
        have e2 : (σ[j]?).join = some v := Option.some.inj e2
        obtain ⟨y, hy, cp⟩ := hcap _ _ ej
        rw [show k + (i - k) = i by omega, e1] at hy
        cases hy
        obtain ⟨m, _, hl⟩ := I3.loc
        have e3 : σ[j]? = some (some v) := by
          cases q : σ[j]? with
          | none =>
            rw [q] at e2
            cases e2
          | some o =>
            rw [q] at e2
            have : o = some v := e2
            rw [this]
        obtain ⟨u, ru, lk⟩ := hl j x v cp.nm e3 (.inr (.inl cp.ko))
        refine ⟨u, ru, ?_⟩
        rcases lk with ⟨z, _⟩ | ⟨_, c, hc, z⟩
        · rw [cp.ko] at z
          cases z
        · refine .inr ⟨.inl cp.ki, c, by rw [← hc]; exact cp.cl, ?_⟩
          obtain ⟨o, e, d⟩ := z
          exact ⟨o, old _ _ e, d⟩
  have I4 : Inv (cxC X N s3 H3 (compEnvC scope cl C X.env) fp) [] (List.replicate k none ++ capσ js σ) H3 { s3 with heap := h4, toks := s3.toks + ([] : List (Str × Value)).length } := by
    refine ⟨Ok, rfl, I3.bare, Un.kept old, ⟨_, n4, fun i x v e1 e2 e3 => ?_⟩, fun x c e => ?_, fresh, fun x c e => I3.freeC x c (hcl x c e), fun p hp => absurd hp (by simp), I3.hok.kept old, ?_⟩
    · obtain ⟨u, ru, lk⟩ := hcapl e1 e2
      refine ⟨u, ru, ?_⟩
      rcases lk with ⟨z, q⟩ | q
      · cases q
      · exact .inr q
    · obtain ⟨v, o, e1, d⟩ := I3.cell x c (hcl x c e)
      exact ⟨v, o, old _ _ e1, d⟩
    · simp [capσ, hlen]
  have fp4 : ∀ {H' : Hp}, (∀ b ∈ fp, H' b = none) → ∀ b ∈ fp, FpOk (cxC X N s3 H3 (compEnvC scope cl C X.env) fp) [] H' b := fun hn b hb =>
    ⟨hn b hb, (Ok.exf b hb).1, Ok.exfs b hb, .inl hb, fun x c e => (Ok.exf b hb).2 x c e, fun p hp => absurd hp (by simp)⟩
  have st4 : tn 0 h4 := T.keep _ _ _ st3 fun b hb o e => old b o e
  have run : ∀ s4 : Shared, s4 = { s3 with heap := h4, toks := s3.toks + ([] : List (Str × Value)).length } →
      codeAny (model X.prog X.w) X.A (.compLoop (.ListComp elt [⟨tg, iter, [], 0⟩] scope pos) 0 (.ref it) (.ref D) (compEnvC scope cl C X.env)) (compPost (model X.prog X.w) X.A X.xe use Qv (.ref D) C) s4 := by
    rintro s4 rfl
    refine loop_comp (fun n s' => ∃ i H' σ', Inv (cxC X N s3 H3 (compEnvC scope cl C X.env) fp) [] σ' H' s' ∧ (∀ j : Nat, ∀ v, (List.replicate k none ++ capσ js σ)[j]? = some (some v) → σ'[j]? = some (some v)) ∧ tn i s'.heap ∧ (∀ b ∈ fp, H' b = none) ∧ W i n H') ?_ m0
      ⟨0, H3, _, I4, fun _ _ z => z, st4, fun b hb => (f3 b hb).1, w0⟩
    rintro n s5 ⟨i, H5, σ5, I5, cap5, st5, fr5, w5⟩
    have I5' := I5.weak (σ' := List.replicate k none ++ capσ js σ) (by rw [I5.len]; simp [capσ, hlen]) cap5
    rcases turn i n H5 w5 with ⟨stop, q⟩ | ⟨go, step⟩
    · refine thn (T.done (cxC X N s3 H3 (compEnvC scope cl C X.env) fp) rfl rfl rfl hcalm i [] s5 σ5 H5 _ I5 (fp4 fr5) st5 stop) fun r s6 ⟨hr, I6⟩ => .inl ⟨hr, ?_⟩
      obtain ⟨m6, n6, _⟩ := I6.loc
      have hCf : H5 C = none := I6.free
      have u6 := I6.base
      have uC : Un (frs X.stack) fp H3 H5 s3.heap s6.heap := ⟨u6.keep, u6.slot, u6.free, u6.there, u6.tups, u6.frzs, u6.tbls⟩
      have I7 : Inv X pins σ H5 s6 := I3.call' (s' := s6) I6.os uC I6.hok I6.bare fun b hb => ⟨(f3 b hb).2.2.2.1, (f3 b hb).2.1, (f3 b hb).2.2.2.2.1, (f3 b hb).2.2.2.2.2⟩
      have lt3 : ∀ b o, s3.heap.get? b = some o → b ≠ C := fun b o e => by rw [← hC]; exact Nat.ne_of_lt (Heap.lt_size e)
      refine fin s6 H5 D C m6 I7 n6 hCf (by rw [← hC]; exact I3.sz) (by rw [← hC]; exact Nat.ne_of_gt I3.lt) (fun x c e => ?_) (fun p hp => lt3 p.1 p.2 (I3.pin p hp).1) q
      obtain ⟨v, o, e1, _⟩ := I3.cell x c e
      exact lt3 c o e1
    · refine thn (T.item (cxC X N s3 H3 (compEnvC scope cl C X.env) fp) rfl rfl rfl hcalm i [] s5 _ H5 _ I5' (fp4 fr5) st5 go) fun r s6 ⟨u, hr, h6⟩ => .inr ⟨u, hr, ?_⟩
      refine thn h6 fun _ s7 ⟨x, H7, I7, r7, y7, st7, fr7⟩ => ?_
      have I7' := I7.pinned (fp4 fr7) (T.obj _ _ st7)
      refine thn (hg C s3 H3 fp _ s7 _ H7 x u _ I7' r7 (step x H7 y7)) fun _ s8 ⟨σ8, H8, I8, d8, q8⟩ => ?_
      refine thn (he C s3 H3 fp _ s8 σ8 H8 _ I8 q8) fun vv s9 ⟨vx, H9, I9, r9, xs, hx9, hz9, m', hm', w9⟩ => ?_
      obtain ⟨z9, its, n9, rl, e9⟩ := (show ObjOk X.prog X.w H9 s9.heap D (.lst xs) from I9.hok D _ hx9)
      have app := mt_append (X := cxC X N s3 H3 (compEnvC scope cl C X.env) fp) _ s9 σ8 H9 (.ref D) [vx] (.ref D) [vv] (fun _ H' => H' = upd H9 D (.lst (xs ++ [vx]))) I9 rfl (.cons r9 .nil) ⟨D, xs, vx, rfl, rfl, hx9, hz9, rfl⟩
      refine thn app fun _ s10 ⟨_, H10, I10, _, e10⟩ => ?_
      subst e10
      refine ⟨m', hm', i + 1, _, σ8, I10.unpinned (pins := []), ?_, T.keep _ _ _ st7 fun b hb o e => (I10.pin (b, o) (List.mem_append_right _ (List.mem_append_right _ (mem_pinsAt hb e)))).1, fun b hb => ?_, w9⟩
      · intro j v e
        by_cases hjk : j < k
        · rw [List.getElem?_append_left (by simpa using hjk), List.getElem?_replicate] at e
          simp [hjk] at e
        · rw [List.getElem?_append_right (by simpa using Nat.le_of_not_lt hjk), List.length_replicate, ← d8, List.getElem?_drop] at e
          rw [show k + (j - k) = j by omega] at e
          exact e
      · obtain ⟨o, e, d⟩ := T.obj _ _ st7 b hb
        exact (I10.pin (b, o) (List.mem_append_right _ (List.mem_append_right _ (mem_pinsAt hb e)))).2.1
  exact codeAny_compStart_list (run _ rfl) (T.self X.A 0 _ _ _ st4 (run _ rfl))
theorem e_comp {elt iter tg : Expr} {scope : Scope} {pos : Pos} {wi : TI} {te : TE} {g : TG} {N : List Str} {cl : List (Str × Addr)} (k : Nat) (js : List Nat) (hi : PI X tg iter wi)
    (hg : ∀ C s H fp, PG (cxC X N s H (compEnvC scope cl C X.env) fp) tg g) (he : ∀ C s H fp, PE (cxC X N s H (compEnvC scope cl C X.env) fp) elt te) (hcalm : X.calm = true)
    (hclos : closureFor scope X.env = pure cl) (hkind : scope.kind = .function) (hcell : ∀ y ∈ scope.names, y.2 ≠ .cell) (hnames : ∀ y ∈ scope.names, y.2 = .local → scope.names.lookup y.1 = some .local)
    (hcl : ∀ y c, cl.lookup y = some c → X.env.cells.lookup y = some c) (hhas : ∀ y, ((relabel scope X.env).names.lookup y = some .cell ∨ (relabel scope X.env).names.lookup y = some .free) → ∃ c, cl.lookup y = some c)
    (hlen : N.length = k + js.length) (hcap : ∀ i j, js[i]? = some j → ∃ y, N[k + i]? = some y ∧ Cap X (relabel scope X.env) cl j y)
    (hs : ∀ x, foldedSetIterable iter X.env x = pure x := by intro _; rfl) : PE X (.ListComp elt [⟨tg, iter, [], 0⟩] scope pos) (dComp wi g te k js) := by
  intro pins s σ H Q I h
  rw [eval_ListComp]
  refine comp_core k js hi hg he hcalm hclos hkind hcell hnames hcl hhas hlen hcap hs I h fun s6 H5 D C m I6 n6 z1 z2 z3 z4 z5 q => ⟨m, n6, fun h7 sb7 => ⟨.ref D, H5, ?_, rfl, q⟩⟩
  exact I6.turned (t' := s6.toks) (fun b o hb e => (sb7.2 b hb).trans e) z1 z3.symm.symm (.inr z2) z4 z5
theorem ps_comp0 {elt iter tg : Expr} {scope : Scope} {pos py spos : Pos} {i : Nat} {y : Str} {wi : TI} {te : TE} {g : TG} {N : List Str} {cl : List (Str × Addr)} (k : Nat) (js : List Nat) (hi : PI X tg iter wi)
    (hg : ∀ C s H fp, PG (cxC X N s H (compEnvC scope cl C X.env) fp) tg g) (he : ∀ C s H fp, PE (cxC X N s H (compEnvC scope cl C X.env) fp) elt te) (hcalm : X.calm = true)
    (hclos : closureFor scope X.env = pure cl) (hkind : scope.kind = .function) (hcell : ∀ y ∈ scope.names, y.2 ≠ .cell) (hnames : ∀ y ∈ scope.names, y.2 = .local → scope.names.lookup y.1 = some .local)
    (hcl : ∀ y c, cl.lookup y = some c → X.env.cells.lookup y = some c) (hhas : ∀ y, ((relabel scope X.env).names.lookup y = some .cell ∨ (relabel scope X.env).names.lookup y = some .free) → ∃ c, cl.lookup y = some c)
    (hlen : N.length = k + js.length) (hcap : ∀ i j, js[i]? = some j → ∃ y, N[k + i]? = some y ∧ Cap X (relabel scope X.env) cl j y)
    (hs : ∀ x, foldedSetIterable iter X.env x = pure x) (hN : X.N.Nodup) (hi' : X.N[i]? = some y) (hy : X.env.scope.names.lookup y = some .local) (hsw : swapsWith (.ListComp elt [⟨tg, iter, [], 0⟩] scope pos) (some (.Name y py)) spos.line X.env = pure true) :
    PS X (.Assign [.Name y py] (.ListComp elt [⟨tg, iter, [], 0⟩] scope pos) spos) (tAsg (dComp wi g te k js) (gName i)) := by
  intro pins s σ H D I h
  rw [exec_Assign_Name_used _ _ _ _ hsw]
  refine wpAny_bind (wpAny_standAt (wpAny_bind ?_))
  show wpAny _ X.A (do let _ ← comprehension (.ListComp elt [⟨tg, iter, [], 0⟩] scope pos) scope X.env _ (newList []) false (eval iter X.env) (some (assign (.Name y py) X.env))) _ _ s
  refine wpAny_bind (wpAny_mono (comp_core k js hi hg he hcalm hclos hkind hcell hnames hcl hhas hlen hcap hs (use := some (assign (.Name y py) X.env)) (Qv := fun _ s' => SP X pins D .next s') I h fun s6 H5 D' C m I6 n6 z1 z2 z3 z4 z5 q => ?_)
    (fun _ s' hq => wpAny_pure (wpAny_pure hq)) fun _ _ e => e)
  show wpAny _ X.A (assign (.Name y py) X.env (.ref D')) _ _ _
  refine wpAny_assign_Name (store_ok2 I6 hN hi' (.inl hy) (v := .ref D') rfl (fun s8 I8 ⟨a, sb, ha⟩ => ?_) (.inr hy))
  have na : C ≠ a := by
    rcases ha with rfl | ha
    · exact z3
    · exact Ne.symm (z4 _ _ ha)
  exact ⟨m, n6.sameBut sb na, fun h9 sb9 => ⟨_, H5, I8.turned (t' := s8.toks) (fun b o hb e => (sb9.2 b hb).trans e) z1 z3 (.inr z2) z4 z5, q⟩⟩
def CapL (X : Cx) (sc : Scope) (cl : List (Str × Addr)) : List Str → List Nat → Prop
  | y :: ys, j :: js => Cap X sc cl j y ∧ CapL X sc cl ys js
  | [], [] => True
  | _, _ => False
theorem CapL.len {sc : Scope} {cl : List (Str × Addr)} : ∀ {ys : List Str} {js : List Nat}, CapL X sc cl ys js → ys.length = js.length
  | [], [], _ => rfl
  | _ :: _, _ :: _, h => congrArg (· + 1) (CapL.len h.2)
  | [], _ :: _, h => h.elim
  | _ :: _, [], h => h.elim
theorem CapL.at {sc : Scope} {cl : List (Str × Addr)} : ∀ {ys : List Str} {js : List Nat}, CapL X sc cl ys js → ∀ (i j : Nat), js[i]? = some j → ∃ y, ys[i]? = some y ∧ Cap X sc cl j y
  | [], [], _, i, j, e => by simp at e
  | y :: ys, j :: js, h, 0, j', e => by
    cases e
    exact ⟨y, rfl, h.1⟩
  | y :: ys, j :: js, h, i + 1, j', e => CapL.at h.2 i j' (by simpa using e)
  | [], _ :: _, h, _, _, _ => h.elim
  | _ :: _, [], h, _, _, _ => h.elim
def CellL (cells : List (Str × Addr)) : List (Str × Addr) → Prop
  | [] => True
  | (y, c) :: r => cells.lookup y = some c ∧ CellL cells r
theorem CellL.at {cells : List (Str × Addr)} : ∀ {cl : List (Str × Addr)}, CellL cells cl → ∀ y c, cl.lookup y = some c → cells.lookup y = some c
  | [], _, y, c, e => by simp at e
  | (z, d) :: r, h, y, c, e => by
    rw [List.lookup_cons] at e
    cases q : y == z with
    | true =>
      rw [q] at e
      cases e
      rw [eq_of_beq q]
      exact h.1
    | false =>
      rw [q] at e
      exact CellL.at h.2 y c e
theorem lookup_has {y : Str} : ∀ {cl : List (Str × Addr)}, (cl.map (·.1)).contains y = true → ∃ c, cl.lookup y = some c
  | [], h => by simp at h
  | (z, d) :: r, h => by
    rw [List.lookup_cons]
    cases q : y == z with
    | true => exact ⟨d, rfl⟩
    | false =>
      refine lookup_has (cl := r) ?_
      rw [List.map_cons, List.contains_cons, q, Bool.false_or] at h
      exact h
theorem relabel_has {env : Env} {y : Str} : ∀ {names : List (Str × NameKind)} {k : NameKind}, (names.map fun (n, k) => if (k == NameKind.free && env.scope.kind == .function && env.kindOf n == some .cell) then (n, NameKind.cell) else (n, k)).lookup y = some k →
    (k = .cell ∨ k = .free) → ∃ z ∈ names, z.1 = y ∧ (z.2 = .free ∨ z.2 = .cell)
  | [], _, h, _ => by simp at h
  | (n, kd) :: r, k, h, hk => by
    rw [List.map_cons] at h
    by_cases hc : (kd == NameKind.free && env.scope.kind == .function && env.kindOf n == some .cell) = true
    · rw [show (match (n, kd) with | (n, k) => if (k == NameKind.free && env.scope.kind == .function && env.kindOf n == some .cell) = true then (n, NameKind.cell) else (n, k)) = (n, NameKind.cell) from if_pos hc, List.lookup_cons] at h
      cases q : y == n with
      | true =>
        rw [Bool.and_eq_true, Bool.and_eq_true] at hc
        exact ⟨(n, kd), List.mem_cons_self, (eq_of_beq q).symm, .inl (eq_of_beq hc.1.1)⟩
      | false =>
        rw [q] at h
        obtain ⟨z, hz, r1⟩ := relabel_has (names := r) h hk
        exact ⟨z, List.mem_cons_of_mem _ hz, r1⟩
    · rw [show (match (n, kd) with | (n, k) => if (k == NameKind.free && env.scope.kind == .function && env.kindOf n == some .cell) = true then (n, NameKind.cell) else (n, k)) = (n, kd) from if_neg hc, List.lookup_cons] at h
      cases q : y == n with
      | true =>
        rw [q] at h
        cases h
        exact ⟨(n, kd), List.mem_cons_self, (eq_of_beq q).symm, hk.symm⟩
      | false =>
        rw [q] at h
        obtain ⟨z, hz, r1⟩ := relabel_has (names := r) h hk
        exact ⟨z, List.mem_cons_of_mem _ hz, r1⟩
theorem e_compN {elt iter tg : Expr} {scope : Scope} {pos : Pos} {wi : TI} {te : TE} {g : TG} {cl : List (Str × Addr)} (own ys : List Str) (js : List Nat) (hclos : closureFor scope X.env = pure cl) (hi : PI X tg iter wi)
    (hg : ∀ C s H fp, PG (cxC X (own ++ ys) s H (compEnvC scope cl C X.env) fp) tg g) (he : ∀ C s H fp, PE (cxC X (own ++ ys) s H (compEnvC scope cl C X.env) fp) elt te) (hcalm : X.calm = true) (hkind : scope.kind = .function)
    (hcell : (scope.names.all fun y => y.2 != .cell) = true) (hnames : (scope.names.all fun y => y.2 != .local || scope.names.lookup y.1 == some .local) = true) (hfr : (scope.names.all fun y => y.2 != .free || (cl.map (·.1)).contains y.1) = true)
    (hcl : CellL X.env.cells cl) (hcap : CapL X (relabel scope X.env) cl ys js) (hs : ∀ x, foldedSetIterable iter X.env x = pure x := by intro _; rfl) :
    PE X (.ListComp elt [⟨tg, iter, [], 0⟩] scope pos) (dComp wi g te own.length js) := by
  rw [List.all_eq_true] at hcell hnames hfr
  have hc : ∀ y ∈ scope.names, y.2 ≠ .cell := fun y hy z => by
    have := hcell y hy
    rw [z] at this
    cases this
  refine e_comp own.length js hi hg he hcalm hclos hkind hc (fun y hy z => ?_) hcl.at (fun y h => ?_) (by rw [List.length_append, hcap.len]) (fun i j e => ?_) hs
  · have := hnames y hy
    rw [z] at this
    simpa using this
  · obtain ⟨z, hz, rfl, hk⟩ : ∃ z ∈ scope.names, z.1 = y ∧ (z.2 = .free ∨ z.2 = .cell) := by
      rcases h with h | h
      · exact relabel_has h (.inl rfl)
      · exact relabel_has h (.inr rfl)
    rcases hk with hk | hk
    · have := hfr z hz
      rw [hk] at this
      exact lookup_has (by simpa using this)
    · exact absurd hk (hc z hz)
  · obtain ⟨y, h1, h2⟩ := hcap.at i j e
    exact ⟨y, by rw [List.getElem?_append_right (Nat.le_add_right _ _), Nat.add_sub_cancel_left]; exact h1, h2⟩
theorem ps_compN {elt iter tg : Expr} {scope : Scope} {pos py spos : Pos} {i : Nat} {y : Str} {wi : TI} {te : TE} {g : TG} {cl : List (Str × Addr)} (own ys : List Str) (js : List Nat) (hclos : closureFor scope X.env = pure cl) (hi : PI X tg iter wi)
    (hg : ∀ C s H fp, PG (cxC X (own ++ ys) s H (compEnvC scope cl C X.env) fp) tg g) (he : ∀ C s H fp, PE (cxC X (own ++ ys) s H (compEnvC scope cl C X.env) fp) elt te) (hcalm : X.calm = true) (hkind : scope.kind = .function)
    (hcell : (scope.names.all fun y => y.2 != .cell) = true) (hnames : (scope.names.all fun y => y.2 != .local || scope.names.lookup y.1 == some .local) = true) (hfr : (scope.names.all fun y => y.2 != .free || (cl.map (·.1)).contains y.1) = true)
    (hcl : CellL X.env.cells cl) (hcap : CapL X (relabel scope X.env) cl ys js) (hN : X.N.Nodup) (hi' : X.N[i]? = some y) (hy : X.env.scope.names.lookup y = some .local) (hs : ∀ x, foldedSetIterable iter X.env x = pure x := by intro _; rfl) (hsw : swapsWith (.ListComp elt [⟨tg, iter, [], 0⟩] scope pos) (some (.Name y py)) spos.line X.env = pure true := by rfl) :
    PS X (.Assign [.Name y py] (.ListComp elt [⟨tg, iter, [], 0⟩] scope pos) spos) (tAsg (dComp wi g te own.length js) (gName i)) := by
  rw [List.all_eq_true] at hcell hnames hfr
  have hc : ∀ y ∈ scope.names, y.2 ≠ .cell := fun y hy z => by
    have := hcell y hy
    rw [z] at this
    cases this
  refine ps_comp0 own.length js hi hg he hcalm hclos hkind hc (fun y hy z => ?_) hcl.at (fun y h => ?_) (by rw [List.length_append, hcap.len]) (fun i j e => ?_) hs hN hi' hy hsw
  · have := hnames y hy
    rw [z] at this
    simpa using this
  · obtain ⟨z, hz, rfl, hk⟩ : ∃ z ∈ scope.names, z.1 = y ∧ (z.2 = .free ∨ z.2 = .cell) := by
      rcases h with h | h
      · exact relabel_has h (.inl rfl)
      · exact relabel_has h (.inr rfl)
    rcases hk with hk | hk
    · have := hfr z hz
      rw [hk] at this
      exact lookup_has (by simpa using this)
    · exact absurd hk (hc z hz)
  · obtain ⟨y, h1, h2⟩ := hcap.at i j e
    exact ⟨y, by rw [List.getElem?_append_right (Nat.le_add_right _ _), Nat.add_sub_cancel_left]; exact h1, h2⟩
theorem comp_rng {lo : Int} {n : Nat} {g : TG} {te : TE} {k : Nat} {js : List Nat} {σ : L2.St} {H1 : Hp} {Q : VK} (f : Nat → V) (hz : n ≤ 1000)
    (hs : ∀ i H2, i < n → Same H1 H2 → ∀ P : VK, P (f i) H2 → g (.int (lo + i)) (List.replicate k none ++ capσ js σ) H2 fun σ2 H3 => σ2.drop k = capσ js σ ∧ te σ2 H3 P)
    (hq : ∀ D H', Same H1 H' → H' D = some (.lst ((List.range n).map f)) → Q (.ref D) H') :
    CGoal (Itr lo n) g te k js σ H1 Q := by
  unfold CGoal
  intro D hD
  refine ⟨fun i m H => m = n - i ∧ i ≤ n ∧ H = upd H1 D (.lst ((List.range i).map f)), ⟨n, by simp, Nat.zero_le _, rfl⟩, ?_⟩
  rintro i m H ⟨rfl, hi, rfl⟩
  by_cases hlt : i < n
  · refine .inr ⟨hlt, fun x H' y => ?_⟩
    obtain ⟨e1, e2⟩ := y
    subst e1 e2
    refine hs i _ hlt (same_upd hD) _ ⟨_, upd_same, ?_, n - (i + 1), by omega, rfl, hlt, ?_⟩
    · rw [List.length_map, List.length_range]
      exact Nat.lt_of_lt_of_le hlt (Nat.le_trans hz (by decide))
    · rw [upd_upd, List.range_succ, List.map_append]
      rfl
  · have e : i = n := by omega
    subst e
    exact .inl ⟨Nat.le_refl _, hq D _ (same_upd hD) upd_same⟩
end
end Lw
end
section
set_option Elab.async false
set_option linter.all false
set_option maxRecDepth 100000
set_option maxHeartbeats 4000000
namespace Lw
open PySem PySem.Spec PyProof.Rows L2
section
variable {X : Cx} {pos p2 p3 p4 : Pos} {e : Expr} {te : TE}
def dSlS : V → Option Int → Option Int → Hp → VK → Prop := fun x lo hi H Q => match x with
  | .str z => z.length ≤ sizeLine ∧ Q (.str (Txt.slice z lo hi)) H
  | _ => False
theorem sl_str : SlR X dSlS := by
  intro pins s σ H x v vl vu lo hi sl Q I rx hs pl pu h
  cases x <;> first
    | exact False.elim h
    | (obtain ⟨hz, q⟩ := h
       obtain ⟨t, rfl⟩ := rx
       refine ⟨"str", _, F.slot_str_getitem.lookup, typeIs_str _ _ _, ?_⟩
       cases pl <;> cases pu
       · exact wpAny_getItem_str_slice (l := none) (u := none) (st := none) hs rfl (post_val_or_str ⟨Nat.le_trans (Txt.slice_le _ _ _) hz, fun t' k => ⟨.str _, H, I.tok _, ⟨_, rfl⟩, q⟩⟩)
       · exact wpAny_getItem_str_slice (l := none) (u := some (_, _)) (st := none) hs rfl (post_val_or_str ⟨Nat.le_trans (Txt.slice_le _ _ _) hz, fun t' k => ⟨.str _, H, I.tok _, ⟨_, rfl⟩, q⟩⟩)
       · exact wpAny_getItem_str_slice (l := some (_, _)) (u := none) (st := none) hs rfl (post_val_or_str ⟨Nat.le_trans (Txt.slice_le _ _ _) hz, fun t' k => ⟨.str _, H, I.tok _, ⟨_, rfl⟩, q⟩⟩)
       · exact wpAny_getItem_str_slice (l := some (_, _)) (u := some (_, _)) (st := none) hs rfl (post_val_or_str ⟨Nat.le_trans (Txt.slice_le _ _ _) hz, fun t' k => ⟨.str _, H, I.tok _, ⟨_, rfl⟩, q⟩⟩))
def dAddS : R2 := fun x y H Q => match x, y with
  | .str i, .str j => i.length + j.length ≤ sizeLine ∧ Q (.str (i ++ j)) H
  | _, _ => False
theorem o_addS : OpR X (binaryOp .Add) dAddS := by
  intro pins s σ H x y v u Q I rx ry q
  cases x <;> cases y <;> first
    | exact False.elim q
    | exact op_add_str _ _ _ _ _ _ _ _ _ I rx ry ⟨_, _, rfl, rfl, q.1, q.2⟩
def dIxS : R2 := fun x y H Q => match x, y with
  | .str z, .int i => ∃ c, z.length ≤ sizeLine ∧ atI z.cps.toList i = some c ∧ Q (.str ⟨#[c]⟩) H
  | _, _ => False
theorem i_str : IxR X dIxS := by
  intro value slice pins s σ H x y v u Q I rx ry h hs
  cases x <;> cases y <;> first
    | exact False.elim h
    | (obtain ⟨c, h1, h2, q⟩ := h
       exact ix_str value slice pins s σ H _ _ v u Q I rx ry ⟨_, _, c, rfl, rfl, h1, h2, q⟩ hs)
theorem strs_of : ∀ {ys : List Str} {us : List Value}, Vals (ys.map V.str) us → StrsAre us ys
  | [], _, r => by
    cases r
    exact .nil
  | y :: ys, _, r => by
    cases r with
    | cons r1 r2 =>
      obtain ⟨t, rfl⟩ := r1
      exact .cons y t (strs_of r2)
def dJoin (K : PySem.W.Frag) : V → List V → Hp → VK → Prop := fun x xs H Q => match x, xs with
  | .str sep, [.ref p] => ∃ ys : List Str, SqL K H p (ys.map V.str) ∧ (ys.map (·.length)).sum + ys.length * sep.length ≤ 16777216 ∧ Q (.str (Txt.join sep ys)) H
  | _, _ => False
theorem m_join : MtR X "str.join" (dJoin X.K) := by
  intro pins s σ H x xs v us Q I rx rs h
  match x, xs, h with
  | .str sep, [.ref p], ⟨ys, h1, h2, q⟩ =>
    obtain ⟨t, rfl⟩ := rx
    obtain ⟨u, rfl, r1⟩ := vals1 rs
    cases r1
    obtain ⟨its, r, pl, _⟩ := I.list h1
    exact PyProof.Rows.join_list pl.isList (strs_of r) h2 fun t' k => ⟨.str _, H, I.tok _, ⟨_, rfl⟩, q⟩
theorem e_join {o : Expr} {to ta : _} {name : Str} {apos cpos : Pos} (ho : PE X o to) (ha : PA X [e] ta) (hbase : attributeBase o "join" X.env (eval o X.env) = eval o X.env := by rfl)
    (hfew : ((backTo cpos (starEach [e] X.env)).all (fun x => !x.1) && (backToKw cpos (keywordEach [] X.env)).all (fun x => x.1.isSome) && decide ([e].length + ([] : List Keyword).length + (if ([] : List Keyword).isEmpty then 0 else 1) < 30)) = true := by rfl)
    (hline : (apos.endLine == cpos.line) = true := by rfl) (hs : starEach [e] X.env = (false, eval e X.env) :: starEach [] X.env := by rfl) (hplain : (backTo cpos (starEach [] X.env)).any (·.1) = false := by rfl) :
    PE X (.Call (.Attribute o "join" apos) [e] [] cpos) (tBM X.K "str" (dJoin X.K) to ta) := pe_bm F.plainAttrs_str F.slot_str_join F.type_str_join m_join ho ha hbase hfew hline hs hplain
def dListOf (K : PySem.W.Frag) : List V → Hp → VK → Prop := fun xs H Q => match xs with
  | [.ref p] => ∃ ys, (SqL K H p ys ∨ SqT K H p ys) ∧ ∀ l H', Same H H' → H' l = some (.lst ys) → Q (.ref l) H'
  | _ => False
theorem c_list : CallR X (.type "list") (dListOf X.K) := by
  intro pins s σ H xs us Q I r h
  match xs, h with
  | [.ref p], ⟨ys, h1, q⟩ => exact call_list_of pins s σ H _ us Q I r ⟨p, ys, rfl, h1, fun l hl => q l _ (same_upd hl) upd_same⟩
def dInS (K : PySem.W.Frag) : R2 := fun x y H Q => match y with
  | .ref p => ∃ xs, (SqL K H p xs ∨ SqT K H p xs) ∧ flatV x = true ∧ xs.all flatV = true ∧ Q (.bl (inV x xs)) H
  | _ => False
theorem o_in : OpR X (compareOp .In) (dInS X.K) := by
  intro pins s σ H x y v u Q I rx ry q
  cases y <;> first
    | exact False.elim q
    | (obtain ⟨xs, h1, h2, h3, q⟩ := q
       exact op_in_seq _ _ _ _ _ _ _ _ _ I rx ry ⟨_, xs, rfl, h1, h2, h3, q⟩)
end
end Lw
end
section
set_option Elab.async false
set_option linter.all false
set_option maxRecDepth 100000
set_option maxHeartbeats 4000000
namespace Lw
open PySem PySem.Spec PyProof.Rows L2
def co (x : Str) : List Nat := x.cps.toList
theorem co_len (x : Str) : (co x).length = x.length := by simp [co, Str.length]
theorem co_app (x y : Str) : co (x ++ y) = co x ++ co y := by
  show (x.cps ++ y.cps).toList = x.cps.toList ++ y.cps.toList
  rw [Array.toList_append]
theorem co_one (c : Nat) : co ⟨#[c]⟩ = [c] := rfl
theorem co_inj {x y : Str} (h : co x = co y) : x = y := by
  obtain ⟨x⟩ := x
  obtain ⟨y⟩ := y
  have : x = y := Array.toList_inj.mp h
  rw [this]
theorem len_app (x y : Str) : (x ++ y).length = x.length + y.length := by
  rw [← co_len, co_app, List.length_append, co_len, co_len]
theorem co_join (sep : Str) : ∀ ys : List Str, co (Txt.join sep ys) = co (Str.join sep ys) := fun ys => by
  show co (Builtin.Str.glued sep ys) = _
  rw [StrLaws.glued_eq_join]
theorem join0 : ∀ ys : List Str, co (Txt.join (Str.ofString "") ys) = (ys.map co).flatten := by
  intro ys
  rw [co_join]
  induction ys with
  | nil => rfl
  | cons x r ih =>
    cases r with
    | nil => simp [Str.join]
    | cons y r =>
      show co (x ++ Str.ofString "" ++ Str.join (Str.ofString "") (y :: r)) = _
      have e : co (Str.ofString "") = [] := by decide +kernel
      rw [co_app, co_app, ih, e, List.append_nil]
      rfl
theorem rng_gen (a b : Nat) : sliceRange (a : Int) (b : Int) 1 = (List.range (b - a)).map (fun k => a + k) := by
  unfold sliceRange
  simp only [show ((1 : Int) > 0) = True from by simp, if_true]
  by_cases h : (a : Int) < b
  · have e3 : (((b : Int) - a + 1 - 1) / 1).toNat = b - a := by omega
    simp only [h, if_true, e3]
    refine List.map_congr_left fun k _ => ?_
    omega
  · have : b - a = 0 := by omega
    simp [h, this]
theorem clip_gen (n d : Nat) (i : Int) : max (0 : Int) (min (if i < 0 then i + (n : Int) else i) (n : Int)) = ((HT.sIx n d (some i) : Nat) : Int) := by
  show _ = (((if i < 0 then (i + (n : Int)).toNat else min i.toNat n) : Nat) : Int)
  by_cases h : i < 0
  · simp only [if_pos h]; omega
  · simp only [if_neg h]; omega
theorem idx_gen (lo hi : Option Int) (n : Nat) : Builtin.Str.strSliceIndices lo hi 1 n = (List.range (HT.sIx n n hi - HT.sIx n 0 lo)).map (fun k => HT.sIx n 0 lo + k) := by
  rw [← rng_gen]
  unfold Builtin.Str.strSliceIndices
  simp only [show ((1 : Int) > 0) = True from by simp, if_true]
  cases lo with
  | none =>
    cases hi with
    | none => rfl
    | some j =>
      show sliceRange 0 (max (0 : Int) (min (if j < 0 then j + (n : Int) else j) (n : Int))) 1 = _
      rw [clip_gen n n j]
      rfl
  | some i =>
    cases hi with
    | none =>
      show sliceRange (max (0 : Int) (min (if i < 0 then i + (n : Int) else i) (n : Int))) (n : Int) 1 = _
      rw [clip_gen n 0 i]
      rfl
    | some j =>
      show sliceRange (max (0 : Int) (min (if i < 0 then i + (n : Int) else i) (n : Int))) (max (0 : Int) (min (if j < 0 then j + (n : Int) else j) (n : Int))) 1 = _
      rw [clip_gen n 0 i, clip_gen n n j]
theorem co_slice (x : Str) (lo hi : Option Int) : co (Txt.slice x lo hi) = ((co x).drop (HT.sIx x.length 0 lo)).take (HT.sIx x.length x.length hi - HT.sIx x.length 0 lo) := by
  have ha := HT.sIx_le x.length 0 (Nat.zero_le _) lo
  have hb := HT.sIx_le x.length x.length (Nat.le_refl _) hi
  have hl := co_len x
  unfold Txt.slice
  rw [idx_gen]
  generalize HT.sIx x.length 0 lo = a at *
  generalize HT.sIx x.length x.length hi = b at *
  split
  · rename_i h
    have h2 : b - a = x.length := by simpa using h
    have a0 : a = 0 := by omega
    subst a0
    rw [List.drop_zero, List.take_of_length_le (by omega)]
  · have p := StrLaws.picks (co x) (b - a) a (by omega)
    rw [← p]
    show (List.filterMap _ _).toArray.toList = _
    rw [List.toList_toArray]
    congr 1
    funext k
    show x.cps[k]? = x.cps.toList[k]?
    rw [Array.getElem?_toList]
theorem co_to {x : Str} {j : Nat} (h : j ≤ x.length) : co (Txt.slice x none (some (j : Int))) = (co x).take j := by
  rw [co_slice, HT.sIx_none, HT.sIx_nat, Nat.min_eq_left h, List.drop_zero, Nat.sub_zero]
theorem co_from {x : Str} {i : Nat} (h : i ≤ x.length) : co (Txt.slice x (some (i : Int)) none) = (co x).drop i := by
  rw [co_slice, HT.sIx_none, HT.sIx_nat, Nat.min_eq_left h, List.take_of_length_le]
  rw [List.length_drop, co_len]
  exact Nat.le_refl _
theorem co_cut {x : Str} {i j : Nat} (h : i ≤ x.length) (h' : j ≤ x.length) : co (Txt.slice x (some (i : Int)) (some (j : Int))) = ((co x).drop i).take (j - i) := by
  rw [co_slice, HT.sIx_nat, HT.sIx_nat, Nat.min_eq_left h, Nat.min_eq_left h']
def abc : Str := Str.ofString "abcdefghijklmnopqrstuvwxyz"
def lt (n : Int) : Nat := 97 + (n % 26).toNat
theorem lt_lo (n : Int) : 97 ≤ lt n := Nat.le_add_right _ _
theorem lt_hi (n : Int) : lt n < 123 := by
  have := Int.emod_lt_of_pos n (show (0 : Int) < 26 by decide)
  have := Int.emod_nonneg n (show (26 : Int) ≠ 0 by decide)
  unfold lt
  omega
theorem lt_inj {m : Int} {i j : Nat} (hi : i < 26) (hj : j < 26) (h : lt (m + (i : Int)) = lt (m + (j : Int))) : i = j := by
  unfold lt at h
  omega
theorem abc_at : ∀ j < 26, (abc.cps.toList)[j]? = some (97 + j) := by decide +kernel
theorem abc_get {n : Int} (h0 : 0 ≤ n % 26) (h1 : n % 26 < 26) : atI abc.cps.toList (n % 26) = some (lt n) := by
  obtain ⟨j, hj⟩ := Int.eq_ofNat_of_zero_le h0
  unfold lt
  rw [hj] at h1 ⊢
  exact atI_nat (abc_at j (by omega))
structure Nm (x : Str) : Prop where
  len1 : 1 ≤ (co x).length
  len8 : (co x).length ≤ 8
  abc : ∀ c ∈ co x, 97 ≤ c ∧ c < 123
theorem ok_of {x : Str} (h : ∀ c ∈ co x, c < 1114112) : PyData.strOk x = true := by
  unfold PyData.strOk
  rw [← Array.all_toList, List.all_eq_true]
  exact fun c hc => decide_eq_true (h c hc)
def baseL (fi : Int) : List Nat := ((List.range 8).map fun j : Nat => [lt (fi + (j : Int) * j)]).flatten
theorem baseL_len (fi : Int) : (baseL fi).length = 8 := rfl
theorem baseL_mem {fi : Int} {c : Nat} (h : c ∈ baseL fi) : 97 ≤ c ∧ c < 123 := by
  unfold baseL at h
  obtain ⟨l, h1, h2⟩ := List.mem_flatten.mp h
  obtain ⟨j, _, rfl⟩ := List.mem_map.mp h1
  have : c = lt (fi + (j : Int) * j) := by simpa using h2
  rw [this]
  exact ⟨lt_lo _, lt_hi _⟩
def nameB (L : List Nat) (at' sz : Nat) (fi : Int) (k : Nat) : List Nat := L.take at' ++ [lt (fi + (at' : Int) * at' + (k : Int))] ++ (L.drop (at' + 1)).take (sz - (at' + 1))
theorem nmB {x : Str} {fi : Int} {at' sz k : Nat} (h : at' < sz) (h8 : sz ≤ 8) (c : co x = nameB (baseL fi) at' sz fi k) : Nm x := by
  have l : (co x).length = sz := by
    rw [c]
    unfold nameB
    rw [List.length_append, List.length_append, List.length_take, List.length_take, List.length_drop, baseL_len, List.length_singleton]
    omega
  refine ⟨by omega, by omega, fun d hd => ?_⟩
  rw [c] at hd
  unfold nameB at hd
  rcases List.mem_append.mp hd with hd | hd
  · rcases List.mem_append.mp hd with hd | hd
    · exact baseL_mem (List.mem_of_mem_take hd)
    · rw [List.mem_singleton.mp hd]
      exact ⟨lt_lo _, lt_hi _⟩
  · exact baseL_mem (List.mem_of_mem_drop (List.mem_of_mem_take hd))
theorem neB {x y : Str} {fi : Int} {at' sz i j : Nat} (hi : i < 26) (hj : j < 26) (h : i ≠ j) (_ : at' < sz) (_ : sz ≤ 8) (c : co x = nameB (baseL fi) at' sz fi i) (d : co y = nameB (baseL fi) at' sz fi j) : x ≠ y := by
  intro e
  rw [e, d] at c
  unfold nameB at c
  have c := List.append_cancel_left (List.append_cancel_right c)
  exact h (lt_inj hi hj (List.cons.inj c).1.symm)
end Lw
end
section
set_option Elab.async false
set_option linter.all false
set_option maxRecDepth 100000
set_option maxHeartbeats 4000000
set_option autoImplicit false
namespace Lw
open PySem PySem.Spec PyProof.Rows L2
def vB : List Value := [.type "ValueError", .type "Exception", .type "BaseException", .type "object"]
def clsIn (K : PySem.W.Frag) (C : Addr) : Bool := match K.lookup C with
  | some ⟨.type "type", _, .cls _, _⟩ => true
  | _ => false
structure ExcC (K : PySem.W.Frag) (C : Addr) : Prop where
  nw : clsIn K C = true
  ga : PySem.W.findIn K (.ref C) "__getattribute__" = some (some (.builtin "BaseException.__getattribute__"))
  gn : PySem.W.findIn K (.ref C) "__getattr__" = some none
  cl : PySem.W.findIn K (.ref C) "__class__" = some (some (.builtin "object.__class__"))
  mo : PySem.W.mroIn K C (.type "object") = some true
  mb : PySem.W.mroIn K C (.type "BaseException") = some true
theorem own_cls {K : PySem.W.Frag} {h : Heap} {mg : Str → Option Value} {x : Str} {C : Addr} {bmB : List Value} {newId : String} (X : K.In h) (b : mg x = some (.ref C)) (q : PySem.W.excIn K C bmB newId = true) : OwnCls x C bmB newId mg h := by
  refine ⟨b, ?_⟩
  unfold PySem.W.excIn at q
  split at q
  · rename_i d0 cd sl lk
    split at q
    · rename_i C' bm a0 a1 a2 a3 n a5 hm hs
      simp only [Bool.and_eq_true, beq_iff_eq, Bool.not_eq_true'] at q
      obtain ⟨⟨⟨⟨⟨e1, e2⟩, hdel⟩, ht⟩, hok⟩, hni⟩ := q
      subst e1 e2
      obtain ⟨nm, bs, mro, ns, qn, hd, sn, sub, ab, col, del⟩ := cd
      dsimp only at hm hdel hok hni
      subst hm hdel
      have e : sl = #[a0, a1, a2, a3, some (.builtin n), a5] := by
        obtain ⟨l⟩ := sl
        simp only at hs
        rw [hs]
      subst e
      have N0 : h.isNs ns = true := PySem.W.isNs_of_in X hok
      exact ⟨bm, ns, nm, qn, bs, hd, sn, sub, ab, col, d0, a0, a1, a2, a3, a5, _, X _ _ lk, .of_isNs N0, PySem.W.nsMap_none_of_in X hok hni, PySem.W.tail_of_in X ht⟩
    · cases q
  · cases q
theorem exc_lk {K : PySem.W.Frag} {C : Addr} (q : clsIn K C = true) : ∃ dd cd sl, K.lookup C = some ⟨.type "type", dd, .cls cd, sl⟩ := by
  unfold clsIn at q
  split at q
  · rename_i d0 cd sl lk
    exact ⟨_, _, _, lk⟩
  · cases q
def tRaise (E : XK) (cls : Value) : TS := fun _ _ H => E cls none H
section
variable {P : Program} {w : World} {K : PySem.W.Frag} {mg : Str → Option Value} {base : Heap} {N : List Str} {qual : Str} {scope : Scope} {f : Addr} {cd : Value} {A : Around} {outer : List Env} {s₀ : Shared} {H₀ : Hp} {E : XK}
theorem ps_raise {x : Str} {C : Addr} {np cpos pos p : Pos} {txt : Str} {j : Nat} (hb : mg x = some (.ref C)) (c : PySem.W.excIn K C vB "ValueError.__new__" = true) (hg : Gl (cxOf (CXE P w) P w K mg base N qual scope f cd A outer s₀ H₀ E) x) (hd : (x == ("__debug__" : Str)) = false := by decide) :
    PS (cxOf (CXE P w) P w K mg base N qual scope f cd A outer s₀ H₀ E) (.Raise (some (.Call (.Name x np) [.Constant (.str txt) j p] [] cpos)) none pos) (tRaise E (.ref C)) := by
  intro pins s σ H D I h
  have O := own_cls (h := s.heap) I.kIn hb c
  obtain ⟨tl, ns, nm, q, bs, hdct, sn, sub, ab, col, dd, k0, k1, k2, k3, k5, mN, hC, hN, hni, T⟩ := O.obj
  have FB := PySem.F.excBase_ValueError
  refine wpAny_Raise_call_subT (C := C) (nm := nm) (q := q) (N := ns) (bs := bs) (bm := tl) (hdct := hdct) (sn := sn) (sub := sub) (ab := ab) (col := col) (dd := dd) (k0 := k0) (k1 := k1) (k2 := k2) (k3 := k3) (k5 := k5)
    (mN := mN) FB (T.hasType FB.hasBase) (I.ok.hd rfl) rfl hni (ld_glob I hg hb ⟨rfl, ?_⟩ hd)
  refine Calls.evalArgs_plain ?_
  refine spliced_more (Calls.Constant_str (Calls.spliced_nil ?_))
  exact ⟨rfl, (by show 1 ≤ sizeLine; decide), hC, hN, T, fun h' e hx => raiseX (I.tok _) hx h⟩
end
def dCallX (sp : Sp) (E : XK) (t : TA) : TE := fun σ H Q => t σ H fun vs H1 => sp vs H1 Q E
section
variable {P : Program} {w : World} {K : PySem.W.Frag} {mg : Str → Option Value} {base : Heap} {N : List Str} {qual : Str} {scope : Scope} {f : Addr} {cd : Value} {A : Around} {outer : List Env} {s₀ : Shared} {H₀ : Hp} {E : XK}
theorem e_callX {x : Str} {ps : List Str} {k k' : Nat} {sp : Sp} {p pos : Pos} {e : Expr} {es : List Expr} {t : TA} (C : Cal P w K mg base x ps k sp) (hr : Room k' (cxOf (CXE P w) P w K mg base N qual scope f cd A outer s₀ H₀ E).A) (hk : k ≤ k') (hg : Gl (cxOf (CXE P w) P w K mg base N qual scope f cd A outer s₀ H₀ E) x)
    (ha : PA (cxOf (CXE P w) P w K mg base N qual scope f cd A outer s₀ H₀ E) (e :: es) t) (hdb : (x == ("__debug__" : Str)) = false := by decide)
    (he : starEach (e :: es) (cxOf (CXE P w) P w K mg base N qual scope f cd A outer s₀ H₀ E).env = (false, eval e (cxOf (CXE P w) P w K mg base N qual scope f cd A outer s₀ H₀ E).env) :: starEach es (cxOf (CXE P w) P w K mg base N qual scope f cd A outer s₀ H₀ E).env := by rfl)
    (hpl : (backTo pos (starEach es (cxOf (CXE P w) P w K mg base N qual scope f cd A outer s₀ H₀ E).env)).any (·.1) = false := by rfl) :
    PE (cxOf (CXE P w) P w K mg base N qual scope f cd A outer s₀ H₀ E) (.Call (.Name x p) (e :: es) [] pos) (dCallX sp E t) := by
  obtain ⟨f', fd, h1, h2, h3, h4, _⟩ := C.ex
  have z := pe_call (X := cxOf (CXE P w) P w K mg base N qual scope f cd A outer s₀ H₀ E) (pos := pos) (p := p) (h4.mono hk) hr hg h1 h2 h3 .nil (passX (E := E)) ha hdb he hpl
  have e1 : tCall sp [] E t = dCallX sp E t := by
    funext σ H Q
    unfold tCall dCallX
    simp only [List.append_nil]
  rw [e1] at z
  exact z
end
def ExcAt (a C : Addr) (d : Option Addr := none) (b : Bool := false) : Heap → Prop := fun h => ∃ o vs, h.get? a = some o ∧ o.cls = .ref C ∧ o.data = .fields vs ∧ o.dict = d ∧ (∃ v0, vs[0]? = some v0) ∧ (b = true → vs[1]? = some .none)
section
variable {prog : Program} {w : World} {A : Around} {E : Value → Shared → Prop} {K : PySem.W.Frag} {x C : Addr} {d0 : Option Addr} {b0 : Bool}
theorem exc_ty {M : Model} {h : Heap} (p : ExcAt x C d0 b0 h) : PySem.W.Looks M h (typeOf (.ref x)) (.ref C) := by
  obtain ⟨o, vs, e, c, _⟩ := p
  exact c ▸ (PySem.W.Looks.ld e).andThen .now
theorem exc_gcls {R : Result → Shared → Prop} {s : Shared} {tp : Value} (X : K.In s.heap) (p : ExcAt x C d0 b0 s.heap) (c : ExcC K C) (h : R (.ok (.ret (.ref C))) s) :
    codeAny (model prog w) A (.call (.builtin "getset_descriptor.__get__") ⟨[.builtin "object.__class__", .ref x, tp], []⟩) R s := by
  obtain ⟨hh, g, d, t, os⟩ := s
  have l1 := exc_ty (M := model prog w) p
  have l2 := PySem.W.looks_mroIn (M := model prog w) X c.mo
  refine codeAny_call_builtin PySem.W.KF.slot_gs.plain PySem.W.KF.entry_gs ?_
  refine PySem.W.KF.slot_gs.check _ _ _ _ _ _ _ _ PySem.W.KF.type_class (PySem.W.KF.args_gs _ _ _) ?_
  unfold Builtin.«getset_descriptor.__get__» Builtin.Getset_descriptor.descrGet
  rw [PySem.W.dga_obj]
  refine wpAny_bind (wpAny_pure ?_)
  unfold Builtin.Getset_descriptor.descrGetter Builtin.Getset_descriptor.descrCheckInstance
  unfold Builtin.Getset_descriptor.descrNameAndClass isInstance
  simp only [PySem.W.KF.owner_class]
  repeat lk
  refine ⟨Code.quiet_builtin _ (by decide +kernel), ?_⟩
  refine codeAny_builtin PySem.W.KF.entry_class ?_
  unfold Builtin.«object.__class__» shownTypeOf
  repeat lk
  exact h
theorem exc_chk {M : Model} {h : Heap} {g : Array GenState} {d : Drawn} {t : Nat} {os : OsState} {nameV : Value} {Q : Unit → Shared → Prop} (X : K.In h) (p : ExcAt x C d0 b0 h) (c : ExcC K C) (hq : Q () ⟨h, g, d, t, os⟩) :
    wpAny M A (checkBuiltinCall "BaseException.__getattribute__" ⟨[.ref x, nameV], []⟩) Q E ⟨h, g, d, t, os⟩ := by
  have e1 : builtinKind "BaseException.__getattribute__" = some .slot := by decide +kernel
  have e2 : splitId "BaseException.__getattribute__" = some ("BaseException", "__getattribute__") := by decide +kernel
  have l1 := exc_ty (M := M) p
  have l2 := PySem.W.looks_mroIn (M := M) X c.mb
  have l3 : PySem.W.Looks M h (isInstance (.ref x) (.type "BaseException")) true := l1.andThen l2
  have ar := F.args_bexc_ga (.ref x) nameV
  simp only [checkBuiltinCall, e1, e2]
  refine wpAny_bind (l3.at ?_)
  repeat (first | assumption | wp_step)
theorem exc_get {s : Shared} {tk : Tok} {Q : Fin → Shared → Prop} (X : K.In s.heap) (p : ExcAt x C d0 b0 s.heap) (c : ExcC K C) (hq : Q (.done (.ret (.ref C))) s) :
    wpAny (model prog w) A (Builtin.«object.__getattribute__» ⟨[.ref x, .str "__class__" tk], []⟩) Q E s := by
  obtain ⟨h, g, d, t, os⟩ := s
  have l1 := exc_ty (M := model prog w) p
  have l2 := PySem.W.looks_findIn (M := model prog w) X c.cl
  have f5 := F.typeOf_object_class
  have f6 := F.slot_gs_get.lookup
  have f7 := F.slot_gs_set.lookup
  unfold Builtin.«object.__getattribute__»
  repeat (first | with_reducible refine l1.at ?_ | with_reducible refine l2.at ?_ | wp_step)
  refine exc_gcls X p c ?_
  repeat (first | assumption | wp_step)
theorem exc_class {s : Shared} {Q : Option Value → Shared → Prop} (X : K.In s.heap) (p : ExcAt x C d0 b0 s.heap) (c : ExcC K C) (hq : Q (some (.ref C)) { s with toks := s.toks + 1 }) :
    wpAny (model prog w) A (getAttr? (.ref x) "__class__") Q E s := by
  obtain ⟨h, g, d, t, os⟩ := s
  have l1 := exc_ty (M := model prog w) p
  have l2 := PySem.W.looks_findIn (M := model prog w) X c.ga
  have l3 := PySem.W.looks_findIn (M := model prog w) X c.gn
  have b1 := PySem.F.attr_ValueError.ga.bind (.ref x)
  unfold getAttr? getAttrBy?
  unfold getAttrBy
  refine wpAny_bind (wpAny_mkText (wpAny_bind (wpAny_attempt (wpAny_holding (wpAny_bind (l1.at (wpAny_bind (l2.at ?_))))))))
  show wpAny _ _ (getAttrByItsOwn _ _ _ _ _ _) _ _ _
  unfold getAttrByItsOwn
  refine wpAny_bind (l3.at ?_)
  refine wpAny_bind (wpAny_attempt (wpAny_holding ?_))
  show wpAny _ _ (boundAndCalled _ _ _) _ _ _
  unfold boundAndCalled
  rw [b1]
  refine wpAny_bind (wpAny_pure ?_)
  refine wpAny_call (codeAny_call_builtin PySem.F.attr_ValueError.ga.plain F.entry_bexc_ga ?_)
  refine exc_chk X p c ?_
  refine exc_get (s := ⟨h, g, d, t + 1, os⟩) X p c ?_
  exact wpAny_pure (wpAny_pure hq)
theorem exc_kit (c : ExcC K C) : PySem.W.KitX K (.ref x) (.ref C) (ExcAt x C d0 b0) where
  ty := fun M h _ p => exc_ty p
  it := fun M h X p => by
    obtain ⟨dd, cd, sl, lk⟩ := exc_lk c.nw
    intro A' Q' E' s' k q
    unfold isType loadHead
    exact wpAny_bind (wpAny_loadPart (k _ _ (X _ _ lk)) (wpAny_pure q))
  ne := fun h tp d' its n sl X e => by
    obtain ⟨dd, cd, sl', lk⟩ := exc_lk c.nw
    refine Bool.eq_false_iff.mpr fun q => ?_
    have e2 : C = tp := Value.ref.inj (beq_iff_eq.mp q)
    subst e2
    have z := congrArg Obj.cls (Option.some.inj ((X _ _ lk).symm.trans e))
    exact absurd (Value.type.inj z) (by decide)
  ca := fun X p q => exc_class X p c q
end
section
variable {X : Cx}
def dIsiX (K : PySem.W.Frag) : List V → Hp → VK → Prop := fun xs H Q => match xs with
  | [.ref p, .ref D] => ∃ C b, H p = some (.ext (ExcAt p C)) ∧ ExcC K C ∧ PySem.W.kitOne K (.ref C) (.ref D) = some b ∧ Q (.bl b) H
  | [.ref p, .ty T] => ∃ C b, H p = some (.ext (ExcAt p C)) ∧ ExcC K C ∧ PySem.W.kitOne K (.ref C) (.type T) = some b ∧ Q (.bl b) H
  | _ => False
theorem c_isiX : CallR X (.builtin "isinstance") (dIsiX X.K) := by
  intro pins s σ H xs us Q I r h
  match xs, h with
  | [.ref p, .ref D], ⟨C, b, e, c, k, q⟩ =>
    obtain ⟨u, v, rfl, r1, r2⟩ := vals2 r
    cases (show u = Value.ref p from r1)
    cases (show v = Value.ref D from r2)
    have o : ObjOk X.prog X.w H s.heap p (.ext (ExcAt p C)) := I.hok p _ e
    exact PySem.W.kia_one (exc_kit c) I.kIn o.1 k (fun z => nomatch z) fun tk => ⟨.bl b, H, I.tok _, rfl, q⟩
  | [.ref p, .ty T], ⟨C, b, e, c, k, q⟩ =>
    obtain ⟨u, v, rfl, r1, r2⟩ := vals2 r
    cases (show u = Value.ref p from r1)
    cases (show v = Value.type T from r2)
    have o : ObjOk X.prog X.w H s.heap p (.ext (ExcAt p C)) := I.hok p _ e
    exact PySem.W.kia_one (exc_kit c) I.kIn o.1 k (fun z => nomatch z) fun tk => ⟨.bl b, H, I.tok _, rfl, q⟩
theorem vals_refs : ∀ {ds : List Addr} {us : List Value}, Vals (ds.map V.ref) us → us = ds.map Value.ref
  | [], _, r => by cases r; rfl
  | d :: ds, _, r => by
    cases r with
    | cons r1 r2 => rw [show _ = Value.ref d from r1, vals_refs r2]; rfl
def dIsiT (K : PySem.W.Frag) : List V → Hp → VK → Prop := fun xs H Q => match xs with
  | [.ref p, .ref t] => ∃ (C : Addr) (b : Bool) (ds : List Addr), H p = some (.ext (ExcAt p C)) ∧ ExcC K C ∧ H t = some (.tup (ds.map V.ref)) ∧ PySem.W.kitAny K (.ref C) (ds.map Value.ref) = some b ∧ Q (.bl b) H
  | _ => False
theorem c_isiT : CallR X (.builtin "isinstance") (dIsiT X.K) := by
  intro pins s σ H xs us Q I r h
  match xs, h with
  | [.ref p, .ref t], ⟨C, b, ds, e, c, et, k, q⟩ =>
    obtain ⟨u, v, rfl, r1, r2⟩ := vals2 r
    cases (show u = Value.ref p from r1)
    cases (show v = Value.ref t from r2)
    have o : ObjOk X.prog X.w H s.heap p (.ext (ExcAt p C)) := I.hok p _ e
    obtain ⟨_, its, rv, ob, e1, e2, n, e3⟩ := (show ObjOk X.prog X.w H s.heap t (.tup (ds.map V.ref)) from I.hok t _ et)
    obtain ⟨oc, od, oda, osl⟩ := ob
    dsimp only at e2 e3
    subst e2 e3
    rw [vals_refs rv] at e1
    exact PySem.W.kia_tup (exc_kit c) I.kIn o.1 e1 k (fun z => nomatch z) fun tk => ⟨.bl b, H, I.tok _, rfl, q⟩
end
theorem kitN {K : PySem.W.Frag} {t : Value} : PySem.W.kitAny K t (([] : List Addr).map Value.ref) = some false := rfl
theorem kitF {K : PySem.W.Frag} {t : Value} {d : Addr} {ds : List Addr} (h : PySem.W.kitOne K t (.ref d) = some false) (r : PySem.W.kitAny K t (ds.map Value.ref) = some false) : PySem.W.kitAny K t ((d :: ds).map Value.ref) = some false := by
  rw [List.map_cons]
  unfold PySem.W.kitAny
  rw [h]
  exact r
section
variable {X : Cx} {pins : List (Addr × Obj)} {σ : L2.St} {H : Hp} {s : Shared}
theorem name_goes {M : Model} {A : Around} {E : Value → Shared → Prop} {Q : Unit → Shared → Prop} {n : Nat} {x : Str} {pos : Pos} (I : Inv X pins σ H s) (nd : X.N.Nodup) (hn : X.N[n]? = some x) (hl : X.env.scope.names.lookup x = some .local)
    (k : ∀ s', Inv X pins (σ.set n none) H s' → Q () s') : wpAny M A (do bindName X.env x .none; unbindBehindTheSuite X.env x pos) Q E s := by
  refine wpAny_bind (wpAny_bindName (store_ok I nd hn (.inl hl) (v := .non) (u := .none) rfl (fun s1 I1 => ?_) (.inr hl)))
  obtain ⟨m, hns, hloc⟩ := id I1.loc
  have hlen : n < σ.length := by rw [I.len]; exact (List.getElem?_eq_some_iff.mp hn).1
  have hm : m x = some .none := by
    obtain ⟨u, ru, lk⟩ := hloc n x .non hn (by rw [List.getElem?_set_self hlen]) (.inl hl)
    cases (show u = Value.none from ru)
    rcases lk with ⟨_, e⟩ | ⟨z, _⟩
    · exact e
    · have z' : X.env.scope.names.lookup x = some .cell ∨ X.env.scope.names.lookup x = some .free := z
      rw [hl] at z'
      rcases z' with z' | z' <;> cases z'
  have hp : (X.env.scope.kind == .class || (X.env.scope.kind == .module && X.env.locals != X.env.globals)) = false := by rw [I.ok.kind]; rfl
  have hl' : X.env.kindOf x = some .local := hl
  unfold unbindBehindTheSuite
  refine wpAny_onRaise ?_
  unfold unbindName
  refine wpAny_bind (wpAny_point (wpAny_bind ?_))
  unfold deleteName
  simp only [hl', hp]
  rw [if_neg (by decide)]
  refine wpAny_bind (wpAny_nsDel_keeps hns fun h2 v hn2 sb => ?_)
  rw [hm]
  simp only [if_true, Option.isSome_some, Bool.not_true, Bool.false_eq_true, if_false]
  refine wpAny_pure (wpAny_point (k _ ?_))
  have ne : ∀ b o, X.s₀.heap.get? b = some o → b ≠ X.env.locals := fun b o e => Nat.ne_of_lt (Nat.lt_of_lt_of_le (Heap.lt_size e) I.ok.above)
  refine ⟨I1.ok, I1.os, I1.bare, ⟨fun b o e n' hb hx => ?_, fun b o e n' hb hx => ?_, I1.base.free, fun b o e hx => ?_, I1.base.tups, I1.base.frzs, I1.base.tbls⟩, ⟨_, hn2, fun j y v' e1 e2 e3 => ?_⟩, fun y c e => ?_, I1.free, I1.freeC, fun p hp => ?_, fun b u e => ?_, ?_⟩
  · exact (sb.2 b (ne b o e)).trans (I1.base.keep b o e n' hb hx)
  · obtain ⟨sl, q⟩ := I1.base.slot b o e n' hb hx
    exact ⟨sl, (sb.2 b (ne b o e)).trans q⟩
  · obtain ⟨o', q⟩ := I1.base.there b o e hx
    exact ⟨o', (sb.2 b (ne b o e)).trans q⟩
  · have hj : j ≠ n := by
      rintro rfl
      rw [List.getElem?_set_self hlen] at e2
      cases e2
    rw [List.getElem?_set_ne (Ne.symm hj)] at e2
    obtain ⟨u', r', q⟩ := hloc j y v' e1 (by rw [List.getElem?_set_ne (Ne.symm hj)]; exact e2) e3
    refine ⟨u', r', ?_⟩
    rcases q with ⟨kk, e⟩ | ⟨kk, c, e, z⟩
    · refine .inl ⟨kk, ?_⟩
      have hy : y ≠ x := fun z => hj (nodup_ix nd e1 (z ▸ hn))
      show (if y = x then v else m y) = some u'
      rw [if_neg hy]
      exact e
    · exact .inr ⟨kk, c, e, z.sameBut sb (I1.cne y c e)⟩
  · obtain ⟨w', z⟩ := I1.cell y c e
    exact ⟨w', z.sameBut sb (I1.cne y c e)⟩
  · obtain ⟨q, q2, q3, q4⟩ := I1.pin p hp
    exact ⟨(sb.2 p.1 q3).trans q, q2, q3, q4⟩
  · refine (I1.hok b u e).stay (fun c v' hc q => (sb.2 c ?_).trans q) (fun _ q => q) fun _ _ q => q
    rintro rfl
    rcases hc with z | z
    · subst z
      rw [I1.free] at e
      cases e
    · rw [I1.free] at z
      cases z
  · have z := I1.len
    simp only [List.length_set] at z ⊢
    exact z
end
abbrev cxM (X : Cx) (v : Value) : Cx := { X with A := X.A.mark (some v), calm := false, xe := fun _ _ => False }
section
variable {X : Cx} {pins : List (Addr × Obj)} {σ : L2.St} {H : Hp} {s : Shared}
theorem inv_mark (I : Inv X pins σ H s) (v : Value) : Inv (cxM X v) pins σ H s :=
  ⟨⟨I.ok.mod, I.ok.kind, I.ok.glob, I.ok.blt, I.ok.above, I.ok.inj, I.ok.has, I.ok.cab, fun z => (nomatch z), I.ok.frames, I.ok.stk, I.ok.exf, I.ok.bs, I.ok.bsz, I.ok.noex, I.ok.exfs, I.ok.funs, I.ok.frf⟩, I.os, I.bare, I.base, I.loc, I.cell, I.free, I.freeC, I.pin, I.hok, I.len⟩
theorem inv_unmark {v : Value} (ok : X.Ok) (I : Inv (cxM X v) pins σ H s) : Inv X pins σ H s := ⟨ok, I.os, I.bare, I.base, I.loc, I.cell, I.free, I.freeC, I.pin, I.hok, I.len⟩
end
structure Cat (K : PySem.W.Frag) (D : Addr) : Prop where
  lk : ∃ dd cd sl, K.lookup D = some ⟨.type "type", dd, .cls cd, sl⟩
  mb : PySem.W.mroIn K D (.type "BaseException") = some true
theorem ExcC.cat {K : PySem.W.Frag} {C : Addr} (c : ExcC K C) : Cat K C := ⟨exc_lk c.nw, c.mb⟩
theorem exc_match {M : Model} {A : Around} {E : Value → Shared → Prop} {K : PySem.W.Frag} {a C D : Addr} {s : Shared} {Q : Bool → Shared → Prop} (X : K.In s.heap) (p : ∃ o, s.heap.get? a = some o ∧ o.cls = .ref C) (c : Cat K D)
    (hm : PySem.W.mroIn K C (.ref D) = some true) (hq : Q true s) : wpAny M A (excMatches (.ref a) (.ref D)) Q E s := by
  obtain ⟨h, g, d, t, os⟩ := s
  obtain ⟨o, e, ec⟩ := p
  obtain ⟨dd, cd, sl, lk⟩ := c.lk
  have eD := X _ _ lk
  have f := tc_notTuple
  have l1 := PySem.W.looks_mroIn (M := M) X c.mb
  have l2 := PySem.W.looks_mroIn (M := M) X hm
  unfold excMatches
  repeat (first | with_reducible refine l1.at ?_ | with_reducible refine l2.at ?_ | (with_reducible refine wpAny_loadPart_at e ?_; rw [ec]) | with_reducible refine wpAny_loadPart_at eD ?_ | wp_step)
  exact hq
section
variable {X : Cx} {pins : List (Addr × Obj)} {σ : L2.St} {H H' : Hp} {s s' : Shared}
theorem handle_ok {E : Value → Shared → Prop} {a C D' : Addr} {d : Option Addr} {B : Heap} {a0 : Value} {y nm : Str} {yp hpos : Pos} {b₀ : Stmt} {suite : List Stmt} {n : Nat} {tu : TS} {D : Ends} (dx : DefCx X) (I : Inv X pins σ H s) (F : Fly X.prog X.w X.stack H s H' a (.ref C) d B a0 s')
    (hy : Gl X y) (hD : X.mg y = some (.ref D')) (cD : Cat X.K D') (hm : PySem.W.mroIn X.K C (.ref D') = some true) (nd : X.N.Nodup) (hn : X.N[n]? = some nm) (hl : X.env.scope.names.lookup nm = some .local) (hu : ∀ v, PSs (cxM X v) (b₀ :: suite) tu)
    (hdb : (y == ("__debug__" : Str)) = false)
    (q : ∀ H3, Same H' H3 → H3 a = some (.ext (ExcAt a C d)) → tu { nx := fun σ' H' => D.nx (σ'.set n none) H', rt := D.rt, bk := fun σ' H' => D.bk (σ'.set n none) H', ct := fun σ' H' => D.ct (σ'.set n none) H' } (σ.set n (some (.ref a))) H3) :
    wpAny (model X.prog X.w) X.A (noteFrame (.ref a) X.env) (fun _ s2 => wpAny (model X.prog X.w) X.A (setFlight (.ref a) none) (fun _ s3 =>
      wpAny (model X.prog X.w) X.A (handleBy (.ref a) X.env [.ExceptHandler (some (.Name y yp)) (some nm) (b₀ :: suite) hpos]) (SP X pins D) E s3) E s2) E s' := by
  have hfr : X.A.frames = some (X.env :: X.outer) := by rw [I.ok.frames, dx.stk]
  have hfl := F.fly
  rw [dx.stk] at hfl
  refine wpAny_mono (mild_any mild_note F.dct (wpAny_looks_onW (Q := fun _ s4 => ∃ h4, s4 = { s' with heap := h4 } ∧ Heap.HeldW B (X.env :: X.outer) a (.ref C) a0 X.env.locals h4 ∧ s'.heap.UpToSlots h4) hfr dx.fr hfl fun h4 held u4 => ⟨h4, rfl, held, u4⟩)) (fun _ s4 ⟨⟨h4, e4, held, u4⟩, d4⟩ => ?_) fun _ _ z => z
  subst e4
  refine wpAny_mono (mild_any mild_setFlight d4 (wpAny_landsW (Q := fun _ s5 => ∃ h5, s5 = { s' with heap := h5 } ∧ Heap.FlyingW B (X.env :: X.outer) a (.ref C) a0 h5 ∧ h4.UpToSlots h5) held fun h5 f5 u5 => ⟨h5, rfl, f5, u5⟩)) (fun _ s5 ⟨⟨h5, e5, f5, u5⟩, d5⟩ => ?_) fun _ _ z => z
  subst e5
  have I5 : Inv X pins σ H' { s' with heap := h5 } := I.call' (s' := { s' with heap := h5 }) (ch := []) F.os (F.un5 f5.1 (u4.trans u5)) (F.hok5 f5.1) F.bare fun b hb => absurd hb (by simp)
  refine wpAny_handleBy_cons (codeAny_handlers_test (ld_glob (inv_mark I5 (.ref a)) hy hD ?_ hdb)) (by intro z; cases z)
  refine exc_match I5.kIn f5.there cD hm ?_
  refine codeAny_handlers_suite_as ?_
  refine wpAny_mono (mild_any mild_setFlight d5 (lands_againW (Q := fun _ s6 => ∃ h6, s6 = { s' with heap := h6 } ∧ Heap.FlyingW B (X.env :: X.outer) a (.ref C) a0 h6 ∧ h5.UpToSlots h6) f5 fun h6 f6 u6 => ⟨h6, rfl, f6, u6⟩)) (fun _ s6 ⟨⟨h6, e6, f6, u6⟩, d6⟩ => ?_) fun _ _ z => z
  subst e6
  obtain ⟨oe, ws, oe1, oe2, oe3, oe5⟩ := f6.first
  have oe4 : oe.dict = d := by
    obtain ⟨o6, z1, z2⟩ := d6
    have z3 : some o6 = some oe := z1.symm.trans oe1
    cases z3
    exact z2
  have up : ∀ b, b ≠ a → upd H' a (.ext (ExcAt a C d)) b = H' b := fun b hb => upd_ne hb
  have sm : Same H' (upd H' a (.ext (ExcAt a C d))) := fun b o e => by
    rw [up b (ne_of_none e F.free)]
    exact e
  have un0 := F.un5 f6.1 ((u4.trans u5).trans u6)
  have un6 : Un (frs X.stack) [] H (upd H' a (.ext (ExcAt a C d))) s.heap h6 :=
    ⟨un0.keep, un0.slot, fun b o e n' hx => by
      have hb : b ≠ a := by
        rintro rfl
        rw [F.fresh] at e
        cases e
      rw [up b hb]
      exact un0.free b o e n' hx, un0.there, fun b xs e => sm b _ (un0.tups b xs e), fun b o u e => sm b _ (un0.frzs b o u e), fun b ps e => by
      obtain ⟨more, e1⟩ := un0.tbls b ps e
      exact ⟨more, sm b _ e1⟩⟩
  have ok0 := F.hok5 f6.1
  have ok6 : HOk X.prog X.w (upd H' a (.ext (ExcAt a C d))) h6 := fun b u e => by
    by_cases hb : b = a
    · subst hb
      rw [upd_same] at e
      cases e
      refine ⟨⟨oe, ws, oe1, oe2, oe3, oe4, ⟨_, oe5⟩, fun z => nomatch z⟩, ⟨oe, oe1⟩, fun h1 h2 ⟨o, vs, z1, z2, z3, z4⟩ k => ⟨o, vs, k o z1, z2, z3, z4⟩⟩
    · rw [up b hb] at e
      exact (ok0 b u e).stay (fun _ _ _ q => q) (fun c z => sm c _ z) fun c xs z => sm c _ z
  have I6 : Inv X pins σ (upd H' a (.ext (ExcAt a C d))) { s' with heap := h6 } := I.call' (s' := { s' with heap := h6 }) (ch := []) F.os un6 ok6 F.bare fun b hb => absurd hb (by simp)
  refine store_ok (X := cxM X (.ref a)) (inv_mark I6 (.ref a)) nd hn (.inl hl) (v := .ref a) rfl (fun s7 I7 => ?_) (.inr hl)
  refine wpAny_mono (hu (.ref a) pins s7 _ _ _ I7 (q _ sm upd_same)) (fun fl s8 q8 => ?_) fun _ _ z => z.elim
  cases fl with
  | next =>
    obtain ⟨σ8, H8, I8, q8⟩ := q8
    exact name_goes (inv_unmark I.ok I8) nd hn hl fun s9 I9 => ⟨_, H8, I9, q8⟩
  | brk =>
    obtain ⟨σ8, H8, I8, q8⟩ := q8
    exact name_goes (inv_unmark I.ok I8) nd hn hl fun s9 I9 => ⟨_, H8, I9, q8⟩
  | cont =>
    obtain ⟨σ8, H8, I8, q8⟩ := q8
    exact name_goes (inv_unmark I.ok I8) nd hn hl fun s9 I9 => ⟨_, H8, I9, q8⟩
  | ret u =>
    obtain ⟨v, σ8, H8, I8, r8, q8⟩ := q8
    exact name_goes (inv_unmark I.ok I8) nd hn hl fun s9 I9 => ⟨v, _, H8, I9, r8, q8⟩
end
end Lw
end
section
set_option Elab.async false
set_option linter.all false
set_option maxRecDepth 100000
set_option maxHeartbeats 4000000
namespace Lw
open PySem PySem.Spec PyProof.Rows L2
section
variable {X : Cx} {a b c : Expr} {ta tb tc : TE} {pos : Pos} {tg : Expr}
def Cst (mg : Str → Option Value) (x : Str) (v : V) : Prop := ∃ u, mg x = some u ∧ RelV v u
theorem g_cst {x : Str} {v : V} (k : Cst X.mg x v) (hg : Gl X x) (hd : (x == ("__debug__" : Str)) = false := by decide) : PE X (.Name x pos) (tC v) := by
  obtain ⟨u, h1, h2⟩ := k
  exact pe_glob hg h1 h2 hd
def dIxTS (K : PySem.W.Frag) : R2 := fun x y H Q => match x, y with
  | .ref p, .int i => ∃ xs v, SqT K H p xs ∧ atI xs i = some v ∧ Q v H
  | _, _ => False
theorem i_tupS : IxR X (dIxTS X.K) := by
  intro value slice pins s σ H x y v u Q I rx ry h hs
  cases x <;> cases y <;> first
    | exact False.elim h
    | (obtain ⟨xs, w, e, z, q⟩ := h
       exact ix_tup value slice pins s σ H _ _ v u Q I rx ry ⟨_, xs, _, w, rfl, rfl, e, z, q⟩ hs)
def dChain (r r' : R2) (ta tb tc : TE) : TE := fun σ H Q => ta σ H fun x H1 => tb σ H1 fun y H2 => r x y H2 fun z H3 => match z with
  | .bl k => Br k (tc σ H3 fun w' H4 => r' y w' H4 Q) (Q (.bl false) H3)
  | _ => False
theorem dChain_eq (r r' : R2) (ta tb tc : TE) : dChain r r' ta tb tc = tChain r r' ta tb tc := by
  funext σ H Q
  unfold dChain tChain
  congr 1
  funext x H1
  congr 1
  funext y H2
  congr 1
  funext z H3
  apply propext
  cases z <;> simp [br_eq]
theorem e_chain {op op' : CmpOp} {r r' : R2} (ho : OpR X (compareOp op) r) (ho' : OpR X (compareOp op') r') (ha : PE X a ta) (hb : PE X b tb) (hc : PE X c tc)
    (hm : lastMarks [op, op'] [b, c] = false := by with_unfolding_all rfl) : PE X (.Compare a [op, op'] [b, c] pos) (dChain r r' ta tb tc) := by
  rw [dChain_eq]
  exact pe_chain ho ho' ha hb hc hm
theorem t_chain {op op' : CmpOp} {r r' : R2} (ho : OpR X (compareOp op) r) (ho' : OpR X (compareOp op') r') (ha : PE X a ta) (hb : PE X b tb) (hc : PE X c tc)
    (hm : lastMarks [op, op'] [b, c] = false := by with_unfolding_all rfl) : PT X (.Compare a [op, op'] [b, c] pos) (dTest (dChain r r' ta tb tc)) := by
  rw [dTest_eq, dChain_eq]
  exact pt_chain ho ho' ha hb hc hm
def dIn1 : R2 := fun x y H Q => match x, y with
  | .str i, .str j => ∃ c, i = ⟨#[c]⟩ ∧ Q (.bl (decide (c ∈ co j))) H
  | _, _ => False
theorem o_in1 : OpR X (compareOp .In) dIn1 := by
  intro pins s σ H x y v u Q I rx ry q
  cases x <;> cases y <;> first
    | exact False.elim q
    | (obtain ⟨k, rfl, q⟩ := q
       exact op_in_str _ _ _ _ _ _ _ _ _ I rx ry ⟨_, _, rfl, rfl, by rw [StrLaws.found_one]; exact q⟩)
def Its (x : Str) : It := ⟨fun i _ => i < x.length, fun i H v H' => H' = H ∧ ∃ c, (co x)[i]? = some c ∧ v = .str ⟨#[c]⟩, fun i _ => x.length ≤ i⟩
theorem turn_strA {P : Program} {w : World} {K : PySem.W.Frag} (x : Str) (t : Tok) (it : Addr) : Turn P w K tg (Its x) [it] it (fun i h => h.IsStrIter it "str_ascii_iterator" x t i) where
  mem := by simp
  obj := fun i h st b hb => by
    have e : b = it := by simpa using hb
    subst e
    obtain ⟨o, e, _, d⟩ := st
    exact ⟨o, e, fun v z => by rw [d] at z; cases z⟩
  keep := fun i h h' st k => by
    obtain ⟨o, e, r⟩ := st
    exact ⟨o, k it (by simp) o e, r⟩
  item := by
    intro X hP hw hK hc i pins s σ H E I hf st hg
    subst hP hw hK
    have hg : i < x.cps.size := hg
    obtain ⟨f0, f1, f2, f3, f4, f5⟩ := hf it (by simp)
    refine wpAny_pyNext_ascii_item st (c := x.cps[i]) (by simp [hg]) fun h' st' sb => ?_
    have I1 : Inv X pins σ H { s with heap := h', toks := s.toks + 1 } := I.turned (fun b o hb e => (sb.2 b hb).trans e) f0 f1 f3 f4 f5
    obtain ⟨o, e, c, d⟩ := id st'
    exact ⟨_, rfl, go_of (s := { s with heap := h', toks := s.toks + 1 }) e c d (by decide) ⟨.str _, H, I1, ⟨_, rfl⟩, ⟨rfl, _, by simp [co, hg], rfl⟩, st', fun b hb => (hf b hb).1⟩⟩
  done := by
    intro X hP hw hK hc i pins s σ H E I hf st hg
    subst hP hw hK
    have hg : x.cps.size ≤ i := hg
    obtain ⟨f0, f1, f2, f3, f4, f5⟩ := hf it (by simp)
    exact wpAny_pyNext_ascii_end (I.ok.hd hc) st (by simp [hg]) fun h' eb => ⟨rfl, I.turned (t' := s.toks) (fun b o hb e => eb b o hb e) f0 f1 f3 f4 f5⟩
  self := fun _ _ _ _ _ st h => wpAny_pyIter_striter_ascii st h
theorem turn_strW {P : Program} {w : World} {K : PySem.W.Frag} (x : Str) (t : Tok) (it : Addr) : Turn P w K tg (Its x) [it] it (fun i h => h.IsStrIter it "str_iterator" x t i) where
  mem := by simp
  obj := fun i h st b hb => by
    have e : b = it := by simpa using hb
    subst e
    obtain ⟨o, e, _, d⟩ := st
    exact ⟨o, e, fun v z => by rw [d] at z; cases z⟩
  keep := fun i h h' st k => by
    obtain ⟨o, e, r⟩ := st
    exact ⟨o, k it (by simp) o e, r⟩
  item := by
    intro X hP hw hK hc i pins s σ H E I hf st hg
    subst hP hw hK
    have hg : i < x.cps.size := hg
    obtain ⟨f0, f1, f2, f3, f4, f5⟩ := hf it (by simp)
    refine wpAny_pyNext_wide_item st (c := x.cps[i]) (by simp [hg]) fun h' st' sb => ?_
    have I1 : Inv X pins σ H { s with heap := h', toks := s.toks + 1 } := I.turned (fun b o hb e => (sb.2 b hb).trans e) f0 f1 f3 f4 f5
    obtain ⟨o, e, c, d⟩ := id st'
    exact ⟨_, rfl, go_of (s := { s with heap := h', toks := s.toks + 1 }) e c d (by decide) ⟨.str _, H, I1, ⟨_, rfl⟩, ⟨rfl, _, by simp [co, hg], rfl⟩, st', fun b hb => (hf b hb).1⟩⟩
  done := by
    intro X hP hw hK hc i pins s σ H E I hf st hg
    subst hP hw hK
    have hg : x.cps.size ≤ i := hg
    obtain ⟨f0, f1, f2, f3, f4, f5⟩ := hf it (by simp)
    exact wpAny_pyNext_wide_end (I.ok.hd hc) st (by simp [hg]) fun h' eb => ⟨rfl, I.turned (t' := s.toks) (fun b o hb e => eb b o hb e) f0 f1 f3 f4 f5⟩
  self := fun _ _ _ _ _ st h => wpAny_pyIter_striter_wide st h
def iStr (tl : TE) : TI := fun σ H R => tl σ H fun x H1 => match x with
  | .str z => R (Its z) H1
  | _ => False
theorem pi_str {l : Expr} {tl : TE} (hl : PE X l tl) : PI X tg l (iStr tl) := by
  intro pins s σ H R I h
  refine thn (hl pins s σ H _ I h) fun v s1 ⟨x, H1, I1, r1, q1⟩ => ?_
  cases x <;> first
    | exact False.elim q1
    | (rename_i z
       obtain ⟨t, rfl⟩ := r1
       have fp : ∀ (o : Obj), ∀ b ∈ [s1.heap.objs.size], FpOk X pins H1 b := fun o b hb => by
         have e : b = s1.heap.objs.size := by simpa using hb
         subst e
         exact I1.fpOk (Nat.le_refl _) (I1.hok.fresh (Nat.le_refl _))
       cases ha : z.cps.all (· < 128) with
       | true =>
         refine wpAny_pyIter_ascii ha ⟨s1.heap.objs.size, [s1.heap.objs.size], _, _, H1, rfl, I1.kept (t' := s1.toks) fun b o e => Heap.get?_push_of_some _ e, turn_strA z t _, ⟨_, Heap.get?_push_size _ rfl, rfl, rfl⟩, fp default, q1⟩
       | false =>
         refine wpAny_pyIter_wide ha ⟨s1.heap.objs.size, [s1.heap.objs.size], _, _, H1, rfl, I1.kept (t' := s1.toks) fun b o e => Heap.get?_push_of_some _ e, turn_strW z t _, ⟨_, Heap.get?_push_size _ rfl, rfl, rfl⟩, fp default, q1⟩)
theorem comp_str {x : Str} {g : TG} {te : TE} {k : Nat} {js : List Nat} {σ : L2.St} {H1 : Hp} {Q : VK} (f : Nat → V) (hz : x.length ≤ 1000)
    (hs : ∀ c H2, c ∈ co x → Same H1 H2 → ∀ P : VK, P (f c) H2 → g (.str ⟨#[c]⟩) (List.replicate k none ++ capσ js σ) H2 fun σ2 H3 => σ2.drop k = capσ js σ ∧ te σ2 H3 P)
    (hq : ∀ D H', Same H1 H' → H' D = some (.lst ((co x).map f)) → Q (.ref D) H') :
    CGoal (Its x) g te k js σ H1 Q := by
  unfold CGoal
  intro D hD
  have hl := co_len x
  refine ⟨fun i m H => m = x.length - i ∧ i ≤ x.length ∧ H = upd H1 D (.lst (((co x).take i).map f)), ⟨x.length, by simp, Nat.zero_le _, rfl⟩, ?_⟩
  rintro i m H ⟨rfl, hi, rfl⟩
  by_cases hlt : i < x.length
  · refine .inr ⟨hlt, fun v H' y => ?_⟩
    obtain ⟨e1, c, hc, rfl⟩ := y
    subst e1
    refine hs c _ (List.mem_of_getElem? hc) (same_upd hD) _ ⟨_, upd_same, ?_, x.length - (i + 1), by omega, rfl, hlt, ?_⟩
    · rw [List.length_map, List.length_take]
      exact Nat.lt_of_le_of_lt (Nat.min_le_left _ _) (Nat.lt_of_lt_of_le hlt (Nat.le_trans hz (by decide)))
    · rw [upd_upd, List.take_add_one, hc, List.map_append]
      rfl
  · have e : i = x.length := by omega
    subst e
    refine .inl ⟨Nat.le_refl _, hq D _ (same_upd hD) ?_⟩
    rw [upd_same, List.take_of_length_le (by omega)]
def dStrI : List V → Hp → VK → Prop := fun xs H Q => match xs with
  | [.int i] => i.natAbs.log2 < 1920 ∧ Q (.str (toString i)) H
  | _ => False
theorem c_str : CallR X (.type "str") dStrI := by
  intro pins s σ H xs us Q I r h
  match xs, h with
  | [.int i], ⟨h1, q⟩ => exact call_str_int pins s σ H _ us Q I r ⟨i, rfl, h1, q⟩
def dAll (K : PySem.W.Frag) : List V → Hp → VK → Prop := fun xs H Q => match xs with
  | [.ref p] => ∃ bs : List Bool, SqL K H p (bs.map V.bl) ∧ Q (.bl (bs.all id)) H
  | _ => False
theorem vals_bls : ∀ {bs : List Bool} {us : List Value}, Vals (bs.map V.bl) us → us = bs.map Value.bool
  | [], _, r => by cases r; rfl
  | d :: ds, _, r => by
    cases r with
    | cons r1 r2 => rw [show _ = Value.bool d from r1, vals_bls r2]; rfl
theorem range_all : ∀ bs : List Bool, ((List.range bs.length).all fun i => bs.getD i true) = bs.all id := by
  intro bs
  rw [Bool.eq_iff_iff, List.all_eq_true, List.all_eq_true]
  constructor
  · intro h b hb
    obtain ⟨i, hi, rfl⟩ := List.getElem_of_mem hb
    have := h i (List.mem_range.mpr hi)
    rw [List.getD_eq_getElem?_getD, List.getElem?_eq_getElem hi] at this
    exact this
  · intro h i hi
    have hi := List.mem_range.mp hi
    rw [List.getD_eq_getElem?_getD, List.getElem?_eq_getElem hi]
    exact h _ (List.getElem_mem hi)
theorem c_all (hc : X.calm = true) : CallR X (.builtin "all") (dAll X.K) := by
  intro pins s σ H xs us Q I r h
  match xs, h with
  | [.ref p], ⟨bs, h1, q⟩ =>
    obtain ⟨u, rfl, r1⟩ := vals1 r
    cases (show u = Value.ref p from r1)
    obtain ⟨its, rv, pl, _⟩ := I.list h1
    have e := vals_bls rv
    subst e
    have hh := I.ok.hd hc
    have il := pl.isList
    obtain ⟨ob, eb, rb⟩ := id il
    have ne : p ≠ s.heap.objs.size := Nat.ne_of_lt (Heap.lt_size eb)
    refine call_all_walk (wpAny_pyIter_list il ?_)
    refine ⟨s.heap.objs.size, _, _, _, _, _, fun i => bs.getD i true, rfl, Walks.list (A := X.A.in1) hh s.heap.objs.size p ne (bs.map Value.bool).toArray, ⟨⟨_, Heap.get?_push_size _ rfl, rfl, rfl⟩, ⟨ob, Heap.get?_push_of_some _ eb, rb⟩⟩, fun i v s2 Q2 E2 hP hQ => ?_, fun h' tk k => ?_⟩
    · have hP : (bs.map Value.bool).toArray[i]? = some v := hP
      rw [List.getElem?_toArray, List.getElem?_map] at hP
      cases e2 : bs[i]? with
      | none =>
        rw [e2] at hP
        cases hP
      | some d =>
        rw [e2] at hP
        cases hP
        refine wpAny_truthy_bool ?_
        have : bs.getD i true = d := by rw [List.getD_eq_getElem?_getD, e2]; rfl
        rw [← this]
        exact hQ
    · refine ⟨.bl (bs.all id), H, I.kept (t' := tk) fun b o e => k b o ?_ (Heap.get?_push_of_some _ e), ?_, q⟩
      · intro z
        have z : b = s.heap.objs.size := by simpa using z
        exact Nat.lt_irrefl _ (z ▸ Heap.lt_size e)
      · show Value.bool _ = Value.bool _
        rw [List.size_toArray, List.length_map, range_all]
end
end Lw
end
section
set_option Elab.async false
set_option linter.all false
set_option maxRecDepth 100000
set_option maxHeartbeats 4000000
set_option autoImplicit false
namespace Lw
open PySem PySem.Spec PyProof.Rows L2
section
variable {X : Cx} {pos : Pos}
def upS (x : Str) : Str := ⟨x.cps.map up1⟩
theorem co_up (x : Str) : co (upS x) = (co x).map up1 := by
  show (x.cps.map up1).toList = x.cps.toList.map up1
  rw [Array.toList_map]
def dUpper : V → List V → Hp → VK → Prop := fun x xs H Q => match x, xs with
  | .str z, [] => z.length ≤ 1000 ∧ (∀ c ∈ co z, c < 128) ∧ Q (.str (upS z)) H
  | _, _ => False
theorem m_upper : MtR X "str.upper" dUpper := by
  intro pins s σ H x xs v us Q I rx rs h
  match x, xs, h with
  | .str z, [], ⟨h1, h2, q⟩ =>
    obtain ⟨t, rfl⟩ := rx
    cases rs
    refine PyProof.Rows.SCL.upper (Nat.le_trans h1 (by decide)) fun _ => ?_
    rw [upper_ascii h2]
    exact ⟨.str _, H, I.tok _, ⟨_, rfl⟩, q⟩
theorem e_upper {o : Expr} {to : TE} {apos cpos : Pos} (ho : PE X o to) (hbase : attributeBase o "upper" X.env (eval o X.env) = eval o X.env := by rfl) (hline : (apos.endLine == cpos.line) = true := by rfl) :
    PE X (.Call (.Attribute o "upper" apos) [] [] cpos) (tBM0 X.K "str" dUpper to) := pe_bm0 F.plainAttrs_str F.slot_str_upper F.type_str_upper m_upper ho hbase hline
end
end Lw
end
section
set_option Elab.async false
set_option linter.all false
set_option maxRecDepth 100000
set_option maxHeartbeats 4000000
set_option autoImplicit false
namespace Lw
open PySem PySem.Spec PyProof.Rows L2
section
variable {X : Cx} {pos : Pos}
structure TupD (K : PySem.W.Frag) (a : Addr) (xs : List V) : Prop where
  sq : ∀ H, SqT K H a xs
  ty : ∃ o, K.lookup a = some o ∧ o.cls = .type "tuple" ∧ o.dict = none
theorem TupD.tyV {K : PySem.W.Frag} {a : Addr} {xs : List V} (h : TupD K a xs) (H : Hp) : tyV K "tuple" (.ref a) H := .inr (.inl ⟨rfl, h.ty⟩)
def dNotInS (K : PySem.W.Frag) : R2 := fun x y H Q => match y with
  | .ref p => ∃ xs, (SqL K H p xs ∨ SqT K H p xs) ∧ flatV x = true ∧ xs.all flatV = true ∧ Q (.bl (!inV x xs)) H
  | _ => False
theorem o_notin : OpR X (compareOp .NotIn) (dNotInS X.K) := by
  intro pins s σ H x y v u Q I rx ry q
  cases y <;> first
    | exact False.elim q
    | (obtain ⟨xs, h1, h2, h3, q⟩ := q
       exact op_notIn_seq _ _ _ _ _ _ _ _ _ I rx ry ⟨_, xs, rfl, h1, h2, h3, q⟩)
def dIntS : List V → Hp → VK → Prop := fun xs H Q => match xs with
  | [.str x] => ∃ n, PySem.intText? x = some n ∧ x.length ≤ 640 ∧ Q (.int n) H
  | _ => False
theorem c_intS : CallR X (.type "int") dIntS := by
  intro pins s σ H xs us Q I r h
  match xs, h with
  | [.str x], ⟨n, h1, h2, q⟩ =>
    obtain ⟨u, rfl, r1⟩ := vals1 r
    obtain ⟨t, rfl⟩ := r1
    exact PySem.W.KIN.call_text h1 h2 ⟨.int n, H, I.tok _, ⟨_, rfl⟩, q⟩
def dEnds : V → List V → Hp → VK → Prop := fun x xs H Q => match x, xs with
  | .str x, [.str y] => Q (.bl (Txt.endswith x y)) H
  | _, _ => False
theorem m_ends : MtR X "str.endswith" dEnds := by
  intro pins s σ H x xs v us Q I rx rs h
  match x, xs, h with
  | .str x, [.str y], q =>
    obtain ⟨t, rfl⟩ := rx
    obtain ⟨u, rfl, r1⟩ := vals1 rs
    obtain ⟨t', rfl⟩ := r1
    exact PySem.SC.endswith ⟨.bl _, H, I, rfl, q⟩
def dSplit : V → List V → Hp → VK → Prop := fun x xs H Q => match x, xs with
  | .str x, [.str y] => (y.length == 0) = false ∧ x.length ≤ 1000 ∧ ∀ l H', Same H H' → H' l = some (.lst ((Txt.split x y).map V.str)) → Q (.ref l) H'
  | _, _ => False
theorem vals_from : ∀ (tk : Nat) (xs : List Str), Vals (xs.map V.str) (strsFrom tk xs)
  | _, [] => .nil
  | tk, x :: r => .cons ⟨_, rfl⟩ (vals_from (tk + 1) r)
theorem m_split : MtR X "str.split" dSplit := by
  intro pins s σ H x xs v us Q I rx rs h
  match x, xs, h with
  | .str x, [.str y], ⟨hy, hx, q⟩ =>
    obtain ⟨t, rfl⟩ := rx
    obtain ⟨u, rfl, r1⟩ := vals1 rs
    obtain ⟨t', rfl⟩ := r1
    have big : (1002 : Nat) ≤ sizeLine := by decide
    have hl := PyProof.Rows.split_le x y
    have hn := I.hok.fresh (Nat.le_refl _)
    have out : ∀ (l : List Value) (tk : Nat), Vals ((Txt.split x y).map V.str) l → EP X pins σ Q (.ref s.heap.objs.size) { s with heap := s.heap.push { cls := .type "list", data := .seq l.toArray }, toks := tk } := by
      intro l tk hv
      refine ⟨.ref _, _, I.laid (t' := tk) (o := .lst ((Txt.split x y).map V.str)) (fun b ob q => Heap.get?_push_of_some _ q) (Nat.le_refl _) ?_, rfl, q _ _ (same_upd hn) upd_same⟩
      exact ⟨by rw [List.length_map]; omega, l, 0, hv, Heap.get?_push_size _ rfl⟩
    cases h1 : (decide (x.length < y.length) || decide (Builtin.Str.strKind x < Builtin.Str.strKind y))
    · cases hf : (Builtin.Str.occurrences x y 0 x.length (x.length + 1)).isEmpty
      · have e : Txt.split x y = Builtin.Str.partsBetween x (Builtin.Str.occurrences x y 0 x.length (x.length + 1)) y.length := (if_neg (ne_true_of_eq_false h1)).trans (if_neg (ne_true_of_eq_false hf))
        refine call_meets F.slot_str_split (typeIs_str _ _ _) F.entry_str_split (F.args_str_split_2 _ _) (meets_str_split_sep x y t t' h1 hy hf (by omega) (by rw [← e]; omega)) ?_
        show wants (EP X pins σ Q) X.xe _ { s with toks := _, heap := s.heap.push { cls := .type "list", data := .seq (strsFrom s.toks (Builtin.Str.partsBetween x (Builtin.Str.occurrences x y 0 x.length (x.length + 1)) y.length)).toArray } }
        exact out _ _ (by rw [e]; exact vals_from _ _)
      · have e : Txt.split x y = [x] := (if_neg (ne_true_of_eq_false h1)).trans (if_pos hf)
        exact call_meets F.slot_str_split (typeIs_str _ _ _) F.entry_str_split (F.args_str_split_2 _ _) (meets_str_split_not_found x y t t' h1 hy hf) (out [.str x t] s.toks (by rw [e]; exact .cons ⟨_, rfl⟩ .nil))
    · have e : Txt.split x y = [x] := if_pos h1
      exact call_meets F.slot_str_split (typeIs_str _ _ _) F.entry_str_split (F.args_str_split_2 _ _) (meets_str_split_cannot_occur x y t t' h1) (out [.str x t] s.toks (by rw [e]; exact .cons ⟨_, rfl⟩ .nil))
def PJ (X : Cx) (es : List Expr) (t : Str → L2.St → Hp → VK → Prop) : Prop := ∀ (pins : List (Addr × Obj)) (s : Shared) (σ : L2.St) (H : Hp) (acc : Str) (Q : VK), Inv X pins σ H s → t acc σ H Q → wpAny (model X.prog X.w) X.A (joinParts acc (evalEach es X.env)) (EP X pins σ Q) X.xe s
def tJ0 : Str → L2.St → Hp → VK → Prop := fun acc _ H Q => acc.length ≤ sizeLine ∧ Q (.str acc) H
theorem pj_nil : PJ X [] tJ0 := fun pins s σ H acc Q I h => PyProof.Rows.joinParts_nil ⟨.str acc, H, I.tok _, ⟨_, rfl⟩, h.2⟩ h.1
def tJS (y : Str) (t : Str → L2.St → Hp → VK → Prop) : Str → L2.St → Hp → VK → Prop := fun acc σ H Q => (acc ++ y).length ≤ sizeLine ∧ t (acc ++ y) σ H Q
theorem pj_str {es : List Expr} {t : Str → L2.St → Hp → VK → Prop} {y : Str} {j : Nat} (hz : y.length ≤ sizeLine := by decide +kernel) (h : PJ X es t) : PJ X (.Constant (.str y) j pos :: es) (tJS y t) := by
  intro pins s σ H acc Q I q
  refine PyProof.Rows.joinParts_cons (thn (pe_str (x := y) (j := j) (pos := pos) pins s σ H (fun v H' => v = .str y ∧ H' = H) I ⟨rfl, rfl⟩) fun v s1 ⟨x, H1, I1, r1, e1, e2⟩ => ?_)
  subst e1 e2
  obtain ⟨tk, rfl⟩ := r1
  exact ⟨q.1, h pins s1 σ H1 _ Q I1 q.2⟩
def tJV (te : TE) (t : Str → L2.St → Hp → VK → Prop) : Str → L2.St → Hp → VK → Prop := fun acc σ H Q => te σ H fun x H1 => match x with
  | .str y => y.length ≤ sizeLine ∧ (acc ++ y).length ≤ sizeLine ∧ t (acc ++ y) σ H1 Q
  | .int i => i.natAbs.log2 < 1920 ∧ (acc ++ (toString i : Str)).length ≤ sizeLine ∧ t (acc ++ (toString i : Str)) σ H1 Q
  | _ => False
theorem pj_val {e : Expr} {es : List Expr} {te : TE} {t : Str → L2.St → Hp → VK → Prop} (he : PE X e te) (h : PJ X es t) : PJ X (.FormattedValue e (-1) none pos :: es) (tJV te t) := by
  intro pins s σ H acc Q I q
  refine PyProof.Rows.joinParts_cons (PyProof.Rows.FormattedValue_plain (thn (he pins s σ H _ I q) fun v s1 ⟨x, H1, I1, r1, q1⟩ => ?_))
  cases x <;> first
    | exact False.elim q1
    | (rename_i y
       obtain ⟨tk, rfl⟩ := r1
       first
         | exact PyProof.Rows.formatField_str (fun t' k => ⟨q1.2.1, h pins _ σ H1 _ Q (I1.tok _) q1.2.2⟩) q1.1
         | exact PyProof.Rows.formatField_int_small q1.1 ⟨q1.2.1, h pins _ σ H1 _ Q (I1.tok _) q1.2.2⟩)
def dFS (t : Str → L2.St → Hp → VK → Prop) : TE := fun σ H Q => t Str.empty σ H Q
theorem e_fstr {a b : Expr} {es : List Expr} {t : Str → L2.St → Hp → VK → Prop} (h : PJ X (a :: b :: es) t) : PE X (.JoinedStr (a :: b :: es) pos) (dFS t) := fun pins s σ H Q I q => PyProof.Rows.JoinedStr_many (h pins s σ H Str.empty Q I q)
end
section
open PySem.AutoSeq1 (wpAny_loadPart')
open PySem.MeetsSeq PySem.MeetsSeq2 PySem.MeetsSeq3 PySem.SeqRoads2 PySem.SeqAt
theorem tuple_indexAt (l : Addr) (items : Array Value) (n : Nat) (dd : Option Addr) (sl : Array (Option Value)) (x : Value) (e : Value → Bool) (j : Nat) (hj : j < items.size) (hit : e items[j] = true) (hno : ∀ m (hm : m < items.size), m < j → e items[m] = false) :
    Meets (Builtin.«tuple.index» ⟨[.ref l, x], []⟩)
      (fun A R s => s.heap.get? l = some { cls := .type "tuple", dict := dd, data := .seq items n, slots := sl } ∧ (∀ y, y ∈ items → EqAt A.in1 s y x (e y)) ∧ R (.ok (.ret (.int j s.toks))) { s with toks := s.toks + 1 }) :=
  .of_wp fun prog w A R s h => by
    obtain ⟨hp, g, d, tk, os⟩ := s; obtain ⟨hl, he, h⟩ := h
    unfold Builtin.«tuple.index»
    simp only [Std.Legacy.Range.forIn_eq_forIn_range']
    wp_walk using wpAny_loadPart' hl, wpAny_forIn_list _ (fun rest b s' => b.1 = none ∧ s' = ⟨hp, g, d, tk, os⟩ ∧ ∃ i, i ≤ j ∧ rest = (List.range' 0 items.size).drop i) _
    case turn =>
      rintro k rest b s' ⟨hb, rfl, i, hij, hz⟩
      have hlt : i < (List.range' 0 items.size).length := by simp; omega
      rw [List.drop_eq_getElem_cons hlt] at hz
      injection hz with hk hrest
      have hk : k = i := by rw [hk]; simp
      subst hk
      have hi : k < items.size := by simpa using hlt
      have e0 : items[k]? = some items[k] := by simp [hi]
      rw [e0]
      refine wpAny_bind (he items[k] (Array.getElem_mem hi) prog w _ _ ?_)
      by_cases hkj : k = j
      · subst hkj
        rw [hit]
        wp_walk
        exact ⟨_, rfl, h⟩
      · rw [hno k hi (by omega)]
        wp_walk
        exact ⟨rfl, rfl, k + 1, by omega, hrest⟩
    case fin =>
      rintro ⟨b1, b2⟩ s' ⟨hb, rfl, i, hij, hz⟩
      have hlt : i < (List.range' 0 items.size).length := by simp; omega
      rw [List.drop_eq_getElem_cons hlt] at hz
      cases hz
    case h =>
      refine ⟨rfl, rfl, 0, Nat.zero_le _, ?_⟩
      rw [List.drop_zero]
      congr 1
      simp [Std.Legacy.Range.size]
section
variable {X : Cx} {pos : Pos}
def dTIx (K : PySem.W.Frag) : V → List V → Hp → VK → Prop := fun x xs H Q => match x, xs with
  | .ref p, [v] => ∃ (ys : List V) (j : Nat) (y : V), SqT K H p ys ∧ flatV v = true ∧ ys.all flatV = true ∧ ys[j]? = some y ∧ eqV y v = true ∧ (∀ m z, m < j → ys[m]? = some z → eqV z v = false) ∧ Q (.int (j : Int)) H
  | _, _ => False
theorem vals_get : ∀ {xs : List V} {us : List Value} {i : Nat} {u : Value}, Vals xs us → us[i]? = some u → ∃ x, xs[i]? = some x ∧ RelV x u
  | _, _, i, _, .nil, h => by simp at h
  | x :: _, _ :: _, 0, u, .cons r _, h => by
    simp at h
    subst h
    exact ⟨x, rfl, r⟩
  | _ :: _, _ :: _, i + 1, u, .cons _ t, h => by
    simp at h
    obtain ⟨x, h1, h2⟩ := vals_get t h
    exact ⟨x, by simpa using h1, h2⟩
theorem m_tidx : MtR X "tuple.index" (dTIx X.K) := by
  intro pins s σ H x xs v us Q I rx rs h
  match x, xs, h with
  | .ref p, [z], ⟨ys, j, y, h1, fz, fs, hj, hit, hno, q⟩ =>
    cases rx
    obtain ⟨u, rfl, r1⟩ := vals1 rs
    obtain ⟨its, rv, ⟨o, e, c, n, dd⟩, _⟩ := I.tuple h1
    obtain ⟨oc, od, odt, osl⟩ := o
    cases c
    cases dd
    have hlen := rv.length
    have hj1 : j < its.length := by
      rw [← hlen]
      exact (List.getElem?_eq_some_iff.mp hj).1
    refine call_meets F.slot_tuple_index (T := "tuple") ⟨_, e, rfl⟩ F.entry_tuple_index (F.args_tuple_index_2 _ _) (tuple_indexAt p its.toArray n od osl u (eqU z) j (by simpa using hj1) ?_ ?_) ⟨e, fun w hw => mem_eqAt r1 fz rv fs w (by simpa using hw), ⟨.int _, H, I.tok _, ⟨_, rfl⟩, q⟩⟩
    · obtain ⟨y', h2, h3⟩ := vals_get rv (i := j) (u := its[j]) (by simp [hj1])
      rw [hj] at h2
      cases h2
      have := eqU_of (x := z) h3 (List.all_eq_true.mp fs _ (List.mem_of_getElem? hj))
      simpa [this] using hit
    · intro m hm hmj
      have hm : m < its.length := by simpa using hm
      obtain ⟨y', h2, h3⟩ := vals_get rv (i := m) (u := its[m]) (by simp [hm])
      have := eqU_of (x := z) h3 (List.all_eq_true.mp fs _ (List.mem_of_getElem? h2))
      simpa [this] using hno m y' hmj h2
end
end
theorem cut_uniq {c : Nat} : ∀ {a b X Y : List Nat}, a ++ c :: X = b ++ c :: Y → c ∉ a → c ∉ b → a = b ∧ X = Y
  | [], [], _, _, h, _, _ => ⟨rfl, (List.cons.inj h).2⟩
  | [], d :: b, _, _, h, _, hb => absurd (List.mem_cons.mpr (.inl (List.cons.inj h).1)) hb
  | d :: a, [], _, _, h, ha, _ => absurd (List.mem_cons.mpr (.inl (List.cons.inj h).1.symm)) ha
  | d :: a, e :: b, _, _, h, ha, hb => by
    obtain ⟨h1, h2⟩ := List.cons.inj h
    obtain ⟨h3, h4⟩ := cut_uniq h2 (fun z => ha (List.mem_cons_of_mem _ z)) (fun z => hb (List.mem_cons_of_mem _ z))
    exact ⟨by rw [h1, h3], h4⟩
theorem co_join2 (c : Nat) (a b : Str) (r : List Str) : co (Str.join ⟨#[c]⟩ (a :: b :: r)) = co a ++ c :: co (Str.join ⟨#[c]⟩ (b :: r)) := by
  show co (a ++ ⟨#[c]⟩ ++ Str.join ⟨#[c]⟩ (b :: r)) = _
  rw [co_app, co_app, co_one, List.append_assoc]
  rfl
theorem join_uniq (c : Nat) : ∀ {ws vs : List Str}, ws ≠ [] → vs ≠ [] → (∀ p ∈ ws, c ∉ co p) → (∀ p ∈ vs, c ∉ co p) → co (Str.join ⟨#[c]⟩ ws) = co (Str.join ⟨#[c]⟩ vs) → ws = vs
  | [], _, h, _, _, _, _ => absurd rfl h
  | _ :: _, [], _, h, _, _, _ => absurd rfl h
  | [a], [b], _, _, _, _, h => by
    have : a = b := co_inj h
    rw [this]
  | [a], b :: b' :: r, _, _, ha, _, h => by
    rw [co_join2] at h
    have h : co a = _ := h
    refine absurd ?_ (ha a (List.mem_singleton.mpr rfl))
    rw [h]
    simp
  | a :: a' :: r, [b], _, _, _, hb, h => by
    rw [co_join2] at h
    have h : _ = co b := h
    refine absurd ?_ (hb b (List.mem_singleton.mpr rfl))
    rw [← h]
    simp
  | a :: a' :: r, b :: b' :: q, _, _, ha, hb, h => by
    rw [co_join2, co_join2] at h
    obtain ⟨h1, h2⟩ := cut_uniq h (ha a (List.mem_cons_self ..)) (hb b (List.mem_cons_self ..))
    have := join_uniq c (ws := a' :: r) (vs := b' :: q) (by simp) (by simp) (fun p hp => ha p (List.mem_cons_of_mem _ hp)) (fun p hp => hb p (List.mem_cons_of_mem _ hp)) h2
    rw [co_inj h1, this]
theorem split_join (c : Nat) {ws : List Str} (h : ws ≠ []) (hf : ∀ p ∈ ws, c ∉ co p) {x : Str} (hx : co x = co (Str.join ⟨#[c]⟩ ws)) : Txt.split x ⟨#[c]⟩ = ws := by
  have h1 : Txt.split x ⟨#[c]⟩ ≠ [] := by
    intro e
    have := split_pos x ⟨#[c]⟩
    rw [e] at this
    exact absurd this (by decide)
  exact join_uniq c h1 h (fun p hp => StrLaws.split_free x c p hp) hf (by rw [StrLaws.join_split, hx])
theorem ends1 (x : Str) (c : Nat) : Txt.endswith x ⟨#[c]⟩ = decide ((co x).getLast? = some c) := by
  have hl := co_len x
  unfold Txt.endswith
  show (decide (0 + 1 ≤ x.length) && Builtin.Str.subAt x ⟨#[c]⟩ (x.length - 1)) = _
  by_cases h0 : x.length = 0
  · have e : co x = [] := List.eq_nil_of_length_eq_zero (by omega)
    rw [e, h0]
    rfl
  · have hlt : x.length - 1 < x.cps.size := by
      show x.length - 1 < x.length
      omega
    rw [decide_eq_true (by omega), Bool.true_and]
    unfold Builtin.Str.subAt
    have e1 : x.cps.extract (x.length - 1) (x.length - 1 + (⟨#[c]⟩ : Str).length) = #[x.cps[x.length - 1]] := by
      show x.cps.extract (x.length - 1) (x.length - 1 + 1) = _
      apply Array.toList_inj.mp
      rw [Array.toList_extract, List.extract_eq_take_drop]
      simp [List.drop_eq_getElem_cons (show x.length - 1 < x.cps.toList.length by simpa using hlt)]
    have e2 : (co x).getLast? = some x.cps[x.length - 1] := by
      rw [List.getLast?_eq_getElem?, hl]
      unfold co
      rw [Array.getElem?_toList]
      simp [hlt]
    rw [e1, e2]
    by_cases hc : x.cps[x.length - 1] = c
    · rw [hc]
      simp
    · have : ¬ (#[x.cps[x.length - 1]] : Array Nat) = #[c] := by simpa using hc
      simp [hc]
theorem co_init (x : Str) : co (Txt.slice x none (some (-1))) = (co x).dropLast := by
  have hl := co_len x
  rw [co_slice, HT.sIx_none, List.drop_zero, Nat.sub_zero, List.dropLast_eq_take]
  congr 1
  show (if (-1 : Int) < 0 then (-1 + (x.length : Int)).toNat else min (-1 : Int).toNat x.length) = _
  rw [if_pos (by decide)]
  omega
def fg (m : Nat) : List Nat := co (Str.ofString (toString ((m : Nat) : Int)))
theorem fg_eq (m : Nat) : fg m = (Nat.toDigits 10 m).map Char.toNat := PySem.W.KIN.signs_num m
theorem dig_toNat : ∀ d : Nat, d < 10 → (Nat.digitChar d).toNat = 48 + d := by decide
theorem fg_lt {m : Nat} (h : m < 10) : fg m = [48 + m] := by
  rw [fg_eq, Nat.toDigits_of_lt_base h]
  simp [dig_toNat m h]
theorem fg_ge {m : Nat} (h : 10 ≤ m) : fg m = fg (m / 10) ++ [48 + m % 10] := by
  have hm : m % 10 < 10 := Nat.mod_lt m (by decide)
  have t : Nat.toDigits 10 (m / 10) ++ Nat.toDigits 10 (m % 10) = Nat.toDigits 10 (10 * (m / 10) + m % 10) := Nat.toDigits_append_toDigits (by decide) (by omega) hm
  rw [Nat.div_add_mod] at t
  rw [fg_eq, ← t, List.map_append, ← fg_eq, Nat.toDigits_of_lt_base hm]
  simp [dig_toNat _ hm]
theorem fg_all : ∀ (m : Nat), ∀ c ∈ fg m, 48 ≤ c ∧ c ≤ 57 := by
  intro m
  induction m using Nat.strongRecOn with
  | _ m ih =>
    intro c hc
    by_cases h : m < 10
    · rw [fg_lt h] at hc
      have : c = 48 + m := by simpa using hc
      omega
    · rw [fg_ge (by omega)] at hc
      rcases List.mem_append.mp hc with hc | hc
      · exact ih (m / 10) (by omega) c hc
      · have : c = 48 + m % 10 := by simpa using hc
        omega
theorem fg_head : ∀ (m : Nat), 0 < m → ∃ c r, fg m = c :: r ∧ 49 ≤ c := by
  intro m
  induction m using Nat.strongRecOn with
  | _ m ih =>
    intro h0
    by_cases h : m < 10
    · exact ⟨_, _, fg_lt h, by omega⟩
    · obtain ⟨c, r, h1, h2⟩ := ih (m / 10) (by omega) (by omega)
      rw [fg_ge (by omega), h1]
      exact ⟨c, _, rfl, h2⟩
theorem fg_len {m : Nat} (h : m < 10000) : 1 ≤ (fg m).length ∧ (fg m).length ≤ 4 := by
  have l1 : ∀ k, k < 10 → (fg k).length = 1 := fun k hk => by rw [fg_lt hk]; rfl
  have l2 : ∀ k, k < 100 → 1 ≤ (fg k).length ∧ (fg k).length ≤ 2 := fun k hk => by
    by_cases h : k < 10
    · rw [l1 k h]; omega
    · rw [fg_ge (by omega), List.length_append, l1 _ (by omega)]; simp
  have l3 : ∀ k, k < 1000 → 1 ≤ (fg k).length ∧ (fg k).length ≤ 3 := fun k hk => by
    by_cases h : k < 100
    · have := l2 k h; omega
    · have := l2 (k / 10) (by omega)
      rw [fg_ge (by omega), List.length_append]; simp; omega
  by_cases h : m < 1000
  · have := l3 m h; omega
  · have := l3 (m / 10) (by omega)
    rw [fg_ge (by omega), List.length_append]; simp; omega
theorem fg_val (m : Nat) : NumText.digitsVal (fg m) = m := by
  rw [fg_eq]
  exact PySem.W.KIN.val_back m
end Lw
end
section
set_option Elab.async false
set_option linter.all false
set_option maxRecDepth 100000
set_option maxHeartbeats 4000000
set_option autoImplicit false
namespace Lw
open PySem PySem.Spec PyProof.Rows L2
section
variable {X : Cx} {pos p2 p3 p4 : Pos}
def dRepl (K : PySem.W.Frag) (tw : TE) (i : Int) (y z : Str) : TE := fun σ H Q => tw σ H fun w H1 => match w with
  | .ref p => ∃ (xs : List V) (x : Str), SqL K H1 p xs ∧ atI xs i = some (.str x) ∧ x.length ≤ 1000 ∧ Q (.str (Txt.replace x y z)) H1
  | _ => False
theorem e_repl {w : Expr} {tw : TE} {i : Int} {y z : Str} {k2 k3 k4 : Nat} {q1 q2 q3 q4 apos cpos : Pos} (hw : PE X w tw) (hi : 0 ≤ i) (hyz : (y == z) = false) (hz : z.length ≤ 14)
    (hbase : attributeBase (.Subscript w (.Constant (.int i) k2 q1) q2) "replace" X.env (eval (.Subscript w (.Constant (.int i) k2 q1) q2) X.env) = eval (.Subscript w (.Constant (.int i) k2 q1) q2) X.env := by rfl)
    (hline : (apos.endLine == cpos.line) = true := by rfl) :
    PE X (.Call (.Attribute (.Subscript w (.Constant (.int i) k2 q1) q2) "replace" apos) [.Constant (.str y) k3 q3, .Constant (.str z) k4 q4] [] cpos) (dRepl X.K tw i y z) := by
  intro pins s σ H Q I h
  refine wpAny_Call_method_late hbase (by rfl) hline rfl (Subscript_ (thn (hw pins s σ H _ I h) fun v s1 ⟨x, H1, I1, r1, q1⟩ => ?_))
  match x, q1 with
  | .ref p, ⟨xs, x, hq, he, hx, q⟩ =>
    cases r1
    refine wpAny_Constant_int ?_
    have I2 := I1.tok (s1.toks + 1)
    obtain ⟨its, r, pl, hz'⟩ := I2.list hq
    obtain ⟨j, h1, h2, h3, h4, h5⟩ := atI_get he
    obtain ⟨u, eu, ru⟩ := r.get h2
    have hl := r.length
    have hn := line63
    obtain ⟨tk, rfl⟩ := ru
    have hj : i.toNat = j := by
      rw [seqIndex_of hi h5] at h1
      exact Option.some.inj h1
    refine item_listR pl.isList hi (by omega) (by rw [hj]; simpa using eu) ?_ rfl
    refine ⟨"str", "str.replace", F.plainAttrs_str, F.slot_str_replace, F.type_str_replace, typeIs_str _ _ _, (fun a (e : Value.str x tk = Value.ref a) => by cases e), ?_⟩
    refine Calls.callWith_builtin rfl (Calls.evalArgs_plain ?_)
    show wpAny _ _ (spliced [(false, eval (.Constant (.str y) k3 q3) X.env), (false, eval (.Constant (.str z) k4 q4) X.env)]) _ _ _
    refine Calls.spliced_cons (Calls.Constant_str (Calls.spliced_cons (Calls.Constant_str ?_)))
    refine wpAny_pure ?_
    exact PySem.SC.replaceW (Nat.succ_ne_zero _) (Nat.succ_ne_zero _) (Nat.ne_of_lt (Nat.lt_succ_self _)) hyz (Nat.le_trans hx (by decide)) hz fun t' k => ⟨.str _, H1, I1.tok _, ⟨_, rfl⟩, q⟩
theorem repl_len (x y : Str) : (Txt.replace x y (Str.ofString "")).length ≤ x.length := by
  unfold Txt.replace
  split
  · exact Nat.le_refl _
  · have hy : (Builtin.Str.glued y (Builtin.Str.partsBetween x (Builtin.Str.occurrences x y 0 x.length (x.length + 1)) y.length)).length = x.length := by rw [StrLaws.glued_between_self]
    rw [size_glued] at hy
    rw [size_glued, show (Str.ofString "").length = 0 by decide +kernel, Nat.mul_zero]
    omega
theorem same_app {H0 H : Hp} {D : Addr} {o : HO} (s : Same H0 H) (h : H0 D = none) : Same H0 (upd H D o) := fun b u e => by
  rw [upd_ne (ne_of_none e h)]
  exact s b u e
end
end Lw
end
section
set_option Elab.async false
set_option linter.all false
set_option maxRecDepth 100000
set_option maxHeartbeats 4000000
namespace Lw
open PySem PySem.Spec PyProof.Rows L2
section
variable {X : Cx}
def tCutE (t u : TS) : TS := fun D σ H => ∃ R : L2.St → Hp → Prop, t { D with nx := R } σ H ∧ ∀ σ' H', R σ' H' → u D σ' H'
theorem ss_cutE {st : Stmt} {r : List Stmt} {t u : TS} (h1 : PS X st t) (h2 : PSs X r u) : PSs X (st :: r) (tCutE t u) := by
  intro pins s σ H D I h
  obtain ⟨R, h⟩ := h
  exact ss_cut R h1 h2 pins s σ H D I h
end
end Lw
end
section
set_option Elab.async false
set_option linter.all false
set_option maxRecDepth 100000
set_option maxHeartbeats 4000000
namespace Lw
open PySem PySem.Spec PyProof.Rows L2
def dd (l : List Str) (x : Str) : List Str := if x ∈ l then l else l ++ [x]
def lS (a b : Str) : Prop := a.cps.toList < b.cps.toList
instance : DecidableRel lS := fun a b => inferInstanceAs (Decidable (a.cps.toList < b.cps.toList))
theorem lS_irr (a : Str) : ¬ lS a a := List.lt_irrefl _
theorem lS_tr {a b c : Str} (h : lS a b) (h' : lS b c) : lS a c := List.lt_trans h h'
theorem lS_tri {a b : Str} (h : ¬ lS a b) (h' : ¬ lS b a) : a = b := by
  have e := List.le_antisymm (List.not_lt.mp h') (List.not_lt.mp h)
  cases a; cases b
  simpa using Array.toList_inj.mp e
theorem lS_as {a b : Str} (h : lS a b) : ¬ lS b a := List.lt_asymm h
abbrev Inc (l : List Str) : Prop := l.Pairwise lS
theorem inc_ext : ∀ {l m : List Str}, Inc l → Inc m → (∀ x, x ∈ l ↔ x ∈ m) → l = m
  | [], [], _, _, _ => rfl
  | [], b :: m, _, _, h => absurd ((h b).mpr (List.mem_cons_self ..)) (by simp)
  | a :: l, [], _, _, h => absurd ((h a).mp (List.mem_cons_self ..)) (by simp)
  | a :: l, b :: m, h1, h2, h => by
    have ⟨a1, a2⟩ := List.pairwise_cons.mp h1
    have ⟨b1, b2⟩ := List.pairwise_cons.mp h2
    have e : a = b := by
      rcases List.mem_cons.mp ((h a).mp (List.mem_cons_self ..)) with e | e
      · exact e
      · rcases List.mem_cons.mp ((h b).mpr (List.mem_cons_self ..)) with f | f
        · exact f.symm
        · exact absurd (b1 a e) (lS_as (a1 b f))
    subst e
    rw [inc_ext a2 b2 fun x => ⟨fun hx => ?_, fun hx => ?_⟩]
    · rcases List.mem_cons.mp ((h x).mp (List.mem_cons_of_mem _ hx)) with e | e
      · subst e
        exact absurd (a1 x hx) (lS_irr x)
      · exact e
    · rcases List.mem_cons.mp ((h x).mpr (List.mem_cons_of_mem _ hx)) with e | e
      · subst e
        exact absurd (b1 x hx) (lS_irr x)
      · exact e
def insS (x : Str) : List Str → List Str
  | [] => [x]
  | y :: l => if lS x y then x :: y :: l else if lS y x then y :: insS x l else y :: l
theorem mem_insS {x z : Str} : ∀ {l : List Str}, z ∈ insS x l ↔ z = x ∨ z ∈ l
  | [] => by simp [insS]
  | y :: l => by
    unfold insS
    split
    · simp
    · split
      · simp only [List.mem_cons, mem_insS (l := l)]
        constructor
        · rintro (h | h | h)
          · exact .inr (.inl h)
          · exact .inl h
          · exact .inr (.inr h)
        · rintro (h | h | h)
          · exact .inr (.inl h)
          · exact .inl h
          · exact .inr (.inr h)
      · rename_i h1 h2
        have e := lS_tri h1 h2
        subst e
        simp
theorem inc_insS {x : Str} : ∀ {l : List Str}, Inc l → Inc (insS x l)
  | [], _ => List.pairwise_singleton ..
  | y :: l, h => by
    have ⟨h1, h2⟩ := List.pairwise_cons.mp h
    unfold insS
    split
    · rename_i c
      exact List.pairwise_cons.mpr ⟨fun z hz => (List.mem_cons.mp hz).elim (fun e => e ▸ c) (fun e => lS_tr c (h1 z e)), h⟩
    · split
      · rename_i c
        exact List.pairwise_cons.mpr ⟨fun z hz => (mem_insS.mp hz).elim (fun e => e ▸ c) (h1 z), inc_insS h2⟩
      · exact h
def srt (l : List Str) : List Str := l.foldr insS []
theorem inc_srt : ∀ (l : List Str), Inc (srt l)
  | [] => List.Pairwise.nil
  | x :: l => inc_insS (inc_srt l)
theorem mem_srt {x : Str} : ∀ {l : List Str}, x ∈ srt l ↔ x ∈ l
  | [] => Iff.rfl
  | y :: l => by
    show x ∈ insS y (srt l) ↔ _
    rw [mem_insS, mem_srt (l := l), List.mem_cons]
theorem mem_dd {l : List Str} {x z : Str} : z ∈ dd l x ↔ z ∈ l ∨ z = x := by
  unfold dd
  split
  · rename_i h
    constructor
    · exact .inl
    · rintro (h' | rfl)
      · exact h'
      · exact h
  · simp
theorem nodup_dd {l : List Str} {x : Str} (h : l.Nodup) : (dd l x).Nodup := by
  unfold dd
  split
  · exact h
  · rename_i c
    rw [List.nodup_append]
    exact ⟨h, List.nodup_cons.mpr ⟨by simp, List.nodup_nil⟩, fun a ha b hb e => by
      rw [List.mem_singleton] at hb
      subst hb e
      exact c ha⟩
def ddn (val : Nat → Str) (i : Nat) : List Str := ((List.range i).map val).foldl dd []
theorem ddn_succ (val : Nat → Str) (i : Nat) : ddn val (i + 1) = dd (ddn val i) (val i) := by
  unfold ddn
  rw [List.range_succ, List.map_append, List.foldl_append]
  rfl
theorem ddn_nodup (val : Nat → Str) : ∀ i, (ddn val i).Nodup
  | 0 => List.nodup_nil
  | i + 1 => by
    rw [ddn_succ]
    exact nodup_dd (ddn_nodup val i)
theorem mem_ddn {val : Nat → Str} {x : Str} : ∀ {i : Nat}, x ∈ ddn val i ↔ ∃ j, j < i ∧ val j = x
  | 0 => ⟨fun h => (by cases h), fun ⟨j, h, _⟩ => absurd h (Nat.not_lt_zero _)⟩
  | i + 1 => by
    rw [ddn_succ, mem_dd, mem_ddn (i := i)]
    constructor
    · rintro (⟨j, h, e⟩ | e)
      · exact ⟨j, Nat.lt_succ_of_lt h, e⟩
      · exact ⟨i, Nat.lt_succ_self _, e.symm⟩
    · rintro ⟨j, h, e⟩
      rcases Nat.lt_succ_iff_lt_or_eq.mp h with h | rfl
      · exact .inl ⟨j, h, e⟩
      · exact .inr e.symm
theorem pairwise_inc {l : List Str} (h : l.Pairwise fun a b => ¬ lS b a) (n : l.Nodup) : Inc l := by
  induction l with
  | nil => exact List.Pairwise.nil
  | cons a l ih =>
    have ⟨h1, h2⟩ := List.pairwise_cons.mp h
    have ⟨n1, n2⟩ := List.nodup_cons.mp n
    refine List.pairwise_cons.mpr ⟨fun b hb => ?_, ih h2 n2⟩
    refine Decidable.byContradiction fun c => n1 ?_
    have e := lS_tri c (h1 b hb)
    exact e ▸ hb
theorem erase_perm {α : Type} : ∀ (l : List α) (i : Nat) (x : α), l[i]? = some x → (x :: l.eraseIdx i).Perm l
  | [], i, x, h => by simp at h
  | a :: l, 0, x, h => by
    simp at h
    subst h
    exact List.Perm.refl _
  | a :: l, i + 1, x, h => by
    simp only [List.getElem?_cons_succ] at h
    show (x :: a :: l.eraseIdx i).Perm (a :: l)
    exact (List.Perm.swap ..).trans ((erase_perm l i x h).cons a)
theorem nd_len {α : Type} [DecidableEq α] : ∀ {l m : List α}, l.Nodup → (∀ x ∈ l, x ∈ m) → l.length ≤ m.length
  | [], m, _, _ => Nat.zero_le _
  | a :: l, m, n, h => by
    have ⟨n1, n2⟩ := List.nodup_cons.mp n
    have ha : a ∈ m := h a (List.mem_cons_self ..)
    have := nd_len (l := l) (m := m.erase a) n2 fun x hx => (List.mem_erase_of_ne (fun e : x = a => n1 (e ▸ hx))).mpr (h x (List.mem_cons_of_mem _ hx))
    rw [List.length_erase_of_mem ha] at this
    have : 0 < m.length := List.length_pos_of_mem ha
    rw [List.length_cons]
    omega
theorem inc_nodup {l : List Str} (h : Inc l) : l.Nodup := List.Pairwise.imp (S := fun a b => a ≠ b) (fun {a b} (h : lS a b) (e : a = b) => lS_irr a (e ▸ h)) h
theorem ddn_mem {names : List Str} {x : Str} : x ∈ ddn (fun i => names.getD i ⟨#[]⟩) names.length ↔ x ∈ names := by
  rw [mem_ddn]
  constructor
  · rintro ⟨j, h, rfl⟩
    rw [List.getD_eq_getElem?_getD, List.getElem?_eq_getElem h]
    exact List.getElem_mem h
  · intro h
    obtain ⟨j, hj, e⟩ := List.mem_iff_getElem.mp h
    exact ⟨j, hj, by rw [List.getD_eq_getElem?_getD, List.getElem?_eq_getElem hj]; exact e⟩
theorem ddn_srt (names : List Str) : (ddn (fun i => names.getD i ⟨#[]⟩) names.length).length ≤ (srt names).length :=
  nd_len (ddn_nodup _ _) fun x hx => mem_srt.mpr (ddn_mem.mp hx)
end Lw
end
section
set_option Elab.async false
set_option linter.all false
set_option maxRecDepth 100000
set_option maxHeartbeats 4000000
namespace Lw
open PySem PySem.Spec PyProof.Rows L2
def byTx (w : World) : Bool := w.params.followText "set-order"
def tx (e : Int × Value) : Str := strOf e.2
structure SetO (prog : Program) (w : World) (o : Obj) (ss : List Str) (es : Array (Int × Value)) (ep : Nat) (t : SetTable) : Prop where
  ex : o.ExactSet
  dat : o.data = .set es ep t
  el : ElemsOf (PySem.strKind prog w) es.toList
  pm : (es.toList.map tx).Perm ss
  fit : t.fits es.size = true
  bd : es.size < scanBound
  led : t.led = !byTx w
  pl : 0 < es.size → t.plain = false
def SetS (prog : Program) (w : World) (h : Heap) (a : Addr) (ss : List Str) : Prop := ∃ o es ep t, h.get? a = some o ∧ SetO prog w o ss es ep t
theorem SetO.size {prog : Program} {w : World} {o : Obj} {ss : List Str} {es : Array (Int × Value)} {ep : Nat} {t : SetTable} (S : SetO prog w o ss es ep t) : es.size = ss.length := by
  rw [← S.pm.length_eq, List.length_map, Array.length_toList]
theorem relaid_keeps {t t' : SetTable} {hs : Array Int} {n : Nat} {o : Array Nat} (h : t.relaid hs n = some (t', o)) : t'.led = t.led ∧ t'.plain = t.plain := by
  unfold SetTable.relaid SetTable.laid at h
  cases hl : SetTable.layClean (SetTable.sizeAbove n - 1) hs with
  | none =>
    rw [hl] at h
    cases h
  | some ow =>
    rw [hl] at h
    cases h
    exact ⟨rfl, rfl⟩
theorem relayAll_keeps (t : SetTable) (es : Array (Int × Value)) (n : Nat) : (relayAll t es n).2.1.led = t.led ∧ (t.plain = false → (relayAll t es n).2.1.plain = false) := by
  unfold relayAll
  split
  · rename_i t' o e
    obtain ⟨h1, h2⟩ := relaid_keeps e
    dsimp only
    split
    · exact ⟨h1, fun h => h2.trans h⟩
    · exact ⟨rfl, fun _ => rfl⟩
  · exact ⟨rfl, fun _ => rfl⟩
theorem orStandIn_led (t : SetTable) (n : Nat) : (t.orStandIn n).led = t.led := by
  unfold SetTable.orStandIn
  split <;> rfl
theorem layNew_led (t : SetTable) (es : Array (Int × Value)) (h : Int) (x : Value) : (layNew t es h x).2.1.led = t.led := by
  unfold layNew
  split
  · exact orStandIn_led _ _
  · rfl
theorem tx_of {prog : Program} {w : World} {k : Str} {e : Int × Value} (h : (PySem.strKind prog w).is k e.2 = true) : tx e = k := by
  obtain ⟨t, z⟩ := Value.isStrOf_shape h
  unfold tx
  rw [z]
  rfl
theorem storeS {prog : Program} {w : World} {h : Heap} {a : Addr} {o : Obj} {ss ss' : List Str} {es es' : Array (Int × Value)} {ep : Nat} {t t' : SetTable} (ho : h.get? a = some o) (S : SetO prog w o ss es ep t)
    (e1 : ElemsOf (PySem.strKind prog w) es'.toList) (e2 : (es'.toList.map tx).Perm ss') (e3 : t'.fits es'.size = true) (e4 : es'.size < scanBound) (e5 : t'.led = !byTx w) (e6 : t'.plain = false) :
    ∃ o', (h.update a (Obj.putSet es' t')).get? a = some o' ∧ SetO prog w o' ss' es' (ep + 1) t' := by
  have g := Heap.get?_update_self (Obj.putSet es' t') ho (by rw [putSet_of es' t' S.dat]; rfl)
  rw [putSet_of es' t' S.dat] at g
  exact ⟨_, g, ⟨S.ex, rfl, e1, e2, e3, e4, e5, fun _ => e6⟩⟩
section
variable {prog : Program} {w : World} {A : Around} {E : Value → Shared → Prop} {s : Shared}
theorem tailS {f : Bool → Sem Unit} (hf : ∀ (b : Bool) (s1 : Shared) (Q' : Unit → Shared → Prop), Q' () s1 → wpAny (model prog w) A (f b) Q' E s1) {a : Addr} {o : Obj} {ss ss' : List Str} {es es' : Array (Int × Value)} {ep : Nat} {t t' : SetTable}
    (ho : s.heap.get? a = some o) (S : SetO prog w o ss es ep t) (e1 : ElemsOf (PySem.strKind prog w) es'.toList) (e2 : (es'.toList.map tx).Perm ss') (e3 : t'.fits es'.size = true) (e4 : es'.size < scanBound) (e5 : t'.led = !byTx w)
    (e6 : t'.plain = false) {wd : Bool} {R : Option Bool → Shared → Prop} (q : ∀ g, Heap.SameBut a s.heap g → SetS prog w g a ss' → R (some true) { s with heap := g }) :
    wpAny (model prog w) A (do
      storeSet a es' t'
      if (!wd && t'.tooFull) = true then do { f (relayAll t' es' (SetTable.grown es'.size)).2.2; storeSet a (relayAll t' es' (SetTable.grown es'.size)).1 (relayAll t' es' (SetTable.grown es'.size)).2.1; pure (some true) } else pure (some true)) R E s := by
  refine wpAny_bind (wpAny_storeSet_of ho S.dat ?_ (fits_of_scanBound e4))
  obtain ⟨o1, g1, S1⟩ := storeS ho S e1 e2 e3 e4 e5 e6
  have b1 := Heap.SameBut.update s.heap a (Obj.putSet es' t')
  split
  · have r1 := relayAll_perm t' es' (SetTable.grown es'.size)
    have r2 := relayAll_fits t' es' (SetTable.grown es'.size)
    have r3 := relayAll_keeps t' es' (SetTable.grown es'.size)
    generalize relayAll t' es' (SetTable.grown es'.size) = L at r1 r2 r3 ⊢
    obtain ⟨fs, u, gv⟩ := L
    dsimp only at r1 r2 r3 ⊢
    have hz : fs.size = es'.size := by rw [← Array.length_toList, r1.length_eq, Array.length_toList]
    have hb : fs.size < scanBound := by rw [hz]; exact e4
    refine wpAny_bind (hf _ _ _ (wpAny_bind (wpAny_storeSet_of g1 S1.dat ?_ (fits_of_scanBound hb))))
    obtain ⟨o2, g2, S2⟩ := storeS g1 S1 (e1.perm r1) ((r1.map tx).trans e2) r2 hb (r3.1.trans e5) (r3.2 e6)
    exact wpAny_pure (q _ (b1.trans (Heap.SameBut.update _ a _)) ⟨o2, fs, _, u, g2, S2⟩)
  · exact wpAny_pure (q _ b1 ⟨o1, es', _, t', g1, S1⟩)
theorem addS {a : Addr} {ss : List Str} {x : Str} {tk : Tok} {Q : Bool → Shared → Prop} (hS : SetS prog w s.heap a ss) (room : ss.length + 1 < scanBound)
    (q : ∀ b g, Heap.SameBut a s.heap g → SetS prog w g a (dd ss x) → Q b { s with heap := g }) : wpAny (model prog w) A (setAddHashed a (.str x tk) ((PySem.strKind prog w).hash x)) Q E s := by
  obtain ⟨o, es, ep, t, ho, S⟩ := hS
  have key : (PySem.strKind prog w).is x (.str x tk) = true := by
    show (x == x) = true
    simp
  have scn : (Value.str x tk).scannable = true := rfl
  have hz := S.size
  unfold setAddHashed setAddHashedIn
  refine wpAny_holding (wpAny_bind (wpAny_setState_of ho S.dat S.fit ?_))
  dsimp only
  rw [byScan_of scn S.bd S.el]
  simp only [↓reduceIte]
  unfold setAddByScan
  refine wpAny_bind (wpAny_bind (wpAny_rule (wpAny_bind (wpAny_setScan_of (knd := PySem.strKind prog w) key ho S.dat S.fit S.el ?_))))
  cases hr : List.findIdx? (fun e => (PySem.strKind prog w).is x e.2) es.toList with
  | some j =>
    dsimp only
    obtain ⟨hj, hp, _⟩ := List.findIdx?_eq_some_iff_getElem.mp hr
    have hx : x ∈ ss := S.pm.mem_iff.mp (List.mem_map.mpr ⟨_, List.getElem_mem hj, tx_of hp⟩)
    refine wpAny_pure (wpAny_pure ?_)
    refine q false s.heap (Heap.SameBut.refl a s.heap) ⟨o, es, ep, t, ho, ?_⟩
    rw [show dd ss x = ss from if_pos hx]
    exact S
  | none =>
    dsimp only
    have hx : x ∉ ss := fun h => by
      obtain ⟨e, he, z⟩ := List.mem_map.mp (S.pm.mem_iff.mpr h)
      obtain ⟨⟨k, hk, _⟩, _⟩ := S.el e he
      have z' := (tx_of hk).symm.trans z
      subst z'
      have := List.findIdx?_eq_none_iff.mp hr e he
      rw [hk] at this
      cases this
    have gw : ∀ (b : Bool) (s1 : Shared) (Q' : Unit → Shared → Prop), Q' () s1 → wpAny (model prog w) A (match b with | true => rule "set.scan.the-table-gave-way" | false => pure ()) Q' E s1 := fun b s1 Q' h => by
      cases b with
      | true => exact wpAny_rule h
      | false => exact wpAny_pure h
    have r1 := layNew_perm t es ((PySem.strKind prog w).hash x) (.str x tk)
    have r2 := layNew_fits t es ((PySem.strKind prog w).hash x) (.str x tk)
    have r3 := layNew_led t es ((PySem.strKind prog w).hash x) (.str x tk)
    generalize layNew t es ((PySem.strKind prog w).hash x) (.str x tk) = L at r1 r2 r3 ⊢
    obtain ⟨fs, u, wd, gv⟩ := L
    dsimp only at r1 r2 r3 ⊢
    rw [Array.toList_push] at r1
    have f1 : ElemsOf (PySem.strKind prog w) fs.toList := (S.el.push key scn).perm r1
    have f2 : (fs.toList.map tx).Perm (dd ss x) := by
      rw [show dd ss x = ss ++ [x] from if_neg hx]
      refine (r1.map tx).trans ?_
      rw [List.map_append]
      exact S.pm.append_right _
    have fz : fs.size = es.size + 1 := by rw [← Array.length_toList, r1.length_eq, List.length_append, Array.length_toList]; rfl
    have fb : fs.size < scanBound := by rw [fz, hz]; exact room
    have fin : ∀ g, Heap.SameBut a s.heap g → SetS prog w g a (dd ss x) → wpAny (model prog w) A (pure true) Q E { s with heap := g } := fun g b h => wpAny_pure (q true g b h)
    refine wpAny_bind (gw _ _ _ ?_)
    split
    · refine wpAny_bind ?_
      rw [hashByValue_scannable 8 scn]
      refine wpAny_pure ?_
      refine tailS gw ho S f1 f2 (SetTable.fits_plain_off r2) fb (r3.trans S.led) rfl ?_
      intro g b h
      dsimp only
      exact fin g b h
    · rename_i np
      refine wpAny_bind (wpAny_pure ?_)
      simp only [↓reduceIte]
      refine tailS gw ho S f1 f2 r2 fb (r3.trans S.led) (by simpa using np) ?_
      intro g b h
      dsimp only
      exact fin g b h
theorem ddn_len (val : Nat → Str) : ∀ i, (ddn val i).length ≤ i
  | 0 => Nat.le_refl _
  | i + 1 => by
    have h := ddn_len val i
    rw [ddn_succ]
    unfold dd
    split
    · omega
    · rw [List.length_append, List.length_singleton]
      omega
theorem loopS {R : Result → Shared → Prop} {I : Addr} {fp wr : List Addr} {G : Array GenState → Array GenState → Prop} {n : Nat} {P : Nat → Value → Prop} {St : Nat → Shared → Prop} (W : WalksS prog w A.in1 I fp wr G n P St) (S : Addr) (nS : S ∉ fp)
    (val : Nat → Str) (hv : ∀ i v, P i v → ∃ t, v = .str (val i) t) (hb : n + 1 < scanBound) : ∀ (k i : Nat) (s : Shared), n - i = k → i ≤ n → St i s → SetS prog w s.heap S (ddn val i) →
      (∀ s', Moved (S :: wr) G s s' → SetS prog w s'.heap S (ddn val n) → R (.ok (.ret .none)) s') → codeAny (model prog w) A (.builtin "set.update.loop" ⟨[.ref S, .ref I], []⟩) R s := by
  have nw : S ∉ wr := fun h => nS (W.sub _ h)
  have sub : ∀ b ∈ wr, b ∈ S :: wr := fun b hb => List.mem_cons_of_mem _ hb
  have keepS : ∀ {s s' : Shared} {ss : List Str}, Moved wr G s s' → SetS prog w s.heap S ss → SetS prog w s'.heap S ss := fun m ⟨o, es, ep, t, h, z⟩ => ⟨o, es, ep, t, m.heap S _ nw h, z⟩
  intro k
  induction k with
  | zero =>
    intro i s hk hi st hS hR
    have e : i = n := by omega
    subst e
    refine codeAny_builtin PyProof.Rows.F.entry_set_update_loop ?_
    rw [Around.under_plainId PyProof.Rows.F.plain_set_update_loop _]
    show wpAny _ A.in1 (pyNext (.ref I) >>= _) _ _ s
    refine wpAny_bind (W.done s _ _ st fun s' m => wpAny_pure (hR s' (m.mono sub) (keepS m hS)))
  | succ k ih =>
    intro i s hk hi st hS hR
    have lt : i < n := by omega
    refine codeAny_builtin PyProof.Rows.F.entry_set_update_loop ?_
    rw [Around.under_plainId PyProof.Rows.F.plain_set_update_loop _]
    show wpAny _ A.in1 (pyNext (.ref I) >>= _) _ _ s
    refine wpAny_bind (W.item i s _ _ lt st fun v s' hP st' m => ?_)
    obtain ⟨t, rfl⟩ := hv i v hP
    have hS' := keepS m hS
    show wpAny _ A.in1 (holding [Value.str (val i) t] (setAdd S (.str (val i) t)) >>= _) _ _ s'
    refine wpAny_bind (wpAny_holding ?_)
    unfold setAdd
    refine wpAny_holding (wpAny_bind ((PySem.strKind prog w).pyHash (k := val i) (by show (val i == val i) = true; simp) ?_))
    have room : (ddn val i).length + 1 < scanBound := by have := ddn_len val i; omega
    refine addS (s := { s' with toks := s'.toks + 1 }) hS' room fun b g sb hS2 => ?_
    rw [← ddn_succ] at hS2
    refine wpAny_pure ⟨plainId_quiet PyProof.Rows.F.plain_set_update_loop _, ih (i + 1) _ (by omega) lt (W.frame _ s' _ _ st' (Nat.le_succ _) fun c hc o e => ?_) hS2 fun s2 m2 z2 => ?_⟩
    · rw [sb.2 c (fun h : c = S => nS (h ▸ hc))]
      exact e
    · refine hR s2 (Moved.trans W.gtrans ((m.mono sub).then_heap (Nat.le_succ _) fun c o hc e => ?_) m2) z2
      rw [sb.2 c (fun h : c = S => hc (by rw [h]; exact List.mem_cons_self))]
      exact e
def fsO (w : World) : Obj := { cls := .type "set", dict := none, data := .set #[] 0 (.fresh 0 0 (!byTx w)) }
theorem fsS (h : Heap) : SetS prog w (h.push (fsO w)) h.objs.size [] :=
  ⟨fsO w, #[], 0, _, Heap.get?_push_size _ rfl, ⟨⟨rfl, rfl, rfl⟩, rfl, fun e he => by simp at he, List.Perm.refl _, rfl, by decide, rfl, fun h => absurd h (by decide)⟩⟩
theorem new_setS (v : Value) {Q : Value → Shared → Prop} (q : Q (.ref s.heap.objs.size) { s with heap := s.heap.push (fsO w) }) : codeAny (model prog w) A (.call (.builtin "set.__new__") ⟨[.type "set", v], []⟩) (wants Q E) s := by
  refine codeAny_of_tree ?_
  show wpAny _ A.in1 (do { checkBuiltinCall "set.__new__" ⟨[.type "set", v], []⟩; again (.builtin "set.__new__" ⟨[.type "set", v], []⟩) }) _ _ s
  refine wpAny_bind (wpAny_of_eq (PySem.F.newCall_set_1 v) (wpAny_pure ⟨plainId_quiet PySem.F.plain_set_new _, codeAny_builtin PySem.F.entry_set_new ?_⟩))
  rw [Around.under_plainId PySem.F.plain_set_new _]; unfold Builtin.«set.__new__» Builtin.Frozenset.newClass
  have sub := sub_set_self; obtain ⟨hp, g, d, tk, os⟩ := s; dsimp only
  wp_walk
  refine wpAny_askSetting (wpAny_pure ?_); dsimp only; simp only [newObj]
  refine wpAny_bind (wpAny_alloc (wpAny_pure (wpAny_pure ?_)))
  exact q
theorem strs_at : ∀ {vs : List Value} {ss : List Str}, StrsAre vs ss → ∀ (i : Nat) (v : Value), vs[i]? = some v → ∃ t, v = .str (ss.getD i ⟨#[]⟩) t
  | _, _, .nil, i, v, h => by simp at h
  | _, _, .cons x t r, 0, v, h => by
    simp at h
    exact ⟨t, h.symm⟩
  | _, _, .cons x t r, i + 1, v, h => by
    simp only [List.getElem?_cons_succ] at h
    obtain ⟨t', e⟩ := strs_at r i v h
    exact ⟨t', by rw [e]; rfl⟩
theorem call_setS {l : Addr} {vs : List Value} {ss : List Str} {Q : Value → Shared → Prop} (hh : A.handled = none) (hl : s.heap.IsList l vs.toArray) (hi : StrsAre vs ss) (hb : vs.length + 1 < scanBound)
    (q : ∀ g tk, SetS prog w g s.heap.objs.size (ddn (fun i => ss.getD i ⟨#[]⟩) vs.length) → (∀ b o, s.heap.get? b = some o → g.get? b = some o) → Q (.ref s.heap.objs.size) { s with heap := g, toks := tk }) :
    wpAny (model prog w) A (call (.type "set") [.ref l]) Q E s := by
  obtain ⟨c, tl, mro⟩ := PySem.F.called_set.mro
  have made := PySem.F.called_set.made
  have sub := PySem.F.called_set.sub
  refine wpAny_call (codeAny_of_tree ?_)
  show wpAny _ _ (callAny (.type "set") _) _ _ _
  refine wpAny_pure ⟨Code.quiet_builtin _ (by decide +kernel), codeAny_builtin PySem.F.entry_type_call ?_⟩
  rw [Around.under_plain (weight_type_call_type "set" [.ref l] []) rfl]
  have z1 := PySem.F.called_set.notType
  have z2 := PySem.F.called_set.canCreate
  have z3 := PySem.F.typeCall_set_1 (.ref l)
  repeat (any_goals (first | assumption | wp_step))
  refine codeAny_mono (new_setS (.ref l) (E := E) (Q := fun v s1 => v = .ref s.heap.objs.size ∧ s1 = { s with heap := s.heap.push (fsO w) }) ⟨rfl, rfl⟩) fun r s1 hr => ?_
  match r, hr with
  | .error e, hr => exact hr
  | .ok (.ret v), hr =>
    obtain ⟨rfl, rfl⟩ := hr
    have gS : (s.heap.push (fsO w)).get? s.heap.objs.size = some (fsO w) := Heap.get?_push_size _ rfl
    have ty : Shared.TypeIs { s with heap := s.heap.push (fsO w) } (.ref s.heap.objs.size) "set" := ⟨_, gS, rfl⟩
    have z4 := PySem.F.called_set.init.lookup
    have z5 := PySem.F.called_set.init.bind (.ref s.heap.objs.size)
    repeat (any_goals (first | assumption | wp_step))
    refine codeAny_mono (codeAny_call_builtin (R := wants (fun r s2 => r = .none ∧ ∃ g tk, s2 = { s with heap := g, toks := tk } ∧ SetS prog w g s.heap.objs.size (ddn (fun i => ss.getD i ⟨#[]⟩) vs.length) ∧ ∀ b o, s.heap.get? b = some o → g.get? b = some o) E)
      PySem.F.called_set.init.plain PySem.F.entry_set_init (check_set_init_1 ty ?_)) fun r2 s2 hr2 => ?_
    · obtain ⟨ol, hol, hcl, nl, hdl⟩ := hl
      obtain ⟨oc, od, odt, osl⟩ := ol
      simp only at hcl hdl
      subst hcl hdl
      have hol1 : (s.heap.push (fsO w)).get? l = some { cls := .type "list", dict := od, data := .seq vs.toArray nl, slots := osl } := Heap.get?_push_of_some _ hol
      have gS1 : (s.heap.push (fsO w)).get? s.heap.objs.size = some { cls := .type "set", dict := none, data := .set #[] 0 (.fresh 0 0 (!byTx w)) } := gS
      have z6 := PySem.F.sub_list_set
      have z7 := PySem.F.sub_list_frozenset
      have z8 : (Value.type "list" == Value.type "dict") = false := by decide
      have hl1 : (s.heap.push (fsO w)).IsList l vs.toArray := ⟨_, hol1, rfl, nl, rfl⟩
      have lt : l < s.heap.objs.size := Heap.lt_size hol
      clear gS hol
      generalize hg : s.heap.push (fsO w) = g0 at *
      unfold Builtin.«set.__init__» noKeywords Builtin.Frozenset.updateFrom
      generalize hPI : pyIter = PI
      wp_walk
      subst hPI
      refine wpAny_pyIter_list hl1 ?_
      refine wpAny_bind (wpAny_runValue ?_)
      have sz : g0.objs.size = s.heap.objs.size + 1 := by rw [← hg]; exact Heap.size_push ..
      have neI : l ≠ g0.objs.size := by rw [sz]; exact Nat.ne_of_lt (Nat.lt_succ_of_lt lt)
      have nf : s.heap.objs.size ∉ [g0.objs.size, l] := by
        rw [sz]
        simp only [List.mem_cons, List.not_mem_nil, or_false, not_or]
        exact ⟨Nat.ne_of_lt (Nat.lt_succ_self _), Nat.ne_of_gt lt⟩
      have hval : ∀ (i : Nat) (v : Value), vs.toArray[i]? = some v → ∃ t, v = .str ((fun i => ss.getD i ⟨#[]⟩) i) t := fun i v hv => strs_at hi i v (by rw [← hv]; simp)
      refine loopS ((Walks.list (by simp [hh]) _ l neI vs.toArray).toS) s.heap.objs.size nf (fun i => ss.getD i ⟨#[]⟩) hval (by simpa using hb) (vs.toArray.size - 0) 0 _ (by omega) (Nat.zero_le _) ⟨⟨_, Heap.get?_push_size _ rfl, rfl, rfl⟩, hl1.push _⟩ ?hS0 ?hR
      case hS0 =>
        obtain ⟨o, es, ep, t, h1, h2⟩ := fsS (prog := prog) (w := w) s.heap
        rw [hg] at h1
        exact ⟨o, es, ep, t, Heap.get?_push_of_some _ h1, h2⟩
      case hR =>
        intro s' m hS'
        obtain ⟨g', gn, dr, tk, os⟩ := s'
        obtain ⟨m1, m2, m3, m4, m5⟩ := m
        dsimp only at m1 m2 m3 m4 m5
        subst m2 m3 m4
        show wpAny _ _ _ _ _ _
        refine wpAny_pure ?_
        show wpAny _ _ (ret Value.none) _ _ _
        refine wpAny_pure ⟨rfl, g', tk, rfl, ?_, fun b o e => m1 b o ?_ (Heap.get?_push_of_some _ ?_)⟩
        · simpa using hS'
        · have hb := Heap.lt_size e
          rw [sz]
          simp only [List.mem_cons, List.not_mem_nil, or_false, not_or]
          exact ⟨Nat.ne_of_lt hb, Nat.ne_of_lt (Nat.lt_succ_of_lt hb)⟩
        · rw [← hg]
          exact Heap.get?_push_of_some _ e
    · match r2, hr2 with
      | .error e, hr2 => exact hr2
      | .ok (.ret v), hr2 =>
        obtain ⟨rfl, g, tk, rfl, h1, h2⟩ := hr2
        repeat (any_goals (first | assumption | wp_step))
        exact q _ _ h1 h2
      | .ok .next, hr2 => exact hr2.elim
      | .ok .brk, hr2 => exact hr2.elim
      | .ok .cont, hr2 => exact hr2.elim
  | .ok .next, hr => exact hr.elim
  | .ok .brk, hr => exact hr.elim
  | .ok .cont, hr => exact hr.elim
end
end Lw
end
section
set_option Elab.async false
set_option linter.all false
set_option maxRecDepth 100000
set_option maxHeartbeats 4000000
namespace Lw
open PySem PySem.Spec PyProof.Rows L2
theorem sl_sit_next : Slot "set_iterator" "__next__" "set_iterator.__next__" := .of (owner := "set_iterator") (n := "__next__") (by rw [typeLookup_type, builtinLookup_eq_fast]; kernel_rfl) (by decide +kernel) (by decide +kernel) (by decide +kernel) (by first | exact .inl (by decide +kernel) | exact .inr (by decide +kernel)) (by rw [isSubtype_type]; kernel_rfl)
theorem en_sit_next : entryFor table "set_iterator.__next__" = some Builtin.«set_iterator.__next__» := entryFor_of_tree (by kernel_rfl)
theorem en_set_iter : entryFor table "set.__iter__" = some Builtin.«frozenset.__iter__» := entryFor_alias (id' := "frozenset.__iter__") (by kernel_rfl) rfl (by decide +kernel) (by kernel_rfl)
def SI (h : Heap) (I : Addr) (f : Value) (i : Nat) (a : Addr) (n ep : Nat) : Prop := ∃ o, h.get? I = some o ∧ o.cls = .type "set_iterator" ∧ o.data = .fields #[f, .int i 0, .ref a, .int n 0, .int ep 0]
theorem SI.mv {h h' : Heap} {I a : Addr} {f : Value} {i n ep : Nat} (x : SI h I f i a n ep) (q : ∀ o, h.get? I = some o → h'.get? I = some o) : SI h' I f i a n ep := by
  obtain ⟨o, e, r⟩ := x
  exact ⟨o, q o e, r⟩
theorem pick_go {α : Type} (nx : Nat → Nat) : ∀ (fuel k : Nat) (left : List α) (out : Array α), left.length = fuel → (pickOrder.go nx fuel k left out).toList.Perm (out.toList ++ left)
  | 0, k, left, out, h => by
    have : left = [] := List.length_eq_zero_iff.mp h
    subst this
    rw [List.append_nil]
    exact List.Perm.refl _
  | fuel + 1, k, left, out, h => by
    have hp : 0 < left.length := by omega
    have hj : nx k % left.length < left.length := Nat.mod_lt _ hp
    have e : left[nx k % left.length]? = some left[nx k % left.length] := List.getElem?_eq_getElem hj
    unfold pickOrder.go
    rw [e]
    dsimp only
    refine (pick_go nx fuel (k + 1) _ _ (by rw [List.length_eraseIdx_of_lt hj, h]; rfl)).trans ?_
    rw [Array.toList_push, List.append_assoc]
    exact (erase_perm left _ _ e).append_left _
theorem pick_perm {α : Type} (nx : Nat → Nat) (xs : Array α) : (pickOrder nx xs).toList.Perm xs.toList := by
  have := pick_go nx xs.size 0 xs.toList #[] (by simp)
  simpa [pickOrder] using this
section
variable {prog : Program} {w : World} {A : Around} {E : Value → Shared → Prop} {s : Shared}
theorem wp_chs {M : Model} {src : Source} {n : Nat} {Q : Nat → Shared → Prop} (hn : n ≠ 0) (q : ∀ i d, i < n → Q i { s with drawn := d }) : wpAny M A (choose src n) Q E s :=
  fun _ _ _ => ⟨hn, q _ _ (Nat.mod_lt _ (Nat.pos_of_ne_zero hn))⟩
theorem draw_perm {M : Model} {α : Type} : ∀ (n : Nat) (xs : List α) (s : Shared) {Q : List α → Shared → Prop}, xs.length = n → (∀ ys d, ys.Perm xs → Q ys { s with drawn := d }) → wpAny M A (drawOrder n xs) Q E s
  | 0, xs, s, Q, h, q => by
    have : xs = [] := List.length_eq_zero_iff.mp h
    subst this
    unfold drawOrder
    exact wpAny_pure (q [] s.drawn (List.Perm.refl _))
  | n + 1, [], s, Q, h, q => by simp at h
  | n + 1, x :: xs, s, Q, h, q => by
    unfold drawOrder
    refine wpAny_bind (wp_chs (by simp) fun i d hi => ?_)
    have e : (x :: xs)[i]? = some (x :: xs)[i] := List.getElem?_eq_getElem hi
    rw [e]
    dsimp only
    refine wpAny_bind (draw_perm n _ _ (by rw [List.length_eraseIdx_of_lt hi, h]; rfl) fun ys d' hp => wpAny_pure ?_)
    exact q _ d' ((hp.cons _).trans (erase_perm _ _ _ e))
theorem nextI_item {I a : Addr} {slot nx i : Nat} {o : Obj} {ss : List Str} {es : Array (Int × Value)} {ep : Nat} {t : SetTable} {x : Value} {Q : Option Value → Shared → Prop} (hit : SI s.heap I (.int slot 0) i a es.size ep) (ho : s.heap.get? a = some o) (S : SetO prog w o ss es ep t)
    (hn : ∀ (Q' : Option (Value × Nat) → Shared → Prop) (E' : Value → Shared → Prop), Q' (some (x, nx)) s → wpAny (model prog w) A.in1 (setNext a slot i ep) Q' E' s)
    (q : ∀ g, SI g I (.int nx 0) (i + 1) a es.size ep → Heap.SameBut I s.heap g → Q (some x) { s with heap := g }) : wpAny (model prog w) A (pyNext (.ref I)) Q E s := by
  obtain ⟨io, e1, c1, d1⟩ := id hit
  have ty : s.TypeIs (.ref I) "set_iterator" := ⟨io, e1, c1⟩
  unfold pyNext
  refine wpAny_bind (wpAny_attempt (wpAny_callSpecial?_slot (name := Str.ofString "__next__") ty sl_sit_next (wpAny_call_entry sl_sit_next ty en_sit_next ?_)))
  unfold Builtin.«set_iterator.__next__»
  refine wpAny_bind (m := slotArgs "__next__" 0 _) (wpAny_pure ?_)
  refine wpAny_bind (wpAny_fieldsOf e1 d1 ?_)
  dsimp only
  refine wpAny_bind (wpAny_setEntries_of ho S.dat S.fit ?_)
  simp only [bne_self_eq_false, Bool.false_eq_true, if_false, Int.toNat_natCast]
  refine wpAny_bind (hn _ _ ?_)
  dsimp only
  refine wpAny_bind (wpAny_setField e1 d1 (by simp) ?_)
  have g1 := Heap.get?_update_self (Obj.mapFields (·.setIfInBounds 0 (rawInt (nx : Int)))) e1 (Obj.isFreed_of_fields (Obj.data_mapFields d1 _))
  have d2 := Obj.data_mapFields d1 (·.setIfInBounds 0 (rawInt (nx : Int)))
  refine wpAny_bind (wpAny_setField g1 d2 (by simp) ?_)
  refine wpAny_pure ⟨_, rfl, wpAny_pure (q _ ?_ ((Heap.SameBut.update ..).trans (Heap.SameBut.update ..)))⟩
  refine ⟨_, Heap.get?_update_self _ g1 (Obj.isFreed_of_fields (Obj.data_mapFields d2 _)), (Obj.cls_mapFields ..).trans ((Obj.cls_mapFields ..).trans c1), ?_⟩
  rw [Obj.data_mapFields d2]
  simp [rawInt]
theorem nextI_end {I a : Addr} {slot i : Nat} {o : Obj} {ss : List Str} {es : Array (Int × Value)} {ep : Nat} {t : SetTable} {Q : Option Value → Shared → Prop} (hh : A.handled = none) (hit : SI s.heap I (.int slot 0) i a es.size ep) (ho : s.heap.get? a = some o) (S : SetO prog w o ss es ep t)
    (hn : ∀ (Q' : Option (Value × Nat) → Shared → Prop) (E' : Value → Shared → Prop), Q' none s → wpAny (model prog w) A.in1 (setNext a slot i ep) Q' E' s)
    (q : ∀ g, Heap.ExtBut I s.heap g → Q none { s with heap := g }) : wpAny (model prog w) A (pyNext (.ref I)) Q E s := by
  obtain ⟨io, e1, c1, d1⟩ := id hit
  have ty : s.TypeIs (.ref I) "set_iterator" := ⟨io, e1, c1⟩
  unfold pyNext
  refine wpAny_bind (wpAny_attempt (wpAny_callSpecial?_slot (name := Str.ofString "__next__") ty sl_sit_next (wpAny_call_entry sl_sit_next ty en_sit_next ?_)))
  unfold Builtin.«set_iterator.__next__»
  refine wpAny_bind (m := slotArgs "__next__" 0 _) (wpAny_pure ?_)
  refine wpAny_bind (wpAny_fieldsOf e1 d1 ?_)
  dsimp only
  refine wpAny_bind (wpAny_setEntries_of ho S.dat S.fit ?_)
  simp only [bne_self_eq_false, Bool.false_eq_true, if_false, Int.toNat_natCast]
  refine wpAny_bind (hn _ _ ?_)
  dsimp only
  refine wpAny_bind (wpAny_setField e1 d1 (by simp) ?_)
  show wpAny _ _ (newExc (.type "StopIteration") [] >>= _) _ _ _; refine wpAny_bind ?_; simp only [newExc, newTuple]
  refine wpAny_bind (wpAny_newObj_type ?_ (by size_fits)); refine wpAny_bind (m := firstArgMember _ _) (wpAny_of_eq (a := Value.none) (by first | rfl | (simp only [firstArgMember]; rfl)) ?_)
  refine wpAny_newObj_type ?_ (by size_fits); simp only [raiseNew]; refine wpAny_bind (wpAny_handled ?_); rw [show A.in1.handled = none from hh]
  refine wpAny_bind (wpAny_pure (wpAny_throw ?_))
  exact wpAny_bind (wpAny_isInstance (T := "StopIteration") (b := true) ⟨_, Heap.get?_push_size _ rfl, rfl⟩ isSubtype_stop (wpAny_pure (q _ (((Heap.SameBut.update ..).extBut.push _).push _))))
theorem nextD_item {I a T : Addr} {i p : Nat} {o oT : Obj} {ss : List Str} {es : Array (Int × Value)} {ep nT : Nat} {t : SetTable} {vs : Array Value} {x : Int × Value} {Q : Option Value → Shared → Prop} (hit : SI s.heap I (.ref T) i a es.size ep) (ho : s.heap.get? a = some o) (S : SetO prog w o ss es ep t)
    (hT : s.heap.get? T = some oT) (dT : oT.data = .seq vs nT) (hv : vs[i]? = some (.int p 0)) (hx : es[p]? = some x)
    (q : ∀ g, SI g I (.ref T) (i + 1) a es.size ep → Heap.SameBut I s.heap g → Q (some x.2) { s with heap := g }) : wpAny (model prog w) A (pyNext (.ref I)) Q E s := by
  obtain ⟨io, e1, c1, d1⟩ := id hit
  have ty : s.TypeIs (.ref I) "set_iterator" := ⟨io, e1, c1⟩
  unfold pyNext
  refine wpAny_bind (wpAny_attempt (wpAny_callSpecial?_slot (name := Str.ofString "__next__") ty sl_sit_next (wpAny_call_entry sl_sit_next ty en_sit_next ?_)))
  unfold Builtin.«set_iterator.__next__»
  refine wpAny_bind (m := slotArgs "__next__" 0 _) (wpAny_pure ?_)
  refine wpAny_bind (wpAny_fieldsOf e1 d1 ?_)
  dsimp only
  refine wpAny_bind (wpAny_setEntries_of ho S.dat S.fit ?_)
  simp only [bne_self_eq_false, Bool.false_eq_true, if_false, Int.toNat_natCast]
  refine wpAny_bind (wpAny_seqItems hT dT ?_)
  dsimp only
  rw [hv]
  dsimp only
  simp only [Int.toNat_natCast]
  unfold setNextDrawn
  refine wpAny_bind (wpAny_bind (wpAny_setState_of ho S.dat S.fit ?_))
  dsimp only
  simp only [bne_self_eq_false, Bool.false_eq_true, if_false]
  rw [hx]
  dsimp only
  refine wpAny_pure ?_
  refine wpAny_bind (wpAny_setField e1 d1 (by simp) (wpAny_pure ⟨_, rfl, wpAny_pure (q _ ?_ (Heap.SameBut.update ..))⟩))
  refine ⟨_, Heap.get?_update_self _ e1 (Obj.isFreed_of_fields (Obj.data_mapFields d1 _)), (Obj.cls_mapFields ..).trans c1, ?_⟩
  rw [Obj.data_mapFields d1]
  simp [rawInt]
theorem nextD_end {I a T : Addr} {i : Nat} {o oT : Obj} {ss : List Str} {es : Array (Int × Value)} {ep nT : Nat} {t : SetTable} {vs : Array Value} {Q : Option Value → Shared → Prop} (hh : A.handled = none) (hit : SI s.heap I (.ref T) i a es.size ep) (ho : s.heap.get? a = some o) (S : SetO prog w o ss es ep t)
    (hT : s.heap.get? T = some oT) (dT : oT.data = .seq vs nT) (hv : vs[i]? = none)
    (q : ∀ g, Heap.ExtBut I s.heap g → Q none { s with heap := g }) : wpAny (model prog w) A (pyNext (.ref I)) Q E s := by
  obtain ⟨io, e1, c1, d1⟩ := id hit
  have ty : s.TypeIs (.ref I) "set_iterator" := ⟨io, e1, c1⟩
  unfold pyNext
  refine wpAny_bind (wpAny_attempt (wpAny_callSpecial?_slot (name := Str.ofString "__next__") ty sl_sit_next (wpAny_call_entry sl_sit_next ty en_sit_next ?_)))
  unfold Builtin.«set_iterator.__next__»
  refine wpAny_bind (m := slotArgs "__next__" 0 _) (wpAny_pure ?_)
  refine wpAny_bind (wpAny_fieldsOf e1 d1 ?_)
  dsimp only
  refine wpAny_bind (wpAny_setEntries_of ho S.dat S.fit ?_)
  simp only [bne_self_eq_false, Bool.false_eq_true, if_false, Int.toNat_natCast]
  refine wpAny_bind (wpAny_seqItems hT dT ?_)
  dsimp only
  rw [hv]
  dsimp only
  refine wpAny_bind (wpAny_setField e1 d1 (by simp) ?_)
  have g1 := Heap.get?_update_self (Obj.mapFields (·.setIfInBounds 0 (rawInt 0))) e1 (Obj.isFreed_of_fields (Obj.data_mapFields d1 _))
  have d2 := Obj.data_mapFields d1 (·.setIfInBounds 0 (rawInt 0))
  refine wpAny_bind (wpAny_setField g1 d2 (by simp) ?_)
  show wpAny _ _ (newExc (.type "StopIteration") [] >>= _) _ _ _; refine wpAny_bind ?_; simp only [newExc, newTuple]
  refine wpAny_bind (wpAny_newObj_type ?_ (by size_fits)); refine wpAny_bind (m := firstArgMember _ _) (wpAny_of_eq (a := Value.none) (by first | rfl | (simp only [firstArgMember]; rfl)) ?_)
  refine wpAny_newObj_type ?_ (by size_fits); simp only [raiseNew]; refine wpAny_bind (wpAny_handled ?_); rw [show A.in1.handled = none from hh]
  refine wpAny_bind (wpAny_pure (wpAny_throw ?_))
  exact wpAny_bind (wpAny_isInstance (T := "StopIteration") (b := true) ⟨_, Heap.get?_push_size _ rfl, rfl⟩ isSubtype_stop (wpAny_pure (q _ ((((Heap.SameBut.update ..).trans (Heap.SameBut.update ..)).extBut.push _).push _))))
theorem next_tx {a : Addr} {slot i : Nat} {o : Obj} {ss : List Str} {es : Array (Int × Value)} {ep : Nat} {t : SetTable} {Q : Option (Value × Nat) → Shared → Prop} (ho : s.heap.get? a = some o) (S : SetO prog w o ss es ep t) (hb : byTx w = true)
    (q : Q (((pickOrder (w.params.setOrder a ep) es)[i]?).map fun e => (e.2, slot)) s) : wpAny (model prog w) A (setNext a slot i ep) Q E s := by
  have hb' : (model prog w).w.params.followText "set-order" = true := hb
  unfold setNext
  refine wpAny_bind (wpAny_setState_of ho S.dat S.fit ?_)
  dsimp only
  unfold setsByText
  refine wpAny_bind (wpAny_bind (wpAny_askSetting (wpAny_pure ?_)))
  dsimp only
  rw [hb']
  simp only [↓reduceIte, bne_self_eq_false, Bool.false_eq_true, if_false]
  unfold setWalk
  refine wpAny_bind (wpAny_bind (wpAny_setState_of ho S.dat S.fit ?_))
  dsimp only
  unfold setsByText
  refine wpAny_bind (wpAny_bind (wpAny_askSetting (wpAny_pure ?_)))
  dsimp only
  rw [hb']
  simp only [↓reduceIte]
  refine wpAny_bind (wpAny_askSetting (wpAny_pure (wpAny_pure ?_)))
  exact q
theorem next_few {a : Addr} {slot i : Nat} {o : Obj} {ss : List Str} {es : Array (Int × Value)} {ep : Nat} {t : SetTable} {Q : Option (Value × Nat) → Shared → Prop} (ho : s.heap.get? a = some o) (S : SetO prog w o ss es ep t) (hb : byTx w = false) (hz : es.size ≤ 1)
    (q : Q (match es[SetTable.below t.place slot]?, t.place[SetTable.below t.place slot]? with | some (_, x), some j => some (x, j + 1) | _, _ => none) s) : wpAny (model prog w) A (setNext a slot i ep) Q E s := by
  have hb' : (model prog w).w.params.followText "set-order" = false := hb
  have hl : t.led = true := by rw [S.led, hb]; rfl
  unfold setNext
  refine wpAny_bind (wpAny_setState_of ho S.dat S.fit ?_)
  dsimp only
  unfold setsByText
  refine wpAny_bind (wpAny_bind (wpAny_askSetting (wpAny_pure ?_)))
  dsimp only
  rw [hb']
  simp only [Bool.false_eq_true, if_false]
  split
  · rename_i h
    have h' : (!t.plain && decide (es.size > 1)) = true := h
    have : decide (es.size > 1) = false := decide_eq_false (by omega)
    rw [this, Bool.and_false] at h'
    cases h'
  · refine wpAny_bind ?_
    show wpAny _ _ (if (!t.led && !es.isEmpty) = true then _ else _) _ _ _
    rw [hl, if_neg (by simp)]
    exact wpAny_pure (wpAny_pure q)
theorem below0 (p : Nat) : SetTable.below #[p] 0 = 0 := by
  unfold SetTable.below
  simp [SetTable.below.go]
theorem below1 (p : Nat) : SetTable.below #[p] (p + 1) = 1 := by
  unfold SetTable.below
  simp [SetTable.below.go]
theorem sl_sit_iter : Slot "set_iterator" "__iter__" "set_iterator.__iter__" := .of (owner := "set_iterator") (n := "__iter__") (by rw [typeLookup_type, builtinLookup_eq_fast]; kernel_rfl) (by decide +kernel) (by decide +kernel) (by decide +kernel) (by first | exact .inl (by decide +kernel) | exact .inr (by decide +kernel)) (by rw [isSubtype_type]; kernel_rfl)
theorem en_sit_iter : entryFor table "set_iterator.__iter__" = some Builtin.«dict_keyiterator.__iter__» := entryFor_alias (id' := "dict_keyiterator.__iter__") (by kernel_rfl) rfl (by decide +kernel) (by kernel_rfl)
theorem self_sit {I a : Addr} {f : Value} {i n ep : Nat} {Q : Value → Shared → Prop} (hit : SI s.heap I f i a n ep) (q : Q (.ref I) s) : wpAny (model prog w) A (pyIter (.ref I)) Q E s := by
  obtain ⟨io, e1, c1, d1⟩ := hit
  have ty : s.TypeIs (.ref I) "set_iterator" := ⟨io, e1, c1⟩
  refine wpAny_pyIter_slot ty sl_sit_iter (wpAny_call_entry sl_sit_iter ty en_sit_iter ?_)
  show wpAny _ _ (ret (.ref I)) _ _ s
  exact wpAny_pure ⟨_, rfl, "set_iterator", _, ty, sl_sit_next.lookup, q⟩
theorem sb_moved {I : Addr} {g : Heap} (sb : Heap.ExtBut I s.heap g) : Moved [I] (fun a b => b = a) s { s with heap := g } :=
  ⟨fun b o hb e => sb b o (fun z => hb (by rw [z]; exact List.mem_cons_self)) e, rfl, rfl, rfl, Nat.le_refl _⟩
theorem walk_tx {I a : Addr} {o : Obj} {ss : List Str} {es : Array (Int × Value)} {ep : Nat} {t : SetTable} (S : SetO prog w o ss es ep t) (hb : byTx w = true) (ne : a ≠ I) {B : Around} (hh : B.handled = none) :
    WalksS prog w B I [I, a] [I] (fun a b => b = a) es.size (fun i v => ((pickOrder (w.params.setOrder a ep) es).toList.map (·.2))[i]? = some v) (fun i s => SI s.heap I (.int (0 : Nat) 0) i a es.size ep ∧ s.heap.get? a = some o) where
  sub := fun b hb => by simp at hb; simp [hb]
  grefl := fun _ => rfl
  gtrans := fun _ _ _ h1 h2 => h2.trans h1
  frame := fun i s h' _ st _ k => ⟨st.1.mv fun o e => k I (by simp) o e, k a (by simp) _ st.2⟩
  item := fun i s Q E hi st hQ => by
    have hz : (pickOrder (w.params.setOrder a ep) es).size = es.size := by rw [← Array.length_toList, (pick_perm _ es).length_eq, Array.length_toList]
    have e : (pickOrder (w.params.setOrder a ep) es)[i]? = some (pickOrder (w.params.setOrder a ep) es)[i] := Array.getElem?_eq_getElem (by omega)
    refine nextI_item (slot := 0) (nx := 0) st.1 st.2 S (fun Q' E' h => next_tx st.2 S hb (by rw [e]; exact h)) fun g hg sb => hQ _ _ ?_ ⟨hg, sb.extBut a _ ne st.2⟩ (sb_moved sb.extBut)
    rw [List.getElem?_map, Array.getElem?_toList, e]
    rfl
  done := fun s Q E st hQ => by
    have hz : (pickOrder (w.params.setOrder a ep) es).size = es.size := by rw [← Array.length_toList, (pick_perm _ es).length_eq, Array.length_toList]
    have e : (pickOrder (w.params.setOrder a ep) es)[es.size]? = none := Array.getElem?_eq_none (by omega)
    exact nextI_end hh st.1 st.2 S (fun Q' E' h => next_tx st.2 S hb (by rw [e]; exact h)) fun g sb => hQ _ (sb_moved sb)
  self := fun i s Q E st hQ => self_sit st.1 hQ
theorem walk_dr {I a T : Addr} {o oT : Obj} {ss : List Str} {es : Array (Int × Value)} {ep nT : Nat} {t : SetTable} (S : SetO prog w o ss es ep t) (ps : List Nat) (hp : ∀ p ∈ ps, p < es.size) (hl : ps.length = es.size) (dT : oT.data = .seq (ps.map fun (p : Nat) => rawInt p).toArray nT) (ne : a ≠ I) (neT : T ≠ I) {B : Around} (hh : B.handled = none) :
    WalksS prog w B I [I, a, T] [I] (fun a b => b = a) es.size (fun i v => (ps.map fun p => ((es[p]?).map (·.2)).getD .none)[i]? = some v) (fun i s => SI s.heap I (.ref T) i a es.size ep ∧ s.heap.get? a = some o ∧ s.heap.get? T = some oT) where
  sub := fun b hb => by simp at hb; simp [hb]
  grefl := fun _ => rfl
  gtrans := fun _ _ _ h1 h2 => h2.trans h1
  frame := fun i s h' _ st _ k => ⟨st.1.mv fun o e => k I (by simp) o e, k a (by simp) _ st.2.1, k T (by simp) _ st.2.2⟩
  item := fun i s Q E hi st hQ => by
    have hi' : i < ps.length := by omega
    have h1 : ((ps.map fun (p : Nat) => rawInt p).toArray)[i]? = some (.int (ps[i] : Nat) 0) := by
      rw [List.getElem?_toArray, List.getElem?_map, List.getElem?_eq_getElem hi']
      rfl
    have h2 := hp ps[i] (List.getElem_mem hi')
    have h3 : es[ps[i]]? = some es[ps[i]] := Array.getElem?_eq_getElem h2
    refine nextD_item st.1 st.2.1 S st.2.2 dT h1 h3 fun g hg sb => hQ _ _ ?_ ⟨hg, sb.extBut a _ ne st.2.1, sb.extBut T _ neT st.2.2⟩ (sb_moved sb.extBut)
    rw [List.getElem?_map, List.getElem?_eq_getElem hi']
    simp [h3]
  done := fun s Q E st hQ => by
    have h1 : ((ps.map fun (p : Nat) => rawInt p).toArray)[es.size]? = none := by
      rw [List.getElem?_toArray, List.getElem?_map, List.getElem?_eq_none (by omega)]
      rfl
    exact nextD_end hh st.1 st.2.1 S st.2.2 dT h1 fun g sb => hQ _ (sb_moved sb)
  self := fun i s Q E st hQ => self_sit st.1 hQ
theorem walk_few {I a : Addr} {o : Obj} {ss : List Str} {es : Array (Int × Value)} {ep : Nat} {t : SetTable} (S : SetO prog w o ss es ep t) (hb : byTx w = false) (hz : es.size ≤ 1) (ne : a ≠ I) {B : Around} (hh : B.handled = none) :
    WalksS prog w B I [I, a] [I] (fun a b => b = a) es.size (fun i v => (es.toList.map (·.2))[i]? = some v) (fun i s => (∃ slot : Nat, SI s.heap I (.int slot 0) i a es.size ep ∧ (i = 0 → slot = 0) ∧ (i = 1 → ∀ p, t.place = #[p] → slot = p + 1)) ∧ s.heap.get? a = some o) where
  sub := fun b hb => by simp at hb; simp [hb]
  grefl := fun _ => rfl
  gtrans := fun _ _ _ h1 h2 => h2.trans h1
  frame := fun i s h' _ st _ k => by
    obtain ⟨⟨slot, st, r⟩, st2⟩ := st
    exact ⟨⟨slot, st.mv fun o e => k I (by simp) o e, r⟩, k a (by simp) _ st2⟩
  item := fun i s Q E hi st hQ => by
    obtain ⟨⟨slot, st, r, _⟩, st2⟩ := st
    have i0 : i = 0 := by omega
    have z1 : es.size = 1 := by omega
    subst i0
    have hs := r rfl
    subst hs
    obtain ⟨e, he⟩ : ∃ e, es = #[e] := Array.size_eq_one_iff.mp z1
    have pz : t.place.size = 1 := by
      have := S.fit
      simp only [SetTable.fits, Bool.and_eq_true, beq_iff_eq] at this
      rw [this.1, z1]
    obtain ⟨p, hp⟩ : ∃ p, t.place = #[p] := Array.size_eq_one_iff.mp pz
    refine nextI_item (slot := 0) (nx := p + 1) (x := e.2) st st2 S (fun Q' E' h => next_few st2 S hb hz ?_) fun g hg sb => hQ _ _ ?_ ⟨⟨p + 1, hg, fun z => absurd z (by decide), fun _ p' hp' => ?_⟩, sb.extBut a _ ne st2⟩ (sb_moved sb.extBut)
    · rw [hp, below0, he]
      exact h
    · rw [he]
      rfl
    · rw [hp] at hp'
      cases hp'
      rfl
  done := fun s Q E st hQ => by
    obtain ⟨⟨slot, st, r0, r1⟩, st2⟩ := st
    refine nextI_end hh st st2 S (fun Q' E' h => next_few st2 S hb hz ?_) fun g sb => hQ _ (sb_moved sb)
    have : es.size = 0 ∨ es.size = 1 := by omega
    rcases this with z | z
    · have e0 : es[SetTable.below t.place slot]? = none := Array.getElem?_eq_none (by omega)
      rw [e0]
      exact h
    · have pz : t.place.size = 1 := by
        have := S.fit
        simp only [SetTable.fits, Bool.and_eq_true, beq_iff_eq] at this
        rw [this.1, z]
      obtain ⟨p, hp⟩ : ∃ p, t.place = #[p] := Array.size_eq_one_iff.mp pz
      have hs := r1 z p hp
      subst hs
      have e0 : es[SetTable.below t.place (p + 1)]? = none := by
        rw [hp, below1]
        exact Array.getElem?_eq_none (by omega)
      rw [e0]
      exact h
  self := fun i s Q E st hQ => by
    obtain ⟨⟨slot, st, _⟩, _⟩ := st
    exact self_sit st hQ
theorem strs_el {o : Obj} {ss : List Str} {es : Array (Int × Value)} {ep : Nat} {t : SetTable} (S : SetO prog w o ss es ep t) {e : Int × Value} (h : e ∈ es.toList) : ∃ x tk, e.2 = .str x tk := by
  obtain ⟨⟨k, hk, _⟩, _⟩ := S.el e h
  obtain ⟨tk, z⟩ := Value.isStrOf_shape hk
  exact ⟨k, tk, z⟩
theorem iterS {a : Addr} {o : Obj} {ss : List Str} {es : Array (Int × Value)} {ep : Nat} {t : SetTable} {Q : Value → Shared → Prop} (ho : s.heap.get? a = some o) (S : SetO prog w o ss es ep t)
    (q : ∀ (I : Addr) (g : Heap) (d : Drawn) (xs : List Value) (fp : List Addr) (St : Nat → Shared → Prop), (∀ b o, s.heap.get? b = some o → g.get? b = some o) → s.heap.objs.size ≤ I → I ∈ fp → (∀ b ∈ fp, b = a ∨ s.heap.objs.size ≤ b ∧ b < g.objs.size) → (xs.map strOf).Perm ss →
      (∀ v ∈ xs, ∃ x tk, v = .str x tk) → xs.length = es.size → (∀ B : Around, B.handled = none → WalksS prog w B I fp [I] (fun a b => b = a) es.size (fun i v => xs[i]? = some v) St) → St 0 { s with heap := g, drawn := d } → Q (.ref I) { s with heap := g, drawn := d }) :
    wpAny (model prog w) A (pyIter (.ref a)) Q E s := by
  have ty : s.TypeIs (.ref a) "set" := ⟨o, ho, S.ex.1⟩
  have la : a < s.heap.objs.size := Heap.lt_size ho
  refine wpAny_pyIter_slot ty PySem.F.slot_set_iter (wpAny_call_entry PySem.F.slot_set_iter ty en_set_iter ?_ (PySem.F.args_set_iter_1 _))
  unfold Builtin.«frozenset.__iter__» Builtin.Frozenset.slot0
  refine wpAny_bind (wpAny_bind (m := slotArgs "__iter__" 0 _) (wpAny_pure (wpAny_pure ?_)))
  unfold Builtin.Frozenset.sizeOf
  refine wpAny_bind (wpAny_bind (wpAny_setEntries_of ho S.dat S.fit (wpAny_pure ?_)))
  unfold setDrawn
  refine wpAny_bind (wpAny_bind (wpAny_setState_of ho S.dat S.fit ?_))
  dsimp only
  unfold setsByText
  refine wpAny_bind (wpAny_bind (wpAny_askSetting (wpAny_pure ?_)))
  dsimp only
  refine wpAny_pure ?_
  split
  · rename_i hc
    have hc' : (!byTx w && (!t.plain && decide (es.size > 1))) = true := hc
    have hb : byTx w = false := by
      cases h : byTx w with
      | false => rfl
      | true => rw [h] at hc'; simp at hc'
    have h1 : 1 < es.size := by
      have : decide (es.size > 1) = true := by
        cases h : decide (es.size > 1) with
        | true => rfl
        | false => rw [h] at hc'; simp at hc'
      exact of_decide_eq_true this
    refine wpAny_bind (draw_perm es.size _ s (by simp) fun ps d hp => ?_)
    have hl : ps.length = es.size := by rw [hp.length_eq, List.length_range]
    have hlt : ∀ p ∈ ps, p < es.size := fun p h => List.mem_range.mp (hp.mem_iff.mp h)
    have hs : es.size ≤ sizeLine := fits_of_scanBound S.bd
    refine wpAny_bind (wpAny_newTuple ?_ (by rw [List.length_map, hl]; exact hs))
    have ho1 : (s.heap.push { cls := .type "tuple", data := .seq (ps.map fun (p : Nat) => rawInt p).toArray }).get? a = some o := Heap.get?_push_of_some _ ho
    refine wpAny_bind (wpAny_setEpoch_of (s := { s with heap := _, drawn := d }) ho1 S.dat S.fit ?_)
    refine wpAny_bind (wpAny_newObj_type ?_ (by size_fits))
    have hT : (s.heap.push { cls := .type "tuple", data := .seq (ps.map fun (p : Nat) => rawInt p).toArray }).get? s.heap.objs.size = some _ := Heap.get?_push_size _ rfl
    have e1 : (s.heap.push { cls := .type "tuple", data := .seq (ps.map fun (p : Nat) => rawInt p).toArray }).objs.size = s.heap.objs.size + 1 := Heap.size_push ..
    refine wpAny_pure ⟨_, rfl, "set_iterator", _, ⟨_, Heap.get?_push_size _ rfl, rfl⟩, sl_sit_next.lookup, ?_⟩
    have neA : a ≠ (s.heap.push { cls := .type "tuple", data := .seq (ps.map fun (p : Nat) => rawInt p).toArray }).objs.size := by rw [e1]; exact Nat.ne_of_lt (Nat.lt_succ_of_lt la)
    have neT : s.heap.objs.size ≠ (s.heap.push { cls := .type "tuple", data := .seq (ps.map fun (p : Nat) => rawInt p).toArray }).objs.size := by rw [e1]; exact Nat.ne_of_lt (Nat.lt_succ_self _)
    refine q _ _ d (ps.map fun p => ((es[p]?).map (·.2)).getD .none) [_, a, s.heap.objs.size] _ (fun b o e => Heap.get?_push_of_some _ (Heap.get?_push_of_some _ e)) (by simp only [e1]; omega) List.mem_cons_self ?_ ?_ ?_ (by rw [List.length_map, hl]) (fun B hh => walk_dr S ps hlt hl rfl neA neT hh) ⟨⟨_, Heap.get?_push_size _ rfl, rfl, rfl⟩, Heap.get?_push_of_some _ ho1, Heap.get?_push_of_some _ hT⟩
    · intro b hb
      simp only [List.mem_cons, List.not_mem_nil, or_false] at hb
      rcases hb with rfl | rfl | rfl
      · exact .inr ⟨by rw [e1]; exact Nat.le_succ _, by simp only [Heap.size_push]; exact Nat.lt_succ_self _⟩
      · exact .inl rfl
      · exact .inr ⟨Nat.le_refl _, by rw [Heap.size_push, e1]; exact Nat.lt_succ_of_lt (Nat.lt_succ_self _)⟩
    · have r : ((List.range es.size).map fun p => ((es[p]?).map (·.2)).getD .none) = es.toList.map (·.2) := by
        apply List.ext_getElem?
        intro i
        simp only [List.getElem?_map]
        by_cases hi : i < es.size
        · simp [hi]
        · simp [hi]
      have := ((hp.map fun p => ((es[p]?).map (·.2)).getD .none).map strOf)
      rw [r] at this
      exact this.trans (by rw [List.map_map]; exact S.pm)
    · intro v hv
      obtain ⟨p, h, rfl⟩ := List.mem_map.mp hv
      have hp' := hlt p h
      obtain ⟨x, tk, z⟩ := strs_el S (e := es[p]) (by simp)
      exact ⟨x, tk, by simp [hp', z]⟩
  · rename_i hc
    have hc' : ¬ (!byTx w && (!t.plain && decide (es.size > 1))) = true := hc
    refine wpAny_bind (wpAny_pure (wpAny_bind (wpAny_setEpoch_of ho S.dat S.fit ?_)))
    refine wpAny_bind (wpAny_newObj_type ?_ (by size_fits))
    refine wpAny_pure ⟨_, rfl, "set_iterator", _, ⟨_, Heap.get?_push_size _ rfl, rfl⟩, sl_sit_next.lookup, ?_⟩
    have keep : ∀ {ob : Obj} (b : Addr) (o : Obj), s.heap.get? b = some o → (s.heap.push ob).get? b = some o := fun b o e => Heap.get?_push_of_some _ e
    have fpk : ∀ {ob : Obj} (b : Addr), b ∈ [s.heap.objs.size, a] → b = a ∨ s.heap.objs.size ≤ b ∧ b < (s.heap.push ob).objs.size := fun b hb => by
      simp only [List.mem_cons, List.not_mem_nil, or_false] at hb
      rcases hb with rfl | rfl
      · exact .inr ⟨Nat.le_refl _, by rw [Heap.size_push]; exact Nat.lt_succ_self _⟩
      · exact .inl rfl
    cases hb : byTx w with
    | true =>
      refine q _ _ s.drawn ((pickOrder (w.params.setOrder a ep) es).toList.map (·.2)) [_, a] _ keep (Nat.le_refl _) List.mem_cons_self fpk ?_ ?_ ?_ (fun B hh => walk_tx S hb (Nat.ne_of_lt la) hh) ⟨⟨_, Heap.get?_push_size _ rfl, rfl, rfl⟩, Heap.get?_push_of_some _ ho⟩
      · rw [List.map_map]
        exact ((pick_perm _ es).map tx).trans S.pm
      · intro v hv
        obtain ⟨e, h, rfl⟩ := List.mem_map.mp hv
        exact strs_el S ((pick_perm _ es).mem_iff.mp h)
      · rw [List.length_map, (pick_perm _ es).length_eq, Array.length_toList]
    | false =>
      have hz : es.size ≤ 1 := by
        refine Nat.le_of_not_lt fun h => hc' ?_
        rw [hb, S.pl (by omega)]
        simpa using h
      refine q _ _ s.drawn (es.toList.map (·.2)) [_, a] _ keep (Nat.le_refl _) List.mem_cons_self fpk ?_ ?_ (by simp) (fun B hh => walk_few S hb hz (Nat.ne_of_lt la) hh) ⟨⟨0, ⟨_, Heap.get?_push_size _ rfl, rfl, rfl⟩, fun _ => rfl, fun h => absurd h (by decide)⟩, Heap.get?_push_of_some _ ho⟩
      · rw [List.map_map]
        exact S.pm
      · intro v hv
        obtain ⟨e, h, rfl⟩ := List.mem_map.mp hv
        exact strs_el S h
theorem collectS {a : Addr} {o : Obj} {ss : List Str} {es : Array (Int × Value)} {ep : Nat} {t : SetTable} {Q : List Value → Shared → Prop} (hh : A.handled = none) (ho : s.heap.get? a = some o) (S : SetO prog w o ss es ep t)
    (q : ∀ xs g d tk, (∀ b o, s.heap.get? b = some o → g.get? b = some o) → s.heap.objs.size < g.objs.size → (xs.map strOf).Perm ss → (∀ v ∈ xs, ∃ x tk, v = .str x tk) → Q xs { s with heap := g, drawn := d, toks := tk }) : wpAny (model prog w) A (collect (.ref a)) Q E s := by
  have la : a < s.heap.objs.size := Heap.lt_size ho
  have hs : es.size ≤ sizeLine := fits_of_scanBound S.bd
  unfold collect
  refine wpAny_bind (wpAny_runValue (codeAny_builtin PySem.F.entry_proto_collect ?_))
  rw [Around.under_plainId PySem.F.plain_proto_collect _]
  show wpAny _ A.in1 (newList [] >>= fun l => again (.builtin "list.__iadd__" ⟨[l, .ref a], []⟩)) _ _ s
  refine wpAny_bind (wpAny_newObj_type (wpAny_pure ⟨plainId_quiet PySem.F.plain_list_iadd _, codeAny_builtin PySem.F.entry_list_iadd ?_⟩))
  rw [Around.under_plainId PySem.F.plain_list_iadd _]
  show wpAny _ A.in1 (Builtin.List.listExtendWith (.ref s.heap.objs.size) (.ref a) (.ref s.heap.objs.size)) _ _ _
  generalize hob : ({ cls := .type "list", data := .seq ([] : List Value).toArray } : Obj) = ob
  have hL : (s.heap.push ob).get? s.heap.objs.size = some ob := Heap.get?_push_size _ (by rw [← hob]; rfl)
  have ho1 : (s.heap.push ob).get? a = some o := Heap.get?_push_of_some _ ho
  have sz1 : (s.heap.push ob).objs.size = s.heap.objs.size + 1 := Heap.size_push ..
  unfold Builtin.List.listExtendWith
  refine wpAny_bind (wpAny_typeOf (T := "set") ⟨o, ho1, S.ex.1⟩ ?_)
  have h1 : Builtin.List.listSameRef (.ref s.heap.objs.size) (.ref a) = false := by simp [Builtin.List.listSameRef, Nat.ne_of_gt la]
  have h2 : (Value.type "set" == Value.type "list") = false := by decide
  have h3 : (Value.type "set" == Value.type "tuple") = false := by decide
  simp only [h1, h2, h3, Bool.or_false, Bool.false_eq_true, if_false]
  refine wpAny_bind (iterS (s := { s with heap := s.heap.push ob }) ho1 S fun I g d xs fp St keep lI mI hfp pm hst len W st => ?_)
  refine wpAny_bind (wpAny_holding ?_)
  unfold Builtin.List.listLengthHint
  have ty : Shared.TypeIs { s with heap := g, drawn := d } (.ref a) "set" := ⟨o, keep _ _ ho1, S.ex.1⟩
  refine wpAny_bind (wpAny_specialOf ty PySem.F.slot_set_len.lookup ?_)
  dsimp only
  rw [show splitId "set.__len__" = some ("set", "__len__") by kernel_rfl]
  dsimp only
  refine wpAny_bind (wpAny_isInstance ty sub_set_self ?_)
  simp only [Bool.not_true, Bool.false_eq_true, if_false]
  refine wpAny_ite ?_
  rw [if_pos (by decide +kernel)]
  refine wpAny_bind (wpAny_typeOf ty ?_)
  refine wpAny_pure ?_
  refine wpAny_ite ?_
  rw [if_pos (by decide +kernel)]
  refine wpAny_bind (wpAny_rule (wpAny_bind ?_))
  have hLg : g.get? s.heap.objs.size = some ob := keep _ _ hL
  rw [← hob] at hLg
  show wpAny _ A.in1 (updateSeq s.heap.objs.size (·.push .none) >>= fun _ => updateSeq s.heap.objs.size (·.pop)) _ _ _
  refine wpAny_bind (wpAny_updateSeq hLg rfl ?_)
  have u1 := Heap.get?_update_self (Obj.mapSeq (·.push Value.none)) hLg rfl
  refine wpAny_updateSeq u1 rfl ?_
  have u2 := Heap.get?_update_self (Obj.mapSeq (·.pop)) u1 rfl
  have oth : ∀ b o, b ≠ s.heap.objs.size → g.get? b = some o → ((g.update s.heap.objs.size (Obj.mapSeq (·.push Value.none))).update s.heap.objs.size (Obj.mapSeq (·.pop))).get? b = some o :=
    fun b o nb e => (Heap.get?_update_other _ _ (Ne.symm nb)).trans ((Heap.get?_update_other _ _ (Ne.symm nb)).trans e)
  have nf : s.heap.objs.size ∉ fp := fun h => by
    rcases hfp _ h with z | ⟨z, _⟩
    · exact absurd z (Nat.ne_of_gt la)
    · have z' : (s.heap.push ob).objs.size ≤ s.heap.objs.size := z
      rw [sz1] at z'
      exact absurd z' (Nat.not_succ_le_self _)
  have W' := W A.in1 (by simp [hh])
  refine wpAny_pure ⟨plainId_quiet PySem.F.plain_extend_loop _, codeAny_extend_loopS W' hs _ nf _ es.size 0 _ _ _ rfl (Nat.zero_le _) (W'.frame 0 ({ s with heap := g, drawn := d } : Shared) _ s.toks st (Nat.le_refl _) fun b hb o e => oth b o (fun h => nf (h ▸ hb)) e) u2 (ItemsOf.nil _) fun s' acc c m hS' it => ?_⟩
  show wpAny _ A (load s.heap.objs.size >>= _) _ _ s'
  refine wpAny_bind (wpAny_load hS' (wpAny_pure ?_))
  have ex : acc.toList = xs := by
    obtain ⟨z, h⟩ := it
    apply List.ext_getElem?
    intro j
    rw [Array.getElem?_toList]
    cases e : acc[j]? with
    | some v => exact (h j v e).symm
    | none =>
      have : es.size ≤ j := by
        have := Array.getElem?_eq_none_iff.mp e
        omega
      exact (List.getElem?_eq_none (by omega)).symm
  rw [ex]
  obtain ⟨g', gn, dr, tk, os⟩ := s'
  obtain ⟨m1, m2, m3, m4, m5⟩ := m
  dsimp only at m1 m2 m3 m4 m5
  subst m2 m3 m4
  refine q xs g' _ tk (fun b o e => m1 b o (fun h => ?_) (oth b o ?_ (keep _ _ (Heap.get?_push_of_some _ e)))) (Heap.lt_size hS') pm hst
  · rcases List.mem_cons.mp h with z | z
    · subst z
      exact absurd (Heap.lt_size e) (Nat.lt_irrefl _)
    · rw [List.mem_singleton] at z
      subst z
      have z' : (s.heap.push ob).objs.size ≤ b := lI
      rw [sz1] at z'
      exact absurd (Heap.lt_size e) (Nat.not_lt_of_le (Nat.le_of_succ_le z'))
  · exact Nat.ne_of_lt (Heap.lt_size e)
theorem rising_le : ∀ {l : List Str} {p : Str}, risingS p l = true → (∀ y ∈ l, ¬ lS y p) ∧ l.Pairwise fun a b => ¬ lS b a
  | [], _, _ => ⟨fun _ h => absurd h (by simp), List.Pairwise.nil⟩
  | x :: r, p, h => by
    have h' : (!ltCps x.cps.toList p.cps.toList && risingS x r) = true := h
    rw [Bool.and_eq_true, Bool.not_eq_true', ltCps_eq] at h'
    obtain ⟨h1, h2⟩ := h'
    have n1 : ¬ lS x p := of_decide_eq_false h1
    obtain ⟨i1, i2⟩ := rising_le h2
    refine ⟨fun y hy => ?_, List.pairwise_cons.mpr ⟨i1, i2⟩⟩
    rcases List.mem_cons.mp hy with rfl | hy
    · exact n1
    · intro c
      exact i1 y hy (Decidable.byContradiction fun d => n1 (Decidable.byContradiction fun n1' => by
        by_cases e : lS p x
        · exact d (lS_tr c e)
        · have e2 := lS_tri n1' e
          subst e2
          exact d c))
theorem sorted_le {l : List Str} (h : sortedS l = true) : l.Pairwise fun a b => ¬ lS b a := by
  cases l with
  | nil => exact List.Pairwise.nil
  | cons x r =>
    obtain ⟨h1, h2⟩ := rising_le (p := x) (l := r) h
    exact List.pairwise_cons.mpr ⟨h1, h2⟩
theorem sortedS_of {a : Addr} {o : Obj} {ss : List Str} {es : Array (Int × Value)} {ep : Nat} {t : SetTable} {Q : Value → Shared → Prop} (hh : A.handled = none) (ho : s.heap.get? a = some o) (S : SetO prog w o ss es ep t) (h64 : es.size < 64)
    (q : ∀ (r : Addr) (us : List Value) (ys : List Str) (n : Nat) g d tk, s.heap.objs.size ≤ r → g.get? r = some (seqObj "list" us.toArray n) → (∀ b o, s.heap.get? b = some o → g.get? b = some o) → StrsAre us ys → ys.Perm ss → (ys.Pairwise fun a b => ¬ lS b a) →
      Q (.ref r) { s with heap := g, drawn := d, toks := tk }) : wpAny (model prog w) A (call (.builtin "sorted") [.ref a]) Q E s := by
  refine Calls.call_function_entry kind_sorted plain_sorted entry_sorted (args_sorted1 _) ?_
  unfold Builtin.«sorted»
  refine wpAny_bind (m := checkCount "sorted" 1 1 _) (wpAny_pure (wpAny_bind (collectS (by simp [hh]) ho S fun xs g d tk keep lg pm hst => ?_)))
  have hl : xs.length = es.size := by
    have := pm.length_eq
    rw [List.length_map] at this
    rw [this, S.size]
  refine wpAny_bind (wpAny_newList ?_ (by rw [hl]; exact fits_of_scanBound S.bd))
  have sa : StrsAre xs (xs.map strOf) := strsAre_map xs hst
  have hoL : (g.push (seqObj "list" xs.toArray 0)).get? g.objs.size = some (seqObj "list" xs.toArray 0) := Heap.get?_push_size _ rfl
  refine wpAny_bind (wpAny_holding (wpAny_call_entry slot_list_sort ⟨_, hoL, rfl⟩ entry_list_sort (list_sort_treeK strKind_oneLt hoL sa.keysOf (fun v1 v2 r e => keyKind_strs (by rw [← e]; exact sa)) (by omega) fun st' a1 a2 => ⟨_, rfl, wpAny_pure ⟨_, rfl, ?_⟩⟩) (args_list_sort _)))
  obtain ⟨ys, b1, b2, b3⟩ := sorted_out_str sa a1 a2
  obtain ⟨n, hn⟩ := sortedHeap_at (out := (arrOf st').map (·.2)) hoL
  refine q g.objs.size ((arrOf st').map (·.2)).toList ys n _ d tk (Nat.le_of_lt lg) (by rw [hn]) (fun b ob e => ?_) b1 (b2.trans pm) (sorted_le b3)
  have hb := Heap.lt_size (keep b ob e)
  show (sortedHeap _ _ _ _).get? b = some ob
  rw [sortedHeap_old (Nat.ne_of_lt hb) (by rw [Heap.size_push]; exact Nat.lt_succ_of_lt hb)]
  exact Heap.get?_push_of_some _ (keep b ob e)
end
section
variable {X : Cx}
theorem vals_str : ∀ {us : List Value} {ys : List Str}, StrsAre us ys → Vals (ys.map V.str) us
  | _, _, .nil => .nil
  | _, _, .cons x t r => .cons ⟨t, rfl⟩ (vals_str r)
theorem boot_sorted : bootBuiltins "sorted" = some (.builtin "sorted") := by decide +kernel
theorem boot_set : bootBuiltins "set" = some (.type "set") := by decide +kernel
def dSSet (K : PySem.W.Frag) (te : TE) : TE := fun σ H Q => te σ H fun x H1 => match x with
  | .ref l => ∃ names : List Str, SqL K H1 l (names.map V.str) ∧ names.length ≤ 1000 ∧ (srt names).length < 64 ∧ ∀ D, H1 D = none → Q (.ref D) (upd H1 D (.lst ((srt names).map V.str)))
  | _ => False
theorem e_sset {e : Expr} {te : TE} {p p' pos pos' : Pos} (hg1 : Gl X "sorted") (hm1 : X.mg "sorted" = none) (hg2 : Gl X "set") (hm2 : X.mg "set" = none) (he : PE X e te) (hc : X.calm = true := by rfl)
    (hs : starEach [.Call (.Name "set" p') [e] [] pos'] X.env = [(false, eval (.Call (.Name "set" p') [e] [] pos') X.env)] := by rfl) (hs2 : starEach [e] X.env = [(false, eval e X.env)] := by rfl) :
    PE X (.Call (.Name "sorted" p) [.Call (.Name "set" p') [e] [] pos'] [] pos) (dSSet X.K te) := by
  intro pins s σ H Q I h
  refine wpAny_Call_Name_kw (ld_blt I hg1 hm1 boot_sorted ?_)
  refine PyProof.Rows.callWith_builtin1 ?_ hs rfl
  rw [hs]
  show wpAny _ _ (spliced ((false, eval (.Call (.Name "set" p') [e] [] pos') X.env) :: backTo pos (starEach [] X.env))) _ _ s
  refine Calls.spliced_cons ?_
  refine wpAny_Call_Name_kw (ld_blt I hg2 hm2 boot_set ?_)
  refine PyProof.Rows.callWith_type1 ?_ hs2 rfl
  rw [hs2]
  show wpAny _ _ (spliced ((false, eval e X.env) :: backTo pos' (starEach [] X.env))) _ _ s
  refine Calls.spliced_cons (thn (he pins s σ H _ I h) fun u s1 ⟨x, H1, I1, r1, q1⟩ => Calls.spliced_nil ?_)
  match x, q1 with
  | .ref l, ⟨names, hq, hn, h64, q⟩ =>
    cases (show u = Value.ref l from r1)
    obtain ⟨its, rv, ⟨oL, nL, eL, cL, dL, xL⟩, hz⟩ := I1.list hq
    have sa : StrsAre its names := strs_of rv
    have hl : its.length = names.length := by rw [← rv.length, List.length_map]
    have hh : X.A.handled = none := I1.ok.hd hc
    refine call_setS hh ⟨oL, eL, cL, nL, xL⟩ sa (by rw [hl]; exact Nat.lt_of_le_of_lt (Nat.succ_le_succ hn) (by decide)) fun g tk hS keep => Calls.spliced_nil ?_
    obtain ⟨o, es, ep, t, ho, S⟩ := hS
    rw [hl] at S
    refine sortedS_of hh ho S (by rw [S.size]; exact Nat.lt_of_le_of_lt (ddn_srt names) h64) fun r us ys n g2 d tk2 lr hr keep2 sa2 pm pw => ?_
    have ey : ys = srt names := inc_ext (pairwise_inc pw (pm.nodup_iff.mpr (ddn_nodup _ _))) (inc_srt _) fun x => by rw [pm.mem_iff, ddn_mem, mem_srt]
    subst ey
    have fr : s1.heap.objs.size ≤ r := Nat.le_trans (Nat.le_of_lt (Heap.lt_size ho)) lr
    have I2 := I1.laid (t' := tk2) (h' := g2) (a := r) (o := .lst ((srt names).map V.str)) (fun b u e => keep2 _ _ (keep _ _ e)) fr ⟨by rw [List.length_map]; exact Nat.le_trans (Nat.le_of_lt h64) (by decide), us, n, vals_str sa2, hr⟩
    exact ⟨.ref r, _, ⟨I2.ok, I2.os, I2.bare, I2.base, I2.loc, I2.cell, I2.free, I2.freeC, I2.pin, I2.hok, I2.len⟩, rfl, q r (I1.hok.fresh fr)⟩
end
end Lw
end
section
set_option Elab.async false
set_option linter.all false
set_option maxRecDepth 100000
set_option maxHeartbeats 4000000
namespace Lw
open PySem PySem.Spec PyProof.Rows L2
section
variable {prog : Program} {w : World} {A : Around} {R : Result → Shared → Prop} {s : Shared}
end
@[irreducible] def CGoalI (J : It) (g : TG) (tc : TT) (te : TE) (k : Nat) (js : List Nat) (σ : L2.St) (H1 : Hp) (Q : VK) : Prop := ∀ D, H1 D = none → ∃ W : Nat → Nat → Hp → Prop, (∃ m, W 0 m (upd H1 D (.lst []))) ∧ ∀ i m H, W i m H →
  (J.stop i H ∧ Q (.ref D) H) ∨ (J.go i H ∧ ∀ x H', J.yld i H x H' → g x (List.replicate k none ++ capσ js σ) H' fun σ2 H2 => σ2.drop k = capσ js σ ∧ tc σ2 H2 fun b H3 => Br b (te σ2 H3 fun v H4 => ∃ xs, H4 D = some (.lst xs) ∧ xs.length < sizeLine ∧ ∃ m', m' < m ∧ W (i + 1) m' (upd H4 D (.lst (xs ++ [v])))) (∃ m', m' < m ∧ W (i + 1) m' H3))
section
variable {X : Cx}
end
end Lw
end
section
set_option Elab.async false
set_option linter.all false
set_option maxRecDepth 100000
set_option maxHeartbeats 4000000
namespace Lw
open PySem PySem.Spec PyProof.Rows L2
inductive All2 {α β : Type} (R : α → β → Prop) : List α → List β → Prop where
  | nil : All2 R [] []
  | cons {a : α} {b : β} {l : List α} {m : List β} : R a b → All2 R l m → All2 R (a :: l) (b :: m)
theorem All2.len {α β : Type} {R : α → β → Prop} : ∀ {l : List α} {m : List β}, All2 R l m → l.length = m.length
  | _, _, .nil => rfl
  | _, _, .cons _ r => by rw [List.length_cons, List.length_cons, r.len]
theorem All2.imp {α β : Type} {R S : α → β → Prop} (h : ∀ a b, R a b → S a b) : ∀ {l : List α} {m : List β}, All2 R l m → All2 S l m
  | _, _, .nil => .nil
  | _, _, .cons x r => .cons (h _ _ x) (r.imp h)
theorem All2.snoc {α β : Type} {R : α → β → Prop} {a : α} {b : β} (x : R a b) : ∀ {l : List α} {m : List β}, All2 R l m → All2 R (l ++ [a]) (m ++ [b])
  | _, _, .nil => .cons x .nil
  | _, _, .cons y r => .cons y (r.snoc x)
theorem All2.get {α β : Type} {R : α → β → Prop} : ∀ {l : List α} {m : List β}, All2 R l m → ∀ {i : Nat} {a : α}, l[i]? = some a → ∃ b, m[i]? = some b ∧ R a b
  | _, _, .nil, i, a, h => by simp at h
  | _, _, .cons x r, 0, a, h => by
    simp at h
    subst h
    exact ⟨_, rfl, x⟩
  | _, _, .cons x r, i + 1, a, h => by
    simp only [List.getElem?_cons_succ] at h ⊢
    exact r.get h
def Kt (H H' : Hp) : Prop := ∀ p xs, H p = some (.tup xs) → H' p = some (.tup xs)
theorem Kt.trans {H H1 H2 : Hp} (a : Kt H H1) (b : Kt H1 H2) : Kt H H2 := fun p xs h => b p xs (a p xs h)
theorem kt_of {H H' : Hp} (s : Same H H') : Kt H H' := fun p xs h => s p _ h
theorem kt_upd {H : Hp} {D : Addr} {zs : List V} {o : HO} (h : H D = some (.lst zs)) : Kt H (upd H D o) := fun p xs e => by
  have ne : p ≠ D := fun z => by
    subst z
    rw [h] at e
    cases e
  rw [upd_ne ne]
  exact e
theorem same_app' {H0 H : Hp} {D : Addr} {o : HO} (s : Same H0 H) (h : H0 D = none) : Same H0 (upd H D o) := fun b u e => by
  rw [upd_ne (ne_of_none e h)]
  exact s b u e
theorem comp_abs {β : Type} {K : PySem.W.Frag} {a : Addr} {xs : List V} {ms : List β} {g : TG} {te : TE} {k : Nat} {js : List Nat} {σ : L2.St} {H1 : Hp} {Q : VK} (M : Hp → V → β → Prop) (upM : ∀ v m H H', Kt H H' → M H v m → M H' v m) (R : Hp → β → V → Prop) (up : ∀ m y H H', Kt H H' → R H m y → R H' m y)
    (hz : xs.length ≤ 1000) (hx : SqL K H1 a xs) (hm : All2 (M H1) xs ms)
    (hs : ∀ v m H2, M H2 v m → m ∈ ms → Same H1 H2 → ∀ P : VK, (∀ y H3, Same H2 H3 → R H3 m y → P y H3) → g v (List.replicate k none ++ capσ js σ) H2 fun σ2 H3 => σ2.drop k = capσ js σ ∧ te σ2 H3 P)
    (hq : ∀ D H' ys, Same H1 H' → H1 D = none → H' D = some (.lst ys) → All2 (R H') ms ys → Q (.ref D) H') : CGoal (Itl K a) g te k js σ H1 Q := by
  unfold CGoal
  intro D hD
  have hl := hm.len
  refine ⟨fun i m H => m = xs.length - i ∧ i ≤ xs.length ∧ Same H1 H ∧ ∃ ys, H D = some (.lst ys) ∧ All2 (R H) (ms.take i) ys, ⟨xs.length, by simp, Nat.zero_le _, same_upd hD, [], upd_same, .nil⟩, ?_⟩
  rintro i m H ⟨rfl, hi, sm, ys, hH, ar⟩
  have sq := sm.seq hx
  by_cases hlt : i < xs.length
  · have e : xs[i]? = some xs[i] := by simp [hlt]
    refine .inr ⟨⟨xs, _, sq, e⟩, fun x H' y => ?_⟩
    obtain ⟨e1, e2⟩ := y
    subst e1
    have hv := e2 xs sq
    obtain ⟨m, hmi, hM⟩ := hm.get hv
    refine hs x m _ (upM _ _ _ _ (kt_of sm) hM) (List.mem_of_getElem? hmi) sm _ fun y H3 s3 r3 => ⟨ys, s3 _ _ hH, ?_, xs.length - (i + 1), by omega, rfl, hlt, same_app' (sm.trans s3) hD, ys ++ [y], upd_same, ?_⟩
    · rw [← ar.len, List.length_take]
      exact Nat.lt_of_le_of_lt (Nat.min_le_left _ _) (Nat.lt_of_lt_of_le hlt (Nat.le_trans hz (by decide)))
    · have kt : Kt H3 (upd H3 D (.lst (ys ++ [y]))) := kt_upd (s3 _ _ hH)
      rw [List.take_add_one, hmi]
      exact (ar.imp fun v y r => up v y _ _ ((kt_of s3).trans kt) r).snoc (up _ _ _ _ kt r3)
  · have e : i = xs.length := by omega
    subst e
    rw [hl, List.take_length] at ar
    exact .inl ⟨⟨xs, sq, Nat.le_refl _⟩, hq D _ ys sm hD hH ar⟩
structure Gm where
  d : Int
  a : Str
  b : Str
  h : Int
  s : Int
def GmAt (H : Hp) (v : V) (g : Gm) : Prop := ∃ p, v = .ref p ∧ H p = some (.tup [.int g.d, .str g.a, .str g.b, .int g.h, .int g.s])
theorem gm_up (v : V) (g : Gm) (H H' : Hp) (k : Kt H H') (h : GmAt H v g) : GmAt H' v g := by
  obtain ⟨p, e, r⟩ := h
  exact ⟨p, e, k _ _ r⟩
def Bk (K : PySem.W.Frag) (H : Hp) (L : Addr) (gs : List Gm) : Prop := ∃ vs, SqL K H L vs ∧ All2 (GmAt H) vs gs ∧ gs.length ≤ 100
def plr (gs : List Gm) : List Str := srt (gs.map (·.a) ++ gs.map (·.b))
theorem all2_strs {f : Gm → Str} : ∀ {gs : List Gm} {ys : List V}, All2 (fun g y => y = V.str (f g)) gs ys → ys = (gs.map f).map V.str
  | _, _, .nil => rfl
  | _, _, .cons e r => by rw [e, all2_strs r]; rfl
theorem mem_plr {gs : List Gm} {x : Str} : x ∈ plr gs ↔ ∃ g ∈ gs, x = g.a ∨ x = g.b := by
  unfold plr
  rw [mem_srt, List.mem_append, List.mem_map, List.mem_map]
  constructor
  · rintro (⟨g, h, rfl⟩ | ⟨g, h, rfl⟩)
    · exact ⟨g, h, .inl rfl⟩
    · exact ⟨g, h, .inr rfl⟩
  · rintro ⟨g, h, rfl | rfl⟩
    · exact .inl ⟨g, h, rfl⟩
    · exact .inr ⟨g, h, rfl⟩
section
variable {X : Cx}
end
def gd (g : Gm) : PyData := .tuple [.int g.d, .str g.a, .str g.b, .int g.h, .int g.s]
theorem cl_strs : ∀ {l : List Str}, (∀ x ∈ l, PyData.strOk x = true) → PyData.canLayAll0 (l.map PyData.str) = true
  | [], _ => rfl
  | x :: l, h => by
    show (PyData.strOk x && PyData.canLayAll0 (l.map PyData.str)) = true
    rw [h x (List.mem_cons_self ..), cl_strs fun y hy => h y (List.mem_cons_of_mem _ hy)]
    rfl
theorem dp_strs : ∀ (l : List Str), PyData.depthAll (l.map PyData.str) = 0
  | [] => rfl
  | x :: l => by
    show max 0 (PyData.depthAll (l.map PyData.str)) = 0
    rw [dp_strs l]
    rfl
theorem cl_gms : ∀ {gs : List Gm}, (∀ g ∈ gs, PyData.strOk g.a = true ∧ PyData.strOk g.b = true) → PyData.canLayAll0 (gs.map gd) = true
  | [], _ => rfl
  | g :: gs, h => by
    obtain ⟨h1, h2⟩ := h g (List.mem_cons_self ..)
    show ((true && (PyData.strOk g.a && (PyData.strOk g.b && true))) && PyData.canLayAll0 (gs.map gd)) = true
    rw [h1, h2, cl_gms fun y hy => h y (List.mem_cons_of_mem _ hy)]
    rfl
theorem dp_gms : ∀ (gs : List Gm), PyData.depthAll (gs.map gd) ≤ 1
  | [] => Nat.zero_le _
  | g :: gs => by
    have e : (gd g).depth = 1 := rfl
    show max (gd g).depth (PyData.depthAll (gs.map gd)) ≤ 1
    rw [e]
    have := dp_gms gs
    omega
theorem sh_strs {l : List Str} (h : ∀ x ∈ l, PyData.strOk x = true) : SeqAt.shaped (.list (l.map PyData.str)) = true := by
  unfold SeqAt.shaped
  rw [show (PyData.list (l.map PyData.str)).canLay0 = true from cl_strs h, show (PyData.list (l.map PyData.str)).depth = 0 + 1 from congrArg (· + 1) (dp_strs l)]
  rfl
theorem sh_gms {gs : List Gm} (h : ∀ g ∈ gs, PyData.strOk g.a = true ∧ PyData.strOk g.b = true) : SeqAt.shaped (.list (gs.map gd)) = true := by
  unfold SeqAt.shaped
  have e : (PyData.list (gs.map gd)).depth = PyData.depthAll (gs.map gd) + 1 := rfl
  have := dp_gms gs
  rw [show (PyData.list (gs.map gd)).canLay0 = true from cl_gms h, e, Bool.true_and]
  exact decide_eq_true (by omega)
theorem rpl_strs {K : PySem.W.Frag} {H : Hp} : ∀ (l : List Str), RpL K H (l.map V.str) (l.map PyData.str)
  | [] => .nil
  | x :: l => .cons (.str x) (rpl_strs l)
theorem rp_strs {K : PySem.W.Frag} {H : Hp} {p : Addr} {l : List Str} (h : SqL K H p (l.map V.str)) : Rp K H (.ref p) (.list (l.map PyData.str)) := .lst h (rpl_strs l)
theorem rpl_gms {K : PySem.W.Frag} {H : Hp} : ∀ {vs : List V} {gs : List Gm}, All2 (GmAt H) vs gs → RpL K H vs (gs.map gd)
  | _, _, .nil => .nil
  | _, _, .cons ⟨p, e, h⟩ r => by
    subst e
    exact .cons (.tup (SqT.of h) (.cons (.int _) (.cons (.str _) (.cons (.str _) (.cons (.int _) (.cons (.int _) .nil)))))) (rpl_gms r)
theorem rp_gms {K : PySem.W.Frag} {H : Hp} {p : Addr} {vs : List V} {gs : List Gm} (h : SqL K H p vs) (a : All2 (GmAt H) vs gs) : Rp K H (.ref p) (.list (gs.map gd)) := .lst h (rpl_gms a)
theorem eqv_shaped {d : PyData} (h : SeqAt.shaped d = true) : PyData.eqv d d = true := SeqAt.eqv_refl d (SeqAt.canLay_of_shaped h)
theorem plr_sub {nm : List Str} {gs : List Gm} (h : ∀ g ∈ gs, g.a ∈ nm ∧ g.b ∈ nm) {x : Str} (hx : x ∈ plr gs) : x ∈ nm := by
  obtain ⟨g, hg, rfl | rfl⟩ := mem_plr.mp hx
  · exact (h g hg).1
  · exact (h g hg).2
end Lw
end
section
set_option Elab.async false
set_option linter.all false
set_option maxRecDepth 100000
set_option maxHeartbeats 4000000
namespace Lw
open PySem PySem.Spec PyProof.Rows L2
section
variable {X : Cx}
end
theorem comp_rngR {lo : Int} {n : Nat} {g : TG} {te : TE} {k : Nat} {js : List Nat} {σ : L2.St} {H1 : Hp} {Q : VK} (R : Hp → V → Prop) (up : ∀ y H H', Kt H H' → R H y → R H' y) (hz : n ≤ 1000)
    (hs : ∀ i H2, i < n → Same H1 H2 → ∀ P : VK, (∀ y H3, Same H2 H3 → R H3 y → P y H3) → g (.int (lo + i)) (List.replicate k none ++ capσ js σ) H2 fun σ2 H3 => σ2.drop k = capσ js σ ∧ te σ2 H3 P)
    (hq : ∀ D H' ys, Same H1 H' → H1 D = none → H' D = some (.lst ys) → ys.length = n → (∀ y ∈ ys, R H' y) → Q (.ref D) H') : CGoal (Itr lo n) g te k js σ H1 Q := by
  unfold CGoal
  intro D hD
  refine ⟨fun i m H => m = n - i ∧ i ≤ n ∧ Same H1 H ∧ ∃ ys, H D = some (.lst ys) ∧ ys.length = i ∧ ∀ y ∈ ys, R H y, ⟨n, by simp, Nat.zero_le _, same_upd hD, [], upd_same, rfl, fun _ h => absurd h (by simp)⟩, ?_⟩
  rintro i m H ⟨rfl, hi, sm, ys, hH, hl, ar⟩
  by_cases hlt : i < n
  · refine .inr ⟨hlt, fun x H' y => ?_⟩
    obtain ⟨e1, e2⟩ := y
    subst e1 e2
    refine hs i _ hlt sm _ fun y H3 s3 r3 => ⟨ys, s3 _ _ hH, ?_, n - (i + 1), by omega, rfl, hlt, same_app' (sm.trans s3) hD, ys ++ [y], upd_same, by rw [List.length_append, hl]; rfl, fun z hz => ?_⟩
    · rw [hl]
      exact Nat.lt_of_lt_of_le hlt (Nat.le_trans hz (by decide))
    · have kt : Kt H3 (upd H3 D (.lst (ys ++ [y]))) := kt_upd (s3 _ _ hH)
      rcases List.mem_append.mp hz with hz | hz
      · exact up z _ _ ((kt_of s3).trans kt) (ar z hz)
      · rw [List.mem_singleton] at hz
        subst hz
        exact up _ _ _ kt r3
  · have e : i = n := by omega
    subst e
    exact .inl ⟨Nat.le_refl _, hq D _ ys sm hD hH hl ar⟩
theorem all2_ex {α β : Type} {R : α → β → Prop} {P : β → Prop} : ∀ {l : List α}, (∀ a ∈ l, ∃ b, R a b ∧ P b) → ∃ m, All2 R l m ∧ ∀ b ∈ m, P b
  | [], _ => ⟨[], .nil, fun _ h => absurd h (by simp)⟩
  | a :: l, h => by
    obtain ⟨b, h1, h2⟩ := h a (List.mem_cons_self ..)
    obtain ⟨m, h3, h4⟩ := all2_ex fun x hx => h x (List.mem_cons_of_mem _ hx)
    exact ⟨b :: m, .cons h1 h3, fun y hy => (List.mem_cons.mp hy).elim (fun e => e ▸ h2) (h4 y)⟩
end Lw
end
section
set_option Elab.async false
set_option linter.all false
set_option maxRecDepth 100000
set_option maxHeartbeats 4000000
namespace Lw
open PySem PySem.Spec PyProof.Rows L2
section
variable {X : Cx}
def dLSet (K : PySem.W.Frag) (te : TE) : TE := fun σ H Q => te σ H fun x H1 => match x with
  | .ref l => ∃ names : List Str, SqL K H1 l (names.map V.str) ∧ names.length ≤ 1000 ∧ Q (.int ((srt names).length : Nat)) H1
  | _ => False
theorem e_lset {e : Expr} {te : TE} {p p' pos pos' : Pos} (hg1 : Gl X "len") (hm1 : X.mg "len" = none) (hg2 : Gl X "set") (hm2 : X.mg "set" = none) (he : PE X e te) (hc : X.calm = true := by rfl)
    (hs : starEach [.Call (.Name "set" p') [e] [] pos'] X.env = [(false, eval (.Call (.Name "set" p') [e] [] pos') X.env)] := by rfl) (hs2 : starEach [e] X.env = [(false, eval e X.env)] := by rfl) :
    PE X (.Call (.Name "len" p) [.Call (.Name "set" p') [e] [] pos'] [] pos) (dLSet X.K te) := by
  intro pins s σ H Q I h
  refine wpAny_Call_Name_kw (ld_blt I hg1 hm1 (show bootBuiltins "len" = some (.builtin "len") by decide +kernel) ?_)
  refine PyProof.Rows.callWith_builtin1 ?_ hs rfl
  rw [hs]
  show wpAny _ _ (spliced ((false, eval (.Call (.Name "set" p') [e] [] pos') X.env) :: backTo pos (starEach [] X.env))) _ _ s
  refine Calls.spliced_cons ?_
  refine wpAny_Call_Name_kw (ld_blt I hg2 hm2 boot_set ?_)
  refine PyProof.Rows.callWith_type1 ?_ hs2 rfl
  rw [hs2]
  show wpAny _ _ (spliced ((false, eval e X.env) :: backTo pos' (starEach [] X.env))) _ _ s
  refine Calls.spliced_cons (thn (he pins s σ H _ I h) fun u s1 ⟨x, H1, I1, r1, q1⟩ => Calls.spliced_nil ?_)
  match x, q1 with
  | .ref l, ⟨names, hq, hn, q⟩ =>
    cases (show u = Value.ref l from r1)
    obtain ⟨its, rv, ⟨oL, nL, eL, cL, dL, xL⟩, hz⟩ := I1.list hq
    have sa : StrsAre its names := strs_of rv
    have hl : its.length = names.length := by rw [← rv.length, List.length_map]
    have hh : X.A.handled = none := I1.ok.hd hc
    refine call_setS hh ⟨oL, eL, cL, nL, xL⟩ sa (by rw [hl]; exact Nat.lt_of_le_of_lt (Nat.succ_le_succ hn) (by decide)) fun g tk hS keep => Calls.spliced_nil ?_
    obtain ⟨o, es, ep, t, ho, S⟩ := hS
    rw [hl] at S
    have ez : es.size = (srt names).length := by
      rw [S.size]
      have a := nd_len (ddn_nodup (fun i => names.getD i ⟨#[]⟩) names.length) fun x hx => mem_srt.mpr (ddn_mem.mp hx)
      have b := nd_len (inc_nodup (inc_srt names)) fun x hx => ddn_mem.mpr (mem_srt.mp hx)
      omega
    refine call_len_set ho S.ex S.dat S.fit ?_ ?_
    · have := S.bd
      have : scanBound < 2 ^ 62 := by decide
      omega
    · refine ⟨.int _, H1, I1.kept (t' := tk + 1 + 1) fun b o e => keep b o e, ⟨_, rfl⟩, ?_⟩
      rw [ez]
      exact q
end
end Lw
end
section
set_option Elab.async false
set_option linter.all false
set_option maxRecDepth 100000
set_option maxHeartbeats 4000000
set_option autoImplicit false
namespace Lw
open PySem PySem.Spec PyProof.Rows L2
structure HeldA (B : Heap) (l : List Env) (e : Addr) (cls a0 : Value) (h : Heap) : Prop where
  st : B.StaysIn h
  en : B.get? e = none
  fr : h.FunFrames B l
  tr : ∃ fl, h.TracedAtW B e cls a0 fl
section
variable {M : Model} {A : Around} {E : Value → Shared → Prop} {s : Shared} {B : Heap} {e : Addr} {cls a0 : Value} {env : Env} {outer : List Env} {Q : Unit → Shared → Prop}
theorem mark_set {h : Heap} {l : List Env} {T : Addr} {oT : Obj} {ts : Array Value} (v : Value) (hT : h.get? T = some oT) (hd : oT.data = .fields ts) (nT : B.get? T = none) (st : B.StaysIn h) (fr : h.FunFrames B l) :
    B.StaysIn (h.update T (Obj.mapFields (·.setIfInBounds 3 v))) ∧ (h.update T (Obj.mapFields (·.setIfInBounds 3 v))).FunFrames B l ∧ h.UpToSlots (h.update T (Obj.mapFields (·.setIfInBounds 3 v))) := by
  have other : ∀ b, b ≠ T → (h.update T (Obj.mapFields (·.setIfInBounds 3 v))).get? b = h.get? b := fun b hb => Heap.get?_update_other _ _ (Ne.symm hb)
  have nr : ∀ b o, h.get? b = some o → (∀ vs, o.data ≠ .fields vs) → b ≠ T := fun b o hb hnf q => by
    rw [q, hT] at hb
    cases hb
    exact hnf ts hd
  exact ⟨fun b o hbo => (other b fun q => by rw [q, nT] at hbo; cases hbo).trans (st b o hbo), fr.of_keeps fun b o hb hnf => ⟨o, (other b (nr b o hb hnf)).trans hb, rfl⟩, fun b o hb hnf => ⟨o.slots, (other b (nr b o hb hnf)).trans hb⟩⟩
theorem leave_any {L : Addr} (hfr : A.frames = some (env :: outer)) (hf : env.frame = some L) (x : HeldA B (env :: outer) e cls a0 s.heap)
    (k : ∀ h', Heap.FlyingW B outer e cls a0 h' → s.heap.UpToSlots h' → Q () { s with heap := h' }) : wpAny M A (leaving env (.ref e)) Q E s := by
  obtain ⟨st, en, fr, fl, tr⟩ := x
  by_cases q : fl = rawInt L
  · subst q
    unfold leaving
    refine wpAny_bind (wpAny_noteFrame_againW hf tr ?_)
    refine wpAny_landsW ⟨st, en, fr, tr⟩ fun h' hfl u => ?_
    obtain ⟨k1, k2, ⟨_, _, k3⟩, k4⟩ := hfl
    exact k h' ⟨k1, k2, k3, k4⟩ u
  · obtain ⟨oe, vs, T, oT, ts, he, ⟨hcls, h0⟩, hd, h1, hnT, hTe, hT, hdT, h3⟩ := tr
    subst hcls
    obtain ⟨m1, m2, m3⟩ := mark_set (l := env :: outer) .none hT hdT hnT st fr
    unfold leaving noteFrame
    simp only [hf]
    refine wpAny_bind (wpAny_bind (wpAny_field he hd h1 ?_))
    rw [if_pos (show (Value.ref T != Value.none) = true from by simp)]
    refine wpAny_bind (wpAny_field hT hdT h3 ?_)
    rw [if_neg (show ¬ ((fl == rawInt L) = true) from fun z => q (eq_of_beq z))]
    refine wpAny_bind (wpAny_setField hT hdT (Array.getElem?_eq_some_iff.mp h3).1 ?_)
    refine wpAny_newEntryW hfr m2 hf ((Heap.get?_update_other _ _ hTe).trans he) m1 en hd (Array.getElem?_eq_some_iff.mp h1).1 h0 fun h' ⟨x1, ⟨_, _, x2⟩, x3, x4⟩ => k h' ⟨x1, en, x2, x3⟩ (m3.trans x4)
theorem pass_any {what : String} {l : List Env} {Q' : Value → Shared → Prop} (x : HeldA B l e cls a0 s.heap) (cenv : Env)
    (k : ∀ h', HeldA B l e cls a0 h' → s.heap.UpToSlots h' → E (.ref e) { s with heap := h' }) : wpAny M A (PySem.passOn what (.ref e) cenv : Sem Value) Q' E s := by
  obtain ⟨st, en, fr, fl, oe, vs, T, oT, ts, he, hcls, hd, h1, hnT, hTe, hT, hdT, h3⟩ := x
  obtain ⟨m1, m2, m3⟩ := mark_set (l := l) (cenv.frame.elim Value.none fun f => rawInt f) hT hdT hnT st fr
  have sz : 3 < ts.size := (Array.getElem?_eq_some_iff.mp h3).1
  unfold PySem.passOn setFlight
  refine wpAny_bind (wpAny_field he hd h1 ?_)
  rw [if_neg (show ¬ ((Value.ref T == Value.none) = true) from by simp)]
  refine wpAny_bind (wpAny_bind (wpAny_field he hd h1 ?_))
  rw [if_pos (show (Value.ref T != Value.none) = true from by simp)]
  refine wpAny_setField hT hdT sz (wpAny_throw (k _ ⟨m1, en, m2, (cenv.frame.elim Value.none fun f => rawInt f), oe, vs, T, _, _, (Heap.get?_update_other _ _ hTe).trans he, hcls, hd, h1, hnT, hTe, Heap.get?_update_self _ hT (Obj.isFreed_of_fields (Obj.data_mapFields hdT _)), Obj.data_mapFields hdT _, ?_⟩ m3))
  rw [Array.getElem?_setIfInBounds_self_of_lt sz]
end
theorem frames_same {h h' B : Heap} {C : Addr} (sb : Heap.SameBut C h h') : ∀ {l : List Env}, (∀ env ∈ l, env.frame ≠ some C) → h.FunFrames B l → h'.FunFrames B l
  | [], _, _ => trivial
  | env :: l, ne, ⟨hk, ⟨L, o, hf, hn, ho, hd⟩, hr⟩ => ⟨hk, ⟨L, o, hf, hn, (sb.2 L fun z => ne env List.mem_cons_self (by rw [hf, z])).trans ho, hd⟩, frames_same sb (fun env he => ne env (List.mem_cons_of_mem _ he)) hr⟩
theorem held_same {h h' B : Heap} {l : List Env} {C e L : Addr} {cls a0 : Value} (sb : Heap.SameBut C h h') (ne : ∀ env ∈ l, env.frame ≠ some C) (eC : e ≠ C) (oC : ∃ o, B.get? C = some o) (x : Heap.HeldW B l e cls a0 L h) : HeldA (PySem.W.hideAll B [C]) l e cls a0 h' := by
  have k : (PySem.W.hideAll B [C]).StaysIn B := fun b o q => PySem.W.of_hideAll _ q
  have nC : ∀ b o, (PySem.W.hideAll B [C]).get? b = some o → b ≠ C := fun b o q z => by
    rw [z, PySem.W.hideAll_none _ (List.mem_cons_self ..)] at q
    cases q
  obtain ⟨f1, f2, f3, oe, vs, T, oT, ts, a1, a2, a3, a4, a5, a6, a7, a8, a9⟩ := x
  have hTC : T ≠ C := fun z => by
    obtain ⟨o, q⟩ := oC
    rw [z, q] at a5
    cases a5
  have y := PySem.W.heldW_base (h := h) k ⟨f1, f2, f3, oe, vs, T, oT, ts, a1, a2, a3, a4, a5, a6, a7, a8, a9⟩
  refine ⟨fun b o q => (sb.2 b (nC b o q)).trans (f1 b o (k b o q)), y.2.1, frames_same sb ne y.2.2.1, _, oe, vs, T, oT, ts, (sb.2 e eC).trans a1, a2, a3, a4, ?_, a6, (sb.2 T hTC).trans a7, a8, a9⟩
  cases q : (PySem.W.hideAll B [C]).get? T with
  | none => rfl
  | some o => rw [k T o q] at a5; cases a5
theorem note_eq {e : Value} {env env' : Env} (h : env.frame = env'.frame) : noteFrame e env = noteFrame e env' := by
  unfold noteFrame PySem.frameOf
  rw [h]
section
variable {X : Cx} {pins : List (Addr × Obj)} {σ : L2.St} {H H' : Hp} {s s' : Shared} {M : Model} {E : Value → Shared → Prop} {Q : Unit → Shared → Prop}
theorem fly_onA {a C : Addr} {cls a0 : Value} {d : Option Addr} {B h9 : Heap} {t9 : Nat} (D : DefCx X) (I : Inv X pins σ H s) (F : Fly X.prog X.w X.stack H s H' a cls d B a0 s') (hC : X.s₀.heap.objs.size ≤ C) (eC : ∃ o, s.heap.get? C = some o) (nC : H C = none)
    (U : ∀ b o, b ≠ C → s'.heap.get? b = some o → (∀ vs, o.data ≠ .fields vs) → ∃ sl, h9.get? b = some { o with slots := sl }) (hA : HeldA (PySem.W.hideAll B [C]) X.stack a cls a0 h9) (fC : C ∉ frs X.stack) (lC : C ≠ X.env.locals) (cC : ∀ x c, X.env.cells.lookup x = some c → c ≠ C) (pC : ∀ p ∈ X.pn ++ pins, p.1 ≠ C) (dct : DctAt a d h9)
    (k : ∀ s'' B' a0, Fly X.prog X.w X.outer X.H₀ X.s₀ H' a cls d B' a0 s'' → Q () s'') : wpAny M X.A (leaving X.env (.ref a)) Q E { s' with heap := h9, toks := t9 } := by
  have hfr : X.A.frames = some (X.env :: X.outer) := by rw [I.ok.frames, D.stk]
  have hex : ∀ b : Addr, b ∉ X.ex := fun b => by rw [D.ex]; simp
  have hA' := hA
  rw [D.stk] at hA'
  refine wpAny_mono (mild_any (s := { s' with heap := h9, toks := t9 }) mild_leaving dct (leave_any (s := { s' with heap := h9, toks := t9 }) (Q := fun _ s5 => ∃ h5, s5 = { s' with heap := h5, toks := t9 } ∧ Heap.FlyingW (PySem.W.hideAll B [C]) X.outer a cls a0 h5 ∧ h9.UpToSlots h5) hfr D.fr hA' fun h5 f5 u5 => ⟨h5, rfl, f5, u5⟩)) (fun _ s5 ⟨⟨h5, e5, f5, u5⟩, d5⟩ => ?_) fun _ _ z => z
  subst e5
  have nC' : H' C = none := by
    obtain ⟨o, e⟩ := eC
    exact F.un.free C o e nC (by simp)
  have hB : ∀ b o, B.get? b = some o → b ≠ C → h5.get? b = some o := fun b o q nb => f5.1 b o (PySem.W.hideAll_get _ q fun z => nb (List.mem_singleton.mp z))
  have s0C : ∀ b o, X.s₀.heap.get? b = some o → b ≠ C := fun b o e z => by
    have q := Heap.lt_size e
    rw [z] at q
    exact absurd hC (Nat.not_le.mpr q)
  have tC : ∀ b, H' b ≠ none → b ≠ C := fun b n z => n (z ▸ nC')
  have hok5 : HOk X.prog X.w H' h5 := fun b u e => (F.hok b u e).stay (fun c v hc q => by
    have nc : H' c ≠ none := by
      rcases hc with z | z
      · rw [z, e]; simp
      · rw [z]; simp
    exact hB c v (F.trk c v nc q) (tC c nc)) (fun _ q => q) fun _ _ q => q
  have sl : ∀ b o, s'.heap.get? b = some o → b ∈ frs X.stack → ∃ sl, h5.get? b = some { o with slots := sl } := fun b o e hb => by
    obtain ⟨_, o', e', nf⟩ := F.fly.2.2.1.mem hb
    rw [e] at e'
    cases e'
    obtain ⟨sl1, q1⟩ := U b o (fun z => fC (z ▸ hb)) e nf
    obtain ⟨sl2, q2⟩ := u5 b _ q1 nf
    exact ⟨sl2, q2⟩
  have un : Un (frs X.stack) [C] H H' s.heap h5 := by
    refine ⟨fun b o e n hb hc => hB b o (F.old b o e n hb) fun z => hc (List.mem_singleton.mpr z), fun b o e n hb _ => ?_, fun b o e n _ => F.un.free b o e n (by simp), fun b o e hc => ?_, F.un.tups, F.un.frzs, F.un.tbls⟩
    · obtain ⟨sl1, q1⟩ := F.un.slot b o e n hb (by simp)
      obtain ⟨sl2, q2⟩ := sl b _ q1 hb
      exact ⟨sl2, q2⟩
    · by_cases hb : b ∈ frs X.stack
      · obtain ⟨o2, q2⟩ := F.un.there b o e (by simp)
        obtain ⟨z, q3⟩ := sl b o2 q2 hb
        exact ⟨_, q3⟩
      · obtain ⟨o2, q2⟩ := F.any b o e hb
        exact ⟨o2, hB b o2 q2 fun z => hc (List.mem_singleton.mpr z)⟩
  have I5 : Inv X pins σ H' { s' with heap := h5, toks := t9 } := I.call' (s' := { s' with heap := h5, toks := t9 }) (ch := [C]) F.os un hok5 F.bare fun b hb => by
    rw [List.mem_singleton] at hb
    subst hb
    exact ⟨.inr hC, lC, cC, pC⟩
  refine k _ (PySem.W.hideAll B [C]) a0 ⟨I5.os, I5.bare, ?_, I5.hok, fresh_of D I F.fresh, F.free, f5, fun b o n e => ?_, fun b o e n hb => ?_, fun b o e hb => ?_, d5⟩
  · have u := I5.base
    rw [D.ex] at u
    exact u
  · cases q : H' b with
    | none => exact absurd q n
    | some u =>
      obtain ⟨o1, e1⟩ := obj_some (F.hok b u q)
      have e2 := F.trk b o1 n e1
      have e3 := hB b o1 e2 (tC b n)
      have e' : h5.get? b = some o := e
      rw [e'] at e3
      cases e3
      exact PySem.W.hideAll_get _ e2 fun z => tC b n (List.mem_singleton.mp z)
  · exact PySem.W.hideAll_get _ (F.old b o (I.base.keep b o e n hb (hex b)) (I.base.free b o e n (hex b)) (not_stk I e hb)) fun z => s0C b o e (List.mem_singleton.mp z)
  · obtain ⟨o1, e1⟩ := I.base.there b o e (hex b)
    obtain ⟨o2, e2⟩ := F.any b o1 e1 (not_stk I e hb)
    exact ⟨o2, PySem.W.hideAll_get _ e2 fun z => s0C b o e (List.mem_singleton.mp z)⟩
end
theorem mild_exc {α : Type} {M : Model} {A : Around} {e : Addr} {d : Option Addr} {t : Sem α} {Q : α → Shared → Prop} {E : Value → Shared → Prop} {s : Shared} (m : Mild t) (D : DctAt e d s.heap) (h : wpAny M A t Q E s) :
    wpAny M A t Q (fun v s' => E v s' ∧ DctAt e d s'.heap) s := fun Γ p hΓ =>
  Sem.wp_mono M Γ t (fun _ _ _ x => x.1) (fun _ _ _ x => x) p s (mild_wp m (h Γ p hΓ) D)
theorem mild_pass {what : String} {e : Value} {env : Env} : Mild (PySem.passOn what e env : Sem Value) := by
  unfold PySem.passOn
  refine mild_bind mild_field fun v => ?_
  split
  · exact mild_bind mild_uns fun _ => mild_bind mild_setFlight fun _ => trivial
  · exact mild_bind mild_setFlight fun _ => trivial
def PassA (X : Cx) (E : XK) : Prop := ∀ {pins : List (Addr × Obj)} {σ : L2.St} {H H' : Hp} {s s' : Shared} {a C : Addr} {cls a0 : Value} {d : Option Addr} {B h9 : Heap} {t9 : Nat}, Inv X pins σ H s → Fly X.prog X.w X.stack H s H' a cls d B a0 s' → X.s₀.heap.objs.size ≤ C → (∃ o, s.heap.get? C = some o) → H C = none →
  (∀ b o, b ≠ C → s'.heap.get? b = some o → (∀ vs, o.data ≠ .fields vs) → ∃ sl, h9.get? b = some { o with slots := sl }) → HeldA (PySem.W.hideAll B [C]) X.stack a cls a0 h9 → C ∉ frs X.stack → C ≠ X.env.locals → (∀ x c, X.env.cells.lookup x = some c → c ≠ C) → (∀ p ∈ X.pn ++ pins, p.1 ≠ C) → DctAt a d h9 → E cls d H' → X.xe (.ref a) { s' with heap := h9, toks := t9 }
section
variable {P : Program} {w : World} {K : PySem.W.Frag} {mg : Str → Option Value} {base : Heap} {N : List Str} {qual : Str} {scope : Scope} {f : Addr} {cd : Value} {A : Around} {outer : List Env} {s₀ : Shared} {H₀ : Hp} {E : XK}
theorem passA : PassA (cxOf (CXE P w) P w K mg base N qual scope f cd A outer s₀ H₀ E) E := by
  intro pins σ H H' s s' a C cls a0 d B h9 t9 I F h1 h2 h3 h4 h5 h6 h7 h8 hp hd q
  exact fly_onA (X := cxOf (CXE P w) P w K mg base N qual scope f cd A outer s₀ H₀ E) ⟨rfl, rfl, rfl⟩ I F h1 h2 h3 h4 h5 h6 h7 h8 hp hd fun s'' B' a0' F' => ⟨a, cls, d, H', B', a0', rfl, F', q⟩
end
section
variable {X : Cx} {pins : List (Addr × Obj)} {σ : L2.St} {H : Hp} {s s' : Shared} {E : XK}
theorem blk_err {C : Addr} {m : Str → Option Value} {e acc : Value} {scope : Scope} {cl : List (Str × Addr)} {use : Option (Value → Sem Unit)} {Qv : Value → Shared → Prop} (D : DefCx X) (pa : PassA X E) (I : Inv X pins σ H s) (h : CXE X.prog X.w X.stack H s E e s') (n : s.heap.Ns C m) (nC : H C = none) (hC : X.s₀.heap.objs.size ≤ C)
    (fC : C ∉ frs X.stack) (lC : C ≠ X.env.locals) (cC : ∀ x c, X.env.cells.lookup x = some c → c ≠ C) (pC : ∀ p ∈ X.pn ++ pins, p.1 ≠ C) :
    notedBy (model X.prog X.w) X.A (compEnvC scope cl C X.env) (fun x s2 => compPost (model X.prog X.w) X.A X.xe use Qv acc C (.error x) s2) e s' := by
  obtain ⟨a, cls, d, H', B, a0, rfl, F, q⟩ := h
  unfold notedBy
  rw [note_eq (show (compEnvC scope cl C X.env).frame = X.env.frame from rfl)]
  have hfr : X.A.frames = some (X.env :: X.outer) := by rw [I.ok.frames, D.stk]
  have hfl := F.fly
  rw [D.stk] at hfl
  refine wpAny_mono (mild_any mild_note F.dct (wpAny_looks_onW (Q := fun _ s4 => ∃ h4, s4 = { s' with heap := h4 } ∧ Heap.HeldW B (X.env :: X.outer) a cls a0 X.env.locals h4 ∧ s'.heap.UpToSlots h4) hfr D.fr hfl fun h4 held u4 => ⟨h4, rfl, held, u4⟩)) (fun _ s4 ⟨⟨h4, e4, held, u4⟩, d4⟩ => ?_) fun _ _ z => z
  subst e4
  obtain ⟨o, es, ep, eC, nn⟩ := n
  have bC : B.get? C = some o := F.old C o eC nC fC
  have aC : a ≠ C := fun z => by
    have := F.fresh
    rw [z, eC] at this
    cases this
  refine ⟨m, ⟨o, es, ep, held.1 C o bC, nn⟩, fun h' sb cenv _ => ?_⟩
  have d5 : DctAt a d ({ s' with heap := h' } : Shared).heap := by
    obtain ⟨oa, q1, q2⟩ := d4
    exact ⟨oa, (sb.2 a aC).trans q1, q2⟩
  have hA := held_same sb (fun env he z => fC (by rw [D.stk]; exact List.mem_filterMap.mpr ⟨env, he, z⟩)) aC ⟨o, bC⟩ held
  refine wpAny_mono (mild_exc mild_pass d5 (pass_any (s := { s' with heap := h' }) (E := fun v s9 => ∃ h9, v = .ref a ∧ s9 = { s' with heap := h9 } ∧ HeldA (PySem.W.hideAll B [C]) (X.env :: X.outer) a cls a0 h9 ∧ h'.UpToSlots h9) (Q' := fun _ _ => False) hA cenv fun h9 hA9 u9 => ⟨h9, rfl, rfl, hA9, u9⟩)) (fun _ _ z => z) fun v s9 ⟨⟨h9, ev, e9, hA9, u9⟩, d9⟩ => ?_
  subst ev e9
  refine pa I F hC ⟨o, eC⟩ nC (fun b ob nb eb nf => ?_) (by rw [D.stk]; exact hA9) fC lC cC pC d9 q
  obtain ⟨sl1, q1⟩ := u4 b ob eb nf
  obtain ⟨sl2, q2⟩ := u9 b _ ((sb.2 b nb).trans q1) nf
  exact ⟨sl2, q2⟩
end
section
variable {prog : Program} {w : World} {A : Around} {R : Result → Shared → Prop} {s : Shared}
theorem loop_compX {elt tg iter : Expr} {scope : Scope} {pos : Pos} {it acc : Value} {env : Env} (I : Nat → Shared → Prop)
    (turn : ∀ n s, I n s → wpAny (model prog w) A (pyNext it) (fun r s1 => (r = none ∧ R (.ok .next) s1) ∨ ∃ v, r = some v ∧ wpAny (model prog w) A (letOwnedTupleGo tg it v) (fun _ s2 => wpAny (model prog w) A (assign tg env v) (fun _ s3 =>
      wpAny (model prog w) A (eval elt env) (fun x s4 => wpAny (model prog w) A (call (.builtin "list.append") [acc, x]) (fun _ s5 => ∃ m, m < n ∧ I m s5) (fun _ _ => False) s4) (notedBy (model prog w) A env fun x s' => R (.error x) s') s3) (fun _ _ => False) s2) (fun _ _ => False) s1) (fun _ _ => False) s)
    (n : Nat) (h : I n s) : codeAny (model prog w) A (.compLoop (.ListComp elt [⟨tg, iter, [], 0⟩] scope pos) 0 it acc env) R s := by
  refine codeAny_loop rfl I (fun n s hI => ?_) n h
  show wpAny _ _ ((compTurn (.ListComp elt [⟨tg, iter, [], 0⟩] scope pos) 0 it acc env).onRaise (fun x => do noteFrame x env; theTreesLotGoes x)) _ _ s
  refine wpAny_noted ?_
  rw [turn_eq]
  refine wpAny_bind (wpAny_standAt (wpAny_bind (wpAny_mono (turn n s hI) (fun r s1 h1 => ?_) fun _ _ z => z.elim)))
  rcases h1 with ⟨rfl, h1⟩ | ⟨v, rfl, h1⟩
  · exact wpAny_pure h1
  · refine wpAny_bind (wpAny_mono h1 (fun _ s2 h2 => ?_) fun _ _ z => z.elim)
    refine wpAny_bind (wpAny_mono h2 (fun _ s3 h3 => ?_) fun _ _ z => z.elim)
    refine wpAny_bind (wpAny_bind (wpAny_mono h3 (fun x s4 h4 => ?_) fun _ _ z => z))
    refine wpAny_bind (wpAny_mono h4 (fun _ s5 h5 => ?_) fun _ _ z => z.elim)
    exact wpAny_pure (wpAny_pure ⟨rfl, h5⟩)
end
abbrev cxCX (X : Cx) (N : List Str) (s₀ : Shared) (H₀ : Hp) (env : Env) (fp : List Addr) (E : XK) : Cx :=
  { cxC X N s₀ H₀ env fp with xe := fun e s' => ∃ p1 σ1 H1 s1, Inv (cxC X N s₀ H₀ env fp) p1 σ1 H1 s1 ∧ CXE X.prog X.w X.stack H1 s1 E e s' }
section
variable {X : Cx} {N : List Str} {s₀ : Shared} {H₀ : Hp} {env : Env} {fp : List Addr} {E : XK}
theorem inv_cx {pins : List (Addr × Obj)} {σ : L2.St} {H : Hp} {s : Shared} (I : Inv (cxC X N s₀ H₀ env fp) pins σ H s) : Inv (cxCX X N s₀ H₀ env fp E) pins σ H s :=
  ⟨⟨I.ok.mod, I.ok.kind, I.ok.glob, I.ok.blt, I.ok.above, I.ok.inj, I.ok.has, I.ok.cab, I.ok.hd, I.ok.frames, I.ok.stk, I.ok.exf, I.ok.bs, I.ok.bsz, I.ok.noex, I.ok.exfs, I.ok.funs, I.ok.frf⟩, I.os, I.bare, I.base, I.loc, I.cell, I.free, I.freeC, I.pin, I.hok, I.len⟩
theorem inv_xc {pins : List (Addr × Obj)} {σ : L2.St} {H : Hp} {s : Shared} (I : Inv (cxCX X N s₀ H₀ env fp E) pins σ H s) : Inv (cxC X N s₀ H₀ env fp) pins σ H s :=
  ⟨⟨I.ok.mod, I.ok.kind, I.ok.glob, I.ok.blt, I.ok.above, I.ok.inj, I.ok.has, I.ok.cab, I.ok.hd, I.ok.frames, I.ok.stk, I.ok.exf, I.ok.bs, I.ok.bsz, I.ok.noex, I.ok.exfs, I.ok.funs, I.ok.frf⟩, I.os, I.bare, I.base, I.loc, I.cell, I.free, I.freeC, I.pin, I.hok, I.len⟩
end
section
variable {X : Cx} {E : XK}
theorem comp_coreX {elt iter tg : Expr} {scope : Scope} {pos : Pos} {wi : TI} {te : TE} {g : TG} {N : List Str} {cl : List (Str × Addr)} (k : Nat) (js : List Nat) (hi : PI X tg iter wi)
    (hg : ∀ C s H fp, PG (cxC X N s H (compEnvC scope cl C X.env) fp) tg g) (he : ∀ C s H fp, PE (cxCX X N s H (compEnvC scope cl C X.env) fp E) elt te) (dx : DefCx X) (pa : PassA X E) (hcalm : X.calm = true)
    (hclos : closureFor scope X.env = pure cl) (hkind : scope.kind = .function) (hcell : ∀ y ∈ scope.names, y.2 ≠ .cell) (hnames : ∀ y ∈ scope.names, y.2 = .local → scope.names.lookup y.1 = some .local)
    (hcl : ∀ y c, cl.lookup y = some c → X.env.cells.lookup y = some c) (hhas : ∀ y, ((relabel scope X.env).names.lookup y = some .cell ∨ (relabel scope X.env).names.lookup y = some .free) → ∃ c, cl.lookup y = some c)
    (hlen : N.length = k + js.length) (hcap : ∀ i j, js[i]? = some j → ∃ y, N[k + i]? = some y ∧ Cap X (relabel scope X.env) cl j y)
    (hs : ∀ x, foldedSetIterable iter X.env x = pure x) {pins : List (Addr × Obj)} {s : Shared} {σ : L2.St} {H : Hp} {Q : VK} (I : Inv X pins σ H s) (h : dComp wi g te k js σ H Q) {cpos : Pos} {use : Option (Value → Sem Unit)} {Qv : Value → Shared → Prop}
    (fin : ∀ (s6 : Shared) (H5 : Hp) (D C : Addr) (m : Str → Option Value), Inv X pins σ H5 s6 → s6.heap.Ns C m → H5 C = none → X.s₀.heap.objs.size ≤ C → C ≠ X.env.locals → (∀ x c, X.env.cells.lookup x = some c → c ≠ C) → (∀ p ∈ X.pn ++ pins, p.1 ≠ C) → Q (.ref D) H5 →
      compPost (model X.prog X.w) X.A X.xe use Qv (.ref D) C (.ok .next) s6) :
    wpAny (model X.prog X.w) X.A (comprehension (.ListComp elt [⟨tg, iter, [], 0⟩] scope pos) scope X.env cpos (newList []) false (eval iter X.env) use) Qv X.xe s := by
  refine wpAny_comprehension_free (use := use) rfl hs hclos hkind hnames (thn (hi pins s σ H _ I h) fun v s1 h1 => thn h1 fun itv s2 h2 => ?_)
  obtain ⟨it, fp, tn, J, H2, rfl, I2, T, st2, f2, h2⟩ := h2
  refine wpAny_newObj_type ?_
  have hD : H2 s2.heap.objs.size = none := I2.hok.fresh (Nat.le_refl _)
  unfold CGoal at h2
  obtain ⟨W, ⟨m0, w0⟩, turn⟩ := h2 _ hD
  have I3 : Inv X pins σ (upd H2 s2.heap.objs.size (.lst [])) { s2 with heap := s2.heap.push { cls := .type "list", dict := none, data := .seq ([] : List Value).toArray } } :=
    I2.laid (t' := s2.toks) (fun b u e => Heap.get?_push_of_some _ e) (Nat.le_refl _) ⟨Nat.zero_le _, [], 0, .nil, Heap.get?_push_size _ rfl⟩
  have hlt : ∀ b ∈ fp, b < s2.heap.objs.size := fun b hb => by
    obtain ⟨o, e, _⟩ := T.obj _ _ st2 b hb
    exact Heap.lt_size e
  have f3 : ∀ b ∈ fp, FpOk X pins (upd H2 s2.heap.objs.size (.lst [])) b := fun b hb => ⟨by rw [upd_ne (Nat.ne_of_lt (hlt b hb))]; exact (f2 b hb).1, (f2 b hb).2⟩
  have st3 : tn 0 (s2.heap.push { cls := .type "list", dict := none, data := .seq ([] : List Value).toArray }) := T.keep _ _ _ st2 fun b hb o e => Heap.get?_push_of_some _ e
  have hlt3 : ∀ b ∈ fp, b < (s2.heap.push { cls := .type "list", dict := none, data := .seq ([] : List Value).toArray }).objs.size := fun b hb => Nat.lt_of_lt_of_le (hlt b hb) (by rw [Heap.size_push]; exact Nat.le_succ _)
  generalize hs3 : ({ s2 with heap := s2.heap.push { cls := .type "list", dict := none, data := .seq ([] : List Value).toArray } } : Shared) = s3 at I3
  have eh : s3.heap = s2.heap.push { cls := .type "list", dict := none, data := .seq ([] : List Value).toArray } := by rw [← hs3]
  rw [← eh] at st3 hlt3
  generalize hDD : s2.heap.objs.size = D at *
  generalize hH3 : upd H2 D (.lst []) = H3 at *
  clear hs3 eh
  refine wpAny_newFunctionEnv (s := s3) hcell (by intro y hy; simp at hy) (fun h4 n4 sb4 => ?_) hkind
  have Ok := comp_ok (N := N) (C := s3.heap.objs.size) I3 hkind (Nat.le_refl _) hcl hhas fun b hb => ⟨f3 b hb, hlt3 b hb⟩
  show codeAny _ _ (.compStart (.ListComp elt [⟨tg, iter, [], 0⟩] scope pos) 0 (.ref it) (.ref D) (compEnvC scope cl s3.heap.objs.size X.env)) _ _
  generalize hC : s3.heap.objs.size = C at *
  have old : ∀ b o, s3.heap.get? b = some o → h4.get? b = some o := fun b o e => sb4.extBut b o (by rw [← hC]; exact Nat.ne_of_lt (Heap.lt_size e)) (Heap.get?_push_of_some _ e)
  have fresh : H3 C = none := I3.hok.fresh (by rw [hC]; exact Nat.le_refl _)
  have hcapl : ∀ {i : Nat} {x : Str} {v : V}, N[i]? = some x → (List.replicate k none ++ capσ js σ)[i]? = some (some v) → ∃ u, L2.RelV v u ∧ Look (compEnvC scope cl C X.env) h4 (fun _ => none) x u := by
    intro i x v e1 e2
    by_cases hik : i < k
    · rw [List.getElem?_append_left (by simpa using hik)] at e2
      rw [List.getElem?_replicate] at e2
      simp [hik] at e2
    · rw [List.getElem?_append_right (by simpa using Nat.le_of_not_lt hik), List.length_replicate] at e2
      unfold capσ at e2
      rw [List.getElem?_map] at e2
      cases ej : js[i - k]? with
      | none =>
        rw [ej] at e2
        cases e2
      | some j =>
        rw [ej] at e2
        have e2 : (σ[j]?).join = some v := Option.some.inj e2
        obtain ⟨y, hy, cp⟩ := hcap _ _ ej
        rw [show k + (i - k) = i by omega, e1] at hy
        cases hy
        obtain ⟨m, _, hl⟩ := I3.loc
        have e3 : σ[j]? = some (some v) := by
          cases q : σ[j]? with
          | none =>
            rw [q] at e2
            cases e2
          | some o =>
            rw [q] at e2
            have : o = some v := e2
            rw [this]
        obtain ⟨u, ru, lk⟩ := hl j x v cp.nm e3 (.inr (.inl cp.ko))
        refine ⟨u, ru, ?_⟩
        rcases lk with ⟨z, _⟩ | ⟨_, c, hc, z⟩
        · rw [cp.ko] at z
          cases z
        · refine .inr ⟨.inl cp.ki, c, by rw [← hc]; exact cp.cl, ?_⟩
          obtain ⟨o, e, d⟩ := z
          exact ⟨o, old _ _ e, d⟩
  have I4 : Inv (cxC X N s3 H3 (compEnvC scope cl C X.env) fp) [] (List.replicate k none ++ capσ js σ) H3 { s3 with heap := h4, toks := s3.toks + ([] : List (Str × Value)).length } := by
    refine ⟨Ok, rfl, I3.bare, Un.kept old, ⟨_, n4, fun i x v e1 e2 e3 => ?_⟩, fun x c e => ?_, fresh, fun x c e => I3.freeC x c (hcl x c e), fun p hp => absurd hp (by simp), I3.hok.kept old, ?_⟩
    · obtain ⟨u, ru, lk⟩ := hcapl e1 e2
      refine ⟨u, ru, ?_⟩
      rcases lk with ⟨z, q⟩ | q
      · cases q
      · exact .inr q
    · obtain ⟨v, o, e1, d⟩ := I3.cell x c (hcl x c e)
      exact ⟨v, o, old _ _ e1, d⟩
    · simp [capσ, hlen]
  have fp4 : ∀ {H' : Hp}, (∀ b ∈ fp, H' b = none) → ∀ b ∈ fp, FpOk (cxC X N s3 H3 (compEnvC scope cl C X.env) fp) [] H' b := fun hn b hb =>
    ⟨hn b hb, (Ok.exf b hb).1, Ok.exfs b hb, .inl hb, fun x c e => (Ok.exf b hb).2 x c e, fun p hp => absurd hp (by simp)⟩
  have st4 : tn 0 h4 := T.keep _ _ _ st3 fun b hb o e => old b o e
  have run : ∀ s4 : Shared, s4 = { s3 with heap := h4, toks := s3.toks + ([] : List (Str × Value)).length } →
      codeAny (model X.prog X.w) X.A (.compLoop (.ListComp elt [⟨tg, iter, [], 0⟩] scope pos) 0 (.ref it) (.ref D) (compEnvC scope cl C X.env)) (compPost (model X.prog X.w) X.A X.xe use Qv (.ref D) C) s4 := by
    rintro s4 rfl
    refine loop_compX (fun n s' => ∃ i H' σ', Inv (cxC X N s3 H3 (compEnvC scope cl C X.env) fp) [] σ' H' s' ∧ (∀ j : Nat, ∀ v, (List.replicate k none ++ capσ js σ)[j]? = some (some v) → σ'[j]? = some (some v)) ∧ tn i s'.heap ∧ (∀ b ∈ fp, H' b = none) ∧ W i n H') ?_ m0
      ⟨0, H3, _, I4, fun _ _ z => z, st4, fun b hb => (f3 b hb).1, w0⟩
    have lt3 : ∀ b o, s3.heap.get? b = some o → b ≠ C := fun b o e => by rw [← hC]; exact Nat.ne_of_lt (Heap.lt_size e)
    have err9 : ∀ ev s9, (cxCX X N s3 H3 (compEnvC scope cl C X.env) fp E).xe ev s9 → notedBy (model X.prog X.w) X.A (compEnvC scope cl C X.env) (fun x s' => compPost (model X.prog X.w) X.A X.xe use Qv (.ref D) C (.error x) s') ev s9 := by
      rintro ev s9 ⟨p1, σ1, H1, s1, J1, h1⟩
      obtain ⟨m1, n1, _⟩ := J1.loc
      have u1 := J1.base
      have uC : Un (frs X.stack) fp H3 H1 s3.heap s1.heap := ⟨u1.keep, u1.slot, u1.free, u1.there, u1.tups, u1.frzs, u1.tbls⟩
      have I1 : Inv X pins σ H1 s1 := I3.call' (s' := s1) J1.os uC J1.hok J1.bare fun b hb => ⟨(f3 b hb).2.2.2.1, (f3 b hb).2.1, (f3 b hb).2.2.2.2.1, (f3 b hb).2.2.2.2.2⟩
      refine blk_err dx pa I1 h1 n1 J1.free (by rw [← hC]; exact I3.sz) (fun z => ?_) (by rw [← hC]; exact Nat.ne_of_gt I3.lt) (fun x c e => ?_) (fun p hp => lt3 p.1 p.2 (I3.pin p hp).1)
      · obtain ⟨_, o, e, _⟩ := I3.stack.mem z
        exact lt3 C o e rfl
      · obtain ⟨v, o, e1, _⟩ := I3.cell x c e
        exact lt3 c o e1
    rintro n s5 ⟨i, H5, σ5, I5, cap5, st5, fr5, w5⟩
    have I5' := I5.weak (σ' := List.replicate k none ++ capσ js σ) (by rw [I5.len]; simp [capσ, hlen]) cap5
    rcases turn i n H5 w5 with ⟨stop, q⟩ | ⟨go, step⟩
    · refine thn (T.done (cxC X N s3 H3 (compEnvC scope cl C X.env) fp) rfl rfl rfl hcalm i [] s5 σ5 H5 _ I5 (fp4 fr5) st5 stop) fun r s6 ⟨hr, I6⟩ => .inl ⟨hr, ?_⟩
      obtain ⟨m6, n6, _⟩ := I6.loc
      have hCf : H5 C = none := I6.free
      have u6 := I6.base
      have uC : Un (frs X.stack) fp H3 H5 s3.heap s6.heap := ⟨u6.keep, u6.slot, u6.free, u6.there, u6.tups, u6.frzs, u6.tbls⟩
      have I7 : Inv X pins σ H5 s6 := I3.call' (s' := s6) I6.os uC I6.hok I6.bare fun b hb => ⟨(f3 b hb).2.2.2.1, (f3 b hb).2.1, (f3 b hb).2.2.2.2.1, (f3 b hb).2.2.2.2.2⟩
      have lt3 : ∀ b o, s3.heap.get? b = some o → b ≠ C := fun b o e => by rw [← hC]; exact Nat.ne_of_lt (Heap.lt_size e)
      refine fin s6 H5 D C m6 I7 n6 hCf (by rw [← hC]; exact I3.sz) (by rw [← hC]; exact Nat.ne_of_gt I3.lt) (fun x c e => ?_) (fun p hp => lt3 p.1 p.2 (I3.pin p hp).1) q
      obtain ⟨v, o, e1, _⟩ := I3.cell x c e
      exact lt3 c o e1
    · refine thn (T.item (cxC X N s3 H3 (compEnvC scope cl C X.env) fp) rfl rfl rfl hcalm i [] s5 _ H5 _ I5' (fp4 fr5) st5 go) fun r s6 ⟨u, hr, h6⟩ => .inr ⟨u, hr, ?_⟩
      refine thn h6 fun _ s7 ⟨x, H7, I7, r7, y7, st7, fr7⟩ => ?_
      have I7' := I7.pinned (fp4 fr7) (T.obj _ _ st7)
      refine thn (hg C s3 H3 fp _ s7 _ H7 x u _ I7' r7 (step x H7 y7)) fun _ s8 ⟨σ8, H8, I8, d8, q8⟩ => ?_
      refine wpAny_mono (he C s3 H3 fp _ s8 σ8 H8 _ (inv_cx I8) q8) (fun vv s9 ⟨vx, H9, I9, r9, xs, hx9, hz9, m', hm', w9⟩ => ?_) (fun ev s9 z9 => ?_)
      rotate_left
      · exact err9 ev s9 z9
      have I9 := inv_xc I9
      obtain ⟨z9, its, n9, rl, e9⟩ := (show ObjOk X.prog X.w H9 s9.heap D (.lst xs) from I9.hok D _ hx9)
      have app := mt_append (X := cxC X N s3 H3 (compEnvC scope cl C X.env) fp) _ s9 σ8 H9 (.ref D) [vx] (.ref D) [vv] (fun _ H' => H' = upd H9 D (.lst (xs ++ [vx]))) I9 rfl (.cons r9 .nil) ⟨D, xs, vx, rfl, rfl, hx9, hz9, rfl⟩
      refine thn app fun _ s10 ⟨_, H10, I10, _, e10⟩ => ?_
      subst e10
      refine ⟨m', hm', i + 1, _, σ8, I10.unpinned (pins := []), ?_, T.keep _ _ _ st7 fun b hb o e => (I10.pin (b, o) (List.mem_append_right _ (List.mem_append_right _ (mem_pinsAt hb e)))).1, fun b hb => ?_, w9⟩
      · intro j v e
        by_cases hjk : j < k
        · rw [List.getElem?_append_left (by simpa using hjk), List.getElem?_replicate] at e
          simp [hjk] at e
        · rw [List.getElem?_append_right (by simpa using Nat.le_of_not_lt hjk), List.length_replicate, ← d8, List.getElem?_drop] at e
          rw [show k + (j - k) = j by omega] at e
          exact e
      · obtain ⟨o, e, d⟩ := T.obj _ _ st7 b hb
        exact (I10.pin (b, o) (List.mem_append_right _ (List.mem_append_right _ (mem_pinsAt hb e)))).2.1
  exact codeAny_compStart_list (run _ rfl) (T.self X.A 0 _ _ _ st4 (run _ rfl))
theorem ps_comp0X {elt iter tg : Expr} {scope : Scope} {pos py spos : Pos} {i : Nat} {y : Str} {wi : TI} {te : TE} {g : TG} {N : List Str} {cl : List (Str × Addr)} (k : Nat) (js : List Nat) (hi : PI X tg iter wi)
    (hg : ∀ C s H fp, PG (cxC X N s H (compEnvC scope cl C X.env) fp) tg g) (he : ∀ C s H fp, PE (cxCX X N s H (compEnvC scope cl C X.env) fp E) elt te) (dx : DefCx X) (pa : PassA X E) (hcalm : X.calm = true)
    (hclos : closureFor scope X.env = pure cl) (hkind : scope.kind = .function) (hcell : ∀ y ∈ scope.names, y.2 ≠ .cell) (hnames : ∀ y ∈ scope.names, y.2 = .local → scope.names.lookup y.1 = some .local)
    (hcl : ∀ y c, cl.lookup y = some c → X.env.cells.lookup y = some c) (hhas : ∀ y, ((relabel scope X.env).names.lookup y = some .cell ∨ (relabel scope X.env).names.lookup y = some .free) → ∃ c, cl.lookup y = some c)
    (hlen : N.length = k + js.length) (hcap : ∀ i j, js[i]? = some j → ∃ y, N[k + i]? = some y ∧ Cap X (relabel scope X.env) cl j y)
    (hs : ∀ x, foldedSetIterable iter X.env x = pure x) (hN : X.N.Nodup) (hi' : X.N[i]? = some y) (hy : X.env.scope.names.lookup y = some .local) (hsw : swapsWith (.ListComp elt [⟨tg, iter, [], 0⟩] scope pos) (some (.Name y py)) spos.line X.env = pure true) :
    PS X (.Assign [.Name y py] (.ListComp elt [⟨tg, iter, [], 0⟩] scope pos) spos) (tAsg (dComp wi g te k js) (gName i)) := by
  intro pins s σ H D I h
  rw [exec_Assign_Name_used _ _ _ _ hsw]
  refine wpAny_bind (wpAny_standAt (wpAny_bind ?_))
  show wpAny _ X.A (do let _ ← comprehension (.ListComp elt [⟨tg, iter, [], 0⟩] scope pos) scope X.env _ (newList []) false (eval iter X.env) (some (assign (.Name y py) X.env))) _ _ s
  refine wpAny_bind (wpAny_mono (comp_coreX k js hi hg he dx pa hcalm hclos hkind hcell hnames hcl hhas hlen hcap hs (use := some (assign (.Name y py) X.env)) (Qv := fun _ s' => SP X pins D .next s') I h fun s6 H5 D' C m I6 n6 z1 z2 z3 z4 z5 q => ?_)
    (fun _ s' hq => wpAny_pure (wpAny_pure hq)) fun _ _ e => e)
  show wpAny _ X.A (assign (.Name y py) X.env (.ref D')) _ _ _
  refine wpAny_assign_Name (store_ok2 I6 hN hi' (.inl hy) (v := .ref D') rfl (fun s8 I8 ⟨a, sb, ha⟩ => ?_) (.inr hy))
  have na : C ≠ a := by
    rcases ha with rfl | ha
    · exact z3
    · exact Ne.symm (z4 _ _ ha)
  exact ⟨m, n6.sameBut sb na, fun h9 sb9 => ⟨_, H5, I8.turned (t' := s8.toks) (fun b o hb e => (sb9.2 b hb).trans e) z1 z3 (.inr z2) z4 z5, q⟩⟩
theorem ps_compNX {elt iter tg : Expr} {scope : Scope} {pos py spos : Pos} {i : Nat} {y : Str} {wi : TI} {te : TE} {g : TG} {cl : List (Str × Addr)} (own ys : List Str) (js : List Nat) (hclos : closureFor scope X.env = pure cl) (hi : PI X tg iter wi)
    (hg : ∀ C s H fp, PG (cxC X (own ++ ys) s H (compEnvC scope cl C X.env) fp) tg g) (he : ∀ C s H fp, PE (cxCX X (own ++ ys) s H (compEnvC scope cl C X.env) fp E) elt te) (dx : DefCx X) (pa : PassA X E) (hcalm : X.calm = true) (hkind : scope.kind = .function)
    (hcell : (scope.names.all fun y => y.2 != .cell) = true) (hnames : (scope.names.all fun y => y.2 != .local || scope.names.lookup y.1 == some .local) = true) (hfr : (scope.names.all fun y => y.2 != .free || (cl.map (·.1)).contains y.1) = true)
    (hcl : CellL X.env.cells cl) (hcap : CapL X (relabel scope X.env) cl ys js) (hN : X.N.Nodup) (hi' : X.N[i]? = some y) (hy : X.env.scope.names.lookup y = some .local) (hs : ∀ x, foldedSetIterable iter X.env x = pure x := by intro _; rfl) (hsw : swapsWith (.ListComp elt [⟨tg, iter, [], 0⟩] scope pos) (some (.Name y py)) spos.line X.env = pure true := by rfl) :
    PS X (.Assign [.Name y py] (.ListComp elt [⟨tg, iter, [], 0⟩] scope pos) spos) (tAsg (dComp wi g te own.length js) (gName i)) := by
  rw [List.all_eq_true] at hcell hnames hfr
  have hc : ∀ y ∈ scope.names, y.2 ≠ .cell := fun y hy z => by
    have := hcell y hy
    rw [z] at this
    cases this
  refine ps_comp0X own.length js hi hg he dx pa hcalm hclos hkind hc (fun y hy z => ?_) hcl.at (fun y h => ?_) (by rw [List.length_append, hcap.len]) (fun i j e => ?_) hs hN hi' hy hsw
  · have := hnames y hy
    rw [z] at this
    simpa using this
  · obtain ⟨z, hz, rfl, hk⟩ : ∃ z ∈ scope.names, z.1 = y ∧ (z.2 = .free ∨ z.2 = .cell) := by
      rcases h with h | h
      · exact relabel_has h (.inl rfl)
      · exact relabel_has h (.inr rfl)
    rcases hk with hk | hk
    · have := hfr z hz
      rw [hk] at this
      exact lookup_has (by simpa using this)
    · exact absurd hk (hc z hz)
  · obtain ⟨y, h1, h2⟩ := hcap.at i j e
    exact ⟨y, by rw [List.getElem?_append_right (Nat.le_add_right _ _), Nat.add_sub_cancel_left]; exact h1, h2⟩
end
section
variable {X : Cx} {N : List Str} {s₀ : Shared} {H₀ : Hp} {env : Env} {fp : List Addr} {E : XK}
theorem passC : Passes (CXE X.prog X.w) (cxCX X N s₀ H₀ env fp E) E := fun pins σ H s e s' I h => ⟨pins, σ, H, s, inv_xc I, h⟩
theorem e_callXC {x : Str} {ps : List Str} {k k' : Nat} {sp : Sp} {p pos : Pos} {e : Expr} {es : List Expr} {t : TA} (C : Cal X.prog X.w X.K X.mg X.base x ps k sp) (hr : Room k' X.A) (hk : k ≤ k') (hg : Gl (cxCX X N s₀ H₀ env fp E) x)
    (ha : PA (cxCX X N s₀ H₀ env fp E) (e :: es) t) (hdb : (x == ("__debug__" : Str)) = false := by decide) (he : starEach (e :: es) (cxCX X N s₀ H₀ env fp E).env = (false, eval e (cxCX X N s₀ H₀ env fp E).env) :: starEach es (cxCX X N s₀ H₀ env fp E).env := by rfl)
    (hpl : (backTo pos (starEach es (cxCX X N s₀ H₀ env fp E).env)).any (·.1) = false := by rfl) : PE (cxCX X N s₀ H₀ env fp E) (.Call (.Name x p) (e :: es) [] pos) (dCallX sp E t) := by
  obtain ⟨f', fd, h1, h2, h3, h4, _⟩ := C.ex
  have z := pe_call (X := cxCX X N s₀ H₀ env fp E) (pos := pos) (p := p) (h4.mono hk) hr hg h1 h2 h3 .nil (passC (X := X) (N := N) (s₀ := s₀) (H₀ := H₀) (env := env) (fp := fp) (E := E)) ha hdb he hpl
  have e1 : tCall sp [] E t = dCallX sp E t := by
    funext σ H Q
    unfold tCall dCallX
    simp only [List.append_nil]
  rw [e1] at z
  exact z
end
end Lw
end
section
set_option Elab.async false
set_option linter.all false
set_option maxRecDepth 100000
set_option maxHeartbeats 4000000
set_option autoImplicit false
namespace Lw
open PySem PySem.Spec PyProof.Rows L2
structure DfnM (K : PySem.W.Frag) (Cs Ds : List Addr) (m qual : Str) (st : Stmt) (ps : List Str) : Prop where
  ex : ∃ (f : Addr) (fd : FuncData), Fun K m qual st f fd ∧ (∀ C ∈ Cs, Meth K C m f) ∧ (∀ C ∈ Ds, PySem.W.findCls K (.ref C) (.type "type") m = some (.val (.ref f))) ∧ Binds K fd ps []
structure CalM (P : Program) (w : World) (K : PySem.W.Frag) (mg : Str → Option Value) (base : Heap) (Cs Ds : List Addr) (m : Str) (ps : List Str) (k : Nat) (sp : Sp) : Prop where
  ex : ∃ (f : Addr) (fd : FuncData), (∀ C ∈ Cs, Meth K C m f) ∧ (∀ C ∈ Ds, PySem.W.findCls K (.ref C) (.type "type") m = some (.val (.ref f))) ∧ PySem.W.keepIn K (.ref f) = true ∧ Binds K fd ps [] ∧ FnOk P w K mg base (CXE P w) k f fd ps sp
section
variable {P : Program} {w : World} {K : PySem.W.Frag} {mg : Str → Option Value} {base : Heap} {Cs Ds : List Addr}
end
structure MkC (K : PySem.W.Frag) (C : Addr) : Prop where
  makes : PySem.W.makesIn K C = true
  kp : PySem.W.keepIn K (.ref C) = true
structure RdC (K : PySem.W.Frag) (C : Addr) : Prop where
  reads : PySem.W.readsIn K C (.type "type") = true
  ga : PySem.W.specialIn K (.ref C) "__getattribute__" = some (some (.builtin "type.__getattribute__"))
section
variable {X : Cx} {pos p : Pos} {Cs Ds : List Addr} {E : XK}
structure IsC (K : PySem.W.Frag) (C : Addr) : Prop where
  ha : PySem.W.findIn K (.ref C) "__class__" = some (some (.builtin "object.__class__"))
  hn : PySem.W.specialIn K (.builtin "object.__class__") "__get__" = some (some (.builtin "getset_descriptor.__get__"))
  ht : PySem.W.takesIn K (.builtin "object.__class__") = some true
  hm : PySem.W.mroIn K C (.type "object") = some true
end
end Lw
end
section
set_option Elab.async false
set_option linter.all false
set_option maxRecDepth 100000
set_option maxHeartbeats 4000000
set_option autoImplicit false
namespace Lw
open PySem PySem.Spec PyProof.Rows L2
abbrev cxT (X : Cx) (σ0 : L2.St) (p0 : List (Addr × Obj)) (Eh : XK) : Cx := { X with pn := X.pn ++ p0, xe := fun e s' => ∃ H1 s1, Inv X p0 σ0 H1 s1 ∧ CXE X.prog X.w X.stack H1 s1 Eh e s' }
section
variable {X : Cx} {p0 pins : List (Addr × Obj)} {σ0 σ : L2.St} {H : Hp} {s : Shared} {Eh : XK}
theorem inv_tryIn (I : Inv X p0 σ H s) : Inv (cxT X σ0 p0 Eh) [] σ H s :=
  ⟨⟨I.ok.mod, I.ok.kind, I.ok.glob, I.ok.blt, I.ok.above, I.ok.inj, I.ok.has, I.ok.cab, I.ok.hd, I.ok.frames, I.ok.stk, I.ok.exf, I.ok.bs, I.ok.bsz, I.ok.noex, I.ok.exfs, I.ok.funs, I.ok.frf⟩, I.os, I.bare, I.base, I.loc, I.cell, I.free, I.freeC, fun p hp => I.pin p (by
    have hp : p ∈ (X.pn ++ p0) ++ [] := hp
    rwa [List.append_nil] at hp), I.hok, I.len⟩
theorem inv_tryOut (I : Inv (cxT X σ0 p0 Eh) pins σ H s) : Inv X p0 σ H s :=
  ⟨⟨I.ok.mod, I.ok.kind, I.ok.glob, I.ok.blt, I.ok.above, I.ok.inj, I.ok.has, I.ok.cab, I.ok.hd, I.ok.frames, I.ok.stk, I.ok.exf, I.ok.bs, I.ok.bsz, I.ok.noex, I.ok.exfs, I.ok.funs, I.ok.frf⟩, I.os, I.bare, I.base, I.loc, I.cell, I.free, I.freeC, fun p hp => I.pin p (List.mem_append_left _ hp), I.hok, I.len⟩
end
def hnd (K : PySem.W.Frag) (D' : Addr) (n : Nat) (tu : TS) (D : Ends) (σ : L2.St) : XK := fun cls d H2 => ∃ C, cls = .ref C ∧ ExcC K C ∧ PySem.W.mroIn K C (.ref D') = some true ∧
  ∀ a H3, Same H2 H3 → H3 a = some (.ext (ExcAt a C d)) → tu { nx := fun σ' H' => D.nx (σ'.set n none) H', rt := D.rt, bk := fun σ' H' => D.bk (σ'.set n none) H', ct := fun σ' H' => D.ct (σ'.set n none) H' } (σ.set n (some (.ref a))) H3
def tTryB (K : PySem.W.Frag) (tb : L2.St → XK → TS) (D' : Addr) (n : Nat) (tu : TS) : TS := fun D σ H => tb σ (hnd K D' n tu D σ) D σ H
theorem ps_tryB {X : Cx} {body : List Stmt} {tb : L2.St → XK → TS} {pos yp hpos : Pos} {D' : Addr} {n : Nat} {y nm : Str} {b₀ : Stmt} {suite : List Stmt} {tu : TS} (dx : DefCx X) (hb : ∀ σ0 p0 Eh, PSs (cxT X σ0 p0 Eh) body (tb σ0 Eh))
    (hy : Gl X y) (hD : X.mg y = some (.ref D')) (cD : Cat X.K D') (nd : X.N.Nodup) (hn : X.N[n]? = some nm) (hl : X.env.scope.names.lookup nm = some .local) (hu : ∀ v, PSs (cxM X v) (b₀ :: suite) tu) (hdb2 : (y == ("__debug__" : Str)) = false := by decide) :
    PS X (.Try body [.ExceptHandler (some (.Name y yp)) (some nm) (b₀ :: suite) hpos] [] [] pos) (tTryB X.K tb D' n tu) := by
  intro pins s σ H D I h
  refine wpAny_Try_except (wpAny_mono (hb σ pins (hnd X.K D' n tu D σ) [] s σ H D (inv_tryIn I) h) (fun fl s1 q => ?_) fun ev s1 q => ?_)
  · cases fl with
    | next =>
      obtain ⟨σ', H', I', q⟩ := q
      exact wpAny_execs_nil ⟨σ', H', inv_tryOut I', q⟩
    | brk =>
      obtain ⟨σ', H', I', q⟩ := q
      exact ⟨σ', H', inv_tryOut I', q⟩
    | cont =>
      obtain ⟨σ', H', I', q⟩ := q
      exact ⟨σ', H', inv_tryOut I', q⟩
    | ret u =>
      obtain ⟨v, σ', H', I', r, q⟩ := q
      exact ⟨v, σ', H', inv_tryOut I', r, q⟩
  · obtain ⟨H1, s2, I1, a, cls, d, H2, B, a0, rfl, F, C', rfl, c, hm, q2⟩ := q
    exact handle_ok dx I1 F hy hD cD hm nd hn hl hu hdb2 fun H3 => q2 a H3
section
variable {X : Cx} {p0 : List (Addr × Obj)} {σ0 : L2.St} {Eh : XK} {pos p : Pos}
theorem run_try {k : Nat} {f : Addr} {fd : FuncData} {ps : List Str} {sp : Sp} {pins : List (Addr × Obj)} {H : Hp} {s : Shared} {Q : VK} {us : List Value} {vs : List V} (F : FnOk X.prog X.w X.K X.mg X.base (CXE X.prog X.w) k f fd ps sp) (hr : Room k X.A) (hb : Binds X.K fd ps [])
    (I : Inv (cxT X σ0 p0 Eh) pins σ0 H s) (r : Vals vs us) (h : sp vs H Q Eh) : wpAny (model X.prog X.w) X.A (call (.ref f) us) (EP (cxT X σ0 p0 Eh) pins σ0 Q) (cxT X σ0 p0 Eh).xe s := by
  have hl : (us ++ []).length = ps.length := by
    rw [List.append_nil, ← r.length]
    exact F.len _ _ _ _ h
  have hb' := hb s us I.kIn hl
  rw [List.append_nil] at hb'
  refine wpAny_call (codeAny_mono (F.run X.A X.stack s H ⟨us, []⟩ us vs Q Eh hr I.env0 hb' r h) fun res s' hq => ?_)
  cases res with
  | error er => exact ⟨H, s, inv_tryOut I, hq⟩
  | ok fl =>
    cases fl with
    | ret u => exact I.after hq
    | next => exact False.elim hq
    | brk => exact False.elim hq
    | cont => exact False.elim hq
def dCallT (sp : Sp) (σ0 : L2.St) (E : XK) (t : TA) : TE := fun σ H Q => t σ H fun vs H1 => σ = σ0 ∧ sp vs H1 Q E
theorem e_callT {x : Str} {ps : List Str} {k k' : Nat} {sp : Sp} {e : Expr} {es : List Expr} {t : TA} (C : Cal X.prog X.w X.K X.mg X.base x ps k sp) (hr : Room k' X.A) (hk : k ≤ k') (hg : Gl X x)
    (ha : PA (cxT X σ0 p0 Eh) (e :: es) t) (hdb : (x == ("__debug__" : Str)) = false := by decide) (he : starEach (e :: es) X.env = (false, eval e X.env) :: starEach es X.env := by rfl) (hpl : (backTo pos (starEach es X.env)).any (·.1) = false := by rfl) :
    PE (cxT X σ0 p0 Eh) (.Call (.Name x p) (e :: es) [] pos) (dCallT sp σ0 Eh t) := by
  obtain ⟨f, fd, h1, h2, h3, h4, _⟩ := C.ex
  intro pins s σ H Q I h
  refine wpAny_Call_Name_kw (ld_glob I hg h1 ?_ hdb)
  refine PySem.W.callWith_K (h₀ := X.base) I.ok.mod.kin h2 (thn (ha pos pins s σ H _ I h) fun us s1 ⟨vs, H1, I1, r, eσ, q⟩ => ⟨I1.kIn, ?_⟩) he hpl
  subst eσ
  exact run_try (h4.mono hk) hr h3 I1 r q
end
section
variable {P : Program} {w : World} {K : PySem.W.Frag} {mg : Str → Option Value} {base : Heap} {N : List Str} {qual : Str} {scope : Scope} {f : Addr} {cd : Value} {A : Around} {outer : List Env} {s₀ : Shared} {H₀ : Hp} {E : XK} {pos : Pos}
end
end Lw
end
section
set_option Elab.async false
set_option linter.all false
set_option maxRecDepth 100000
set_option maxHeartbeats 4000000
set_option autoImplicit false
namespace Lw
open PySem PySem.Spec PyProof.Rows L2
def overV : List Value → Bool
  | .ref _ :: r => overV r
  | l => l == vB
section
variable {prog : Program} {w : World} {A : Around} {K : PySem.W.Frag} {x C : Addr} {s : Shared} {R : Result → Shared → Prop}
end
structure ExS (K : PySem.W.Frag) (C : Addr) : Prop where
  sa : PySem.W.findIn K (.ref C) "__setattr__" = some (some (.builtin "object.__setattr__"))
  po : (PySem.W.clsIn K C).any (fun cd => overV cd.mro) = true
  hd : PySem.W.hasDictIn K C = true
section
variable {X : Cx} {pins : List (Addr × Obj)} {σ : L2.St} {H : Hp} {s : Shared} {A : Around} {E : Value → Shared → Prop} {a C : Addr} {f : Str}
end
def excInitIn (K : PySem.W.Frag) (C f : Addr) : Bool := match K.lookup C with
  | some ⟨.type "type", _, .cls cd, sl⟩ => (match cd.mro, sl.toList with
    | .ref C' :: bm, [_, _, _, _, some (.builtin n), _] => C' == C && n == "ValueError.__new__" && !cd.hasDel && PySem.W.tailIn K vB bm && PySem.W.nsOkIn K cd.ns && PySem.W.nsIn K cd.ns "__init__" == some (some (.ref f))
    | _, _ => false)
  | _ => false
section
variable {prog : Program} {w : World} {A : Around} {E : Value → Shared → Prop} {K : PySem.W.Frag} {s : Shared} {C f : Addr}
end
section
variable {X : Cx} {pins : List (Addr × Obj)} {σ : L2.St} {H : Hp} {s : Shared} {a C f : Addr}
def excInitAny (K : PySem.W.Frag) (C : Addr) : Bool := match PySem.W.findIn K (.ref C) "__init__" with
  | some (some (.ref f)) => excInitIn K C f
  | _ => false
structure ExI (K : PySem.W.Frag) (C : Addr) : Prop where
  ini : excInitAny K C = true
  kp : PySem.W.keepIn K (.ref C) = true
end
def del (H : Hp) (a : Addr) : Hp := fun b => if b = a then none else H b
section
variable {M : Model} {A : Around} {E : Value → Shared → Prop} {K : PySem.W.Frag} {env : Env}
end
section
variable {X : Cx} {pins : List (Addr × Obj)} {σ : L2.St} {H : Hp} {s : Shared} {M : Model} {E : Value → Shared → Prop} {Q : Unit → Shared → Prop}
end
section
variable {P : Program} {w : World} {K : PySem.W.Frag} {mg : Str → Option Value} {base : Heap} {N : List Str} {qual : Str} {scope : Scope} {f : Addr} {cd : Value} {A : Around} {outer : List Env} {s₀ : Shared} {H₀ : Hp} {E : XK}
end
end Lw
end
section
set_option Elab.async false
set_option linter.all false
set_option maxRecDepth 100000
set_option maxHeartbeats 4000000
namespace Lw
open PySem PySem.Spec PyProof.Rows L2
structure DfnN (K : PySem.W.Frag) (mg : Str → Option Value) (x : Str) (st : Stmt) (ps : List Str) : Prop where
  ex : ∃ (f : Addr) (fd : FuncData) (oc : Value) (od : Option Addr) (dV kV doc pm : Value) (an : Option Addr) (cdv ct : Value) (osl : Array (Option Value)),
    fd = PySem.W.fnOf x x (defArgs st) (defBody st) (defScope st) dV kV doc pm an cdv ct ∧ K.lookup f = some ⟨oc, od, .func fd, osl⟩ ∧ PySem.W.codeIn K cdv x = true ∧ PySem.W.keepIn K (.ref f) = true ∧ mg x = some (.ref f) ∧ Binds K fd ps [] ∧ Binds K fd ps [.none]
structure CalN (P : Program) (w : World) (K : PySem.W.Frag) (mg : Str → Option Value) (base : Heap) (x : Str) (ps : List Str) (k : Nat) (sp : Sp) : Prop where
  ex : ∃ (f : Addr) (fd : FuncData), mg x = some (.ref f) ∧ PySem.W.keepIn K (.ref f) = true ∧ Binds K fd ps [] ∧ Binds K fd ps [.none] ∧ FnOk P w K mg base (CXE P w) k f fd ps sp ∧
    ∃ (oc : Value) (od : Option Addr) (osl : Array (Option Value)), K.lookup f = some ⟨oc, od, .func fd, osl⟩
section
variable {P : Program} {w : World} {K : PySem.W.Frag} {mg : Str → Option Value} {base : Heap}
end
section
variable {X : Cx}
end
end Lw
end
section
set_option Elab.async false
set_option linter.all false
set_option maxRecDepth 100000
set_option maxHeartbeats 4000000
set_option autoImplicit false
namespace Lw
open PySem PySem.Spec PyProof.Rows L2
section
variable {X : Cx} {pins : List (Addr × Obj)} {σ : L2.St} {H H' : Hp} {s s' : Shared}
theorem suite_ok {E : Value → Shared → Prop} {a C : Addr} {d : Option Addr} {B h5 : Heap} {a0 : Value} {nm : Str} {hpos : Pos} {b₀ : Stmt} {suite : List Stmt} {n : Nat} {tu : TS} {D : Ends} (dx : DefCx X) (I : Inv X pins σ H s) (F : Fly X.prog X.w X.stack H s H' a (.ref C) d B a0 s')
    (f5 : Heap.FlyingW B (X.env :: X.outer) a (.ref C) a0 h5) (u5 : s'.heap.UpToSlots h5) (d5 : DctAt a d h5) (nd : X.N.Nodup) (hn : X.N[n]? = some nm) (hl : X.env.scope.names.lookup nm = some .local) (hu : ∀ v, PSs (cxM X v) (b₀ :: suite) tu)
    (q : ∀ H3, Same H' H3 → H3 a = some (.ext (ExcAt a C d)) → tu { nx := fun σ' H' => D.nx (σ'.set n none) H', rt := D.rt, bk := fun σ' H' => D.bk (σ'.set n none) H', ct := fun σ' H' => D.ct (σ'.set n none) H' } (σ.set n (some (.ref a))) H3) :
    codeAny (model X.prog X.w) (X.A.mark (some (.ref a))) (.handlers (.ref a) [.ExceptHandler none (some nm) (b₀ :: suite) hpos] X.env) (fun r s2 => match r with
      | .ok f => wpAny (model X.prog X.w) X.A (do bindName X.env nm .none; unbindBehindTheSuite X.env nm hpos) (fun _ s3 => SP X pins D f s3) E s2
      | .error x => cameBackBy (model X.prog X.w) X.A X.env E x s2) { s' with heap := h5 } := by
  refine codeAny_handlers_suite_as ?_
  refine wpAny_mono (mild_any mild_setFlight d5 (lands_againW (Q := fun _ s6 => ∃ h6, s6 = { s' with heap := h6 } ∧ Heap.FlyingW B (X.env :: X.outer) a (.ref C) a0 h6 ∧ h5.UpToSlots h6) f5 fun h6 f6 u6 => ⟨h6, rfl, f6, u6⟩)) (fun _ s6 ⟨⟨h6, e6, f6, u6⟩, d6⟩ => ?_) fun _ _ z => z
  subst e6
  obtain ⟨oe, ws, oe1, oe2, oe3, oe5⟩ := f6.first
  have oe4 : oe.dict = d := by
    obtain ⟨o6, z1, z2⟩ := d6
    have z3 : some o6 = some oe := z1.symm.trans oe1
    cases z3
    exact z2
  have up : ∀ b, b ≠ a → upd H' a (.ext (ExcAt a C d)) b = H' b := fun b hb => upd_ne hb
  have sm : Same H' (upd H' a (.ext (ExcAt a C d))) := fun b o e => by
    rw [up b (ne_of_none e F.free)]
    exact e
  have un0 := F.un5 f6.1 (u5.trans u6)
  have un6 : Un (frs X.stack) [] H (upd H' a (.ext (ExcAt a C d))) s.heap h6 :=
    ⟨un0.keep, un0.slot, fun b o e n' hx => by
      have hb : b ≠ a := by
        rintro rfl
        rw [F.fresh] at e
        cases e
      rw [up b hb]
      exact un0.free b o e n' hx, un0.there, fun b xs e => sm b _ (un0.tups b xs e), fun b o u e => sm b _ (un0.frzs b o u e), fun b ps e => by
      obtain ⟨more, e1⟩ := un0.tbls b ps e
      exact ⟨more, sm b _ e1⟩⟩
  have ok0 := F.hok5 f6.1
  have ok6 : HOk X.prog X.w (upd H' a (.ext (ExcAt a C d))) h6 := fun b u e => by
    by_cases hb : b = a
    · subst hb
      rw [upd_same] at e
      cases e
      refine ⟨⟨oe, ws, oe1, oe2, oe3, oe4, ⟨_, oe5⟩, fun z => nomatch z⟩, ⟨oe, oe1⟩, fun h1 h2 ⟨o, vs, z1, z2, z3, z4⟩ k => ⟨o, vs, k o z1, z2, z3, z4⟩⟩
    · rw [up b hb] at e
      exact (ok0 b u e).stay (fun _ _ _ q => q) (fun c z => sm c _ z) fun c xs z => sm c _ z
  have I6 : Inv X pins σ (upd H' a (.ext (ExcAt a C d))) { s' with heap := h6 } := I.call' (s' := { s' with heap := h6 }) (ch := []) F.os un6 ok6 F.bare fun b hb => absurd hb (by simp)
  refine store_ok (X := cxM X (.ref a)) (inv_mark I6 (.ref a)) nd hn (.inl hl) (v := .ref a) rfl (fun s7 I7 => ?_) (.inr hl)
  refine wpAny_mono (hu (.ref a) pins s7 _ _ _ I7 (q _ sm upd_same)) (fun fl s8 q8 => ?_) fun _ _ z => z.elim
  cases fl with
  | next =>
    obtain ⟨σ8, H8, I8, q8⟩ := q8
    exact name_goes (inv_unmark I.ok I8) nd hn hl fun s9 I9 => ⟨_, H8, I9, q8⟩
  | brk =>
    obtain ⟨σ8, H8, I8, q8⟩ := q8
    exact name_goes (inv_unmark I.ok I8) nd hn hl fun s9 I9 => ⟨_, H8, I9, q8⟩
  | cont =>
    obtain ⟨σ8, H8, I8, q8⟩ := q8
    exact name_goes (inv_unmark I.ok I8) nd hn hl fun s9 I9 => ⟨_, H8, I9, q8⟩
  | ret u =>
    obtain ⟨v, σ8, H8, I8, r8, q8⟩ := q8
    exact name_goes (inv_unmark I.ok I8) nd hn hl fun s9 I9 => ⟨v, _, H8, I9, r8, q8⟩
abbrev suQ (D : Ends) (n : Nat) (tu : TS) (σ : L2.St) (H2 : Hp) (C : Addr) (d : Option Addr) : Prop :=
  ∀ a H3, Same H2 H3 → H3 a = some (.ext (ExcAt a C d)) → tu { nx := fun σ' H' => D.nx (σ'.set n none) H', rt := D.rt, bk := fun σ' H' => D.bk (σ'.set n none) H', ct := fun σ' H' => D.ct (σ'.set n none) H' } (σ.set n (some (.ref a))) H3
end
section
variable {X : Cx}
end
section
variable {P : Program} {w : World} {K : PySem.W.Frag} {mg : Str → Option Value} {base : Heap} {N : List Str} {qual : Str} {scope : Scope} {f : Addr} {cd : Value} {A : Around} {outer : List Env} {s₀ : Shared} {H₀ : Hp} {E : XK}
end
end Lw
end
section
set_option Elab.async false
set_option linter.all false
set_option maxRecDepth 100000
set_option maxHeartbeats 4000000
set_option autoImplicit false
namespace Lw
open PySem PySem.Spec PyProof.Rows L2
theorem fly_push {B h : Heap} {l : List Env} {e : Addr} {cls a0 : Value} (o : Obj) (x : Heap.FlyingW B l e cls a0 h) : Heap.FlyingW B l e cls a0 (h.push o) := by
  obtain ⟨f1, f2, f3, oe, vs, T, oT, ts, a1, a2, a3, a4, a5, a6, a7, a8, a9⟩ := x
  exact ⟨fun b u q => Heap.get?_push_of_some _ (f1 b u q), f2, f3.of_keeps fun b u q _ => ⟨u, Heap.get?_push_of_some _ q, rfl⟩, oe, vs, T, oT, ts, Heap.get?_push_of_some _ a1, a2, a3, a4, a5, a6, Heap.get?_push_of_some _ a7, a8, a9⟩
def hndT (K : PySem.W.Frag) (D1 D2 : Addr) (n : Nat) (tu : TS) (D : Ends) (σ : L2.St) : XK := fun cls d H2 => ∃ C, cls = .ref C ∧ ExcC K C ∧ PySem.W.exmAny K (.ref C) [.ref D1, .ref D2] = some true ∧ suQ D n tu σ H2 C d
section
variable {X : Cx} {pins : List (Addr × Obj)} {σ : L2.St} {H H' : Hp} {s s' : Shared}
theorem handleT {E : Value → Shared → Prop} {a C D1 D2 : Addr} {d : Option Addr} {B : Heap} {a0 : Value} {y1 y2 nm : Str} {yp1 yp2 tp hpos : Pos} {x1 : _} {b₀ : Stmt} {suite : List Stmt} {n : Nat} {tu : TS} {D : Ends} (dx : DefCx X) (I : Inv X pins σ H s) (F : Fly X.prog X.w X.stack H s H' a (.ref C) d B a0 s')
    (hy1 : Gl X y1) (hD1 : X.mg y1 = some (.ref D1)) (hy2 : Gl X y2) (hD2 : X.mg y2 = some (.ref D2)) (nd : X.N.Nodup) (hn : X.N[n]? = some nm) (hl : X.env.scope.names.lookup nm = some .local) (hu : ∀ v, PSs (cxM X v) (b₀ :: suite) tu)
    (hdb1 : (y1 == ("__debug__" : Str)) = false) (hdb2 : (y2 == ("__debug__" : Str)) = false) (hm : PySem.W.exmAny X.K (.ref C) [.ref D1, .ref D2] = some true) (q : suQ D n tu σ H' C d) :
    wpAny (model X.prog X.w) X.A (noteFrame (.ref a) X.env) (fun _ s2 => wpAny (model X.prog X.w) X.A (setFlight (.ref a) none) (fun _ s3 =>
      wpAny (model X.prog X.w) X.A (handleBy (.ref a) X.env [.ExceptHandler (some (.Tuple [.Name y1 yp1, .Name y2 yp2] x1 tp)) (some nm) (b₀ :: suite) hpos]) (SP X pins D) E s3) E s2) E s' := by
  have hfr : X.A.frames = some (X.env :: X.outer) := by rw [I.ok.frames, dx.stk]
  have hfl := F.fly
  rw [dx.stk] at hfl
  refine wpAny_mono (mild_any mild_note F.dct (wpAny_looks_onW (Q := fun _ s4 => ∃ h4, s4 = { s' with heap := h4 } ∧ Heap.HeldW B (X.env :: X.outer) a (.ref C) a0 X.env.locals h4 ∧ s'.heap.UpToSlots h4) hfr dx.fr hfl fun h4 held u4 => ⟨h4, rfl, held, u4⟩)) (fun _ s4 ⟨⟨h4, e4, held, u4⟩, d4⟩ => ?_) fun _ _ z => z
  subst e4
  refine wpAny_mono (mild_any mild_setFlight d4 (wpAny_landsW (Q := fun _ s5 => ∃ h5, s5 = { s' with heap := h5 } ∧ Heap.FlyingW B (X.env :: X.outer) a (.ref C) a0 h5 ∧ h4.UpToSlots h5) held fun h5 f5 u5 => ⟨h5, rfl, f5, u5⟩)) (fun _ s5 ⟨⟨h5, e5, f5, u5⟩, d5⟩ => ?_) fun _ _ z => z
  subst e5
  have I5 : Inv X pins σ H' { s' with heap := h5 } := I.call' (s' := { s' with heap := h5 }) (ch := []) F.os (F.un5 f5.1 (u4.trans u5)) (F.hok5 f5.1) F.bare fun b hb => absurd hb (by simp)
  refine wpAny_handleBy_cons (codeAny_handlers_test (wpAny_Tuple_spliced (spliced_more (ld_glob (inv_mark I5 (.ref a)) hy1 hD1 (spliced_more (ld_glob (inv_mark I5 (.ref a)) hy2 hD2 (Calls.spliced_nil ⟨(by show 2 ≤ sizeLine; decide), ?_⟩) hdb2)) hdb1)))) (by intro z; cases z)
  have kp : ∀ b o, h5.get? b = some o → (h5.push { cls := .type "tuple", data := .seq [Value.ref D1, Value.ref D2].toArray }).get? b = some o := fun b o e => Heap.get?_push_of_some _ e
  have f6 := fly_push { cls := .type "tuple", data := .seq [Value.ref D1, Value.ref D2].toArray } f5
  obtain ⟨ob, ob1, ob2⟩ := f6.there
  have LT : PySem.W.Looks (model X.prog X.w) (h5.push { cls := .type "tuple", data := .seq [Value.ref D1, Value.ref D2].toArray }) (typeOf (.ref a)) (.ref C) := ob2 ▸ (PySem.W.Looks.ld ob1).andThen .now
  refine (PySem.W.exm_tup2 (M := model X.prog X.w) (I5.kIn.keeps kp) LT (Heap.get?_push_size _ rfl) hm).here (s := { s' with heap := h5.push { cls := .type "tuple", data := .seq [Value.ref D1, Value.ref D2].toArray } }) ?_
  have d6 : DctAt a d (h5.push { cls := .type "tuple", data := .seq [Value.ref D1, Value.ref D2].toArray }) := by
    obtain ⟨o, q1, q2⟩ := d5
    exact ⟨o, kp _ _ q1, q2⟩
  exact suite_ok dx I F f6 ((u4.trans u5).trans (Heap.UpToSlots.of_keeps kp)) d6 nd hn hl hu fun H3 => q a H3
end
def tTryT (K : PySem.W.Frag) (tb : L2.St → XK → TS) (D1 D2 : Addr) (n : Nat) (tu : TS) : TS := fun D σ H => tb σ (hndT K D1 D2 n tu D σ) D σ H
theorem ps_tryT {X : Cx} {body : List Stmt} {tb : L2.St → XK → TS} {D1 D2 : Addr} {y1 y2 nm : Str} {pos yp1 yp2 tp hpos : Pos} {x1 : _} {b₀ : Stmt} {suite : List Stmt} {n : Nat} {tu : TS} (dx : DefCx X) (hb : ∀ σ0 p0 Eh, PSs (cxT X σ0 p0 Eh) body (tb σ0 Eh))
    (hy1 : Gl X y1) (hD1 : X.mg y1 = some (.ref D1)) (hy2 : Gl X y2) (hD2 : X.mg y2 = some (.ref D2)) (nd : X.N.Nodup) (hn : X.N[n]? = some nm) (hl : X.env.scope.names.lookup nm = some .local) (hu : ∀ v, PSs (cxM X v) (b₀ :: suite) tu)
    (hdb1 : (y1 == ("__debug__" : Str)) = false := by decide) (hdb2 : (y2 == ("__debug__" : Str)) = false := by decide) :
    PS X (.Try body [.ExceptHandler (some (.Tuple [.Name y1 yp1, .Name y2 yp2] x1 tp)) (some nm) (b₀ :: suite) hpos] [] [] pos) (tTryT X.K tb D1 D2 n tu) := by
  intro pins s σ H D I h
  refine wpAny_Try_except (wpAny_mono (hb σ pins (hndT X.K D1 D2 n tu D σ) [] s σ H D (inv_tryIn I) h) (fun fl s1 q => ?_) fun ev s1 q => ?_)
  · cases fl with
    | next =>
      obtain ⟨σ', H', I', q⟩ := q
      exact wpAny_execs_nil ⟨σ', H', inv_tryOut I', q⟩
    | brk =>
      obtain ⟨σ', H', I', q⟩ := q
      exact ⟨σ', H', inv_tryOut I', q⟩
    | cont =>
      obtain ⟨σ', H', I', q⟩ := q
      exact ⟨σ', H', inv_tryOut I', q⟩
    | ret u =>
      obtain ⟨v, σ', H', I', r, q⟩ := q
      exact ⟨v, σ', H', inv_tryOut I', r, q⟩
  · obtain ⟨H1, s2, I1, a, cls, d, H2, B, a0, rfl, F, C', rfl, c, hm, q2⟩ := q
    exact handleT dx I1 F hy1 hD1 hy2 hD2 nd hn hl hu hdb1 hdb2 hm q2
end Lw
end
section
set_option Elab.async false
set_option linter.all false
set_option maxRecDepth 100000
set_option maxHeartbeats 4000000
set_option autoImplicit false
namespace Lw
open PySem PySem.Spec PyProof.Rows L2
section
variable {X : Cx}
def dSplitL : V → List V → Hp → VK → Prop := fun x xs H Q => match x, xs with
  | .str x, [.str y] => (y.length == 0) = false ∧ x.length ≤ 5000 ∧ ∀ l H', Same H H' → H' l = some (.lst ((Txt.split x y).map V.str)) → Q (.ref l) H'
  | _, _ => False
theorem m_splitL : MtR X "str.split" dSplitL := by
  intro pins s σ H x xs v us Q I rx rs h
  match x, xs, h with
  | .str x, [.str y], ⟨hy, hx, q⟩ =>
    obtain ⟨t, rfl⟩ := rx
    obtain ⟨u, rfl, r1⟩ := vals1 rs
    obtain ⟨t', rfl⟩ := r1
    have big : (5002 : Nat) ≤ sizeLine := by decide
    have hl := PyProof.Rows.split_le x y
    have hn := I.hok.fresh (Nat.le_refl _)
    have out : ∀ (l : List Value) (tk : Nat), Vals ((Txt.split x y).map V.str) l → EP X pins σ Q (.ref s.heap.objs.size) { s with heap := s.heap.push { cls := .type "list", data := .seq l.toArray }, toks := tk } := by
      intro l tk hv
      refine ⟨.ref _, _, I.laid (t' := tk) (o := .lst ((Txt.split x y).map V.str)) (fun b ob q => Heap.get?_push_of_some _ q) (Nat.le_refl _) ?_, rfl, q _ _ (same_upd hn) upd_same⟩
      exact ⟨by rw [List.length_map]; omega, l, 0, hv, Heap.get?_push_size _ rfl⟩
    cases h1 : (decide (x.length < y.length) || decide (Builtin.Str.strKind x < Builtin.Str.strKind y))
    · cases hf : (Builtin.Str.occurrences x y 0 x.length (x.length + 1)).isEmpty
      · have e : Txt.split x y = Builtin.Str.partsBetween x (Builtin.Str.occurrences x y 0 x.length (x.length + 1)) y.length := (if_neg (ne_true_of_eq_false h1)).trans (if_neg (ne_true_of_eq_false hf))
        refine call_meets F.slot_str_split (typeIs_str _ _ _) F.entry_str_split (F.args_str_split_2 _ _) (meets_str_split_sep x y t t' h1 hy hf (by omega) (by rw [← e]; omega)) ?_
        show wants (EP X pins σ Q) X.xe _ { s with toks := _, heap := s.heap.push { cls := .type "list", data := .seq (strsFrom s.toks (Builtin.Str.partsBetween x (Builtin.Str.occurrences x y 0 x.length (x.length + 1)) y.length)).toArray } }
        exact out _ _ (by rw [e]; exact vals_from _ _)
      · have e : Txt.split x y = [x] := (if_neg (ne_true_of_eq_false h1)).trans (if_pos hf)
        exact call_meets F.slot_str_split (typeIs_str _ _ _) F.entry_str_split (F.args_str_split_2 _ _) (meets_str_split_not_found x y t t' h1 hy hf) (out [.str x t] s.toks (by rw [e]; exact .cons ⟨_, rfl⟩ .nil))
    · have e : Txt.split x y = [x] := if_pos h1
      exact call_meets F.slot_str_split (typeIs_str _ _ _) F.entry_str_split (F.args_str_split_2 _ _) (meets_str_split_cannot_occur x y t t' h1) (out [.str x t] s.toks (by rw [e]; exact .cons ⟨_, rfl⟩ .nil))
end
end Lw
end
section
set_option Elab.async false
set_option linter.all false
set_option maxRecDepth 100000
set_option maxHeartbeats 4000000
set_option autoImplicit false
namespace Lw
open PySem PySem.Spec PyProof.Rows L2 PySem.StrLaws
theorem co_joinS (y a b : Str) (r : List Str) : co (Str.join y (a :: b :: r)) = co a ++ (co y ++ co (Str.join y (b :: r))) := by
  show co (a ++ y ++ Str.join y (b :: r)) = _
  rw [co_app, co_app, List.append_assoc]
theorem join_uniqS {y : Str} {c : Nat} {t : List Nat} (hy : co y = c :: t) : ∀ {ws vs : List Str}, ws ≠ [] → vs ≠ [] → (∀ p ∈ ws, c ∉ co p) → (∀ p ∈ vs, c ∉ co p) → co (Str.join y ws) = co (Str.join y vs) → ws = vs
  | [], _, h, _, _, _, _ => absurd rfl h
  | _ :: _, [], _, h, _, _, _ => absurd rfl h
  | [a], [b], _, _, _, _, h => by
    have : a = b := co_inj h
    rw [this]
  | [a], b :: b' :: r, _, _, ha, _, h => by
    rw [co_joinS, hy] at h
    have h : co a = _ := h
    refine absurd ?_ (ha a (List.mem_singleton.mpr rfl))
    rw [h]
    simp
  | a :: a' :: r, [b], _, _, _, hb, h => by
    rw [co_joinS, hy] at h
    have h : _ = co b := h
    refine absurd ?_ (hb b (List.mem_singleton.mpr rfl))
    rw [← h]
    simp
  | a :: a' :: r, b :: b' :: q, _, _, ha, hb, h => by
    rw [co_joinS, co_joinS, hy] at h
    obtain ⟨h1, h2⟩ := cut_uniq h (ha a (List.mem_cons_self ..)) (hb b (List.mem_cons_self ..))
    have h2 := List.append_cancel_left h2
    have := join_uniqS hy (ws := a' :: r) (vs := b' :: q) (by simp) (by simp) (fun p hp => ha p (List.mem_cons_of_mem _ hp)) (fun p hp => hb p (List.mem_cons_of_mem _ hp)) h2
    rw [co_inj h1, this]
def sp2 : Str := ⟨#[59, 32]⟩
theorem at2 {x : Str} {k : Nat} (h1 : x.cps.toList[k]? = some 59) (h2 : x.cps.toList[k + 1]? = some 32) : At x sp2 x.length k := by
  have l2 := (List.getElem?_eq_some_iff.mp h2).1
  obtain ⟨l1, e1⟩ := List.getElem?_eq_some_iff.mp h1
  obtain ⟨_, e2⟩ := List.getElem?_eq_some_iff.mp h2
  refine ⟨?_, ?_⟩
  · show k + 2 ≤ x.length
    simp [Str.length] at l2 ⊢
    omega
  · rw [subAt_eq]
    show ((x.cps.toList.drop k).take 2 == [59, 32]) = true
    rw [List.drop_eq_getElem_cons l1, List.drop_eq_getElem_cons l2, e1, e2]
    rfl
theorem parts2_free (x : Str) (hfol : ∀ k, x.cps.toList[k]? = some 59 → x.cps.toList[k + 1]? = some 32) : ∀ (cuts : List Nat) (a f : Nat), ChainG x sp2 x.length a cuts f → (∀ k, f ≤ k → ¬ At x sp2 x.length k) → ∀ p ∈ partsFrom x sp2.length a cuts, 59 ∉ p.cps.toList
  | [], a, f, h, hn, p, hp => by
    have e : f = a := h
    subst e
    rw [List.mem_singleton.mp hp]
    exact part_free x 59 f x.length (Nat.le_refl _) fun k h1 _ z => hn k h1 (at2 ((subAt_one x 59 k).mp z) (hfol k ((subAt_one x 59 k).mp z)))
  | d :: r, a, f, h, hn, p, hp => by
    rcases List.mem_cons.mp hp with rfl | hp'
    · exact part_free x 59 a d (by have := h.2.1.1; omega) fun k h1 h2 z => h.2.2.1 k h1 h2 (at2 ((subAt_one x 59 k).mp z) (hfol k ((subAt_one x 59 k).mp z)))
    · exact parts2_free x hfol r _ f h.2.2.2 hn p hp'
theorem split2_free (x : Str) (hfol : ∀ k, x.cps.toList[k]? = some 59 → x.cps.toList[k + 1]? = some 32) : ∀ p ∈ Txt.split x sp2, 59 ∉ p.cps.toList := by
  obtain ⟨f, hG, hn⟩ := occ_tight x sp2 (by decide)
  unfold Txt.split
  split
  · rename_i hc
    intro p hp
    rw [List.mem_singleton.mp hp]
    intro hm
    obtain ⟨j, hj⟩ := List.getElem?_of_mem hm
    have hA := at2 hj (hfol j hj)
    rw [Bool.or_eq_true, decide_eq_true_eq, decide_eq_true_eq] at hc
    rcases hc with h | h
    · have := hA.1
      omega
    · have e : Builtin.Str.strKind sp2 = 1 := by decide +kernel
      rw [e] at h
      unfold Builtin.Str.strKind at h
      split at h
      · omega
      · split at h <;> omega
  · split
    · rename_i he
      intro p hp
      rw [List.mem_singleton.mp hp]
      have e0 : Builtin.Str.occurrences x sp2 0 x.length (x.length + 1) = [] := List.isEmpty_iff.mp he
      rw [e0] at hG
      have ef : f = 0 := hG
      subst ef
      rw [← sub_whole x]
      exact part_free x 59 0 x.length (Nat.le_refl _) fun k h1 _ z => hn k h1 (at2 ((subAt_one x 59 k).mp z) (hfol k ((subAt_one x 59 k).mp z)))
    · rw [partsBetween_eq]
      exact parts2_free x hfol _ 0 f hG hn
theorem fol_join : ∀ {ws : List Str}, (∀ p ∈ ws, 59 ∉ co p) → ∀ k, (co (Str.join sp2 ws))[k]? = some 59 → (co (Str.join sp2 ws))[k + 1]? = some 32
  | [], _, k, h => by
    have e : co (Str.join sp2 []) = [] := rfl
    rw [e] at h
    simp at h
  | [a], ha, k, h => absurd (List.mem_of_getElem? (show (co a)[k]? = some 59 from h)) (ha a (List.mem_singleton.mpr rfl))
  | a :: b :: r, ha, k, h => by
    rw [co_joinS, show co sp2 = [59, 32] from rfl] at h ⊢
    by_cases h1 : k < (co a).length
    · rw [List.getElem?_append_left h1] at h
      exact absurd (List.mem_of_getElem? h) (ha a (List.mem_cons_self ..))
    · rw [List.getElem?_append_right (by omega)] at h ⊢
      rw [show k + 1 - (co a).length = (k - (co a).length) + 1 by omega]
      generalize k - (co a).length = j at h
      match j, h with
      | 0, _ => rfl
      | 1, h => simp at h
      | j + 2, h => exact fol_join (ws := b :: r) (fun p hp => ha p (List.mem_cons_of_mem _ hp)) j (by simpa using h)
theorem split2_join {ws : List Str} (h : ws ≠ []) (hf : ∀ p ∈ ws, 59 ∉ co p) {x : Str} (hx : co x = co (Str.join sp2 ws)) : Txt.split x sp2 = ws := by
  have h1 : Txt.split x sp2 ≠ [] := by
    intro e
    have := split_pos x sp2
    rw [e] at this
    simp at this
  refine join_uniqS (y := sp2) (c := 59) (t := [32]) rfl h1 h (fun p hp => split2_free x (fun k hk => ?_) p hp) hf (by rw [StrLaws.join_split, hx])
  have e : x.cps.toList = co (Str.join sp2 ws) := hx
  rw [e] at hk ⊢
  exact fol_join hf k hk
end Lw
end
set_option Elab.async false
set_option linter.all false
set_option maxRecDepth 100000
set_option maxHeartbeats 0
set_option exponentiation.threshold 5000
namespace My
open PySem PySem.Spec PyProof.Rows L2 Lw
local macro_rules | `(tactic| walk_at "hp") => `(tactic| first | assumption | (refine sm_at (by assumption) ?_; walk_at "hp") | (refine sm_sq (by assumption) ?_; walk_at "hp") | (refine Fq.up (by assumption) ?_; walk_at "hp") | (refine Pq.up (by assumption) ?_; walk_at "hp"))
def top (i : Nat) : Stmt := PySem.Challenge.pw_ladderworth_k11_books_read.main.body.getD i (.Pass ⟨0, 0, 0, 0⟩)
abbrev s_is_whole : Stmt := top 14
abbrev s_game : Stmt := top 22
abbrev s_is_between : Stmt := top 23
abbrev s_is_name : Stmt := top 24
abbrev s_read_game : Stmt := top 25
abbrev s_is_number : Stmt := top 26
abbrev s_is_starred : Stmt := top 27
abbrev s_unstarred : Stmt := top 28
abbrev s_side_of : Stmt := top 29
abbrev s_show_game : Stmt := top 30
abbrev s_starred : Stmt := top 31
abbrev s_read_book : Stmt := top 36
abbrev s_check_size : Stmt := top 37
abbrev s_show_book : Stmt := top 38
abbrev s_players : Stmt := top 39
abbrev s_l_cell_at : Stmt := top 41
abbrev s_l_draw : Stmt := top 42
abbrev s_l_names : Stmt := top 43
abbrev s_l_game : Stmt := top 44
abbrev s_l_written : Stmt := top 45
abbrev s_l_spoiled : Stmt := top 46
abbrev s_l_joined : Stmt := top 47
abbrev s_l_caught : Stmt := top 48
abbrev s_l_right : Stmt := top 49
abbrev s_law : Stmt := top 50
structure Errs (K : PySem.W.Frag) (mg : Str → Option Value) (c_LadderError c_NoBook c_NoFit c_NoGame c_NoNumber c_NoPlayer c_NoRow c_NoStretch c_NoTable c_NoTree c_NoWorth : Addr) : Prop where
  b_LadderError : mg "LadderError" = some (.ref c_LadderError)
  b_NoBook : mg "NoBook" = some (.ref c_NoBook)
  b_NoFit : mg "NoFit" = some (.ref c_NoFit)
  b_NoGame : mg "NoGame" = some (.ref c_NoGame)
  b_NoNumber : mg "NoNumber" = some (.ref c_NoNumber)
  b_NoPlayer : mg "NoPlayer" = some (.ref c_NoPlayer)
  b_NoRow : mg "NoRow" = some (.ref c_NoRow)
  b_NoStretch : mg "NoStretch" = some (.ref c_NoStretch)
  b_NoTable : mg "NoTable" = some (.ref c_NoTable)
  b_NoTree : mg "NoTree" = some (.ref c_NoTree)
  b_NoWorth : mg "NoWorth" = some (.ref c_NoWorth)
  y_NoGame : PySem.W.nsIn K mainGlobals "NoGame" = some (some (.ref c_NoGame))
  y_NoBook : PySem.W.nsIn K mainGlobals "NoBook" = some (some (.ref c_NoBook))
  x_LadderError : ExcC K c_LadderError
  x_NoBook : ExcC K c_NoBook
  x_NoGame : ExcC K c_NoGame
  kv_NoGame : PySem.W.kitOne K (.ref c_NoGame) (.type "ValueError") = some true
  kk_NoGame_LadderError : PySem.W.kitOne K (.ref c_NoGame) (.ref c_LadderError) = some true
  kk_NoGame_NoBook : PySem.W.kitOne K (.ref c_NoGame) (.ref c_NoBook) = some false
  kk_NoGame_NoFit : PySem.W.kitOne K (.ref c_NoGame) (.ref c_NoFit) = some false
  kk_NoGame_NoGame : PySem.W.kitOne K (.ref c_NoGame) (.ref c_NoGame) = some true
  kk_NoGame_NoNumber : PySem.W.kitOne K (.ref c_NoGame) (.ref c_NoNumber) = some false
  kk_NoGame_NoPlayer : PySem.W.kitOne K (.ref c_NoGame) (.ref c_NoPlayer) = some false
  kk_NoGame_NoRow : PySem.W.kitOne K (.ref c_NoGame) (.ref c_NoRow) = some false
  kk_NoGame_NoStretch : PySem.W.kitOne K (.ref c_NoGame) (.ref c_NoStretch) = some false
  kk_NoGame_NoTable : PySem.W.kitOne K (.ref c_NoGame) (.ref c_NoTable) = some false
  kk_NoGame_NoTree : PySem.W.kitOne K (.ref c_NoGame) (.ref c_NoTree) = some false
  kk_NoGame_NoWorth : PySem.W.kitOne K (.ref c_NoGame) (.ref c_NoWorth) = some false
  km_NoGame_LadderError : PySem.W.mroIn K c_NoGame (.ref c_LadderError) = some true
  kv_NoBook : PySem.W.kitOne K (.ref c_NoBook) (.type "ValueError") = some true
  kk_NoBook_LadderError : PySem.W.kitOne K (.ref c_NoBook) (.ref c_LadderError) = some true
  kk_NoBook_NoBook : PySem.W.kitOne K (.ref c_NoBook) (.ref c_NoBook) = some true
  kk_NoBook_NoFit : PySem.W.kitOne K (.ref c_NoBook) (.ref c_NoFit) = some false
  kk_NoBook_NoGame : PySem.W.kitOne K (.ref c_NoBook) (.ref c_NoGame) = some false
  kk_NoBook_NoNumber : PySem.W.kitOne K (.ref c_NoBook) (.ref c_NoNumber) = some false
  kk_NoBook_NoPlayer : PySem.W.kitOne K (.ref c_NoBook) (.ref c_NoPlayer) = some false
  kk_NoBook_NoRow : PySem.W.kitOne K (.ref c_NoBook) (.ref c_NoRow) = some false
  kk_NoBook_NoStretch : PySem.W.kitOne K (.ref c_NoBook) (.ref c_NoStretch) = some false
  kk_NoBook_NoTable : PySem.W.kitOne K (.ref c_NoBook) (.ref c_NoTable) = some false
  kk_NoBook_NoTree : PySem.W.kitOne K (.ref c_NoBook) (.ref c_NoTree) = some false
  kk_NoBook_NoWorth : PySem.W.kitOne K (.ref c_NoBook) (.ref c_NoWorth) = some false
  km_NoBook_LadderError : PySem.W.mroIn K c_NoBook (.ref c_LadderError) = some true
  kx_NoGame_NoGame_NoBook : PySem.W.exmAny K (.ref c_NoGame) [.ref c_NoGame, .ref c_NoBook] = some true
  kx_NoBook_NoGame_NoBook : PySem.W.exmAny K (.ref c_NoBook) [.ref c_NoGame, .ref c_NoBook] = some true
  z_NoGame : PySem.W.excIn K c_NoGame vB "ValueError.__new__" = true
  z_NoBook : PySem.W.excIn K c_NoBook vB "ValueError.__new__" = true
section
variable {P : Program} {w : World} {K : PySem.W.Frag} {mg : Str → Option Value} {base : Heap} {ns : List Int}
variable {c_LadderError c_NoBook c_NoFit c_NoGame c_NoNumber c_NoPlayer c_NoRow c_NoStretch c_NoTable c_NoTree c_NoWorth : Addr} {a_WORDS : Addr}
def sp_l_cell_at (K : PySem.W.Frag) (ns : List Int) : Sp := fun vs H Q _ => match vs with
  | [.ref a, .int k] => SqL K H a (ns.map V.int) ∧ Q (.int (cell ns k)) H
  | _ => False
theorem sc_l_cell_at : FnScope ["_law_script", "_law_k"] ["_law_script", "_law_k"] (defScope s_l_cell_at) := ⟨rfl, rfl, rfl, by decide +kernel, rfl, by decide +kernel, by decide +kernel⟩
theorem ok_l_cell_at (d : Dfn K mg "_law_cell_at" s_l_cell_at ["_law_script", "_law_k"]) (er : Errs K mg c_LadderError c_NoBook c_NoFit c_NoGame c_NoNumber c_NoPlayer c_NoRow c_NoStretch c_NoTable c_NoTree c_NoWorth) (n_len : mg "len" = none)   : Cal P w K mg base "_law_cell_at" ["_law_script", "_law_k"] 1 (sp_l_cell_at K ns) := by
  refine d.cal (k := 0) sc_l_cell_at (fun vs H Q E h => ?_) (fun f cdv A outer s H vs Q E hr h => ?_)
  · match vs, h with
    | [.ref a, .int k], _ => rfl
  · match vs, h with
    | [.ref a, .int k], hq0 =>
      obtain ⟨hS, q⟩ := hq0
      refine ⟨_, (@pss_cons _ _ _ _ _ (@s_if _ _ _ _ _ _ _ _ (@t_cmp _ _ _ _ _ _ _ _ o_gt (@pe_callB _ _ _ _ _ _ _ _ _ c_len (by rfl) n_len (by decide +kernel) (@pa_cons _ _ _ _ _ (dv 0) pa_nil (by rfl)) (by decide) (by decide) (by rfl) (by rfl)) pe_int (@nomark _ _ (by decide) (by decide))) (@pss_one _ _ _ (@ps_ret _ _ _ _ (@pe_ix _ _ _ _ _ _ _ i_lst (dv 0) (@pe_op _ _ _ _ _ _ _ _ o_mod (dv 1) (@pe_callB _ _ _ _ _ _ _ _ _ c_len (by rfl) n_len (by decide +kernel) (@pa_cons _ _ _ _ _ (dv 0) pa_nil (by rfl)) (by decide) (by decide) (by rfl) (by rfl))) (fun _ _ => rfl)))) pss_nil) (@pss_one _ _ _ (@ps_ret _ _ _ _ pe_int))), ?_⟩
      refine ⟨_, Or.inl hS, ?_⟩
      rw [List.length_map]
      refine ⟨fun h => ?_, fun h => ?_⟩
      · have h := of_decide_eq_true h
        have hl : 0 < ns.length := by omega
        refine ⟨_, Or.inl hS, ?_⟩
        rw [List.length_map]
        refine ⟨h, ?_⟩
        have h0 : 0 ≤ k % (ns.length : Int) := Int.emod_nonneg _ (by omega)
        have h1 : k % (ns.length : Int) < ns.length := Int.emod_lt_of_pos _ h
        obtain ⟨j, hj⟩ : ∃ j : Nat, k % (ns.length : Int) = j := ⟨(k % (ns.length : Int)).toNat, by omega⟩
        have hj' : j < ns.length := by omega
        refine ⟨_, .int (cell ns k), hS, ?_, q⟩
        rw [hj]
        refine atI_nat ?_
        rw [List.getElem?_map]
        unfold cell
        rw [if_neg (by omega), hj, Int.toNat_natCast, List.getD_eq_getElem?_getD, List.getElem?_eq_getElem hj']
        rfl
      · have h := of_decide_eq_false h
        have e : cell ns k = 0 := by
          unfold cell
          rw [if_pos (by omega)]
        rw [e] at q
        exact q
def sp_l_draw (K : PySem.W.Frag) (ns : List Int) : Sp := fun vs H Q _ => match vs with
  | [.ref a, .int k, .int m] => SqL K H a (ns.map V.int) ∧ (0 ≤ k ∧ k < 1000 ∧ 0 < m) ∧ Q (.int (draw ns k m)) H
  | _ => False
theorem sc_l_draw : FnScope ["_law_script", "_law_k", "_law_many"] ["_law_script", "_law_k", "_law_many"] (defScope s_l_draw) := ⟨rfl, rfl, rfl, by decide +kernel, rfl, by decide +kernel, by decide +kernel⟩
theorem ok_l_draw (d : Dfn K mg "_law_draw" s_l_draw ["_law_script", "_law_k", "_law_many"]) (er : Errs K mg c_LadderError c_NoBook c_NoFit c_NoGame c_NoNumber c_NoPlayer c_NoRow c_NoStretch c_NoTable c_NoTree c_NoWorth)   (c_l_cell_at : Cal P w K mg base "_law_cell_at" ["_law_script", "_law_k"] 1 (sp_l_cell_at K ns)) : Cal P w K mg base "_law_draw" ["_law_script", "_law_k", "_law_many"] 2 (sp_l_draw K ns) := by
  refine d.cal (k := 1) sc_l_draw (fun vs H Q E h => ?_) (fun f cdv A outer s H vs Q E hr h => ?_)
  · match vs, h with
    | [.ref a, .int k, .int m], _ => rfl
  · match vs, h with
    | [.ref a, .int k, .int m], hq0 =>
      obtain ⟨hS, ⟨k0, k1, hm⟩, q⟩ := hq0
      refine ⟨_, (@pss_one _ _ _ (@ps_ret _ _ _ _ (@pe_op _ _ _ _ _ _ _ _ o_mod (@pe_op _ _ _ _ _ _ _ _ o_div (@pe_op _ _ _ _ _ _ _ _ o_mod (@pe_op _ _ _ _ _ _ _ _ o_mul (@pe_op _ _ _ _ _ _ _ _ o_add (@e_call _ _ _ _ _ _ _ _ _ _ _ c_l_cell_at hr (by decide) (by rfl) (@pa_cons _ _ _ _ _ (dv 0) (@pa_cons _ _ _ _ _ (dv 1) pa_nil (by rfl)) (by rfl)) (by decide) (by rfl) (by rfl)) pe_int) (@pe_op _ _ _ _ _ _ _ _ o_add (@pe_op _ _ _ _ _ _ _ _ o_add (@pe_op _ _ _ _ _ _ _ _ o_mul (dv 1) (dv 1)) (@pe_op _ _ _ _ _ _ _ _ o_mul pe_int (dv 1))) pe_int)) pe_int) pe_int) (dv 2)))), ?_⟩
      have hk := sq_small k0 k1
      refine ⟨hS, ⟨.inr (.inl ⟨by omega, by omega⟩), ⟨.inr (.inl ⟨by decide, by decide⟩), ⟨.inr (.inr ⟨by omega, by omega⟩), ⟨(show (0 : Int) < 99991 by decide), ⟨⟨by decide, bd_lit rfl⟩, ⟨hm, q⟩⟩⟩⟩⟩⟩⟩
--@thinall
theorem nb {P : Prop} {a b : Bool} (h : a = b) (n : (a == b) = false := by rfl) : P := by
  subst h
  rw [beq_self_eq_true] at n
  cases n
def wh : V → Bool
  | .int _ => true
  | _ => false
def Kd (H : Hp) : V → Prop
  | .int _ => True
  | .bl _ => True
  | .non => True
  | .str _ => True
  | .ref p => ∃ u t, H p = some u ∧ tyHO u = some t ∧ tyB t "int" = some false
  | _ => False
theorem Kd.up {H H' : Hp} (s : Same H H') : ∀ {v : V}, Kd H v → Kd H' v
  | .int _, h => h
  | .bl _, h => h
  | .non, h => h
  | .str _, h => h
  | .ref p, ⟨u, t, h1, h2⟩ => ⟨u, t, s _ _ h1, h2⟩
  | .flt _, h => h.elim
  | .byt _, h => h.elim
  | .ty _, h => h.elim
def ExN (K : PySem.W.Frag) (x : Str) (E : XK) (H : Hp) : Prop := ∀ C, PySem.W.nsIn K mainGlobals x = some (some (.ref C)) → E (.ref C) none H
def sp_is_whole (K : PySem.W.Frag) (ns : List Int) : Sp := fun vs H Q _ => match vs with
  | [v] => Kd H v ∧ Q (.bl (wh v)) H
  | _ => False
theorem sc_is_whole : FnScope ["thing"] ["thing"] (defScope s_is_whole) := ⟨rfl, rfl, rfl, by decide +kernel, rfl, by decide +kernel, by decide +kernel⟩
theorem ok_is_whole (d : Dfn K mg "is_whole" s_is_whole ["thing"]) (er : Errs K mg c_LadderError c_NoBook c_NoFit c_NoGame c_NoNumber c_NoPlayer c_NoRow c_NoStretch c_NoTable c_NoTree c_NoWorth) (n_isinstance : mg "isinstance" = none) (n_bool : mg "bool" = none) (n_int : mg "int" = none)   : Cal P w K mg base "is_whole" ["thing"] 1 (sp_is_whole K ns) := by
  refine d.cal (k := 0) sc_is_whole (fun vs H Q E h => ?_) (fun f cdv A outer s H vs Q E hr h => ?_)
  · match vs, h with
    | [_], _ => rfl
  · refine ⟨_, (@pss_one _ _ _ (@ps_ret _ _ _ _ (@e_and _ _ _ _ _ _ _ (@pe_callB _ _ _ _ _ _ _ _ _ c_isi (by rfl) n_isinstance (by decide +kernel) (@pa_cons _ _ _ _ _ (dv 0) (@pa_cons _ _ _ _ _ (e_ty "int" (by rfl) n_int (by decide +kernel)) pa_nil (by rfl)) (by rfl)) (by decide) (by decide) (by rfl) (by rfl)) (@pe_one _ _ _ _ _ (@e_not _ _ _ _ (@pe_callB _ _ _ _ _ _ _ _ _ c_isi (by rfl) n_isinstance (by decide +kernel) (@pa_cons _ _ _ _ _ (dv 0) (@pa_cons _ _ _ _ _ (e_ty "bool" (by rfl) n_bool (by decide +kernel)) pa_nil (by rfl)) (by rfl)) (by decide) (by decide) (by rfl) (by rfl))))))), ?_⟩
    match vs, h with
    | [.int _], ⟨_, q⟩ => exact ⟨true, rfl, fun _ => ⟨false, rfl, q⟩, fun h => absurd h (by decide)⟩
    | [.bl _], ⟨_, q⟩ => exact ⟨true, rfl, fun _ => ⟨true, rfl, q⟩, fun h => absurd h (by decide)⟩
    | [.non], ⟨_, q⟩ => exact ⟨false, rfl, fun h => absurd h (by decide), fun _ => q⟩
    | [.str _], ⟨_, q⟩ => exact ⟨false, rfl, fun h => absurd h (by decide), fun _ => q⟩
    | [.ref _], ⟨⟨u, t, h1, h2, h3⟩, q⟩ => exact ⟨u, false, t, h1, h2, h3, fun h => absurd h (by decide), fun _ => q⟩
    | [.flt _], ⟨z, _⟩ => exact z.elim
    | [.byt _], ⟨z, _⟩ => exact z.elim
    | [.ty _], ⟨z, _⟩ => exact z.elim
def btw (v : V) (lo hi : Int) : Bool := match v with
  | .int i => decide (lo ≤ i) && decide (i ≤ hi)
  | _ => false
def sp_is_between (K : PySem.W.Frag) (ns : List Int) : Sp := fun vs H Q _ => match vs with
  | [v, .int lo, .int hi] => Kd H v ∧ Q (.bl (btw v lo hi)) H
  | _ => False
theorem sc_is_between : FnScope ["thing", "least", "most"] ["thing", "least", "most"] (defScope s_is_between) := ⟨rfl, rfl, rfl, by decide +kernel, rfl, by decide +kernel, by decide +kernel⟩
theorem ok_is_between (d : Dfn K mg "is_between" s_is_between ["thing", "least", "most"]) (er : Errs K mg c_LadderError c_NoBook c_NoFit c_NoGame c_NoNumber c_NoPlayer c_NoRow c_NoStretch c_NoTable c_NoTree c_NoWorth)   (c_is_whole : Cal P w K mg base "is_whole" ["thing"] 1 (sp_is_whole K ns)) : Cal P w K mg base "is_between" ["thing", "least", "most"] 2 (sp_is_between K ns) := by
  refine d.cal (k := 1) sc_is_between (fun vs H Q E h => ?_) (fun f cdv A outer s H vs Q E hr h => ?_)
  · match vs, h with
    | [v, .int lo, .int hi], _ => rfl
  · match vs, h with
    | [v, .int lo, .int hi], hq0 =>
      obtain ⟨kd, q⟩ := hq0
      refine ⟨_, (@pss_one _ _ _ (@ps_ret _ _ _ _ (@e_and _ _ _ _ _ _ _ (@e_call _ _ _ _ _ _ _ _ _ _ _ c_is_whole hr (by decide) (by rfl) (@pa_cons _ _ _ _ _ (dv 0) pa_nil (by rfl)) (by decide) (by rfl) (by rfl)) (@pe_one _ _ _ _ _ (@e_chain _ _ _ _ _ _ _ _ _ _ _ _ o_le o_le (dv 1) (dv 0) (dv 2) (by with_unfolding_all rfl)))))), ?_⟩
      match v, kd, q with
      | .int i, _, q =>
        refine ⟨True.intro, ⟨fun _ => ⟨fun h => ?_, fun h => ?_⟩, fun h => nb h⟩⟩
        · have e : btw (.int i) lo hi = decide (i ≤ hi) := by
            have h : decide (lo ≤ i) = true := h
            simp only [btw, h, Bool.true_and]
          rw [e] at q
          exact q
        · have e : btw (.int i) lo hi = false := by
            have h : decide (lo ≤ i) = false := h
            simp only [btw, h, Bool.false_and]
          rw [e] at q
          exact q
      | .bl _, kd, q => exact ⟨kd, ⟨fun h => nb h, fun _ => q⟩⟩
      | .non, kd, q => exact ⟨kd, ⟨fun h => nb h, fun _ => q⟩⟩
      | .str _, kd, q => exact ⟨kd, ⟨fun h => nb h, fun _ => q⟩⟩
      | .ref _, kd, q => exact ⟨kd, ⟨fun h => nb h, fun _ => q⟩⟩
      | .flt _, kd, _ => exact kd.elim
      | .byt _, kd, _ => exact kd.elim
      | .ty _, kd, _ => exact kd.elim
theorem ty_str {u : HO} {t : String} (h : tyHO u = some t) : tyB t "str" = some false := by
  cases u with
  | lst _ => cases h; rfl
  | tup _ => cases h; rfl
  | dK _ => cases h; rfl
  | dT _ => cases h; rfl
  | frz o u =>
    cases u with
    | lst _ => cases h; rfl
    | _ => cases h
  | _ => cases h
def isNmS (x : Str) : Bool := decide (1 ≤ x.length) && decide (x.length ≤ 8) && (co x).all fun c => decide (c ∈ co abc)
def isNm : V → Bool
  | .str x => isNmS x
  | _ => false
theorem abc_mem {c : Nat} : c ∈ co abc ↔ 97 ≤ c ∧ c < 123 := by
  have e : co abc = (List.range 26).map fun j => 97 + j := by decide +kernel
  rw [e, List.mem_map]
  constructor
  · rintro ⟨j, hj, rfl⟩
    have := List.mem_range.mp hj
    omega
  · intro h
    exact ⟨c - 97, List.mem_range.mpr (by omega), by omega⟩
theorem _root_.Lw.Nm.is {x : Str} (h : Nm x) : isNmS x = true := by
  unfold isNmS
  have l := co_len x
  have h1 := h.len1
  have h8 := h.len8
  rw [Bool.and_eq_true, Bool.and_eq_true]
  refine ⟨⟨decide_eq_true (by omega), decide_eq_true (by omega)⟩, List.all_eq_true.mpr fun c hc => decide_eq_true (abc_mem.mpr (h.abc c hc))⟩
def sp_is_name (K : PySem.W.Frag) (ns : List Int) : Sp := fun vs H Q _ => match vs with
  | [v] => Kd H v ∧ (∀ z, v = .str z → z.length ≤ 1000) ∧ ∀ H', Same H H' → Q (.bl (isNm v)) H'
  | _ => False
theorem sc_is_name : FnScope ["thing"] ["thing"] (defScope s_is_name) := ⟨rfl, rfl, rfl, by decide +kernel, rfl, by decide +kernel, by decide +kernel⟩
theorem ok_is_name (d : Dfn K mg "is_name" s_is_name ["thing"]) (er : Errs K mg c_LadderError c_NoBook c_NoFit c_NoGame c_NoNumber c_NoPlayer c_NoRow c_NoStretch c_NoTable c_NoTree c_NoWorth) (n_all : mg "all" = none) (n_len : mg "len" = none) (n_isinstance : mg "isinstance" = none) (n_str : mg "str" = none) (v_LETTERS : Cst mg "LETTERS" (.str "abcdefghijklmnopqrstuvwxyz")) (v_LONGEST_NAME : Cst mg "LONGEST_NAME" (.int (8)))  : Cal P w K mg base "is_name" ["thing"] 1 (sp_is_name K ns) := by
  refine d.cal (k := 0) sc_is_name (fun vs H Q E h => ?_) (fun f cdv A outer s H vs Q E hr h => ?_)
  · match vs, h with
    | [_], _ => rfl
  · refine ⟨_, (@pss_cons _ _ _ _ _ (@s_if _ _ _ _ _ _ _ _ (@L2.PW.pt _ _ _ (@w_or _ _ _ _ _ _ _ (@pt_not _ _ _ _ (@t_val _ _ _ (@pe_callB _ _ _ _ _ _ _ _ _ c_isi (by rfl) n_isinstance (by decide +kernel) (@pa_cons _ _ _ _ _ (dv 0) (@pa_cons _ _ _ _ _ (e_ty "str" (by rfl) n_str (by decide +kernel)) pa_nil (by rfl)) (by rfl)) (by decide) (by decide) (by rfl) (by rfl)) (by intro _; rfl))) (@pw_or1 _ _ _ _ (@pt_not _ _ _ _ (@t_chain _ _ _ _ _ _ _ _ _ _ _ _ o_le o_le pe_int (@pe_callB _ _ _ _ _ _ _ _ _ c_len (by rfl) n_len (by decide +kernel) (@pa_cons _ _ _ _ _ (dv 0) pa_nil (by rfl)) (by decide) (by decide) (by rfl) (by rfl)) (g_cst v_LONGEST_NAME (by rfl)) (by with_unfolding_all rfl)))))) (@pss_one _ _ _ (@ps_ret _ _ _ _ pe_bl)) pss_nil) (@pss_one _ _ _ (@ps_ret _ _ _ _ (@pe_callB _ _ _ _ _ _ _ _ _ (@c_all _ rfl) (by rfl) n_all (by decide +kernel) (@pa_cons _ _ _ _ _ (@e_compN _ _ _ _ _ _ _ _ _ _ ["sign"] [] [] rfl (@pi_str _ _ _ _ (dv 0)) (fun C s H fp => (@pg_name _ _ (0) _ (show List.Nodup [("sign" : Str)] by decide +kernel) rfl (by first | exact Or.inl rfl | exact Or.inr rfl) (by first | exact .inl rfl | exact .inr rfl | assumption))) (fun C s H fp => (@pe_cmpR _ _ _ _ _ _ _ _ o_in1 (dv 0) (g_cst v_LETTERS (by rfl)) (by with_unfolding_all rfl))) rfl rfl (by decide +kernel) (by decide +kernel) (by rfl) True.intro True.intro (by intro _; rfl)) pa_nil (by rfl)) (by decide) (by decide) (by rfl) (by rfl))))), ?_⟩
    match vs, h with
    | [.int _], ⟨_, _, q⟩ => exact ⟨false, rfl, ⟨fun _ => ⟨fun _ => q _ (Same.refl _), fun h => nb h⟩, fun h => nb h⟩⟩
    | [.bl _], ⟨_, _, q⟩ => exact ⟨false, rfl, ⟨fun _ => ⟨fun _ => q _ (Same.refl _), fun h => nb h⟩, fun h => nb h⟩⟩
    | [.non], ⟨_, _, q⟩ => exact ⟨false, rfl, ⟨fun _ => ⟨fun _ => q _ (Same.refl _), fun h => nb h⟩, fun h => nb h⟩⟩
    | [.ref _], ⟨⟨u, t, h1, h2, h3⟩, _, q⟩ => exact ⟨u, false, t, h1, h2, ty_str h2, ⟨fun _ => ⟨fun _ => q _ (Same.refl _), fun h => nb h⟩, fun h => nb h⟩⟩
    | [.flt _], ⟨z, _⟩ => exact z.elim
    | [.byt _], ⟨z, _⟩ => exact z.elim
    | [.ty _], ⟨z, _⟩ => exact z.elim
    | [.str x], ⟨_, hz, q⟩ =>
      have hz := hz x rfl
      refine ⟨true, rfl, ⟨fun h => nb h, fun _ => ⟨Nat.le_trans hz (by decide), ⟨fun h1 => ⟨fun h2 => ?_, fun h2 => ?_⟩, fun h1 => ?_⟩⟩⟩⟩
      · have h2 : ¬ (x.length : Int) ≤ 8 := by simpa using h2
        have e : isNm (.str x) = false := by
          show isNmS x = false
          unfold isNmS
          rw [decide_eq_false (show ¬ x.length ≤ 8 by omega), Bool.and_false, Bool.false_and]
        have q := q _ (Same.refl _)
        rw [e] at q
        exact q
      · have h2 : (x.length : Int) ≤ 8 := by simpa using h2
        show CGoal (Its x) _ _ _ _ _ _ _
        refine comp_str (fun c => .bl (decide (c ∈ co abc))) hz (fun c H2 hc s2 P hP => ⟨rfl, c, rfl, hP⟩) fun D H2 s2 e2 => ⟨(co x).map fun c => decide (c ∈ co abc), SqL.of (by rw [e2, List.map_map]; rfl), ?_⟩
        have e : isNm (.str x) = ((co x).map fun c => decide (c ∈ co abc)).all id := by
          have h1 : (1 : Int) ≤ x.length := of_decide_eq_true h1
          show isNmS x = _
          unfold isNmS
          rw [decide_eq_true (show 1 ≤ x.length by omega), decide_eq_true (show x.length ≤ 8 by omega), List.all_map]
          rfl
        rw [← e]
        exact q H2 s2
      · refine ⟨fun _ => ?_, fun h => nb h⟩
        have e : isNm (.str x) = false := by
          have h1 : ¬ (1 : Int) ≤ x.length := of_decide_eq_false h1
          show isNmS x = false
          unfold isNmS
          rw [decide_eq_false (show ¬ 1 ≤ x.length by omega), Bool.false_and, Bool.false_and]
        have q := q _ (Same.refl _)
        rw [e] at q
        exact q
def eqS : V → V → Bool
  | .str a, .str b => decide (a = b)
  | _, _ => false
def goodG (d x y h s : V) : Bool := btw d 0 9999 && isNm x && isNm y && !eqS x y && btw h 0 2 && btw s (-1) 1
def SL (v : V) : Prop := ∀ z, v = .str z → z.length ≤ 1000
def sp_game (K : PySem.W.Frag) (ns : List Int) : Sp := fun vs H Q E => match vs with
  | [d, x, y, h, s] => (Kd H d ∧ Kd H x ∧ Kd H y ∧ Kd H h ∧ Kd H s) ∧ (SL x ∧ SL y) ∧ (goodG d x y h s = false → ∀ H', Same H H' → ExN K "NoGame" E H') ∧ (goodG d x y h s = true → ∀ p H', Same H H' → H' p = some (.tup [d, x, y, h, s]) → Q (.ref p) H')
  | _ => False
theorem sc_game : FnScope ["day", "one", "other", "halves", "side"] ["day", "one", "other", "halves", "side"] (defScope s_game) := ⟨rfl, rfl, rfl, by decide +kernel, rfl, by decide +kernel, by decide +kernel⟩
theorem ok_game (d : Dfn K mg "game" s_game ["day", "one", "other", "halves", "side"]) (er : Errs K mg c_LadderError c_NoBook c_NoFit c_NoGame c_NoNumber c_NoPlayer c_NoRow c_NoStretch c_NoTable c_NoTree c_NoWorth)  (v_LAST_DAY : Cst mg "LAST_DAY" (.int (9999))) (c_is_between : Cal P w K mg base "is_between" ["thing", "least", "most"] 2 (sp_is_between K ns)) (c_is_name : Cal P w K mg base "is_name" ["thing"] 1 (sp_is_name K ns)) : Cal P w K mg base "game" ["day", "one", "other", "halves", "side"] 3 (sp_game K ns) := by
  refine d.calX (k := 2) sc_game (fun vs H Q E h => ?_) (fun f cdv A outer s H vs Q E hr h => ?_)
  · match vs, h with
    | [d0, x, y, h0, s0], _ => rfl
  · match vs, h with
    | [d0, x, y, h0, s0], hq0 =>
      obtain ⟨⟨kd, kx, ky, kh, ks⟩, ⟨lx, ly⟩, ex, q⟩ := hq0
      refine ⟨_, (@pss_cons _ _ _ _ _ (@s_if _ _ _ _ _ _ _ _ (@pt_not _ _ _ _ (@t_val _ _ _ (@e_call _ _ _ _ _ _ _ _ _ _ _ c_is_between hr (by decide) (by rfl) (@pa_cons _ _ _ _ _ (dv 0) (@pa_cons _ _ _ _ _ pe_int (@pa_cons _ _ _ _ _ (g_cst v_LAST_DAY (by rfl)) pa_nil (by rfl)) (by rfl)) (by rfl)) (by decide) (by rfl) (by rfl)) (by intro _; rfl))) (@pss_one _ _ _ (@ps_raise _ _ _ _ _ _ _ _ _ _ _ _ _ _ _ _ _ _ _ _ _ _ _ er.b_NoGame er.z_NoGame (by rfl) (by decide))) pss_nil) (@pss_cons _ _ _ _ _ (@s_if _ _ _ _ _ _ _ _ (@L2.PW.pt _ _ _ (@w_or _ _ _ _ _ _ _ (@pt_not _ _ _ _ (@t_val _ _ _ (@e_call _ _ _ _ _ _ _ _ _ _ _ c_is_name hr (by decide) (by rfl) (@pa_cons _ _ _ _ _ (dv 1) pa_nil (by rfl)) (by decide) (by rfl) (by rfl)) (by intro _; rfl))) (@pw_or1 _ _ _ _ (@pt_not _ _ _ _ (@t_val _ _ _ (@e_call _ _ _ _ _ _ _ _ _ _ _ c_is_name hr (by decide) (by rfl) (@pa_cons _ _ _ _ _ (dv 2) pa_nil (by rfl)) (by decide) (by rfl) (by rfl)) (by intro _; rfl)))))) (@pss_one _ _ _ (@ps_raise _ _ _ _ _ _ _ _ _ _ _ _ _ _ _ _ _ _ _ _ _ _ _ er.b_NoGame er.z_NoGame (by rfl) (by decide))) pss_nil) (@pss_cons _ _ _ _ _ (@s_if _ _ _ _ _ _ _ _ (@t_cmp _ _ _ _ _ _ _ _ o_eq (dv 1) (dv 2) (@nomark _ _ (by decide) (by decide))) (@pss_one _ _ _ (@ps_raise _ _ _ _ _ _ _ _ _ _ _ _ _ _ _ _ _ _ _ _ _ _ _ er.b_NoGame er.z_NoGame (by rfl) (by decide))) pss_nil) (@pss_cons _ _ _ _ _ (@s_if _ _ _ _ _ _ _ _ (@pt_not _ _ _ _ (@t_val _ _ _ (@e_call _ _ _ _ _ _ _ _ _ _ _ c_is_between hr (by decide) (by rfl) (@pa_cons _ _ _ _ _ (dv 3) (@pa_cons _ _ _ _ _ pe_int (@pa_cons _ _ _ _ _ pe_int pa_nil (by rfl)) (by rfl)) (by rfl)) (by decide) (by rfl) (by rfl)) (by intro _; rfl))) (@pss_one _ _ _ (@ps_raise _ _ _ _ _ _ _ _ _ _ _ _ _ _ _ _ _ _ _ _ _ _ _ er.b_NoGame er.z_NoGame (by rfl) (by decide))) pss_nil) (@pss_cons _ _ _ _ _ (@s_if _ _ _ _ _ _ _ _ (@pt_not _ _ _ _ (@t_val _ _ _ (@e_call _ _ _ _ _ _ _ _ _ _ _ c_is_between hr (by decide) (by rfl) (@pa_cons _ _ _ _ _ (dv 4) (@pa_cons _ _ _ _ _ (@pe_un _ _ _ _ _ _ u_neg pe_int) (@pa_cons _ _ _ _ _ pe_int pa_nil (by rfl)) (by rfl)) (by rfl)) (by decide) (by rfl) (by rfl)) (by intro _; rfl))) (@pss_one _ _ _ (@ps_raise _ _ _ _ _ _ _ _ _ _ _ _ _ _ _ _ _ _ _ _ _ _ _ er.b_NoGame er.z_NoGame (by rfl) (by decide))) pss_nil) (@pss_one _ _ _ (@ps_ret _ _ _ _ (@e_tup _ _ _ _ _ (@pa_cons _ _ _ _ _ (dv 0) (@pa_cons _ _ _ _ _ (dv 1) (@pa_cons _ _ _ _ _ (dv 2) (@pa_cons _ _ _ _ _ (dv 3) (@pa_cons _ _ _ _ _ (dv 4) pa_nil (by rfl)) (by rfl)) (by rfl)) (by rfl)) (by rfl)))))))))), ?_⟩
      refine ⟨kd, ⟨fun h1 => ?_, fun h1 => ?_⟩⟩
      · have h1 : btw d0 0 9999 = false := by simpa using h1
        exact ex (by simp [goodG, h1]) H (Same.refl _) _ er.y_NoGame
      have h1 : btw d0 0 9999 = true := by simpa using h1
      refine ⟨kx, lx, fun H1 s1 => ⟨fun h2 => ⟨fun _ => ?_, fun h => absurd h (by decide)⟩, fun h2 => ⟨ky.up s1, ly, fun H2 s2 => ⟨fun h3 => ?_, fun h3 => ?_⟩⟩⟩⟩
      · have h2 : isNm x = false := by simpa using h2
        exact ex (by simp [goodG, h2]) H1 s1 _ er.y_NoGame
      · have h3 : isNm y = false := by simpa using h3
        exact ex (by simp [goodG, h3]) H2 (s1.trans s2) _ er.y_NoGame
      have h2 : isNm x = true := by simpa using h2
      have h3 : isNm y = true := by simpa using h3
      have s2 := s1.trans s2
      match x, y, h2, h3, ex, q with
      | .str x, .str y, h2, h3, ex, q =>
        refine ⟨fun h4 => ?_, fun h4 => ⟨kh.up s2, ⟨fun h5 => ?_, fun h5 => ⟨ks.up s2, ⟨fun h6 => ?_, fun h6 => fun p H' s e => ?_⟩⟩⟩⟩⟩
        · have h4 : eqS (.str x) (.str y) = true := h4
          exact ex (by simp [goodG, h4]) H2 s2 _ er.y_NoGame
        · have h5 : btw h0 0 2 = false := by simpa using h5
          exact ex (by simp [goodG, h5]) H2 s2 _ er.y_NoGame
        · have h6 : btw s0 (-1) 1 = false := by simpa using h6
          exact ex (by simp [goodG, h6]) H2 s2 _ er.y_NoGame
        · have h4 : eqS (.str x) (.str y) = false := h4
          have h5 : btw h0 0 2 = true := by simpa using h5
          have h6 : btw s0 (-1) 1 = true := by simpa using h6
          exact q (by simp [goodG, h1, h2, h3, h4, h5, h6]) p H' (s2.trans s) e
def fig10 : Str := "0123456789"
def sd (x : Str) : Bool := decide ((co x).getLast? = some 42)
def us (x : Str) : Str := if sd x then Txt.slice x none (some (-1)) else x
def sideO (x y : Str) : Int := if sd x then 1 else if sd y then -1 else 0
def isDy (x : Str) : Bool := decide (x = "0") || (decide (1 ≤ x.length) && decide (x.length ≤ 4) && !decide ((co x)[0]? = some 48) && (co x).all fun c => decide (c ∈ co fig10))
theorem fig_mem {c : Nat} : c ∈ co fig10 ↔ 48 ≤ c ∧ c ≤ 57 := by
  have e : co fig10 = (List.range 10).map fun j => 48 + j := by decide +kernel
  rw [e, List.mem_map]
  constructor
  · rintro ⟨j, hj, rfl⟩
    have := List.mem_range.mp hj
    omega
  · intro h
    exact ⟨c - 48, List.mem_range.mpr (by omega), by omega⟩
def sp_is_starred (K : PySem.W.Frag) (ns : List Int) : Sp := fun vs H Q _ => match vs with
  | [.str x] => Q (.bl (sd x)) H
  | _ => False
theorem sc_is_starred : FnScope ["word"] ["word"] (defScope s_is_starred) := ⟨rfl, rfl, rfl, by decide +kernel, rfl, by decide +kernel, by decide +kernel⟩
theorem ok_is_starred (d : Dfn K mg "is_starred" s_is_starred ["word"]) (er : Errs K mg c_LadderError c_NoBook c_NoFit c_NoGame c_NoNumber c_NoPlayer c_NoRow c_NoStretch c_NoTable c_NoTree c_NoWorth)    : Cal P w K mg base "is_starred" ["word"] 1 (sp_is_starred K ns) := by
  refine d.cal (k := 0) sc_is_starred (fun vs H Q E h => ?_) (fun f cdv A outer s H vs Q E hr h => ?_)
  · match vs, h with
    | [.str x], _ => rfl
  · match vs, h with
    | [.str x], hq0 =>
      have q := hq0
      refine ⟨_, (@pss_one _ _ _ (@ps_ret _ _ _ _ (@pe_bm _ _ _ _ _ _ _ _ _ _ _ _ PySem.F.plainAttrs_str PySem.F.slot_str_endswith PySem.F.type_str_endswith m_ends (dv 0) (@pa_cons _ _ _ _ _ pe_str pa_nil (by rfl)) (by rfl) (by rfl) (by rfl) (by rfl) (by rfl)))), ?_⟩
      refine ⟨rfl, ?_⟩
      have e : Txt.endswith x "*" = sd x := ends1 x 42
      show Q (.bl (Txt.endswith x "*")) H
      rw [e]
      exact q
def sp_unstarred (K : PySem.W.Frag) (ns : List Int) : Sp := fun vs H Q _ => match vs with
  | [.str x] => x.length ≤ 1000 ∧ Q (.str (us x)) H
  | _ => False
theorem sc_unstarred : FnScope ["word"] ["word"] (defScope s_unstarred) := ⟨rfl, rfl, rfl, by decide +kernel, rfl, by decide +kernel, by decide +kernel⟩
theorem ok_unstarred (d : Dfn K mg "unstarred" s_unstarred ["word"]) (er : Errs K mg c_LadderError c_NoBook c_NoFit c_NoGame c_NoNumber c_NoPlayer c_NoRow c_NoStretch c_NoTable c_NoTree c_NoWorth)   (c_is_starred : Cal P w K mg base "is_starred" ["word"] 1 (sp_is_starred K ns)) : Cal P w K mg base "unstarred" ["word"] 2 (sp_unstarred K ns) := by
  refine d.cal (k := 1) sc_unstarred (fun vs H Q E h => ?_) (fun f cdv A outer s H vs Q E hr h => ?_)
  · match vs, h with
    | [.str x], _ => rfl
  · match vs, h with
    | [.str x], hq0 =>
      obtain ⟨hz, q⟩ := hq0
      refine ⟨_, (@pss_one _ _ _ (@ps_ret _ _ _ _ (@e_if _ _ _ _ _ _ _ _ (@t_val _ _ _ (@e_call _ _ _ _ _ _ _ _ _ _ _ c_is_starred hr (by decide) (by rfl) (@pa_cons _ _ _ _ _ (dv 0) pa_nil (by rfl)) (by decide) (by rfl) (by rfl)) (by intro _; rfl)) (@pe_slice _ _ _ _ _ _ _ _ _ _ sl_str (dv 0) po_none (po_some (pe_un u_neg pe_int))) (dv 0)))), ?_⟩
      unfold us at q
      refine ⟨fun h => ?_, fun h => ?_⟩
      · rw [if_pos h] at q
        exact ⟨_, rfl, Nat.le_trans hz (by decide), q⟩
      · rw [if_neg (by rw [h]; decide)] at q
        exact q
def sp_side_of (K : PySem.W.Frag) (ns : List Int) : Sp := fun vs H Q _ => match vs with
  | [.str x, .str y] => Q (.int (sideO x y)) H
  | _ => False
theorem sc_side_of : FnScope ["one", "other"] ["one", "other"] (defScope s_side_of) := ⟨rfl, rfl, rfl, by decide +kernel, rfl, by decide +kernel, by decide +kernel⟩
theorem ok_side_of (d : Dfn K mg "side_of" s_side_of ["one", "other"]) (er : Errs K mg c_LadderError c_NoBook c_NoFit c_NoGame c_NoNumber c_NoPlayer c_NoRow c_NoStretch c_NoTable c_NoTree c_NoWorth)   (c_is_starred : Cal P w K mg base "is_starred" ["word"] 1 (sp_is_starred K ns)) : Cal P w K mg base "side_of" ["one", "other"] 2 (sp_side_of K ns) := by
  refine d.cal (k := 1) sc_side_of (fun vs H Q E h => ?_) (fun f cdv A outer s H vs Q E hr h => ?_)
  · match vs, h with
    | [.str x, .str y], _ => rfl
  · match vs, h with
    | [.str x, .str y], hq0 =>
      have q := hq0
      refine ⟨_, (@pss_cons _ _ _ _ _ (@s_if _ _ _ _ _ _ _ _ (@t_val _ _ _ (@e_call _ _ _ _ _ _ _ _ _ _ _ c_is_starred hr (by decide) (by rfl) (@pa_cons _ _ _ _ _ (dv 0) pa_nil (by rfl)) (by decide) (by rfl) (by rfl)) (by intro _; rfl)) (@pss_one _ _ _ (@ps_ret _ _ _ _ pe_int)) pss_nil) (@pss_one _ _ _ (@ps_ret _ _ _ _ (@e_if _ _ _ _ _ _ _ _ (@t_val _ _ _ (@e_call _ _ _ _ _ _ _ _ _ _ _ c_is_starred hr (by decide) (by rfl) (@pa_cons _ _ _ _ _ (dv 1) pa_nil (by rfl)) (by decide) (by rfl) (by rfl)) (by intro _; rfl)) (@pe_un _ _ _ _ _ _ u_neg pe_int) pe_int)))), ?_⟩
      have q : Q (.int (sideO x y)) H := q
      unfold sideO at q
      refine ⟨fun h => ?_, fun h => ⟨fun h' => ?_, fun h' => ?_⟩⟩
      · rw [if_pos h] at q
        exact q
      · rw [if_neg (by rw [h]; decide), if_pos h'] at q
        exact q
      · rw [if_neg (by rw [h]; decide), if_neg (by rw [h']; decide)] at q
        exact q
def sp_is_number (K : PySem.W.Frag) (ns : List Int) : Sp := fun vs H Q _ => match vs with
  | [.str x, .int m] => (m = 4 ∧ x.length ≤ 1000) ∧ ∀ H', Same H H' → Q (.bl (isDy x)) H'
  | _ => False
theorem sc_is_number : FnScope ["word", "longest"] ["word", "longest"] (defScope s_is_number) := ⟨rfl, rfl, rfl, by decide +kernel, rfl, by decide +kernel, by decide +kernel⟩
theorem ok_is_number (d : Dfn K mg "is_number" s_is_number ["word", "longest"]) (er : Errs K mg c_LadderError c_NoBook c_NoFit c_NoGame c_NoNumber c_NoPlayer c_NoRow c_NoStretch c_NoTable c_NoTree c_NoWorth) (n_all : mg "all" = none) (n_len : mg "len" = none) (v_FIGURES : Cst mg "FIGURES" (.str "0123456789"))  : Cal P w K mg base "is_number" ["word", "longest"] 1 (sp_is_number K ns) := by
  refine d.cal (k := 0) sc_is_number (fun vs H Q E h => ?_) (fun f cdv A outer s H vs Q E hr h => ?_)
  · match vs, h with
    | [.str x, .int m], _ => rfl
  · match vs, h with
    | [.str x, .int m], hq0 =>
      obtain ⟨⟨hm, hz⟩, q⟩ := hq0
      refine ⟨_, (@pss_cons _ _ _ _ _ (@s_if _ _ _ _ _ _ _ _ (@t_cmp _ _ _ _ _ _ _ _ o_eq (dv 0) pe_str (@nomark _ _ (by decide) (by decide))) (@pss_one _ _ _ (@ps_ret _ _ _ _ pe_bl)) pss_nil) (@pss_cons _ _ _ _ _ (@s_if _ _ _ _ _ _ _ _ (@L2.PW.pt _ _ _ (@w_or _ _ _ _ _ _ _ (@pt_not _ _ _ _ (@t_chain _ _ _ _ _ _ _ _ _ _ _ _ o_le o_le pe_int (@pe_callB _ _ _ _ _ _ _ _ _ c_len (by rfl) n_len (by decide +kernel) (@pa_cons _ _ _ _ _ (dv 0) pa_nil (by rfl)) (by decide) (by decide) (by rfl) (by rfl)) (dv 1) (by with_unfolding_all rfl))) (@pw_or1 _ _ _ _ (@t_cmp _ _ _ _ _ _ _ _ o_eq (@pe_ix _ _ _ _ _ _ _ i_str (dv 0) pe_int (fun _ _ => rfl)) pe_str (@nomark _ _ (by decide) (by decide)))))) (@pss_one _ _ _ (@ps_ret _ _ _ _ pe_bl)) pss_nil) (@pss_one _ _ _ (@ps_ret _ _ _ _ (@pe_callB _ _ _ _ _ _ _ _ _ (@c_all _ rfl) (by rfl) n_all (by decide +kernel) (@pa_cons _ _ _ _ _ (@e_compN _ _ _ _ _ _ _ _ _ _ ["sign"] [] [] rfl (@pi_str _ _ _ _ (dv 0)) (fun C s H fp => (@pg_name _ _ (0) _ (show List.Nodup [("sign" : Str)] by decide +kernel) rfl (by first | exact Or.inl rfl | exact Or.inr rfl) (by first | exact .inl rfl | exact .inr rfl | assumption))) (fun C s H fp => (@pe_cmpR _ _ _ _ _ _ _ _ o_in1 (dv 0) (g_cst v_FIGURES (by rfl)) (by with_unfolding_all rfl))) rfl rfl (by decide +kernel) (by decide +kernel) (by rfl) True.intro True.intro (by intro _; rfl)) pa_nil (by rfl)) (by decide) (by decide) (by rfl) (by rfl)))))), ?_⟩
      subst hm
      refine ⟨fun h0 => ?_, fun h0 => ?_⟩
      · have h0 : decide (x = "0") = true := h0
        have e : isDy x = true := by
          unfold isDy
          rw [h0, Bool.true_or]
        have q := q H (Same.refl _)
        rw [e] at q
        exact q
      have h0 : decide (x = "0") = false := h0
      have hl := co_len x
      have no : isDy x = false → Q (.bl false) H := fun e => by
        have q := q H (Same.refl _)
        rw [e] at q
        exact q
      refine ⟨Nat.le_trans hz (by decide), ⟨fun h1 => ⟨fun h2 => ⟨fun _ => ?_, fun h => nb h⟩, fun h2 => ?_⟩, fun h1 => ⟨fun _ => ⟨fun _ => ?_, fun h => nb h⟩, fun h => nb h⟩⟩⟩
      · have h2 : ¬ (x.length : Int) ≤ 4 := by simpa using h2
        refine no ?_
        unfold isDy
        rw [h0, decide_eq_false (show ¬ x.length ≤ 4 by omega)]
        simp
      · have h1 : (1 : Int) ≤ x.length := of_decide_eq_true h1
        have h2 : (x.length : Int) ≤ 4 := by simpa using h2
        cases ec : co x with
        | nil =>
          rw [ec] at hl
          have : 0 = x.length := hl
          omega
        | cons c r =>
          have ei : (co x)[0]? = some c := by rw [ec]; rfl
          refine ⟨c, Nat.le_trans hz (by decide), atI_nat (j := 0) ei, ⟨fun h3 => ?_, fun h3 => ?_⟩⟩
          · have h3 : (⟨#[c]⟩ : Str) = "0" := of_decide_eq_true h3
            have hc : c = 48 := by
              have := congrArg co h3
              rw [co_one] at this
              have e : co ("0" : Str) = [48] := by decide +kernel
              rw [e] at this
              exact (List.cons.inj this).1
            refine no ?_
            unfold isDy
            rw [h0, ei, hc]
            simp
          · have h3 : ¬ (⟨#[c]⟩ : Str) = "0" := of_decide_eq_false h3
            have hc : c ≠ 48 := by
              rintro rfl
              exact h3 (by decide +kernel)
            show CGoal (Its x) _ _ _ _ _ _ _
            refine comp_str (fun c => .bl (decide (c ∈ co fig10))) hz (fun c H2 hc s2 P hP => ⟨rfl, c, rfl, hP⟩) fun D H2 s2 e2 => ⟨(co x).map fun c => decide (c ∈ co fig10), SqL.of (by rw [e2, List.map_map]; rfl), ?_⟩
            have e : isDy x = ((co x).map fun c => decide (c ∈ co fig10)).all id := by
              unfold isDy
              rw [h0, decide_eq_true (show 1 ≤ x.length by omega), decide_eq_true (show x.length ≤ 4 by omega), ei, List.all_map]
              simp [hc]
            rw [← e]
            exact q H2 s2
      · have h1 : ¬ (1 : Int) ≤ x.length := of_decide_eq_false h1
        refine no ?_
        unfold isDy
        rw [h0, decide_eq_false (show ¬ 1 ≤ x.length by omega)]
        simp
def wd (h : Int) : Str := if h = 0 then "lost" else if h = 1 then "drew" else "beat"
def isW (x : Str) : Bool := decide (x = "lost") || decide (x = "drew") || decide (x = "beat")
def wi (x : Str) : Int := if x = "lost" then 0 else if x = "drew" then 1 else 2
def num (x : Str) : Int := (NumText.digitsVal (co x) : Nat)
def rd4 (a b c d : Str) : Bool := isDy a && isW c && !(sd b && sd d) && goodG (.int (num a)) (.str (us b)) (.str (us d)) (.int (wi c)) (.int (sideO b d))
def rdL : List Str → Option (List V)
  | [a, b, c, d] => if rd4 a b c d then some [.int (num a), .str (us b), .str (us d), .int (wi c), .int (sideO b d)] else none
  | _ => none
def rd (x : Str) : Option (List V) := rdL (Txt.split x ⟨#[32]⟩)
theorem dy_num {x : Str} (h : isDy x = true) : x.length ≤ 4 ∧ PySem.intText? x = some (num x) := by
  have hl := co_len x
  have e0 : co ("0" : Str) = [48] := by decide +kernel
  have key : x.length ≤ 4 ∧ co x ≠ [] ∧ ∀ c ∈ co x, 48 ≤ c ∧ c ≤ 57 := by
    unfold isDy at h
    rw [Bool.or_eq_true] at h
    rcases h with h | h
    · have h : x = "0" := of_decide_eq_true h
      subst h
      refine ⟨by rw [← hl, e0]; decide, by rw [e0]; simp, fun c hc => ?_⟩
      rw [e0] at hc
      have : c = 48 := by simpa using hc
      omega
    · rw [Bool.and_eq_true, Bool.and_eq_true, Bool.and_eq_true] at h
      obtain ⟨⟨⟨h1, h2⟩, _⟩, h4⟩ := h
      have h1 := of_decide_eq_true h1
      have h2 := of_decide_eq_true h2
      refine ⟨h2, fun e => ?_, fun c hc => fig_mem.mp (of_decide_eq_true (List.all_eq_true.mp h4 c hc))⟩
      rw [e] at hl
      have : 0 = x.length := hl
      omega
  exact ⟨key.1, intText_digits key.2.2 key.2.1 (by omega)⟩
theorem join_short (c : Nat) : ∀ {ws : List Str} {p : Str}, p ∈ ws → (co p).length ≤ (co (Str.join ⟨#[c]⟩ ws)).length
  | [a], p, h => by
    have : p = a := by simpa using h
    rw [this]
    exact Nat.le_refl _
  | a :: b :: r, p, h => by
    rw [co_join2, List.length_append, List.length_cons]
    rcases List.mem_cons.mp h with rfl | h
    · omega
    · have := join_short c (ws := b :: r) h
      omega
theorem split_short {x p : Str} (h : p ∈ Txt.split x ⟨#[32]⟩) : p.length ≤ x.length := by
  have := join_short 32 h
  rw [StrLaws.join_split, co_len, co_len] at this
  exact this
theorem rd_no {x a b c d : Str} (ew : Txt.split x ⟨#[32]⟩ = [a, b, c, d]) (e : rd4 a b c d = false) : rd x = none := by
  unfold rd
  rw [ew]
  show (if rd4 a b c d = true then _ else _) = _
  rw [e]
  rfl
theorem rd_yes {x a b c d : Str} (ew : Txt.split x ⟨#[32]⟩ = [a, b, c, d]) (e : rd4 a b c d = true) : rd x = some [.int (num a), .str (us b), .str (us d), .int (wi c), .int (sideO b d)] := by
  unfold rd
  rw [ew]
  show (if rd4 a b c d = true then _ else _) = _
  rw [if_pos e]
theorem in_words (c : Str) : inV (.str c) [.str "lost", .str "drew", .str "beat"] = isW c := by
  show (eqV (.str "lost") (.str c) || (eqV (.str "drew") (.str c) || (eqV (.str "beat") (.str c) || false))) = _
  unfold isW
  have e : ∀ y : Str, eqV (.str y) (.str c) = decide (c = y) := fun y => by
    show (y == c) = _
    by_cases h : y = c
    · subst h
      simp
    · have h' : ¬ c = y := fun z => h z.symm
      simp [h, h']
  rw [e, e, e, Bool.or_false, Bool.or_assoc]
def RG1 (x : Str) (H : Hp) : L2.St → Hp → Prop := fun σ H' => ∃ (L : Addr) (a b c d : Str), σ = [some (.str x), some (.ref L), none] ∧ Same H H' ∧ H' L = some (.lst [.str a, .str b, .str c, .str d]) ∧ Txt.split x ⟨#[32]⟩ = [a, b, c, d] ∧ isDy a = true ∧ isW c = true
def RG2 (x : Str) (H : Hp) : L2.St → Hp → Prop := fun σ H' => ∃ (L : Addr) (a b c d : Str), σ = [some (.str x), some (.ref L), none] ∧ Same H H' ∧ H' L = some (.lst [.str a, .str b, .str c, .str d]) ∧ Txt.split x ⟨#[32]⟩ = [a, b, c, d] ∧ isDy a = true ∧ isW c = true ∧ (sd b && sd d) = false
def sp_read_game (K : PySem.W.Frag) (ns : List Int) : Sp := fun vs H Q E => match vs with
  | [.str x] => x.length ≤ 900 ∧ (rd x = none → ∀ H', Same H H' → ExN K "NoGame" E H') ∧ (∀ g, rd x = some g → ∀ p H', Same H H' → H' p = some (.tup g) → Q (.ref p) H')
  | _ => False
theorem sc_read_game : FnScope ["text", "words", "side"] ["text"] (defScope s_read_game) := ⟨rfl, rfl, rfl, by decide +kernel, rfl, by decide +kernel, by decide +kernel⟩
theorem ok_read_game (d : Dfn K mg "read_game" s_read_game ["text"]) (er : Errs K mg c_LadderError c_NoBook c_NoFit c_NoGame c_NoNumber c_NoPlayer c_NoRow c_NoStretch c_NoTable c_NoTree c_NoWorth) (n_int : mg "int" = none) (n_len : mg "len" = none) (n_isinstance : mg "isinstance" = none) (n_str : mg "str" = none) (v_WORDS : Cst mg "WORDS" (.ref a_WORDS)) (w_WORDS : TupD K a_WORDS [.str "lost", .str "drew", .str "beat"]) (v_LONGEST_DAY : Cst mg "LONGEST_DAY" (.int (4))) (c_game : Cal P w K mg base "game" ["day", "one", "other", "halves", "side"] 3 (sp_game K ns)) (c_unstarred : Cal P w K mg base "unstarred" ["word"] 2 (sp_unstarred K ns)) (c_side_of : Cal P w K mg base "side_of" ["one", "other"] 2 (sp_side_of K ns)) (c_is_starred : Cal P w K mg base "is_starred" ["word"] 1 (sp_is_starred K ns)) (c_is_number : Cal P w K mg base "is_number" ["word", "longest"] 1 (sp_is_number K ns)) : Cal P w K mg base "read_game" ["text"] 4 (sp_read_game K ns) := by
  refine d.calX (k := 3) sc_read_game (fun vs H Q E h => ?_) (fun f cdv A outer s H vs Q E hr h => ?_)
  · match vs, h with
    | [.str x], _ => rfl
  · match vs, h with
    | [.str x], hq0 =>
      obtain ⟨hz, ex, q⟩ := hq0
      refine ⟨_, (@pss_cons _ _ _ _ _ (@s_if _ _ _ _ _ _ _ _ (@pt_not _ _ _ _ (@t_val _ _ _ (@pe_callB _ _ _ _ _ _ _ _ _ c_isi (by rfl) n_isinstance (by decide +kernel) (@pa_cons _ _ _ _ _ (dv 0) (@pa_cons _ _ _ _ _ (e_ty "str" (by rfl) n_str (by decide +kernel)) pa_nil (by rfl)) (by rfl)) (by decide) (by decide) (by rfl) (by rfl)) (by intro _; rfl))) (@pss_one _ _ _ (@ps_raise _ _ _ _ _ _ _ _ _ _ _ _ _ _ _ _ _ _ _ _ _ _ _ er.b_NoGame er.z_NoGame (by rfl) (by decide))) pss_nil) (@pss_cons _ _ _ _ _ (@ps_set _ _ (1) _ _ _ _ sc_read_game.nd rfl (by first | exact Or.inl rfl | exact Or.inr rfl) (@pe_bm _ _ _ _ _ _ _ _ _ _ _ _ PySem.F.plainAttrs_str PySem.F.slot_str_split PySem.F.type_str_split m_split (dv 0) (@pa_cons _ _ _ _ _ pe_str pa_nil (by rfl)) (by rfl) (by rfl) (by rfl) (by rfl) (by rfl)) (by rfl) (by first | exact .inl rfl | exact .inr rfl | assumption)) (@ss_cut _ (RG1 x H) _ _ _ _ (@s_if _ _ _ _ _ _ _ _ (@L2.PW.pt _ _ _ (@w_or _ _ _ _ _ _ _ (@t_cmp _ _ _ _ _ _ _ _ o_ne (@pe_callB _ _ _ _ _ _ _ _ _ c_len (by rfl) n_len (by decide +kernel) (@pa_cons _ _ _ _ _ (dv 1) pa_nil (by rfl)) (by decide) (by decide) (by rfl) (by rfl)) pe_int (@nomark _ _ (by decide) (by decide))) (@w_or _ _ _ _ _ _ _ (@pt_not _ _ _ _ (@t_val _ _ _ (@e_call _ _ _ _ _ _ _ _ _ _ _ c_is_number hr (by decide) (by rfl) (@pa_cons _ _ _ _ _ (@pe_ix _ _ _ _ _ _ _ i_lst (dv 1) pe_int (fun _ _ => rfl)) (@pa_cons _ _ _ _ _ (g_cst v_LONGEST_DAY (by rfl)) pa_nil (by rfl)) (by rfl)) (by decide) (by rfl) (by rfl)) (by intro _; rfl))) (@pw_or1 _ _ _ _ (@t_cmp _ _ _ _ _ _ _ _ o_notin (@pe_ix _ _ _ _ _ _ _ i_lst (dv 1) pe_int (fun _ _ => rfl)) (g_cst v_WORDS (by rfl)) (by with_unfolding_all rfl)))))) (@pss_one _ _ _ (@ps_raise _ _ _ _ _ _ _ _ _ _ _ _ _ _ _ _ _ _ _ _ _ _ _ er.b_NoGame er.z_NoGame (by rfl) (by decide))) pss_nil) (@ss_cut _ (RG2 x H) _ _ _ _ (@s_if _ _ _ _ _ _ _ _ (@L2.PW.pt _ _ _ (@w_and _ _ _ _ _ _ _ (@t_val _ _ _ (@e_call _ _ _ _ _ _ _ _ _ _ _ c_is_starred hr (by decide) (by rfl) (@pa_cons _ _ _ _ _ (@pe_ix _ _ _ _ _ _ _ i_lst (dv 1) pe_int (fun _ _ => rfl)) pa_nil (by rfl)) (by decide) (by rfl) (by rfl)) (by intro _; rfl)) (@pw_and1 _ _ _ _ (@t_val _ _ _ (@e_call _ _ _ _ _ _ _ _ _ _ _ c_is_starred hr (by decide) (by rfl) (@pa_cons _ _ _ _ _ (@pe_ix _ _ _ _ _ _ _ i_lst (dv 1) pe_int (fun _ _ => rfl)) pa_nil (by rfl)) (by decide) (by rfl) (by rfl)) (by intro _; rfl))))) (@pss_one _ _ _ (@ps_raise _ _ _ _ _ _ _ _ _ _ _ _ _ _ _ _ _ _ _ _ _ _ _ er.b_NoGame er.z_NoGame (by rfl) (by decide))) pss_nil) (@pss_cons _ _ _ _ _ (@ps_set _ _ (2) _ _ _ _ sc_read_game.nd rfl (by first | exact Or.inl rfl | exact Or.inr rfl) (@e_call _ _ _ _ _ _ _ _ _ _ _ c_side_of hr (by decide) (by rfl) (@pa_cons _ _ _ _ _ (@pe_ix _ _ _ _ _ _ _ i_lst (dv 1) pe_int (fun _ _ => rfl)) (@pa_cons _ _ _ _ _ (@pe_ix _ _ _ _ _ _ _ i_lst (dv 1) pe_int (fun _ _ => rfl)) pa_nil (by rfl)) (by rfl)) (by decide) (by rfl) (by rfl)) (by rfl) (by first | exact .inl rfl | exact .inr rfl | assumption)) (@pss_one _ _ _ (@ps_ret _ _ _ _ (@e_callX _ _ _ _ _ _ _ _ _ _ _ _ _ _ _ _ _ _ _ _ _ _ _ _ _ c_game hr (by decide) (by rfl) (@pa_cons _ _ _ _ _ (@pe_callTy _ _ _ _ _ _ _ _ _ c_intS (by rfl) n_int (by decide +kernel) (@pa_cons _ _ _ _ _ (@pe_ix _ _ _ _ _ _ _ i_lst (dv 1) pe_int (fun _ _ => rfl)) pa_nil (by rfl)) (by decide) (by decide) (by rfl) (by rfl)) (@pa_cons _ _ _ _ _ (@e_call _ _ _ _ _ _ _ _ _ _ _ c_unstarred hr (by decide) (by rfl) (@pa_cons _ _ _ _ _ (@pe_ix _ _ _ _ _ _ _ i_lst (dv 1) pe_int (fun _ _ => rfl)) pa_nil (by rfl)) (by decide) (by rfl) (by rfl)) (@pa_cons _ _ _ _ _ (@e_call _ _ _ _ _ _ _ _ _ _ _ c_unstarred hr (by decide) (by rfl) (@pa_cons _ _ _ _ _ (@pe_ix _ _ _ _ _ _ _ i_lst (dv 1) pe_int (fun _ _ => rfl)) pa_nil (by rfl)) (by decide) (by rfl) (by rfl)) (@pa_cons _ _ _ _ _ (@pe_bm _ _ _ _ _ _ _ _ _ _ _ _ PySem.F.plainAttrs_tuple PySem.F.slot_tuple_index PySem.F.type_tuple_index m_tidx (g_cst v_WORDS (by rfl)) (@pa_cons _ _ _ _ _ (@pe_ix _ _ _ _ _ _ _ i_lst (dv 1) pe_int (fun _ _ => rfl)) pa_nil (by rfl)) (by rfl) (by rfl) (by rfl) (by rfl) (by rfl)) (@pa_cons _ _ _ _ _ (dv 2) pa_nil (by rfl)) (by rfl)) (by rfl)) (by rfl)) (by rfl)) (by decide) (by rfl) (by rfl))))))))), ?_⟩
      refine ⟨true, rfl, ⟨fun h => nb h, fun _ => ?_⟩⟩
      refine ⟨rfl, by decide +kernel, Nat.le_trans hz (by decide), fun L H1 s1 e1 => ?_⟩
      have e1 : H1 L = some (.lst ((Txt.split x ⟨#[32]⟩).map V.str)) := e1
      have ls : ∀ p ∈ Txt.split x ⟨#[32]⟩, p.length ≤ 1000 := fun p hp => Nat.le_trans (split_short hp) (by omega)
      refine ⟨?_, ?_⟩
      · refine ⟨_, .inl (SqL.of e1), ⟨fun h1 => ⟨fun _ => ?_, fun h => nb h⟩, fun h1 => ?_⟩⟩
        · have h1 : ¬ (((Txt.split x ⟨#[32]⟩).map V.str).length : Int) = 4 := by simpa using h1
          refine ex ?_ H1 s1 _ er.y_NoGame
          unfold rd rdL
          split
          · rename_i e
            rw [e] at h1
            exact absurd rfl h1
          · rfl
        have h1 : (((Txt.split x ⟨#[32]⟩).map V.str).length : Int) = 4 := by simpa using h1
        have h1 : (Txt.split x ⟨#[32]⟩).length = 4 := by
          rw [List.length_map] at h1
          omega
        obtain ⟨a, b, c, d', ew⟩ : ∃ a b c d' : Str, Txt.split x ⟨#[32]⟩ = [a, b, c, d'] := by
          generalize Txt.split x ⟨#[32]⟩ = ws at h1
          match ws, h1 with
          | [a, b, c, d'], _ => exact ⟨a, b, c, d', rfl⟩
        have no := rd_no (x := x) ew
        have e1 : H1 L = some (.lst [.str a, .str b, .str c, .str d']) := by rw [e1, ew]; rfl
        refine ⟨_, _, SqL.of e1, atI_nat (j := 0) rfl, ⟨rfl, ls a (by rw [ew]; simp)⟩, fun H2 s2 => ⟨fun h2 => ⟨fun _ => ?_, fun h => nb h⟩, fun h2 => ?_⟩⟩
        · have h2 : isDy a = false := by simpa using h2
          exact ex (no (by unfold rd4; rw [h2]; rfl)) H2 (s1.trans s2) _ er.y_NoGame
        have h2 : isDy a = true := by simpa using h2
        have e2 := s2 _ _ e1
        have ein := in_words c
        refine ⟨_, _, SqL.of e2, atI_nat (j := 2) rfl, _, .inr (w_WORDS.sq _), rfl, rfl, ⟨fun h3 => ?_, fun h3 => ?_⟩⟩
        · have h3 : (!inV (.str c) [.str "lost", .str "drew", .str "beat"]) = true := h3
          rw [ein] at h3
          have h3 : isW c = false := by simpa using h3
          exact ex (no (by unfold rd4; rw [h2, h3]; rfl)) H2 (s1.trans s2) _ er.y_NoGame
        have h3 : (!inV (.str c) [.str "lost", .str "drew", .str "beat"]) = false := h3
        rw [ein] at h3
        have h3 : isW c = true := by simpa using h3
        exact ⟨L, a, b, c, d', rfl, s1.trans s2, e2, ew, h2, h3⟩
      rintro σ H2 ⟨L, a, b, c, d', rfl, s2, e2, ew, ha, hc⟩
      have no := rd_no (x := x) ew
      refine ⟨?_, ?_⟩
      · refine ⟨_, _, SqL.of e2, atI_nat (j := 1) rfl, ⟨fun h1 => ⟨_, _, SqL.of e2, atI_nat (j := 3) rfl, ⟨fun h2 => ?_, fun h2 => ?_⟩⟩, fun h1 => ⟨fun h => nb h, fun _ => ?_⟩⟩⟩
        · exact ex (no (by unfold rd4; rw [ha, hc, show sd b = true from h1, show sd d' = true from h2]; rfl)) H2 s2 _ er.y_NoGame
        · exact ⟨L, a, b, c, d', rfl, s2, e2, ew, ha, hc, by rw [show sd d' = false from h2, Bool.and_false]⟩
        · exact ⟨L, a, b, c, d', rfl, s2, e2, ew, ha, hc, by rw [show sd b = false from h1, Bool.false_and]⟩
      clear e2 ew ha hc no s2
      rintro σ H2 ⟨L, a, b, c, d', rfl, s2, e2, ew, ha, hc, hs⟩
      have no := rd_no (x := x) ew
      have yes := rd_yes (x := x) ew
      obtain ⟨a4, an⟩ := dy_num ha
      have lb := ls b (by rw [ew]; simp)
      have ld := ls d' (by rw [ew]; simp)
      have ul : ∀ z : Str, z.length ≤ 1000 → SL (.str (us z)) := fun z hz v e => by
        cases e
        unfold us
        split
        · exact Nat.le_trans (Txt.slice_le _ _ _) hz
        · exact hz
      have fin : ∀ j : Nat, wi c = (j : Int) → ((goodG (.int (num a)) (.str (us b)) (.str (us d')) (.int (j : Int)) (.int (sideO b d')) = false → ∀ H', Same H2 H' → ExN K "NoGame" E H') ∧ (goodG (.int (num a)) (.str (us b)) (.str (us d')) (.int (j : Int)) (.int (sideO b d')) = true → ∀ p H', Same H2 H' → H' p = some (.tup [.int (num a), .str (us b), .str (us d'), .int (j : Int), .int (sideO b d')]) → Q (.ref p) H')) := by
        intro j ej
        rw [← ej]
        refine ⟨fun g H' s' => ex (no ?_) H' (s2.trans s'), fun g p H' s' e' => q _ (yes ?_) p H' (s2.trans s') e'⟩
        · unfold rd4
          rw [g, Bool.and_false]
        · unfold rd4
          rw [g, ha, hc, hs]
          rfl
      refine ⟨_, _, SqL.of e2, atI_nat (j := 1) rfl, _, _, SqL.of e2, atI_nat (j := 3) rfl, ?_⟩
      refine ⟨_, _, SqL.of e2, atI_nat (j := 0) rfl, num a, an, by omega, _, _, SqL.of e2, atI_nat (j := 1) rfl, lb, _, _, SqL.of e2, atI_nat (j := 3) rfl, ld, w_WORDS.tyV _, _, _, SqL.of e2, atI_nat (j := 2) rfl, ?_⟩
      have hw : c = "lost" ∨ c = "drew" ∨ c = "beat" := by
        unfold isW at hc
        simpa [or_assoc] using hc
      rcases hw with rfl | rfl | rfl
      · obtain ⟨f1, f2⟩ := fin 0 (by decide +kernel)
        exact ⟨_, 0, _, w_WORDS.sq _, rfl, rfl, rfl, by decide +kernel, fun m z hm => absurd hm (Nat.not_lt_zero _), ⟨True.intro, True.intro, True.intro, True.intro, True.intro⟩, ⟨ul b lb, ul d' ld⟩, f1, f2⟩
      · obtain ⟨f1, f2⟩ := fin 1 (by decide +kernel)
        refine ⟨_, 1, _, w_WORDS.sq _, rfl, rfl, rfl, by decide +kernel, fun m z hm hz => ?_, ⟨True.intro, True.intro, True.intro, True.intro, True.intro⟩, ⟨ul b lb, ul d' ld⟩, f1, f2⟩
        have : m = 0 := by omega
        subst this
        cases hz
        decide +kernel
      · obtain ⟨f1, f2⟩ := fin 2 (by decide +kernel)
        refine ⟨_, 2, _, w_WORDS.sq _, rfl, rfl, rfl, by decide +kernel, fun m z hm hz => ?_, ⟨True.intro, True.intro, True.intro, True.intro, True.intro⟩, ⟨ul b lb, ul d' ld⟩, f1, f2⟩
        have : m = 0 ∨ m = 1 := by omega
        rcases this with rfl | rfl <;> (cases hz; decide +kernel)
def st (x : Str) (b : Bool) : Str := if b then x ++ ⟨#[42]⟩ else x
theorem st_len (x : Str) (b : Bool) : (st x b).length ≤ x.length + 1 := by
  unfold st
  split
  · rw [len_app]
    exact Nat.le_refl _
  · omega
def wrS (d : Int) (x y : Str) (h s : Int) : Str := Str.join ⟨#[32]⟩ [(toString d : Str), st x (decide (s = 1)), wd h, st y (decide (s = -1))]
theorem wr_of (f a b c : Str) : ((((((f ++ (" " : Str)) ++ a) ++ (" " : Str)) ++ b) ++ (" " : Str)) ++ c) = Str.join ⟨#[32]⟩ [f, a, b, c] := by
  apply co_inj
  have e : co (" " : Str) = [32] := by decide +kernel
  rw [co_join2, co_join2, co_join2, co_app, co_app, co_app, co_app, co_app, co_app, e]
  show _ = co f ++ 32 :: (co a ++ 32 :: (co b ++ 32 :: co c))
  simp only [List.append_assoc, List.singleton_append, List.cons_append, List.nil_append]
theorem d_len {d : Int} (h0 : 0 ≤ d) (h1 : d ≤ 9999) : (toString d : Str).length ≤ 4 := by
  obtain ⟨m, rfl⟩ := Int.eq_ofNat_of_zero_le h0
  rw [← co_len]
  exact (fg_len (m := m) (by omega)).2
theorem wd_len (h : Int) : (wd h).length ≤ 4 := by
  unfold wd
  split
  · decide +kernel
  · split
    · decide +kernel
    · decide +kernel
theorem nm_len {x : Str} (h : Nm x) : x.length ≤ 8 := by rw [← co_len]; exact h.len8
theorem d_log {d : Int} (h0 : 0 ≤ d) (h1 : d ≤ 9999) : d.natAbs.log2 < 1920 := by
  have : Bd 100 d := bd_of (b := 10000) (by omega) (by omega) (bd_lit rfl)
  exact Nat.lt_of_lt_of_le (pow_log this (by decide)) (by decide)
theorem wd_at {h : Int} (h0 : 0 ≤ h) (h1 : h ≤ 2) : atI [V.str "lost", .str "drew", .str "beat"] h = some (.str (wd h)) := by
  have : h = 0 ∨ h = 1 ∨ h = 2 := by omega
  rcases this with rfl | rfl | rfl
  · exact atI_nat (j := 0) rfl
  · exact atI_nat (j := 1) rfl
  · exact atI_nat (j := 2) rfl
theorem wr_len {d h s : Int} {x y : Str} (d0 : 0 ≤ d) (d1 : d ≤ 9999) (nx : Nm x) (ny : Nm y) : (wrS d x y h s).length ≤ 900 := by
  have lx := nm_len nx
  have ly := nm_len ny
  have l1 := st_len x (decide (s = 1))
  have l2 := st_len y (decide (s = -1))
  have l3 := d_len d0 d1
  have l4 := wd_len h
  have l5 : (" " : Str).length = 1 := by decide +kernel
  unfold wrS
  rw [← wr_of]
  simp only [len_app]
  omega
theorem isDy_fg {m : Nat} (h : m < 10000) : isDy (toString ((m : Nat) : Int) : Str) = true := by
  have hc : co (toString ((m : Nat) : Int) : Str) = fg m := rfl
  have hl := co_len (toString ((m : Nat) : Int) : Str)
  rw [hc] at hl
  obtain ⟨l1, l4⟩ := fg_len h
  unfold isDy
  by_cases h0 : m = 0
  · subst h0
    rw [decide_eq_true (by decide +kernel), Bool.true_or]
  · obtain ⟨c, r, ec, h9⟩ := fg_head m (by omega)
    rw [hc, decide_eq_true (show 1 ≤ (toString ((m : Nat) : Int) : Str).length by omega), decide_eq_true (show (toString ((m : Nat) : Int) : Str).length ≤ 4 by omega)]
    have e1 : (fg m).all (fun c => decide (c ∈ co fig10)) = true := List.all_eq_true.mpr fun c hc => decide_eq_true (fig_mem.mpr (fg_all m c hc))
    rw [e1, ec]
    have : ¬ c = 48 := by omega
    simp [this]
theorem nm_no {x : Str} (h : Nm x) {c : Nat} (hc : ¬ (97 ≤ c ∧ c < 123)) : c ∉ co x := fun z => hc (h.abc c z)
theorem sd_st {x : Str} (h : Nm x) (b : Bool) : sd (st x b) = b := by
  cases b with
  | true =>
    show decide ((co (x ++ ⟨#[42]⟩)).getLast? = some 42) = true
    rw [co_app, co_one]
    simp
  | false =>
    show decide ((co x).getLast? = some 42) = false
    refine decide_eq_false fun e => nm_no h (c := 42) (by omega) ?_
    exact List.mem_of_getLast? e
theorem us_st {x : Str} (h : Nm x) (b : Bool) : us (st x b) = x := by
  unfold us
  rw [sd_st h]
  cases b with
  | true =>
    rw [if_pos rfl]
    apply co_inj
    show co (Txt.slice (x ++ ⟨#[42]⟩) none (some (-1))) = co x
    rw [co_init, co_app, co_one]
    simp
  | false => rfl
theorem st_free {x : Str} (h : Nm x) (b : Bool) : 32 ∉ co (st x b) := by
  cases b with
  | true =>
    show 32 ∉ co (x ++ ⟨#[42]⟩)
    rw [co_app, co_one]
    intro z
    rcases List.mem_append.mp z with z | z
    · exact nm_no h (by omega) z
    · have : (32 : Nat) = 42 := by simpa using z
      omega
  | false => exact nm_no h (by omega)
theorem wd_free (h : Int) : 32 ∉ co (wd h) := by
  unfold wd
  split
  · decide +kernel
  · split
    · decide +kernel
    · decide +kernel
theorem rd_wr {d h s : Int} {x y : Str} (d0 : 0 ≤ d) (d1 : d ≤ 9999) (h0 : 0 ≤ h) (h1 : h ≤ 2) (s0 : -1 ≤ s) (s1 : s ≤ 1) (nx : Nm x) (ny : Nm y) (ne : x ≠ y) : rd (wrS d x y h s) = some [.int d, .str x, .str y, .int h, .int s] := by
  obtain ⟨m, rfl⟩ := Int.eq_ofNat_of_zero_le d0
  have hm : m < 10000 := by omega
  have ew : Txt.split (wrS m x y h s) ⟨#[32]⟩ = [(toString ((m : Nat) : Int) : Str), st x (decide (s = 1)), wd h, st y (decide (s = -1))] := by
    refine split_join 32 (by simp) ?_ rfl
    intro p hp
    have hp : p = (toString ((m : Nat) : Int) : Str) ∨ p = st x (decide (s = 1)) ∨ p = wd h ∨ p = st y (decide (s = -1)) := by simpa using hp
    rcases hp with rfl | rfl | rfl | rfl
    · intro z
      have := fg_all m 32 z
      omega
    · exact st_free nx _
    · exact wd_free h
    · exact st_free ny _
  have e1 : num (toString ((m : Nat) : Int) : Str) = (m : Int) := congrArg (fun n : Nat => (n : Int)) (fg_val m)
  have e2 : wi (wd h) = h := by
    have : h = 0 ∨ h = 1 ∨ h = 2 := by omega
    rcases this with rfl | rfl | rfl <;> decide +kernel
  have e3 : isW (wd h) = true := by
    have : h = 0 ∨ h = 1 ∨ h = 2 := by omega
    rcases this with rfl | rfl | rfl <;> decide +kernel
  have e4 : sideO (st x (decide (s = 1))) (st y (decide (s = -1))) = s := by
    unfold sideO
    rw [sd_st nx, sd_st ny]
    have : s = -1 ∨ s = 0 ∨ s = 1 := by omega
    rcases this with rfl | rfl | rfl <;> decide
  have e5 : (sd (st x (decide (s = 1))) && sd (st y (decide (s = -1)))) = false := by
    rw [sd_st nx, sd_st ny]
    have : s = -1 ∨ s = 0 ∨ s = 1 := by omega
    rcases this with rfl | rfl | rfl <;> decide
  have g : goodG (.int (m : Int)) (.str x) (.str y) (.int h) (.int s) = true := by
    unfold goodG
    rw [show btw (.int (m : Int)) 0 9999 = true by simp [btw]; omega, show isNm (.str x) = true from nx.is, show isNm (.str y) = true from ny.is, show eqS (.str x) (.str y) = false from decide_eq_false ne, show btw (.int h) 0 2 = true by simp [btw]; omega, show btw (.int s) (-1) 1 = true by simp [btw]; omega]
    rfl
  rw [rd_yes ew, e1, e2, e4, us_st nx, us_st ny]
  unfold rd4
  rw [e1, e2, e4, us_st nx, us_st ny, isDy_fg hm, e3, e5, g]
  rfl
theorem none_back {H H' : Hp} {D : Addr} (s : Same H H') (h : H' D = none) : H D = none := by
  cases e : H D with
  | none => rfl
  | some o =>
    rw [s _ _ e] at h
    cases h
def sp_players (K : PySem.W.Frag) (ns : List Int) : Sp := fun vs H Q _ => match vs with
  | [.ref L] => ∃ gs, (Bk K H L gs ∧ (plr gs).length < 64) ∧ ∀ D H', Same H H' → H D = none → H' D = some (.lst ((plr gs).map V.str)) → Q (.ref D) H'
  | _ => False
theorem sc_players : FnScope ["games"] ["games"] (defScope s_players) := ⟨rfl, rfl, rfl, by decide +kernel, rfl, by decide +kernel, by decide +kernel⟩
theorem ok_players (d : Dfn K mg "players" s_players ["games"]) (er : Errs K mg c_LadderError c_NoBook c_NoFit c_NoGame c_NoNumber c_NoPlayer c_NoRow c_NoStretch c_NoTable c_NoTree c_NoWorth) (n_sorted : mg "sorted" = none) (n_set : mg "set" = none)   : Cal P w K mg base "players" ["games"] 1 (sp_players K ns) := by
  refine d.cal (k := 0) sc_players (fun vs H Q E h => ?_) (fun f cdv A outer s H vs Q E hr h => ?_)
  · match vs, h with
    | [.ref L], _ => rfl
  · match vs, h with
    | [.ref L], hq0 =>
      obtain ⟨gs, ⟨⟨vs, hx, hm, hl⟩, h64⟩, k⟩ := hq0
      refine ⟨_, (@pss_one _ _ _ (@ps_ret _ _ _ _ (@e_sset _ _ _ _ _ _ _ (by rfl) n_sorted (by rfl) n_set (@pe_op _ _ _ _ _ _ _ _ o_catL (@e_compN _ _ _ _ _ _ _ _ _ _ ["played"] [] [] rfl (@pi_list _ _ _ _ (dv 0)) (fun C s H fp => (@pg_name _ _ (0) _ (show List.Nodup [("played" : Str)] by decide +kernel) rfl (by first | exact Or.inl rfl | exact Or.inr rfl) (by first | exact .inl rfl | exact .inr rfl | assumption))) (fun C s H fp => (@pe_ix _ _ _ _ _ _ _ i_tup (dv 0) pe_int (fun _ _ => rfl))) rfl rfl (by decide +kernel) (by decide +kernel) (by rfl) True.intro True.intro (by intro _; rfl)) (@e_compN _ _ _ _ _ _ _ _ _ _ ["played"] [] [] rfl (@pi_list _ _ _ _ (dv 0)) (fun C s H fp => (@pg_name _ _ (0) _ (show List.Nodup [("played" : Str)] by decide +kernel) rfl (by first | exact Or.inl rfl | exact Or.inr rfl) (by first | exact .inl rfl | exact .inr rfl | assumption))) (fun C s H fp => (@pe_ix _ _ _ _ _ _ _ i_tup (dv 0) pe_int (fun _ _ => rfl))) rfl rfl (by decide +kernel) (by decide +kernel) (by rfl) True.intro True.intro (by intro _; rfl))) (by rfl) (by rfl) (by rfl)))), ?_⟩
      have hz : vs.length ≤ 1000 := by rw [hm.len]; omega
      refine ⟨L, rfl, ⟨_, hx⟩, comp_abs GmAt gm_up (fun _ g y => y = V.str g.a) (fun _ _ _ _ _ h => h) hz hx hm ?_ ?_⟩
      · intro v m H2 hM _ s2 P hP
        obtain ⟨p, rfl, e⟩ := hM
        exact ⟨rfl, _, e, hP _ _ (Same.refl _) rfl⟩
      intro D1 H1 ys1 s1 _ e1 a1
      have y1 := all2_strs a1
      have hm1 : All2 (GmAt H1) vs gs := hm.imp fun v g r => gm_up v g _ _ (kt_of s1) r
      refine ⟨L, rfl, ⟨_, s1.seq hx⟩, comp_abs GmAt gm_up (fun _ g y => y = V.str g.b) (fun _ _ _ _ _ h => h) hz (s1.seq hx) hm1 ?_ ?_⟩
      · intro v m H2 hM _ s2 P hP
        obtain ⟨p, rfl, e⟩ := hM
        exact ⟨rfl, _, e, hP _ _ (Same.refl _) rfl⟩
      intro D2 H2 ys2 s2 _ e2 a2
      have y2 := all2_strs a2
      have l1 := a1.len
      have l2 := a2.len
      refine ⟨_, _, s2 _ _ e1, e2, by omega, fun D3 H3 s3 e3 => ⟨gs.map (·.a) ++ gs.map (·.b), SqL.of ?_, ?_, h64, fun D hD => ?_⟩⟩
      · rw [e3, y1, y2, List.map_append]
      · rw [List.length_append, List.length_map, List.length_map]
        omega
      · have s := s1.trans (s2.trans s3)
        exact k D _ (s.trans (same_upd hD)) (none_back s hD) upd_same
def sp_check_size (K : PySem.W.Frag) (ns : List Int) : Sp := fun vs H Q E => match vs with
  | [.ref L] => ∃ gs, (Bk K H L gs ∧ gs.length ≤ 60 ∧ (plr gs).length < 60) ∧ (gs.length ≤ 40 ∧ (plr gs).length ≤ 8 → ∀ H', Same H H' → Q .non H') ∧ (¬ (gs.length ≤ 40 ∧ (plr gs).length ≤ 8) → ∀ H', Same H H' → ExN K "NoBook" E H')
  | _ => False
theorem sc_check_size : FnScope ["games"] ["games"] (defScope s_check_size) := ⟨rfl, rfl, rfl, by decide +kernel, rfl, by decide +kernel, by decide +kernel⟩
theorem ok_check_size (d : Dfn K mg "check_size" s_check_size ["games"]) (er : Errs K mg c_LadderError c_NoBook c_NoFit c_NoGame c_NoNumber c_NoPlayer c_NoRow c_NoStretch c_NoTable c_NoTree c_NoWorth) (n_len : mg "len" = none) (v_MOST_PLAYERS : Cst mg "MOST_PLAYERS" (.int (8))) (v_MOST_GAMES : Cst mg "MOST_GAMES" (.int (40))) (c_players : Cal P w K mg base "players" ["games"] 1 (sp_players K ns)) : Cal P w K mg base "check_size" ["games"] 2 (sp_check_size K ns) := by
  refine d.calX (k := 1) sc_check_size (fun vs H Q E h => ?_) (fun f cdv A outer s H vs Q E hr h => ?_)
  · match vs, h with
    | [.ref L], _ => rfl
  · match vs, h with
    | [.ref L], hq0 =>
      obtain ⟨gs, ⟨bk, l41, l60⟩, k, kr⟩ := hq0
      refine ⟨_, (@pss_cons _ _ _ _ _ (@s_if _ _ _ _ _ _ _ _ (@t_cmp _ _ _ _ _ _ _ _ o_gt (@pe_callB _ _ _ _ _ _ _ _ _ c_len (by rfl) n_len (by decide +kernel) (@pa_cons _ _ _ _ _ (dv 0) pa_nil (by rfl)) (by decide) (by decide) (by rfl) (by rfl)) (g_cst v_MOST_GAMES (by rfl)) (@nomark _ _ (by decide) (by decide))) (@pss_one _ _ _ (@ps_raise _ _ _ _ _ _ _ _ _ _ _ _ _ _ _ _ _ _ _ _ _ _ _ er.b_NoBook er.z_NoBook (by rfl) (by decide))) pss_nil) (@pss_one _ _ _ (@s_if _ _ _ _ _ _ _ _ (@t_cmp _ _ _ _ _ _ _ _ o_gt (@pe_callB _ _ _ _ _ _ _ _ _ c_len (by rfl) n_len (by decide +kernel) (@pa_cons _ _ _ _ _ (@e_call _ _ _ _ _ _ _ _ _ _ _ c_players hr (by decide) (by rfl) (@pa_cons _ _ _ _ _ (dv 0) pa_nil (by rfl)) (by decide) (by rfl) (by rfl)) pa_nil (by rfl)) (by decide) (by decide) (by rfl) (by rfl)) (g_cst v_MOST_PLAYERS (by rfl)) (@nomark _ _ (by decide) (by decide))) (@pss_one _ _ _ (@ps_raise _ _ _ _ _ _ _ _ _ _ _ _ _ _ _ _ _ _ _ _ _ _ _ er.b_NoBook er.z_NoBook (by rfl) (by decide))) pss_nil))), ?_⟩
      obtain ⟨vs, hx, hm, hl⟩ := id bk
      have lv := hm.len
      refine ⟨_, .inl hx, ⟨fun h => kr (fun z => ?_) _ (Same.refl _) _ er.y_NoBook, fun h => ⟨gs, ⟨bk, by omega⟩, fun D H1 s1 n1 e1 => ⟨_, .inl (SqL.of e1), ⟨fun h' => kr (fun z => ?_) H1 s1 _ er.y_NoBook, fun h' => k ⟨?_, ?_⟩ H1 s1⟩⟩⟩⟩⟩
      · have := of_decide_eq_true h
        omega
      · have := of_decide_eq_true h'
        rw [List.length_map] at this
        omega
      · have := of_decide_eq_false h
        omega
      · have := of_decide_eq_false h'
        rw [List.length_map] at this
        omega
theorem ns_inj {K : PySem.W.Frag} {x : Str} {C D : Addr} (h : PySem.W.nsIn K mainGlobals x = some (some (.ref C))) (h' : PySem.W.nsIn K mainGlobals x = some (some (.ref D))) : C = D := by
  rw [h] at h'
  cases h'
  rfl
theorem all2_str : ∀ l : List Str, All2 (fun v m => v = V.str m) (l.map V.str) l
  | [] => .nil
  | _ :: l => .cons rfl (all2_str l)
theorem a2_swap {α β : Type} {R : α → β → Prop} : ∀ {l : List α} {m : List β}, All2 R l m → All2 (fun b a => R a b) m l
  | _, _, .nil => .nil
  | _, _, .cons h t => .cons h (a2_swap t)
theorem all2_ix {α β : Type} {R : α → β → Prop} : ∀ {l : List α} {m : List β}, l.length = m.length → (∀ (j : Nat) a b, l[j]? = some a → m[j]? = some b → R a b) → All2 R l m
  | [], [], _, _ => .nil
  | [], _ :: _, h, _ => by simp at h
  | _ :: _, [], h, _ => by simp at h
  | a :: l, b :: m, h, k => .cons (k 0 a b rfl rfl) (all2_ix (by simpa using h) fun j x y h1 h2 => k (j + 1) x y (by simpa using h1) (by simpa using h2))
def gmV (g : Gm) : List V := [.int g.d, .str g.a, .str g.b, .int g.h, .int g.s]
def PARTS (x : Str) : List Str := Txt.split x (Str.ofString "; ")
def sp_read_book (K : PySem.W.Frag) (ns : List Int) : Sp := fun vs H Q E => match vs with
  | [v] => (Kd H v ∧ (∀ x, v ≠ .str x) ∧ ∀ H', Same H H' → ExN K "NoGame" E H') ∨
      ∃ x, v = .str x ∧ (x.length ≤ 5000 ∧ (PARTS x).length ≤ 60 ∧ ∀ p ∈ PARTS x, p.length ≤ 900) ∧
        (x = Str.ofString "" → ∀ D H', Same H H' → H D = none → H' D = some (.lst []) → Q (.ref D) H') ∧
        (x ≠ Str.ofString "" → (∃ p ∈ PARTS x, rd p = none) → ∀ H', Same H H' → ExN K "NoGame" E H') ∧
        (x ≠ Str.ofString "" → ∀ gs : List Gm, (PARTS x).map rd = gs.map (fun g => some (gmV g)) → (plr gs).length < 60 ∧ ((gs.length ≤ 40 ∧ (plr gs).length ≤ 8 → ∀ D vs H', Same H H' → H D = none → H' D = some (.lst vs) → All2 (GmAt H') vs gs → Q (.ref D) H') ∧ (¬ (gs.length ≤ 40 ∧ (plr gs).length ≤ 8) → ∀ H', Same H H' → ExN K "NoBook" E H'))) ∧
        ((∃ p ∈ PARTS x, rd p = none) ∨ ∃ gs : List Gm, (PARTS x).map rd = gs.map (fun g => some (gmV g)))
  | _ => False
theorem sc_read_book : FnScope ["text", "games"] ["text"] (defScope s_read_book) := ⟨rfl, rfl, rfl, by decide +kernel, rfl, by decide +kernel, by decide +kernel⟩
theorem ok_read_book (d : Dfn K mg "read_book" s_read_book ["text"]) (er : Errs K mg c_LadderError c_NoBook c_NoFit c_NoGame c_NoNumber c_NoPlayer c_NoRow c_NoStretch c_NoTable c_NoTree c_NoWorth) (n_isinstance : mg "isinstance" = none) (n_str : mg "str" = none) (v_PARTING : Cst mg "PARTING" (.str "; ")) (c_check_size : Cal P w K mg base "check_size" ["games"] 2 (sp_check_size K ns)) (c_read_game : Cal P w K mg base "read_game" ["text"] 4 (sp_read_game K ns)) : Cal P w K mg base "read_book" ["text"] 5 (sp_read_book K ns) := by
  refine d.calX (k := 4) sc_read_book (fun vs H Q E h => ?_) (fun f cdv A outer s H vs Q E hr h => ?_)
  · match vs, h with
    | [v], _ => rfl
  · match vs, h with
    | [v], hq0 =>
      have h := hq0
      refine ⟨_, (@pss_cons _ _ _ _ _ (@s_if _ _ _ _ _ _ _ _ (@pt_not _ _ _ _ (@t_val _ _ _ (@pe_callB _ _ _ _ _ _ _ _ _ c_isi (by rfl) n_isinstance (by decide +kernel) (@pa_cons _ _ _ _ _ (dv 0) (@pa_cons _ _ _ _ _ (e_ty "str" (by rfl) n_str (by decide +kernel)) pa_nil (by rfl)) (by rfl)) (by decide) (by decide) (by rfl) (by rfl)) (by intro _; rfl))) (@pss_one _ _ _ (@ps_raise _ _ _ _ _ _ _ _ _ _ _ _ _ _ _ _ _ _ _ _ _ _ _ er.b_NoGame er.z_NoGame (by rfl) (by decide))) pss_nil) (@pss_cons _ _ _ _ _ (@s_if _ _ _ _ _ _ _ _ (@t_cmp _ _ _ _ _ _ _ _ o_eq (dv 0) pe_str (@nomark _ _ (by decide) (by decide))) (@pss_one _ _ _ (@ps_ret _ _ _ _ (@pe_lst _ _ _ _ pa_nil))) pss_nil) (@pss_cons _ _ _ _ _ (@ps_compNX _ _ _ _ _ _ _ _ _ (1) _ _ _ _ _ ["part"] [] [] rfl (@pi_list _ _ _ _ (@pe_bm _ _ _ _ _ _ _ _ _ _ _ _ PySem.F.plainAttrs_str PySem.F.slot_str_split PySem.F.type_str_split m_splitL (dv 0) (@pa_cons _ _ _ _ _ (g_cst v_PARTING (by rfl)) pa_nil (by rfl)) (by rfl) (by rfl) (by rfl) (by rfl) (by rfl))) (fun C s H fp => (@pg_name _ _ (0) _ (show List.Nodup [("part" : Str)] by decide +kernel) rfl (by first | exact Or.inl rfl | exact Or.inr rfl) (by first | exact .inl rfl | exact .inr rfl | assumption))) (fun C s H fp => (@e_callXC _ _ _ _ _ _ _ _ _ _ _ _ _ _ _ _ _ c_read_game hr (by decide) (by rfl) (@pa_cons _ _ _ _ _ (dv 0) pa_nil (by rfl)) (by decide) (by rfl) (by rfl))) ⟨rfl, rfl, rfl⟩ passA rfl rfl (by decide +kernel) (by decide +kernel) (by rfl) True.intro True.intro sc_read_book.nd rfl rfl (by intro _; rfl) (by rfl)) (@pss_cons _ _ _ _ _ (@ps_expr _ _ _ _ (@e_callX _ _ _ _ _ _ _ _ _ _ _ _ _ _ _ _ _ _ _ _ _ _ _ _ _ c_check_size hr (by decide) (by rfl) (@pa_cons _ _ _ _ _ (dv 1) pa_nil (by rfl)) (by decide) (by rfl) (by rfl)) (by rfl)) (@pss_one _ _ _ (@ps_ret _ _ _ _ (dv 1))))))), ?_⟩
      rcases h with ⟨kd, nv, ex⟩ | ⟨x, rfl, ⟨hz, l60, hp⟩, k0, k1, k2, tot⟩
      · have ex := ex H (Same.refl _) _ er.y_NoGame
        cases v with
        | int _ => exact ⟨false, rfl, ⟨fun _ => ex, fun h => nb h⟩⟩
        | bl _ => exact ⟨false, rfl, ⟨fun _ => ex, fun h => nb h⟩⟩
        | non => exact ⟨false, rfl, ⟨fun _ => ex, fun h => nb h⟩⟩
        | str x => exact absurd rfl (nv x)
        | ref p =>
          obtain ⟨u, t, h1, h2, h3⟩ := kd
          exact ⟨u, false, t, h1, h2, ty_str h2, ⟨fun _ => ex, fun h => nb h⟩⟩
        | flt _ => exact kd.elim
        | byt _ => exact kd.elim
        | ty _ => exact kd.elim
      · refine ⟨true, rfl, ⟨fun h => nb h, fun _ => ⟨fun h => ?_, fun h => ?_⟩⟩⟩
        · have h : x = Str.ofString "" := of_decide_eq_true h
          exact ⟨by decide, fun D hD => k0 h D _ (same_upd hD) hD upd_same⟩
        · have h : x ≠ Str.ofString "" := of_decide_eq_false h
          refine ⟨rfl, by decide +kernel, hz, fun L H1 s1 e1 => ⟨L, rfl, ⟨_, SqL.of e1⟩, comp_abs (fun _ v m => v = V.str m) (fun _ _ _ _ _ h => h) (fun H m y => ∃ p g, y = V.ref p ∧ rd m = some g ∧ H p = some (.tup g)) (fun m y H H' kt ⟨p, g, h1, h2, h3⟩ => ⟨p, g, h1, h2, kt _ _ h3⟩) (by rw [List.length_map]; exact Nat.le_trans l60 (by decide)) (SqL.of e1) (all2_str _) ?_ ?_⟩⟩
          · intro v m H2 hM hm s2 P hP
            subst hM
            refine ⟨rfl, hp m hm, fun hr H3 s3 => ?_, fun g hr p H3 s3 e3 => hP _ H3 s3 ⟨p, g, rfl, hr, e3⟩⟩
            exact k1 h ⟨m, hm, hr⟩ H3 (s1.trans (s2.trans s3))
          · intro D H2 ys s2 n2 e2 a2
            rcases tot with ⟨p, hpm, hr⟩ | ⟨gs, hg⟩
            · exfalso
              obtain ⟨i, hi⟩ := List.getElem?_of_mem hpm
              obtain ⟨y, _, q, g, _, e, _⟩ := a2.get hi
              rw [hr] at e
              cases e
            · have lg : (PARTS x).length = gs.length := by
                have := congrArg List.length hg
                simpa using this
              have ag : All2 (GmAt H2) ys gs := all2_ix (by rw [← lg]; exact a2.len.symm) fun j y g h1 h2 => by
                obtain ⟨m, hm, q, g', rfl, e, e3⟩ := (a2_swap a2).get h1
                have hm : (PARTS x)[j]? = some m := hm
                have z := congrArg (fun l => l[j]?) hg
                simp only [List.getElem?_map, hm, h2, Option.map_some] at z
                rw [e] at z
                have z : g' = gmV g := Option.some.inj (Option.some.inj z)
                subst z
                exact ⟨q, rfl, e3⟩
              obtain ⟨p60, k3, k4⟩ := k2 h gs hg
              have s02 := s1.trans s2
              have lys : gs.length ≤ 60 := by rw [← lg]; exact l60
              refine ⟨gs, ⟨⟨ys, SqL.of e2, ag, by omega⟩, lys, p60⟩, fun ok H3 s3 => ?_, fun bad H3 s3 => k4 bad H3 (s02.trans s3)⟩
              exact k3 ok D ys H3 (s02.trans s3) (none_back s1 n2) (s3 _ _ e2) (ag.imp fun v g r => gm_up v g _ _ (kt_of s3) r)
inductive RB (H : Hp) : V → Bool → Prop where
  | thing (v : V) : Kd H v → (∀ x, v ≠ .str x) → RB H v true
  | part (x : Str) : (x.length ≤ 5000 ∧ (PARTS x).length ≤ 60 ∧ ∀ p ∈ PARTS x, p.length ≤ 900) → x ≠ Str.ofString "" → (∃ p ∈ PARTS x, rd p = none) → RB H (.str x) true
  | size (x : Str) (gs : List Gm) : (x.length ≤ 5000 ∧ (PARTS x).length ≤ 60 ∧ ∀ p ∈ PARTS x, p.length ≤ 900) → x ≠ Str.ofString "" → (PARTS x).map rd = gs.map (fun g => some (gmV g)) → (plr gs).length < 60 → ¬ (gs.length ≤ 40 ∧ (plr gs).length ≤ 8) → RB H (.str x) false
theorem gmV_inj {g g' : Gm} (h : gmV g = gmV g') : g = g' := by
  obtain ⟨a, b, c, d, e⟩ := g
  obtain ⟨a', b', c', d', e'⟩ := g'
  simp only [gmV, List.cons.injEq, V.int.injEq, V.str.injEq, and_true] at h
  obtain ⟨rfl, rfl, rfl, rfl, rfl⟩ := h
  rfl
theorem gs_uniq : ∀ {gs gs' : List Gm}, gs.map (fun g => some (gmV g)) = gs'.map (fun g => some (gmV g)) → gs = gs'
  | [], [], _ => rfl
  | [], _ :: _, h => by simp at h
  | _ :: _, [], h => by simp at h
  | g :: gs, g' :: gs', h => by
    simp only [List.map_cons, List.cons.injEq, Option.some.injEq] at h
    rw [gmV_inj h.1, gs_uniq h.2]
def rbC (K : PySem.W.Frag) (ng : Bool) (C : Addr) : Prop := PySem.W.nsIn K mainGlobals (if ng = true then "NoGame" else "NoBook") = some (some (.ref C))
theorem no_both {x : Str} {gs : List Gm} (hp : ∃ p ∈ PARTS x, rd p = none) (hg : (PARTS x).map rd = gs.map (fun g => some (gmV g))) : False := by
  obtain ⟨p, hm, hr⟩ := hp
  obtain ⟨i, hi⟩ := List.getElem?_of_mem hm
  have z := congrArg (fun l => l[i]?) hg
  simp only [List.getElem?_map, hi, Option.map_some, hr] at z
  cases q : gs[i]? with
  | none =>
    rw [q] at z
    cases z
  | some g =>
    rw [q] at z
    cases z
theorem rb_call {K : PySem.W.Frag} {ns : List Int} {H : Hp} {v : V} {ng : Bool} {Q : VK} {E : XK} (h : RB H v ng) (k : ∀ H' C, Same H H' → rbC K ng C → E (.ref C) none H') : sp_read_book K ns [v] H Q E := by
  cases h with
  | thing v kd nv => exact .inl ⟨kd, nv, fun H' s C hC => k H' C s hC⟩
  | part x hl ne hp => exact .inr ⟨x, rfl, hl, fun e => absurd e ne, fun _ _ H' s C hC => k H' C s hC, fun _ gs hg => (no_both hp hg).elim, .inl hp⟩
  | size x gs hl ne hg p60 bad =>
    refine .inr ⟨x, rfl, hl, fun e => absurd e ne, fun _ hp => (no_both hp hg).elim, fun _ gs' hg' => ?_, .inr ⟨gs, hg⟩⟩
    obtain rfl := gs_uniq (hg.symm.trans hg')
    exact ⟨p60, fun ok => absurd ok bad, fun _ H' s C hC => k H' C s hC⟩
def sp_l_caught (K : PySem.W.Frag) (ns : List Int) : Sp := fun vs H Q _ => match vs with
  | [v, .bl b] => ∃ ng, RB H v ng ∧ ∀ D H', Same H H' → H' D = some (.lst [.bl ng, .bl (!ng)]) → Q (.ref D) H'
  | _ => False
theorem sc_l_caught : FnScope ["_law_text", "_law_base", "_law_caught_here", "e"] ["_law_text", "_law_base"] (defScope s_l_caught) := ⟨rfl, rfl, rfl, by decide +kernel, rfl, by decide +kernel, by decide +kernel⟩
theorem ok_l_caught (d : Dfn K mg "_law_caught" s_l_caught ["_law_text", "_law_base"]) (er : Errs K mg c_LadderError c_NoBook c_NoFit c_NoGame c_NoNumber c_NoPlayer c_NoRow c_NoStretch c_NoTable c_NoTree c_NoWorth) (n_isinstance : mg "isinstance" = none) (n_ValueError : mg "ValueError" = none)  (c_read_book : Cal P w K mg base "read_book" ["text"] 5 (sp_read_book K ns)) : Cal P w K mg base "_law_caught" ["_law_text", "_law_base"] 6 (sp_l_caught K ns) := by
  refine d.cal (k := 5) sc_l_caught (fun vs H Q E h => ?_) (fun f cdv A outer s H vs Q E hr h => ?_)
  · match vs, h with
    | [v, .bl b], _ => rfl
  · match vs, h with
    | [v, .bl b], hq0 =>
      obtain ⟨ng, hr0, k⟩ := hq0
      refine ⟨_, (@pss_cons _ _ _ _ _ (@ps_set _ _ (2) _ _ _ _ sc_l_caught.nd rfl (by first | exact Or.inl rfl | exact Or.inr rfl) pe_non (by rfl) (by first | exact .inl rfl | exact .inr rfl | assumption)) (@ss_cutE _ _ _ _ _ (@s_if _ _ _ _ _ _ _ _ (@t_val _ _ _ (dv 1) (by intro _; rfl)) (@pss_one _ _ _ (@ps_tryB _ _ _ _ _ _ _ (3) _ _ _ _ _ ⟨rfl, rfl, rfl⟩ (fun σ0 p0 Eh => (@pss_one _ _ _ (@ps_expr _ _ _ _ (@e_callT _ _ _ _ _ _ _ _ _ _ _ _ _ _ c_read_book hr (by decide) (by rfl) (@pa_cons _ _ _ _ _ (dv 0) pa_nil (by rfl)) (by decide) (by rfl) (by rfl)) (by rfl)))) (by rfl) er.b_LadderError er.x_LadderError.cat sc_l_caught.nd rfl rfl (fun v => (@pss_one _ _ _ (@ps_set _ _ (2) _ _ _ _ sc_l_caught.nd rfl (by first | exact Or.inl rfl | exact Or.inr rfl) (dv 3) (by rfl) (by first | exact .inl rfl | exact .inr rfl | assumption)))) (by decide))) (@pss_one _ _ _ (@ps_tryT _ _ _ _ _ _ _ _ _ _ _ _ _ _ _ _ (3) _ ⟨rfl, rfl, rfl⟩ (fun σ0 p0 Eh => (@pss_one _ _ _ (@ps_expr _ _ _ _ (@e_callT _ _ _ _ _ _ _ _ _ _ _ _ _ _ c_read_book hr (by decide) (by rfl) (@pa_cons _ _ _ _ _ (dv 0) pa_nil (by rfl)) (by decide) (by rfl) (by rfl)) (by rfl)))) (by rfl) er.b_NoGame (by rfl) er.b_NoBook sc_l_caught.nd rfl rfl (fun v => (@pss_one _ _ _ (@ps_set _ _ (2) _ _ _ _ sc_l_caught.nd rfl (by first | exact Or.inl rfl | exact Or.inr rfl) (dv 3) (by rfl) (by first | exact .inl rfl | exact .inr rfl | assumption)))) (by decide) (by decide)))) (@pss_cons _ _ _ _ _ (@s_if _ _ _ _ _ _ _ _ (@L2.PW.pt _ _ _ (@w_or _ _ _ _ _ _ _ (@pt_not _ _ _ _ (@t_val _ _ _ (@pe_callB _ _ _ _ _ _ _ _ _ c_isiX (by rfl) n_isinstance (by decide +kernel) (@pa_cons _ _ _ _ _ (dv 2) (@pa_cons _ _ _ _ _ (@pe_glob _ _ (.ref c_LadderError) _ _ (by rfl) er.b_LadderError rfl (by decide)) pa_nil (by rfl)) (by rfl)) (by decide) (by decide) (by rfl) (by rfl)) (by intro _; rfl))) (@pw_or1 _ _ _ _ (@pt_not _ _ _ _ (@t_val _ _ _ (@pe_callB _ _ _ _ _ _ _ _ _ c_isiX (by rfl) n_isinstance (by decide +kernel) (@pa_cons _ _ _ _ _ (dv 2) (@pa_cons _ _ _ _ _ (e_ty "ValueError" (by rfl) n_ValueError (by decide +kernel)) pa_nil (by rfl)) (by rfl)) (by decide) (by decide) (by rfl) (by rfl)) (by intro _; rfl)))))) (@pss_one _ _ _ (@ps_ret _ _ _ _ pe_non)) pss_nil) (@pss_cons _ _ _ _ _ (@s_if _ _ _ _ _ _ _ _ (@t_val _ _ _ (@pe_callB _ _ _ _ _ _ _ _ _ c_isiT (by rfl) n_isinstance (by decide +kernel) (@pa_cons _ _ _ _ _ (dv 2) (@pa_cons _ _ _ _ _ (@e_tup _ _ _ _ _ (@pa_cons _ _ _ _ _ (@pe_glob _ _ (.ref c_NoFit) _ _ (by rfl) er.b_NoFit rfl (by decide)) (@pa_cons _ _ _ _ _ (@pe_glob _ _ (.ref c_NoNumber) _ _ (by rfl) er.b_NoNumber rfl (by decide)) (@pa_cons _ _ _ _ _ (@pe_glob _ _ (.ref c_NoPlayer) _ _ (by rfl) er.b_NoPlayer rfl (by decide)) (@pa_cons _ _ _ _ _ (@pe_glob _ _ (.ref c_NoRow) _ _ (by rfl) er.b_NoRow rfl (by decide)) (@pa_cons _ _ _ _ _ (@pe_glob _ _ (.ref c_NoStretch) _ _ (by rfl) er.b_NoStretch rfl (by decide)) (@pa_cons _ _ _ _ _ (@pe_glob _ _ (.ref c_NoTable) _ _ (by rfl) er.b_NoTable rfl (by decide)) (@pa_cons _ _ _ _ _ (@pe_glob _ _ (.ref c_NoTree) _ _ (by rfl) er.b_NoTree rfl (by decide)) (@pa_cons _ _ _ _ _ (@pe_glob _ _ (.ref c_NoWorth) _ _ (by rfl) er.b_NoWorth rfl (by decide)) pa_nil (by rfl)) (by rfl)) (by rfl)) (by rfl)) (by rfl)) (by rfl)) (by rfl)) (by rfl))) pa_nil (by rfl)) (by rfl)) (by decide) (by decide) (by rfl) (by rfl)) (by intro _; rfl)) (@pss_one _ _ _ (@ps_ret _ _ _ _ pe_non)) pss_nil) (@pss_one _ _ _ (@ps_ret _ _ _ _ (@e_lst _ _ _ _ (@pa_cons _ _ _ _ _ (@pe_callB _ _ _ _ _ _ _ _ _ c_isiX (by rfl) n_isinstance (by decide +kernel) (@pa_cons _ _ _ _ _ (dv 2) (@pa_cons _ _ _ _ _ (@pe_glob _ _ (.ref c_NoGame) _ _ (by rfl) er.b_NoGame rfl (by decide)) pa_nil (by rfl)) (by rfl)) (by decide) (by decide) (by rfl) (by rfl)) (@pa_cons _ _ _ _ _ (@pe_callB _ _ _ _ _ _ _ _ _ c_isiX (by rfl) n_isinstance (by decide +kernel) (@pa_cons _ _ _ _ _ (dv 2) (@pa_cons _ _ _ _ _ (@pe_glob _ _ (.ref c_NoBook) _ _ (by rfl) er.b_NoBook rfl (by decide)) pa_nil (by rfl)) (by rfl)) (by decide) (by decide) (by rfl) (by rfl)) pa_nil (by rfl)) (by rfl))))))))), ?_⟩
      refine ⟨fun σ H' => Same H H' ∧ ∃ p C, σ = [some v, some (.bl b), some (.ref p), none] ∧ rbC K ng C ∧ H' p = some (.ext (ExcAt p C)), ?_, ?_⟩
      · refine ⟨fun _ => ?_, fun _ => ?_⟩
        · refine ⟨rfl, ?_⟩
          show sp_read_book K ns [v] H _ _
          refine rb_call hr0 fun H1 C s1 hC => ?_
          cases ng with
          | true =>
            obtain rfl := ns_inj (x := "NoGame") hC er.y_NoGame
            exact ⟨_, rfl, er.x_NoGame, er.km_NoGame_LadderError, fun a H3 s3 e3 => ⟨s1.trans s3, a, _, rfl, hC, e3⟩⟩
          | false =>
            obtain rfl := ns_inj (x := "NoBook") hC er.y_NoBook
            exact ⟨_, rfl, er.x_NoBook, er.km_NoBook_LadderError, fun a H3 s3 e3 => ⟨s1.trans s3, a, _, rfl, hC, e3⟩⟩
        · refine ⟨rfl, ?_⟩
          show sp_read_book K ns [v] H _ _
          refine rb_call hr0 fun H1 C s1 hC => ?_
          cases ng with
          | true =>
            obtain rfl := ns_inj (x := "NoGame") hC er.y_NoGame
            exact ⟨_, rfl, er.x_NoGame, er.kx_NoGame_NoGame_NoBook, fun a H3 s3 e3 => ⟨s1.trans s3, a, _, rfl, hC, e3⟩⟩
          | false =>
            obtain rfl := ns_inj (x := "NoBook") hC er.y_NoBook
            exact ⟨_, rfl, er.x_NoBook, er.kx_NoBook_NoGame_NoBook, fun a H3 s3 e3 => ⟨s1.trans s3, a, _, rfl, hC, e3⟩⟩
      · rintro σ H1 ⟨s1, p, C, rfl, hC, ep⟩
        cases ng with
        | true =>
          obtain rfl := ns_inj (x := "NoGame") hC er.y_NoGame
          have x := er.x_NoGame
          refine ⟨_, true, ep, x, er.kk_NoGame_LadderError, ⟨fun h => nb h, fun _ => ⟨_, true, ep, x, er.kv_NoGame, ⟨fun h => nb h, fun _ => ?_⟩⟩⟩⟩
          refine fun T H2 s2 e2 => ⟨_, false, [c_NoFit, c_NoNumber, c_NoPlayer, c_NoRow, c_NoStretch, c_NoTable, c_NoTree, c_NoWorth], s2 _ _ ep, x, e2, (kitF er.kk_NoGame_NoFit (kitF er.kk_NoGame_NoNumber (kitF er.kk_NoGame_NoPlayer (kitF er.kk_NoGame_NoRow (kitF er.kk_NoGame_NoStretch (kitF er.kk_NoGame_NoTable (kitF er.kk_NoGame_NoTree (kitF er.kk_NoGame_NoWorth kitN)))))))), ⟨fun h => nb h, fun _ => ?_⟩⟩
          exact ⟨_, true, s2 _ _ ep, x, er.kk_NoGame_NoGame, _, false, s2 _ _ ep, x, er.kk_NoGame_NoBook, fun D H3 s3 e3 => k D H3 (s1.trans (s2.trans s3)) e3⟩
        | false =>
          obtain rfl := ns_inj (x := "NoBook") hC er.y_NoBook
          have x := er.x_NoBook
          refine ⟨_, true, ep, x, er.kk_NoBook_LadderError, ⟨fun h => nb h, fun _ => ⟨_, true, ep, x, er.kv_NoBook, ⟨fun h => nb h, fun _ => ?_⟩⟩⟩⟩
          refine fun T H2 s2 e2 => ⟨_, false, [c_NoFit, c_NoNumber, c_NoPlayer, c_NoRow, c_NoStretch, c_NoTable, c_NoTree, c_NoWorth], s2 _ _ ep, x, e2, (kitF er.kk_NoBook_NoFit (kitF er.kk_NoBook_NoNumber (kitF er.kk_NoBook_NoPlayer (kitF er.kk_NoBook_NoRow (kitF er.kk_NoBook_NoStretch (kitF er.kk_NoBook_NoTable (kitF er.kk_NoBook_NoTree (kitF er.kk_NoBook_NoWorth kitN)))))))), ⟨fun h => nb h, fun _ => ?_⟩⟩
          exact ⟨_, false, s2 _ _ ep, x, er.kk_NoBook_NoGame, _, true, s2 _ _ ep, x, er.kk_NoBook_NoBook, fun D H3 s3 e3 => k D H3 (s1.trans (s2.trans s3)) e3⟩
structure GO (g : Gm) : Prop where
  d0 : 0 ≤ g.d
  d1 : g.d ≤ 9999
  na : Nm g.a
  nb : Nm g.b
  ne : g.a ≠ g.b
  h0 : 0 ≤ g.h
  h1 : g.h ≤ 2
  s0 : -1 ≤ g.s
  s1 : g.s ≤ 1
def wds (g : Gm) : List Str := [(toString g.d : Str), st g.a (decide (g.s = 1)), wd g.h, st g.b (decide (g.s = -1))]
def wrG (g : Gm) : Str := wrS g.d g.a g.b g.h g.s
theorem wrG_join (g : Gm) : wrG g = Str.join ⟨#[32]⟩ (wds g) := rfl
theorem rd_wrG {g : Gm} (o : GO g) : rd (wrG g) = some (gmV g) := rd_wr o.d0 o.d1 o.h0 o.h1 o.s0 o.s1 o.na o.nb o.ne
theorem st_no {x : Str} (h : Nm x) (b : Bool) {c : Nat} (h2 : ¬ (97 ≤ c ∧ c < 123)) (h3 : c ≠ 42) : c ∉ co (st x b) := by
  cases b with
  | true =>
    show c ∉ co (x ++ ⟨#[42]⟩)
    rw [co_app, co_one]
    intro z
    rcases List.mem_append.mp z with z | z
    · exact nm_no h h2 z
    · exact h3 (by simpa using z)
  | false => exact nm_no h h2
theorem wd_no (h : Int) {c : Nat} (h2 : ¬ (97 ≤ c ∧ c < 123)) : c ∉ co (wd h) := by
  have all : ∀ x : Str, (co x).all (fun c => decide (97 ≤ c) && decide (c < 123)) = true → c ∉ co x := fun x hx z => by
    have := List.all_eq_true.mp hx c z
    rw [Bool.and_eq_true] at this
    exact h2 ⟨of_decide_eq_true this.1, of_decide_eq_true this.2⟩
  unfold wd
  split
  · exact all _ (by decide +kernel)
  · split
    · exact all _ (by decide +kernel)
    · exact all _ (by decide +kernel)
theorem wds_free {g : Gm} (o : GO g) {c : Nat} (h1 : ¬ (48 ≤ c ∧ c < 58)) (h2 : ¬ (97 ≤ c ∧ c < 123)) (h3 : c ≠ 42) : ∀ p ∈ wds g, c ∉ co p := fun p hp => by
  have hp : p = (toString g.d : Str) ∨ p = st g.a (decide (g.s = 1)) ∨ p = wd g.h ∨ p = st g.b (decide (g.s = -1)) := by simpa [wds] using hp
  rcases hp with rfl | rfl | rfl | rfl
  · obtain ⟨m, hm⟩ := Int.eq_ofNat_of_zero_le o.d0
    rw [hm]
    intro z
    have := fg_all m c z
    omega
  · exact st_no o.na _ h2 h3
  · exact wd_no _ h2
  · exact st_no o.nb _ h2 h3
theorem join_free {c d : Nat} (hc : c ≠ d) : ∀ {ws : List Str}, (∀ p ∈ ws, c ∉ co p) → c ∉ co (Str.join ⟨#[d]⟩ ws)
  | [], _ => by
    have e : co (Str.join ⟨#[d]⟩ []) = [] := rfl
    rw [e]
    simp
  | [a], h => h a (List.mem_singleton.mpr rfl)
  | a :: b :: r, h => by
    rw [co_join2]
    intro z
    rcases List.mem_append.mp z with z | z
    · exact h a List.mem_cons_self z
    · rcases List.mem_cons.mp z with z | z
      · exact hc z
      · exact join_free hc (ws := b :: r) (fun p hp => h p (List.mem_cons_of_mem _ hp)) z
theorem wrG_free {g : Gm} (o : GO g) {c : Nat} (h1 : ¬ (48 ≤ c ∧ c < 58)) (h2 : ¬ (97 ≤ c ∧ c < 123)) (h3 : c ≠ 42) (h4 : c ≠ 32) : c ∉ co (wrG g) := by
  rw [wrG_join]
  exact join_free h4 (wds_free o h1 h2 h3)
theorem rd_words {x : Str} {ws : List Str} (hx : co x = co (Str.join ⟨#[32]⟩ ws)) (ne : ws ≠ []) (fr : ∀ p ∈ ws, 32 ∉ co p) (l : ws.length ≠ 4) : rd x = none := by
  have e := split_join 32 ne fr hx
  unfold rd
  rw [e]
  match ws, l with
  | [], _ => rfl
  | [_], _ => rfl
  | [_, _], _ => rfl
  | [_, _, _], _ => rfl
  | [_, _, _, _], l => exact absurd rfl l
  | _ :: _ :: _ :: _ :: _ :: _, _ => rfl
theorem rd_empty : rd (Str.ofString "") = none := rd_words (ws := [Str.ofString ""]) rfl (by simp) (by decide +kernel) (by decide)
theorem co_wrG (g : Gm) : co (wrG g) = co (toString g.d : Str) ++ 32 :: (co (st g.a (decide (g.s = 1))) ++ 32 :: (co (wd g.h) ++ 32 :: co (st g.b (decide (g.s = -1))))) := by
  rw [wrG_join]
  unfold wds
  rw [co_join2, co_join2, co_join2]
  rfl
theorem free32 {g : Gm} (o : GO g) : ∀ p ∈ wds g, 32 ∉ co p := wds_free o (by omega) (by omega) (by omega)
theorem co_bl : co (Str.ofString " ") = [32] := by decide +kernel
theorem rd_behind {g : Gm} (o : GO g) : rd (wrG g ++ Str.ofString " ") = none := by
  refine rd_words (ws := wds g ++ [Str.ofString ""]) ?_ (by simp) (fun p hp => ?_) (by simp [wds])
  · rw [co_app, co_wrG, co_bl]
    unfold wds
    simp only [List.cons_append, List.nil_append]
    rw [co_join2, co_join2, co_join2, co_join2]
    simp [show co (Str.join ⟨#[32]⟩ [Str.ofString ""]) = [] from by decide +kernel]
  · rcases List.mem_append.mp hp with hp | hp
    · exact free32 o p hp
    · rw [List.mem_singleton] at hp
      subst hp
      decide +kernel
theorem rd_ahead {g : Gm} (o : GO g) : rd (Str.ofString " " ++ wrG g) = none := by
  refine rd_words (ws := Str.ofString "" :: wds g) ?_ (by simp) (fun p hp => ?_) (by simp [wds])
  · rw [co_app, co_wrG, co_bl]
    unfold wds
    rw [co_join2, co_join2, co_join2, co_join2]
    simp [show co (Str.ofString "") = [] from by decide +kernel]
    rfl
  · rcases List.mem_cons.mp hp with rfl | hp
    · decide +kernel
    · exact free32 o p hp
def sp_starred (K : PySem.W.Frag) (ns : List Int) : Sp := fun vs H Q _ => match vs with
  | [.str x, .bl b] => x.length ≤ 1000 ∧ Q (.str (st x b)) H
  | _ => False
theorem sc_starred : FnScope ["name", "had_side"] ["name", "had_side"] (defScope s_starred) := ⟨rfl, rfl, rfl, by decide +kernel, rfl, by decide +kernel, by decide +kernel⟩
theorem ok_starred (d : Dfn K mg "starred" s_starred ["name", "had_side"]) (er : Errs K mg c_LadderError c_NoBook c_NoFit c_NoGame c_NoNumber c_NoPlayer c_NoRow c_NoStretch c_NoTable c_NoTree c_NoWorth)    : Cal P w K mg base "starred" ["name", "had_side"] 1 (sp_starred K ns) := by
  refine d.cal (k := 0) sc_starred (fun vs H Q E h => ?_) (fun f cdv A outer s H vs Q E hr h => ?_)
  · match vs, h with
    | [.str x, .bl b], _ => rfl
  · match vs, h with
    | [.str x, .bl b], hq0 =>
      obtain ⟨hz, q⟩ := hq0
      refine ⟨_, (@pss_one _ _ _ (@ps_ret _ _ _ _ (@e_if _ _ _ _ _ _ _ _ (@t_val _ _ _ (dv 1) (by intro _; rfl)) (@pe_op _ _ _ _ _ _ _ _ o_addS (dv 0) pe_str) (dv 0)))), ?_⟩
      cases b with
      | true => exact ⟨fun _ => ⟨Nat.le_trans (Nat.add_le_add hz (show ("*" : Str).length ≤ 1 by decide +kernel)) (by decide), q⟩, fun h => nb h⟩
      | false => exact ⟨fun h => nb h, fun _ => q⟩
def sp_show_game (K : PySem.W.Frag) (ns : List Int) : Sp := fun vs H Q _ => match vs with
  | [.ref p] => ∃ (d h s : Int) (x y : Str), H p = some (.tup [.int d, .str x, .str y, .int h, .int s]) ∧ (0 ≤ d ∧ d ≤ 9999) ∧ (0 ≤ h ∧ h ≤ 2) ∧ (Nm x ∧ Nm y) ∧ Q (.str (wrS d x y h s)) H
  | _ => False
theorem sc_show_game : FnScope ["played", "day", "one", "word", "other"] ["played"] (defScope s_show_game) := ⟨rfl, rfl, rfl, by decide +kernel, rfl, by decide +kernel, by decide +kernel⟩
theorem ok_show_game (d : Dfn K mg "show_game" s_show_game ["played"]) (er : Errs K mg c_LadderError c_NoBook c_NoFit c_NoGame c_NoNumber c_NoPlayer c_NoRow c_NoStretch c_NoTable c_NoTree c_NoWorth)  (v_WORDS : Cst mg "WORDS" (.ref a_WORDS)) (w_WORDS : TupD K a_WORDS [.str "lost", .str "drew", .str "beat"]) (c_starred : Cal P w K mg base "starred" ["name", "had_side"] 1 (sp_starred K ns)) : Cal P w K mg base "show_game" ["played"] 2 (sp_show_game K ns) := by
  refine d.cal (k := 1) sc_show_game (fun vs H Q E h => ?_) (fun f cdv A outer s H vs Q E hr h => ?_)
  · match vs, h with
    | [.ref p], _ => rfl
  · match vs, h with
    | [.ref p], hq0 =>
      obtain ⟨d0, h0, s0, x, y, e, ⟨hd0, hd1⟩, ⟨hh0, hh1⟩, ⟨nx, ny⟩, q⟩ := hq0
      refine ⟨_, (@pss_cons _ _ _ _ _ (@ps_set _ _ (1) _ _ _ _ sc_show_game.nd rfl (by first | exact Or.inl rfl | exact Or.inr rfl) (@pe_ix _ _ _ _ _ _ _ i_tup (dv 0) pe_int (fun _ _ => rfl)) (by rfl) (by first | exact .inl rfl | exact .inr rfl | assumption)) (@pss_cons _ _ _ _ _ (@ps_set _ _ (2) _ _ _ _ sc_show_game.nd rfl (by first | exact Or.inl rfl | exact Or.inr rfl) (@e_call _ _ _ _ _ _ _ _ _ _ _ c_starred hr (by decide) (by rfl) (@pa_cons _ _ _ _ _ (@pe_ix _ _ _ _ _ _ _ i_tup (dv 0) pe_int (fun _ _ => rfl)) (@pa_cons _ _ _ _ _ (@pe_cmpR _ _ _ _ _ _ _ _ o_eq (@pe_ix _ _ _ _ _ _ _ i_tup (dv 0) pe_int (fun _ _ => rfl)) pe_int (@nomark _ _ (by decide) (by decide))) pa_nil (by rfl)) (by rfl)) (by decide) (by rfl) (by rfl)) (by rfl) (by first | exact .inl rfl | exact .inr rfl | assumption)) (@pss_cons _ _ _ _ _ (@ps_set _ _ (3) _ _ _ _ sc_show_game.nd rfl (by first | exact Or.inl rfl | exact Or.inr rfl) (@pe_ix _ _ _ _ _ _ _ i_tupS (g_cst v_WORDS (by rfl)) (@pe_ix _ _ _ _ _ _ _ i_tup (dv 0) pe_int (fun _ _ => rfl)) (fun _ _ => rfl)) (by rfl) (by first | exact .inl rfl | exact .inr rfl | assumption)) (@pss_cons _ _ _ _ _ (@ps_set _ _ (4) _ _ _ _ sc_show_game.nd rfl (by first | exact Or.inl rfl | exact Or.inr rfl) (@e_call _ _ _ _ _ _ _ _ _ _ _ c_starred hr (by decide) (by rfl) (@pa_cons _ _ _ _ _ (@pe_ix _ _ _ _ _ _ _ i_tup (dv 0) pe_int (fun _ _ => rfl)) (@pa_cons _ _ _ _ _ (@pe_cmpR _ _ _ _ _ _ _ _ o_eq (@pe_ix _ _ _ _ _ _ _ i_tup (dv 0) pe_int (fun _ _ => rfl)) (@pe_un _ _ _ _ _ _ u_neg pe_int) (@nomark _ _ (by decide) (by decide))) pa_nil (by rfl)) (by rfl)) (by decide) (by rfl) (by rfl)) (by rfl) (by first | exact .inl rfl | exact .inr rfl | assumption)) (@pss_one _ _ _ (@ps_ret _ _ _ _ (@e_fstr _ _ _ _ _ _ (@pj_val _ _ _ _ _ _ (dv 1) (@pj_str _ _ _ _ _ _ (by decide +kernel) (@pj_val _ _ _ _ _ _ (dv 2) (@pj_str _ _ _ _ _ _ (by decide +kernel) (@pj_val _ _ _ _ _ _ (dv 3) (@pj_str _ _ _ _ _ _ (by decide +kernel) (@pj_val _ _ _ _ _ _ (dv 4) pj_nil)))))))))))))), ?_⟩
      have lx := nm_len nx
      have ly := nm_len ny
      have l1 := st_len x (decide (s0 = 1))
      have l2 := st_len y (decide (s0 = -1))
      have l3 := d_len hd0 hd1
      have l4 := wd_len h0
      have l5 : (" " : Str).length = 1 := by decide +kernel
      have big : (1000 : Nat) ≤ sizeLine := by decide
      refine ⟨_, e, _, e, _, e, Nat.le_trans lx (by decide), _, e, _, _, w_WORDS.sq _, wd_at hh0 hh1, _, e, _, e, Nat.le_trans ly (by decide), ?_⟩
      have e0 : ∀ z : Str, Str.empty ++ z = z := fun z => by
        apply co_inj
        rw [co_app]
        rfl
      unfold wrS at q
      rw [← wr_of] at q
      refine ⟨d_log hd0 hd1, ?_, ?_⟩
      · rw [e0]
        omega
      rw [e0]
      refine ⟨?_, ?_, ?_, ?_, ?_, ?_, ?_, ?_, ?_, ?_, q⟩ <;> (try simp only [len_app]) <;> omega
theorem all2_wr : ∀ {gs : List Gm} {ys : List V}, All2 (fun g y => y = V.str (wrG g)) gs ys → ys = (gs.map wrG).map V.str
  | _, _, .nil => rfl
  | _, _, .cons h t => by rw [h, all2_wr t]; rfl
theorem sum_wr : ∀ {gs : List Gm}, (∀ g ∈ gs, GO g) → ((gs.map wrG).map (·.length)).sum ≤ gs.length * 900
  | [], _ => Nat.zero_le _
  | g :: gs, h => by
    have o := h g List.mem_cons_self
    have h1 : (wrG g).length ≤ 900 := wr_len o.d0 o.d1 o.na o.nb
    have h2 := sum_wr (gs := gs) fun x hx => h x (List.mem_cons_of_mem _ hx)
    simp only [List.map_cons, List.sum_cons, List.length_cons]
    omega
def sp_show_book (K : PySem.W.Frag) (ns : List Int) : Sp := fun vs H Q _ => match vs with
  | [.ref L] => ∃ gs, (Bk K H L gs ∧ (∀ g ∈ gs, GO g) ∧ gs.length ≤ 60) ∧ ∀ H', Same H H' → Q (.str (Str.join sp2 (gs.map wrG))) H'
  | _ => False
theorem sc_show_book : FnScope ["games"] ["games"] (defScope s_show_book) := ⟨rfl, rfl, rfl, by decide +kernel, rfl, by decide +kernel, by decide +kernel⟩
theorem ok_show_book (d : Dfn K mg "show_book" s_show_book ["games"]) (er : Errs K mg c_LadderError c_NoBook c_NoFit c_NoGame c_NoNumber c_NoPlayer c_NoRow c_NoStretch c_NoTable c_NoTree c_NoWorth)  (v_PARTING : Cst mg "PARTING" (.str "; ")) (c_show_game : Cal P w K mg base "show_game" ["played"] 2 (sp_show_game K ns)) : Cal P w K mg base "show_book" ["games"] 3 (sp_show_book K ns) := by
  refine d.cal (k := 2) sc_show_book (fun vs H Q E h => ?_) (fun f cdv A outer s H vs Q E hr h => ?_)
  · match vs, h with
    | [.ref L], _ => rfl
  · match vs, h with
    | [.ref L], hq0 =>
      obtain ⟨gs, ⟨⟨vs, hx, hm, hl⟩, ok, l60⟩, k⟩ := hq0
      refine ⟨_, (@pss_one _ _ _ (@ps_ret _ _ _ _ (@e_join _ _ _ _ _ ("join") _ _ (g_cst v_PARTING (by rfl)) (@pa_cons _ _ _ _ _ (@e_compN _ _ _ _ _ _ _ _ _ _ ["played"] [] [] rfl (@pi_list _ _ _ _ (dv 0)) (fun C s H fp => (@pg_name _ _ (0) _ (show List.Nodup [("played" : Str)] by decide +kernel) rfl (by first | exact Or.inl rfl | exact Or.inr rfl) (by first | exact .inl rfl | exact .inr rfl | assumption))) (fun C s H fp => (@e_call _ _ _ _ _ _ _ _ _ _ _ c_show_game hr (by decide) (by rfl) (@pa_cons _ _ _ _ _ (dv 0) pa_nil (by rfl)) (by decide) (by rfl) (by rfl))) rfl rfl (by decide +kernel) (by decide +kernel) (by rfl) True.intro True.intro (by intro _; rfl)) pa_nil (by rfl)) (by rfl) (by rfl) (by rfl) (by rfl) (by rfl)))), ?_⟩
      refine ⟨rfl, L, rfl, ⟨_, hx⟩, comp_abs GmAt gm_up (fun _ g y => y = V.str (wrG g)) (fun _ _ _ _ _ h => h) (by rw [hm.len]; omega) hx hm ?_ ?_⟩
      · intro v g H2 hM hg s2 P hP
        obtain ⟨p, rfl, ep⟩ := hM
        have o := ok g hg
        exact ⟨rfl, g.d, g.h, g.s, g.a, g.b, ep, ⟨o.d0, o.d1⟩, ⟨o.h0, o.h1⟩, ⟨o.na, o.nb⟩, hP _ _ (Same.refl _) rfl⟩
      intro D H2 ys s2 _ e2 a2
      have ey : ys = (gs.map wrG).map V.str := all2_wr a2
      refine ⟨gs.map wrG, SqL.of (by rw [e2, ey]), ?_, ?_⟩
      · have h1 : ((gs.map wrG).map (·.length)).sum ≤ gs.length * 900 := sum_wr ok
        rw [List.length_map, show (Str.ofString "; ").length = 2 by decide +kernel]
        omega
      · have e : Txt.join (Str.ofString "; ") (gs.map wrG) = Str.join sp2 (gs.map wrG) := co_inj (co_join _ _)
        exact (congrArg (fun z => Q (.str z) H2) e).mpr (k H2 s2)
structure NL (nm : List Str) : Prop where
  nd : nm.Nodup
  ok : ∀ x ∈ nm, Nm x
theorem _root_.Lw.Nm.sok {x : Str} (h : Nm x) : PyData.strOk x = true := ok_of fun c hc => Nat.lt_trans (h.abc c hc).2 (by decide)
theorem sq8 {i : Nat} (h : i < 8) : (0 : Int) ≤ (0 + (i : Int)) * (0 + (i : Int)) ∧ (0 + (i : Int)) * (0 + (i : Int)) < 100 := by
  have : i = 0 ∨ i = 1 ∨ i = 2 ∨ i = 3 ∨ i = 4 ∨ i = 5 ∨ i = 6 ∨ i = 7 := by omega
  rcases this with rfl | rfl | rfl | rfl | rfl | rfl | rfl | rfl <;> decide
theorem lt5 (m : Int) (k : Nat) : lt (m + 5 * (k : Int)) = lt (m + ((5 * k % 26 : Nat) : Int)) := by
  unfold lt
  have : (m + 5 * (k : Int)) % 26 = (m + ((5 * k % 26 : Nat) : Int)) % 26 := by omega
  rw [this]
def sp_l_names (K : PySem.W.Frag) (ns : List Int) : Sp := fun vs H Q _ => match vs with
  | [.ref a, .int m] => (SqL K H a (ns.map V.int) ∧ 0 ≤ m ∧ m ≤ 10) ∧ ∀ L (nm : List Str) H', Same H H' → H L = none → H' L = some (.lst (nm.map V.str)) → (nm.length : Int) = m → NL nm → Q (.ref L) H'
  | _ => False
theorem sc_l_names : FnScope ["_law_script", "_law_many", "_law_letters", "_law_size", "_law_at", "_law_first", "_law_base", "_law_names_here", "_law_k", "_law_sign"] ["_law_script", "_law_many"] (defScope s_l_names) := ⟨rfl, rfl, rfl, by decide +kernel, rfl, by decide +kernel, by decide +kernel⟩
theorem ok_l_names (d : Dfn K mg "_law_names" s_l_names ["_law_script", "_law_many"]) (er : Errs K mg c_LadderError c_NoBook c_NoFit c_NoGame c_NoNumber c_NoPlayer c_NoRow c_NoStretch c_NoTable c_NoTree c_NoWorth) (n_range : mg "range" = none)  (c_l_draw : Cal P w K mg base "_law_draw" ["_law_script", "_law_k", "_law_many"] 2 (sp_l_draw K ns)) : Cal P w K mg base "_law_names" ["_law_script", "_law_many"] 3 (sp_l_names K ns) := by
  refine d.cal (k := 2) sc_l_names (fun vs H Q E h => ?_) (fun f cdv A outer s H vs Q E hr h => ?_)
  · match vs, h with
    | [.ref a, .int m], _ => rfl
  · match vs, h with
    | [.ref a, .int m], hq0 =>
      obtain ⟨⟨hS, m0, m8⟩, q⟩ := hq0
      refine ⟨_, (@pss_cons _ _ _ _ _ (@ps_set _ _ (2) _ _ _ _ sc_l_names.nd rfl (by first | exact Or.inl rfl | exact Or.inr rfl) pe_str (by rfl) (by first | exact .inl rfl | exact .inr rfl | assumption)) (@pss_cons _ _ _ _ _ (@ps_set _ _ (3) _ _ _ _ sc_l_names.nd rfl (by first | exact Or.inl rfl | exact Or.inr rfl) (@pe_op _ _ _ _ _ _ _ _ o_add pe_int (@e_call _ _ _ _ _ _ _ _ _ _ _ c_l_draw hr (by decide) (by rfl) (@pa_cons _ _ _ _ _ (dv 0) (@pa_cons _ _ _ _ _ pe_int (@pa_cons _ _ _ _ _ pe_int pa_nil (by rfl)) (by rfl)) (by rfl)) (by decide) (by rfl) (by rfl))) (by rfl) (by first | exact .inl rfl | exact .inr rfl | assumption)) (@pss_cons _ _ _ _ _ (@ps_set _ _ (4) _ _ _ _ sc_l_names.nd rfl (by first | exact Or.inl rfl | exact Or.inr rfl) (@e_call _ _ _ _ _ _ _ _ _ _ _ c_l_draw hr (by decide) (by rfl) (@pa_cons _ _ _ _ _ (dv 0) (@pa_cons _ _ _ _ _ pe_int (@pa_cons _ _ _ _ _ (dv 3) pa_nil (by rfl)) (by rfl)) (by rfl)) (by decide) (by rfl) (by rfl)) (by rfl) (by first | exact .inl rfl | exact .inr rfl | assumption)) (@pss_cons _ _ _ _ _ (@ps_set _ _ (5) _ _ _ _ sc_l_names.nd rfl (by first | exact Or.inl rfl | exact Or.inr rfl) (@e_call _ _ _ _ _ _ _ _ _ _ _ c_l_draw hr (by decide) (by rfl) (@pa_cons _ _ _ _ _ (dv 0) (@pa_cons _ _ _ _ _ pe_int (@pa_cons _ _ _ _ _ pe_int pa_nil (by rfl)) (by rfl)) (by rfl)) (by decide) (by rfl) (by rfl)) (by rfl) (by first | exact .inl rfl | exact .inr rfl | assumption)) (@pss_cons _ _ _ _ _ (@ps_set _ _ (6) _ _ _ _ sc_l_names.nd rfl (by first | exact Or.inl rfl | exact Or.inr rfl) (@e_join _ _ _ _ _ ("join") _ _ pe_str (@pa_cons _ _ _ _ _ (@e_compN _ _ _ _ _ _ _ _ _ _ ["_law_j"] ["_law_letters", "_law_first"] [2, 5] rfl (@pi_range1 _ _ _ _ _ _ (by rfl) n_range (@pa_cons _ _ _ _ _ pe_int pa_nil (by rfl)) (by rfl)) (fun C s H fp => (@pg_name _ _ (0) _ (show List.Nodup [("_law_j" : Str), ("_law_letters" : Str), ("_law_first" : Str)] by decide +kernel) rfl (by first | exact Or.inl rfl | exact Or.inr rfl) (by first | exact .inl rfl | exact .inr rfl | assumption))) (fun C s H fp => (@pe_ix _ _ _ _ _ _ _ i_str (dv 1) (@pe_op _ _ _ _ _ _ _ _ o_mod (@pe_op _ _ _ _ _ _ _ _ o_add (dv 2) (@pe_op _ _ _ _ _ _ _ _ o_mul (dv 0) (dv 0))) pe_int) (fun _ _ => rfl))) rfl rfl (by decide +kernel) (by decide +kernel) (by rfl) ⟨rfl, ⟨rfl, True.intro⟩⟩ ⟨⟨rfl, rfl, rfl, rfl⟩, ⟨⟨rfl, rfl, rfl, rfl⟩, True.intro⟩⟩ (by intro _; rfl)) pa_nil (by rfl)) (by rfl) (by rfl) (by rfl) (by rfl) (by rfl)) (by rfl) (by first | exact .inl rfl | exact .inr rfl | assumption)) (@pss_cons _ _ _ _ _ (@ps_set _ _ (7) _ _ _ _ sc_l_names.nd rfl (by first | exact Or.inl rfl | exact Or.inr rfl) (@pe_lst _ _ _ _ pa_nil) (by rfl) (by first | exact .inl rfl | exact .inr rfl | assumption)) (@pss_cons _ _ _ _ _ (@ps_for _ _ _ _ _ _ _ _ PassesOwn.never rfl (@pi_range1 _ _ _ _ _ _ (by rfl) n_range (@pa_cons _ _ _ _ _ (dv 1) pa_nil (by rfl)) (by rfl)) (@pg_name _ _ (8) _ sc_l_names.nd rfl (by first | exact Or.inl rfl | exact Or.inr rfl) (by first | exact .inl rfl | exact .inr rfl | assumption)) (@pss_cons _ _ _ _ _ (@ps_set _ _ (9) _ _ _ _ sc_l_names.nd rfl (by first | exact Or.inl rfl | exact Or.inr rfl) (@pe_ix _ _ _ _ _ _ _ i_str (dv 2) (@pe_op _ _ _ _ _ _ _ _ o_mod (@pe_op _ _ _ _ _ _ _ _ o_add (@pe_op _ _ _ _ _ _ _ _ o_add (dv 5) (@pe_op _ _ _ _ _ _ _ _ o_mul (dv 4) (dv 4))) (@pe_op _ _ _ _ _ _ _ _ o_mul pe_int (dv 8))) pe_int) (fun _ _ => rfl)) (by rfl) (by first | exact .inl rfl | exact .inr rfl | assumption)) (@pss_one _ _ _ (@ps_expr _ _ _ _ (@pe_bm _ _ _ _ _ _ _ _ _ _ _ _ PySem.F.plainAttrs_list PySem.F.slot_list_append PySem.F.type_list_append mt_append (dv 7) (@pa_cons _ _ _ _ _ (@pe_op _ _ _ _ _ _ _ _ o_addS (@pe_op _ _ _ _ _ _ _ _ o_addS (@pe_slice _ _ _ _ _ _ _ _ _ _ sl_str (dv 6) po_none (po_some (dv 4))) (dv 9)) (@pe_slice _ _ _ _ _ _ _ _ _ _ sl_str (dv 6) (po_some (pe_op o_add (dv 4) pe_int)) (po_some (dv 3)))) pa_nil (by rfl)) (by rfl) (by rfl) (by rfl) (by rfl) (by rfl)) (by rfl)))) (by intro _; rfl)) (@pss_one _ _ _ (@ps_ret _ _ _ _ (dv 7)))))))))), ?_⟩
      have d1 := draw_nn ns 0 (show (0 : Int) < 8 by decide)
      have d2 := draw_lt ns 0 (show (0 : Int) < 8 by decide)
      have d3 := draw_nn ns 1 (show (0 : Int) < 1 + draw ns 0 8 by omega)
      have d4 := draw_lt ns 1 (show (0 : Int) < 1 + draw ns 0 8 by omega)
      have d5 := draw_nn ns 2 (show (0 : Int) < 26 by decide)
      have d6 := draw_lt ns 2 (show (0 : Int) < 26 by decide)
      refine ⟨hS, ⟨by decide, by decide, by decide⟩, ⟨hS, ⟨by decide, by decide, by omega⟩, ⟨hS, ⟨by decide, by decide, by decide⟩, ?_⟩⟩⟩
      generalize draw ns 0 8 = sz at *
      generalize draw ns 1 (1 + sz) = at0 at *
      generalize draw ns 2 26 = fi at *
      obtain ⟨at', rfl⟩ := Int.eq_ofNat_of_zero_le d3
      obtain ⟨sz, rfl⟩ := Int.eq_ofNat_of_zero_le d1
      refine ⟨rfl, 8, rfl, by decide, by decide, comp_rng (n := 8) (fun j => V.str ⟨#[lt (fi + (0 + (j : Int)) * (0 + (j : Int)))]⟩) (by decide) ?_ ?_⟩
      · intro i H2 hi s2 P hP
        have hq := sq8 (i := i) hi
        refine ⟨rfl, .inr (.inl ⟨by omega, by omega⟩), (by show (0 : Int) < 26; decide), ?_⟩
        have e0 := Int.emod_nonneg (fi + (0 + (i : Int)) * (0 + (i : Int))) (show (26 : Int) ≠ 0 by decide)
        have e1 := Int.emod_lt_of_pos (fi + (0 + (i : Int)) * (0 + (i : Int))) (show (0 : Int) < 26 by decide)
        exact ⟨_, by decide +kernel, abc_get e0 e1, hP⟩
      intro D H2 s2 e2
      refine ⟨(List.range 8).map fun j : Nat => ⟨#[lt (fi + (0 + (j : Int)) * (0 + (j : Int)))]⟩, SqL.of ?_, Nat.le_of_ble_eq_true rfl, ?_⟩
      · rw [e2, List.map_map]
        rfl
      have hb : co (Txt.join (Str.ofString "") ((List.range 8).map fun j : Nat => ⟨#[lt (fi + (0 + (j : Int)) * (0 + (j : Int)))]⟩)) = baseL fi := by
        rw [join0, List.map_map]
        unfold baseL
        have e : ((co ∘ fun j : Nat => (⟨#[lt (fi + (0 + (j : Int)) * (0 + (j : Int)))]⟩ : Str))) = fun j : Nat => [lt (fi + (j : Int) * j)] := by
          funext j
          show [lt (fi + (0 + (j : Int)) * (0 + (j : Int)))] = _
          rw [Int.zero_add]
        rw [e]
      generalize Txt.join (Str.ofString "") ((List.range 8).map fun j : Nat => (⟨#[lt (fi + (0 + (j : Int)) * (0 + (j : Int)))]⟩ : Str)) = b at hb
      have lb : b.length = 8 := by rw [← co_len, hb, baseL_len]
      have zb : b.length ≤ sizeLine := by rw [lb]; decide
      refine ⟨Nat.zero_le _, fun D3 n3 => ?_⟩
      have at7 : at' ≤ 7 := by omega
      have sqa : (0 : Int) ≤ (at' : Int) * at' ∧ (at' : Int) * at' < 100 := by
        have := sq8 (i := at') (by omega)
        rw [Int.zero_add] at this
        exact this
      refine ⟨m, rfl, by omega, by omega, for_range (lo := 0) (n := m.toNat) (fun i σ H' => ∃ (nm : List Str) (o1 o2 : Option V), σ = [some (.ref a), some (.int m), some (.str abc), some (.int (1 + (sz : Int))), some (.int at'), some (.int fi), some (.str b), some (.ref D3), o1, o2] ∧ H' = upd H2 D3 (.lst (nm.map V.str)) ∧ nm.length = i ∧ ∀ (j : Nat) x, nm[j]? = some x → co x = nameB (baseL fi) at' (1 + sz) fi (5 * j % 26))
        ⟨[], none, none, rfl, rfl, rfl, fun j x h => by simp at h⟩ ?_ ?_⟩
      · rintro i σ H' hi ⟨nm, o1, o2, rfl, rfl, hl, hall⟩
        refine ⟨.inr (.inl ⟨by omega, by omega⟩), .inr (.inl ⟨by decide, by decide⟩), (by show (0 : Int) < 26; decide), ?_⟩
        have e0 := Int.emod_nonneg (fi + (at' : Int) * at' + 5 * (0 + (i : Int))) (show (26 : Int) ≠ 0 by decide)
        have e1 := Int.emod_lt_of_pos (fi + (at' : Int) * at' + 5 * (0 + (i : Int))) (show (0 : Int) < 26 by decide)
        refine ⟨_, by decide +kernel, abc_get e0 e1, ?_⟩
        have l1 : (Txt.slice b none (some (at' : Int))).length ≤ 8 := Nat.le_trans (Txt.slice_le _ _ _) (by omega)
        have l2 : (Txt.slice b (some ((at' : Int) + 1)) (some (1 + (sz : Int)))).length ≤ 8 := Nat.le_trans (Txt.slice_le _ _ _) (by omega)
        have big : (8 : Nat) + 1 + 8 ≤ sizeLine := by decide
        have sl1 : co (Txt.slice b none (some (at' : Int))) = (baseL fi).take at' := by
          rw [co_to (by omega), hb]
        have sl2 : co (Txt.slice b (some ((at' : Int) + 1)) (some (1 + (sz : Int)))) = ((baseL fi).drop (at' + 1)).take (1 + sz - (at' + 1)) := by
          have := co_cut (x := b) (i := at' + 1) (j := 1 + sz) (by omega) (by omega)
          rw [hb] at this
          exact this
        refine ⟨.inl ⟨rfl, _, SqL.of upd_same⟩, _, rfl, zb, ?_⟩
        refine ⟨Nat.le_trans (Nat.add_le_add l1 (Nat.le_refl 1)) (by decide), _, rfl, _, rfl, zb, ?_⟩
        refine ⟨?_, ?_⟩
        · rw [len_app]
          exact Nat.le_trans (Nat.add_le_add (Nat.add_le_add l1 (Nat.le_refl 1)) l2) big
        refine ⟨D3, _, _, rfl, rfl, upd_same, ?_, nm ++ [Txt.slice b none (some (at' : Int)) ++ ⟨#[lt (fi + (at' : Int) * at' + 5 * (0 + (i : Int)))]⟩ ++ Txt.slice b (some ((at' : Int) + 1)) (some (1 + (sz : Int)))], _, _, rfl, ?_, ?_, fun j x hx => ?_⟩
        · rw [List.length_map, hl]
          exact Nat.lt_of_lt_of_le (show i < 10 by omega) (by decide)
        · rw [upd_upd, List.map_append]
          rfl
        · rw [List.length_append, hl]
          rfl
        · by_cases hj : j < nm.length
          · rw [List.getElem?_append_left hj] at hx
            exact hall j x hx
          · have ej : j = i := by
              have := (List.getElem?_eq_some_iff.mp hx).1
              rw [List.length_append, List.length_singleton] at this
              omega
            subst ej
            rw [List.getElem?_append_right (by omega), hl, Nat.sub_self] at hx
            cases hx
            rw [co_app, co_app, sl1, sl2, co_one, Int.zero_add, lt5]
            rfl
      · rintro σ H' ⟨nm, o1, o2, rfl, rfl, hl, hall⟩
        refine q D3 nm _ (s2.trans (same_upd n3)) (none_back s2 n3) upd_same (by omega) ⟨?_, fun x hx => ?_⟩
        · refine List.pairwise_iff_getElem.mpr fun i j hi hj lt => ?_
          have h1 := hall i _ (List.getElem?_eq_getElem hi)
          have h2 := hall j _ (List.getElem?_eq_getElem hj)
          have ap : ∀ i < 10, ∀ j < 10, i ≠ j → 5 * i % 26 ≠ 5 * j % 26 := by decide
          exact neB (Nat.mod_lt _ (by decide)) (Nat.mod_lt _ (by decide)) (ap i (by omega) j (by omega) (by omega)) (by omega) (by omega) h1 h2
        · obtain ⟨j, hj, rfl⟩ := List.mem_iff_getElem.mp hx
          exact nmB (by omega) (by omega) (hall j _ (List.getElem?_eq_getElem hj))
theorem nd_at {nm : List Str} (h : nm.Nodup) {i j : Int} (i0 : 0 ≤ i) (i1 : i < nm.length) (j0 : 0 ≤ j) (j1 : j < nm.length) (ne : i ≠ j) : ∃ x y, atI (nm.map V.str) i = some (.str x) ∧ atI (nm.map V.str) j = some (.str y) ∧ x ∈ nm ∧ y ∈ nm ∧ x ≠ y := by
  obtain ⟨a, rfl⟩ := Int.eq_ofNat_of_zero_le i0
  obtain ⟨b, rfl⟩ := Int.eq_ofNat_of_zero_le j0
  have ha : a < nm.length := by omega
  have hb : b < nm.length := by omega
  refine ⟨nm[a], nm[b], atI_nat ?_, atI_nat ?_, List.getElem_mem ha, List.getElem_mem hb, fun e => ne ?_⟩
  · rw [List.getElem?_map, List.getElem?_eq_getElem ha]
    rfl
  · rw [List.getElem?_map, List.getElem?_eq_getElem hb]
    rfl
  · rw [(List.getElem_inj h).mp e]
theorem nxt_ne {a d m : Int} (a0 : 0 ≤ a) (a1 : a < m) (d0 : 0 < d) (d1 : d < m) : 0 ≤ (a + d) % m ∧ (a + d) % m < m ∧ (a + d) % m ≠ a := by
  refine ⟨Int.emod_nonneg _ (by omega), Int.emod_lt_of_pos _ (by omega), ?_⟩
  by_cases h : a + d < m
  · rw [Int.emod_eq_of_lt (by omega) h]
    omega
  · have e : a + d = (a + d - m) + m := by omega
    rw [e, Int.add_emod_right, Int.emod_eq_of_lt (by omega) (by omega)]
    omega
def sp_l_game (K : PySem.W.Frag) (ns : List Int) : Sp := fun vs H Q _ => match vs with
  | [.ref a, .int k, .ref L] => ∃ nm, ((SqL K H a (ns.map V.int) ∧ 0 ≤ k ∧ k < 60) ∧ H L = some (.lst (nm.map V.str)) ∧ NL nm ∧ 2 ≤ nm.length ∧ nm.length ≤ 10) ∧ ∀ y g H', Same H H' → GmAt H' y g → (g.a ∈ nm ∧ g.b ∈ nm) → GO g → Q y H'
  | _ => False
theorem sc_l_game : FnScope ["_law_script", "_law_k", "_law_names_here", "_law_count", "_law_one", "_law_other", "_law_day", "_law_kind"] ["_law_script", "_law_k", "_law_names_here"] (defScope s_l_game) := ⟨rfl, rfl, rfl, by decide +kernel, rfl, by decide +kernel, by decide +kernel⟩
theorem ok_l_game (d : Dfn K mg "_law_game" s_l_game ["_law_script", "_law_k", "_law_names_here"]) (er : Errs K mg c_LadderError c_NoBook c_NoFit c_NoGame c_NoNumber c_NoPlayer c_NoRow c_NoStretch c_NoTable c_NoTree c_NoWorth) (n_len : mg "len" = none)  (c_l_draw : Cal P w K mg base "_law_draw" ["_law_script", "_law_k", "_law_many"] 2 (sp_l_draw K ns)) (c_l_cell_at : Cal P w K mg base "_law_cell_at" ["_law_script", "_law_k"] 1 (sp_l_cell_at K ns)) : Cal P w K mg base "_law_game" ["_law_script", "_law_k", "_law_names_here"] 3 (sp_l_game K ns) := by
  refine d.cal (k := 2) sc_l_game (fun vs H Q E h => ?_) (fun f cdv A outer s H vs Q E hr h => ?_)
  · match vs, h with
    | [.ref a, .int k, .ref L], _ => rfl
  · match vs, h with
    | [.ref a, .int k, .ref L], hq0 =>
      obtain ⟨nm, ⟨⟨hS, k0, k1⟩, hL, ok, n2, n10⟩, q⟩ := hq0
      refine ⟨_, (@pss_cons _ _ _ _ _ (@ps_set _ _ (3) _ _ _ _ sc_l_game.nd rfl (by first | exact Or.inl rfl | exact Or.inr rfl) (@pe_callB _ _ _ _ _ _ _ _ _ c_len (by rfl) n_len (by decide +kernel) (@pa_cons _ _ _ _ _ (dv 2) pa_nil (by rfl)) (by decide) (by decide) (by rfl) (by rfl)) (by rfl) (by first | exact .inl rfl | exact .inr rfl | assumption)) (@pss_cons _ _ _ _ _ (@ps_set _ _ (4) _ _ _ _ sc_l_game.nd rfl (by first | exact Or.inl rfl | exact Or.inr rfl) (@pe_op _ _ _ _ _ _ _ _ o_mod (dv 1) (dv 3)) (by rfl) (by first | exact .inl rfl | exact .inr rfl | assumption)) (@ss_cutE _ _ _ _ _ (@s_if _ _ _ _ _ _ _ _ (@t_cmp _ _ _ _ _ _ _ _ o_ge (dv 1) (dv 3) (@nomark _ _ (by decide) (by decide))) (@pss_one _ _ _ (@ps_set _ _ (4) _ _ _ _ sc_l_game.nd rfl (by first | exact Or.inl rfl | exact Or.inr rfl) (@e_call _ _ _ _ _ _ _ _ _ _ _ c_l_draw hr (by decide) (by rfl) (@pa_cons _ _ _ _ _ (dv 0) (@pa_cons _ _ _ _ _ (@pe_op _ _ _ _ _ _ _ _ o_add (@pe_op _ _ _ _ _ _ _ _ o_mul pe_int (dv 1)) pe_int) (@pa_cons _ _ _ _ _ (dv 3) pa_nil (by rfl)) (by rfl)) (by rfl)) (by decide) (by rfl) (by rfl)) (by rfl) (by first | exact .inl rfl | exact .inr rfl | assumption))) pss_nil) (@pss_cons _ _ _ _ _ (@ps_set _ _ (5) _ _ _ _ sc_l_game.nd rfl (by first | exact Or.inl rfl | exact Or.inr rfl) (@pe_op _ _ _ _ _ _ _ _ o_mod (@pe_op _ _ _ _ _ _ _ _ o_add (@pe_op _ _ _ _ _ _ _ _ o_add (dv 4) pe_int) (@e_call _ _ _ _ _ _ _ _ _ _ _ c_l_draw hr (by decide) (by rfl) (@pa_cons _ _ _ _ _ (dv 0) (@pa_cons _ _ _ _ _ (@pe_op _ _ _ _ _ _ _ _ o_add (@pe_op _ _ _ _ _ _ _ _ o_mul pe_int (dv 1)) pe_int) (@pa_cons _ _ _ _ _ (@pe_op _ _ _ _ _ _ _ _ o_sub (dv 3) pe_int) pa_nil (by rfl)) (by rfl)) (by rfl)) (by decide) (by rfl) (by rfl))) (dv 3)) (by rfl) (by first | exact .inl rfl | exact .inr rfl | assumption)) (@pss_cons _ _ _ _ _ (@ps_set _ _ (6) _ _ _ _ sc_l_game.nd rfl (by first | exact Or.inl rfl | exact Or.inr rfl) (@pe_op _ _ _ _ _ _ _ _ o_mod (@e_call _ _ _ _ _ _ _ _ _ _ _ c_l_cell_at hr (by decide) (by rfl) (@pa_cons _ _ _ _ _ (dv 0) (@pa_cons _ _ _ _ _ (@pe_op _ _ _ _ _ _ _ _ o_add (@pe_op _ _ _ _ _ _ _ _ o_mul pe_int (dv 1)) pe_int) pa_nil (by rfl)) (by rfl)) (by decide) (by rfl) (by rfl)) (@pe_ix _ _ _ _ _ _ _ i_lst (@e_lst _ _ _ _ (@pa_cons _ _ _ _ _ pe_int (@pa_cons _ _ _ _ _ pe_int pa_nil (by rfl)) (by rfl))) (@e_call _ _ _ _ _ _ _ _ _ _ _ c_l_draw hr (by decide) (by rfl) (@pa_cons _ _ _ _ _ (dv 0) (@pa_cons _ _ _ _ _ (@pe_op _ _ _ _ _ _ _ _ o_add (@pe_op _ _ _ _ _ _ _ _ o_mul pe_int (dv 1)) pe_int) (@pa_cons _ _ _ _ _ pe_int pa_nil (by rfl)) (by rfl)) (by rfl)) (by decide) (by rfl) (by rfl)) (fun _ _ => rfl))) (by rfl) (by first | exact .inl rfl | exact .inr rfl | assumption)) (@pss_cons _ _ _ _ _ (@ps_set _ _ (7) _ _ _ _ sc_l_game.nd rfl (by first | exact Or.inl rfl | exact Or.inr rfl) (@e_call _ _ _ _ _ _ _ _ _ _ _ c_l_draw hr (by decide) (by rfl) (@pa_cons _ _ _ _ _ (dv 0) (@pa_cons _ _ _ _ _ (@pe_op _ _ _ _ _ _ _ _ o_add (@pe_op _ _ _ _ _ _ _ _ o_mul pe_int (dv 1)) pe_int) (@pa_cons _ _ _ _ _ pe_int pa_nil (by rfl)) (by rfl)) (by rfl)) (by decide) (by rfl) (by rfl)) (by rfl) (by first | exact .inl rfl | exact .inr rfl | assumption)) (@pss_one _ _ _ (@ps_ret _ _ _ _ (@e_tup _ _ _ _ _ (@pa_cons _ _ _ _ _ (dv 6) (@pa_cons _ _ _ _ _ (@pe_ix _ _ _ _ _ _ _ i_lst (dv 2) (dv 4) (fun _ _ => rfl)) (@pa_cons _ _ _ _ _ (@pe_ix _ _ _ _ _ _ _ i_lst (dv 2) (dv 5) (fun _ _ => rfl)) (@pa_cons _ _ _ _ _ (@pe_op _ _ _ _ _ _ _ _ o_mod (dv 7) pe_int) (@pa_cons _ _ _ _ _ (@pe_op _ _ _ _ _ _ _ _ o_sub (@pe_op _ _ _ _ _ _ _ _ o_div (dv 7) pe_int) pe_int) pa_nil (by rfl)) (by rfl)) (by rfl)) (by rfl)) (by rfl))))))))))), ?_⟩
      have hm : (0 : Int) < nm.length := by omega
      have hm1 : (0 : Int) < nm.length - 1 := by omega
      refine ⟨_, .inl (SqL.of hL), ?_⟩
      rw [List.length_map]
      have k2 := Int.emod_nonneg k (show (nm.length : Int) ≠ 0 by omega)
      have k3 := Int.emod_lt_of_pos k hm
      refine ⟨hm, ?_⟩
      refine ⟨fun σ H' => ∃ o : Int, σ = [some (.ref a), some (.int k), some (.ref L), some (.int nm.length), some (.int o), none, none, none] ∧ H' = H ∧ 0 ≤ o ∧ o < nm.length, ⟨fun _ => ⟨.inr (.inl ⟨by decide, by decide⟩), hS, ⟨by omega, by omega, hm⟩, _, rfl, rfl, draw_nn ns _ hm, draw_lt ns _ hm⟩, fun _ => ⟨_, rfl, rfl, k2, k3⟩⟩, ?_⟩
      rintro σ H' ⟨o, rfl, rfl, o0, o1⟩
      refine ⟨.inr (.inl ⟨by decide, by decide⟩), hS, ⟨by omega, by omega, hm1⟩, hm, ?_⟩
      have b0 := draw_nn ns (4 * k + 21) hm1
      have b1 := draw_lt ns (4 * k + 21) hm1
      obtain ⟨z0, z1, z2⟩ := nxt_ne (a := o) (d := 1 + draw ns (4 * k + 21) (nm.length - 1)) (m := nm.length) o0 o1 (by omega) (by omega)
      rw [← Int.add_assoc] at z0 z1 z2
      obtain ⟨x, y, hx, hy, mx, my, nxy⟩ := nd_at ok.nd (i := o) (j := (o + 1 + draw ns (4 * k + 21) (nm.length - 1)) % nm.length) o0 o1 z0 z1 (Ne.symm z2)
      refine ⟨.inr (.inl ⟨by decide, by decide⟩), hS, ?_⟩
      have w0 := draw_nn ns (4 * k + 22) (show (0 : Int) < 2 by decide)
      have w1 := draw_lt ns (4 * k + 22) (show (0 : Int) < 2 by decide)
      obtain ⟨m, hmv, mp, mq⟩ : ∃ m : Int, atI [V.int 10, V.int 10000] (draw ns (4 * k + 22) 2) = some (.int m) ∧ 0 < m ∧ m ≤ 10000 := by
        have : draw ns (4 * k + 22) 2 = 0 ∨ draw ns (4 * k + 22) 2 = 1 := by omega
        rcases this with e | e <;> rw [e]
        · exact ⟨10, rfl, by decide, by decide⟩
        · exact ⟨10000, rfl, by decide, by decide⟩
      refine fun L1 H1 s1 e1 => ⟨.inr (.inl ⟨by decide, by decide⟩), s1.seq hS, ⟨by omega, by omega, by decide⟩, _, _, SqL.of e1, hmv, mp, ?_⟩
      have d0 := Int.emod_nonneg (cell ns (4 * k + 22)) (show m ≠ 0 by omega)
      have d1 := Int.emod_lt_of_pos (cell ns (4 * k + 22)) mp
      have c0 := draw_nn ns (4 * k + 23) (show (0 : Int) < 9 by decide)
      have c1 := draw_lt ns (4 * k + 23) (show (0 : Int) < 9 by decide)
      have d3 : (0 : Int) < 3 := by decide
      have h30 := Int.emod_nonneg (draw ns (4 * k + 23) 9) (show (3 : Int) ≠ 0 by decide)
      have h31 := Int.emod_lt_of_pos (draw ns (4 * k + 23) 9) d3
      refine ⟨.inr (.inl ⟨by decide, by decide⟩), s1.seq hS, ⟨by omega, by omega, by decide⟩, ?_⟩
      have hL1 := s1 _ _ hL
      refine ⟨_, _, SqL.of hL1, hx, _, _, SqL.of hL1, hy, d3, ⟨d3, bd_lit rfl⟩, fun T H2 s2 e2 => q (.ref T) ⟨cell ns (4 * k + 22) % m, x, y, draw ns (4 * k + 23) 9 % 3, draw ns (4 * k + 23) 9 / 3 - 1⟩ H2 (s1.trans s2) ⟨T, rfl, e2⟩ ⟨mx, my⟩ ⟨d0, ?_, ok.ok x mx, ok.ok y my, nxy, h30, ?_, ?_, ?_⟩⟩
      · show cell ns (4 * k + 22) % m ≤ 9999
        omega
      · show draw ns (4 * k + 23) 9 % 3 ≤ 2
        omega
      · show -1 ≤ draw ns (4 * k + 23) 9 / 3 - 1
        omega
      · show draw ns (4 * k + 23) 9 / 3 - 1 ≤ 1
        omega
def sp_l_written (K : PySem.W.Frag) (ns : List Int) : Sp := fun vs H Q _ => match vs with
  | [.ref p] => ∃ g, (GmAt H (.ref p) g ∧ GO g) ∧ ∀ H', Same H H' → Q (.str (wrG g)) H'
  | _ => False
theorem sc_l_written : FnScope ["_law_played", "_law_day", "_law_one", "_law_other", "_law_halves", "_law_side"] ["_law_played"] (defScope s_l_written) := ⟨rfl, rfl, rfl, by decide +kernel, rfl, by decide +kernel, by decide +kernel⟩
theorem ok_l_written (d : Dfn K mg "_law_written" s_l_written ["_law_played"]) (er : Errs K mg c_LadderError c_NoBook c_NoFit c_NoGame c_NoNumber c_NoPlayer c_NoRow c_NoStretch c_NoTable c_NoTree c_NoWorth) (n_str : mg "str" = none)   : Cal P w K mg base "_law_written" ["_law_played"] 1 (sp_l_written K ns) := by
  refine d.cal (k := 0) sc_l_written (fun vs H Q E h => ?_) (fun f cdv A outer s H vs Q E hr h => ?_)
  · match vs, h with
    | [.ref p], _ => rfl
  · match vs, h with
    | [.ref p], hq0 =>
      obtain ⟨g, ⟨⟨p', e', ep⟩, o⟩, k⟩ := hq0
      refine ⟨_, (@pss_cons _ _ _ _ _ (@ps_asg _ _ _ _ _ _ (dv 0) (@pg_tup _ _ _ _ _ _ rfl (@pgs_cons _ _ _ _ _ (@pg_name _ _ (1) _ sc_l_written.nd rfl (by first | exact Or.inl rfl | exact Or.inr rfl) (by first | exact .inl rfl | exact .inr rfl | assumption)) (@pgs_cons _ _ _ _ _ (@pg_name _ _ (2) _ sc_l_written.nd rfl (by first | exact Or.inl rfl | exact Or.inr rfl) (by first | exact .inl rfl | exact .inr rfl | assumption)) (@pgs_cons _ _ _ _ _ (@pg_name _ _ (3) _ sc_l_written.nd rfl (by first | exact Or.inl rfl | exact Or.inr rfl) (by first | exact .inl rfl | exact .inr rfl | assumption)) (@pgs_cons _ _ _ _ _ (@pg_name _ _ (4) _ sc_l_written.nd rfl (by first | exact Or.inl rfl | exact Or.inr rfl) (by first | exact .inl rfl | exact .inr rfl | assumption)) (@pgs_cons _ _ _ _ _ (@pg_name _ _ (5) _ sc_l_written.nd rfl (by first | exact Or.inl rfl | exact Or.inr rfl) (by first | exact .inl rfl | exact .inr rfl | assumption)) pgs_nil (by rfl)) (by rfl)) (by rfl)) (by rfl)) (by rfl)) (by rfl) (by rfl)) (by rfl) (by rfl) (by rfl)) (@ss_cutE _ _ _ _ _ (@s_if _ _ _ _ _ _ _ _ (@t_cmp _ _ _ _ _ _ _ _ o_eq (dv 5) pe_int (@nomark _ _ (by decide) (by decide))) (@pss_one _ _ _ (@ps_set _ _ (2) _ _ _ _ sc_l_written.nd rfl (by first | exact Or.inl rfl | exact Or.inr rfl) (@pe_op _ _ _ _ _ _ _ _ o_addS (dv 2) pe_str) (by rfl) (by first | exact .inl rfl | exact .inr rfl | assumption))) pss_nil) (@ss_cutE _ _ _ _ _ (@s_if _ _ _ _ _ _ _ _ (@t_cmp _ _ _ _ _ _ _ _ o_eq (dv 5) (@pe_un _ _ _ _ _ _ u_neg pe_int) (@nomark _ _ (by decide) (by decide))) (@pss_one _ _ _ (@ps_set _ _ (3) _ _ _ _ sc_l_written.nd rfl (by first | exact Or.inl rfl | exact Or.inr rfl) (@pe_op _ _ _ _ _ _ _ _ o_addS (dv 3) pe_str) (by rfl) (by first | exact .inl rfl | exact .inr rfl | assumption))) pss_nil) (@pss_one _ _ _ (@ps_ret _ _ _ _ (@pe_op _ _ _ _ _ _ _ _ o_addS (@pe_op _ _ _ _ _ _ _ _ o_addS (@pe_op _ _ _ _ _ _ _ _ o_addS (@pe_op _ _ _ _ _ _ _ _ o_addS (@pe_op _ _ _ _ _ _ _ _ o_addS (@pe_op _ _ _ _ _ _ _ _ o_addS (@pe_callTy _ _ _ _ _ _ _ _ _ c_str (by rfl) n_str (by decide +kernel) (@pa_cons _ _ _ _ _ (dv 1) pa_nil (by rfl)) (by decide) (by decide) (by rfl) (by rfl)) pe_str) (dv 2)) pe_str) (@pe_ix _ _ _ _ _ _ _ i_lst (@e_lst _ _ _ _ (@pa_cons _ _ _ _ _ pe_str (@pa_cons _ _ _ _ _ pe_str (@pa_cons _ _ _ _ _ pe_str pa_nil (by rfl)) (by rfl)) (by rfl))) (dv 4) (fun _ _ => rfl))) pe_str) (dv 3))))))), ?_⟩
      cases e'
      have lx := nm_len o.na
      have ly := nm_len o.nb
      have l1 := st_len g.a (decide (g.s = 1))
      have l2 := st_len g.b (decide (g.s = -1))
      have l3 := d_len o.d0 o.d1
      have l4 := wd_len g.h
      have l5 : (" " : Str).length = 1 := by decide +kernel
      have l6 : ("*" : Str).length = 1 := by decide +kernel
      have big : (1000 : Nat) ≤ sizeLine := by decide
      refine ⟨p, _, rfl, SqT.of ep, rfl, _, _, rfl, _, _, rfl, _, _, rfl, _, _, rfl, _, _, rfl, rfl, ?_⟩
      refine ⟨fun σ H' => σ = [some (.ref p), some (.int g.d), some (.str (st g.a (decide (g.s = 1)))), some (.str g.b), some (.int g.h), some (.int g.s)] ∧ H' = H, ⟨fun h => ⟨by rw [l6]; omega, ?_⟩, fun h => ?_⟩, ?_⟩
      · have h : decide (g.s = 1) = true := h
        rw [h]
        exact ⟨rfl, rfl⟩
      · have h : decide (g.s = 1) = false := h
        rw [h]
        exact ⟨rfl, rfl⟩
      rintro σ H' ⟨rfl, rfl⟩
      refine ⟨fun σ H'' => σ = [some (.ref p), some (.int g.d), some (.str (st g.a (decide (g.s = 1)))), some (.str (st g.b (decide (g.s = -1)))), some (.int g.h), some (.int g.s)] ∧ H'' = H', ⟨fun h => ⟨by rw [l6]; omega, ?_⟩, fun h => ?_⟩, ?_⟩
      · have h : decide (g.s = -1) = true := h
        rw [h]
        exact ⟨rfl, rfl⟩
      · have h : decide (g.s = -1) = false := h
        rw [h]
        exact ⟨rfl, rfl⟩
      rintro σ H2 ⟨rfl, rfl⟩
      have kk : ∀ H', Same H2 H' → Q (V.str ((((((toString g.d : Str) ++ (" " : Str)) ++ st g.a (decide (g.s = 1))) ++ (" " : Str)) ++ wd g.h ++ (" " : Str)) ++ st g.b (decide (g.s = -1)))) H' := fun H' s' => by
        have z := k H' s'
        unfold wrG wrS at z
        rw [← wr_of] at z
        exact z
      refine ⟨d_log o.d0 o.d1, ?_, ?_, ?_, fun L1 H1 s1 e1 => ⟨_, _, SqL.of e1, wd_at o.h0 o.h1, ?_, ?_, ?_, kk H1 s1⟩⟩ <;> (try simp only [len_app]) <;> omega
def BkL (H : Hp) (D : Addr) (gs : List Gm) : Prop := ∃ vs, H D = some (.lst vs) ∧ All2 (GmAt H) vs gs
def sp_l_right (K : PySem.W.Frag) (ns : List Int) : Sp := fun vs H Q _ => match vs with
  | [.ref F, .ref G] => ∃ gs, (BkL H F gs ∧ BkL H G gs ∧ gs.length ≤ 60 ∧ ∀ g ∈ gs, GO g) ∧ ∀ H', Same H H' → Q (.bl true) H'
  | _ => False
theorem sc_l_right : FnScope ["_law_found", "_law_games", "_law_played", "_law_k"] ["_law_found", "_law_games"] (defScope s_l_right) := ⟨rfl, rfl, rfl, by decide +kernel, rfl, by decide +kernel, by decide +kernel⟩
theorem ok_l_right (d : Dfn K mg "_law_right" s_l_right ["_law_found", "_law_games"]) (er : Errs K mg c_LadderError c_NoBook c_NoFit c_NoGame c_NoNumber c_NoPlayer c_NoRow c_NoStretch c_NoTable c_NoTree c_NoWorth) (n_isinstance : mg "isinstance" = none) (n_bool : mg "bool" = none) (n_int : mg "int" = none) (n_tuple : mg "tuple" = none) (n_list : mg "list" = none)   : Cal P w K mg base "_law_right" ["_law_found", "_law_games"] 1 (sp_l_right K ns) := by
  refine d.cal (k := 0) sc_l_right (fun vs H Q E h => ?_) (fun f cdv A outer s H vs Q E hr h => ?_)
  · match vs, h with
    | [.ref F, .ref G], _ => rfl
  · match vs, h with
    | [.ref F, .ref G], hq0 =>
      obtain ⟨gs, ⟨⟨fv, eF, aF⟩, ⟨gv, eG, aG⟩, l60, ok⟩, k⟩ := hq0
      refine ⟨_, (@pss_cons _ _ _ _ _ (@s_if _ _ _ _ _ _ _ _ (@L2.PW.pt _ _ _ (@w_or _ _ _ _ _ _ _ (@pt_not _ _ _ _ (@t_val _ _ _ (@pe_callB _ _ _ _ _ _ _ _ _ c_isi (by rfl) n_isinstance (by decide +kernel) (@pa_cons _ _ _ _ _ (dv 0) (@pa_cons _ _ _ _ _ (e_ty "list" (by rfl) n_list (by decide +kernel)) pa_nil (by rfl)) (by rfl)) (by decide) (by decide) (by rfl) (by rfl)) (by intro _; rfl))) (@pw_or1 _ _ _ _ (@t_cmp _ _ _ _ _ _ _ _ (@o_neD _ hr.units) (dv 0) (dv 1) (@nomark _ _ (by decide) (by decide)))))) (@pss_one _ _ _ (@ps_ret _ _ _ _ pe_bl)) pss_nil) (@pss_cons _ _ _ _ _ (@ps_for _ _ _ _ _ _ _ _ PassesOwn.never rfl (@pi_list _ _ _ _ (dv 0)) (@pg_name _ _ (2) _ sc_l_right.nd rfl (by first | exact Or.inl rfl | exact Or.inr rfl) (by first | exact .inl rfl | exact .inr rfl | assumption)) (@pss_cons _ _ _ _ _ (@s_if _ _ _ _ _ _ _ _ (@pt_not _ _ _ _ (@t_val _ _ _ (@pe_callB _ _ _ _ _ _ _ _ _ c_isi (by rfl) n_isinstance (by decide +kernel) (@pa_cons _ _ _ _ _ (dv 2) (@pa_cons _ _ _ _ _ (e_ty "tuple" (by rfl) n_tuple (by decide +kernel)) pa_nil (by rfl)) (by rfl)) (by decide) (by decide) (by rfl) (by rfl)) (by intro _; rfl))) (@pss_one _ _ _ (@ps_ret _ _ _ _ pe_bl)) pss_nil) (@pss_one _ _ _ (@ps_for _ _ _ _ _ _ _ _ PassesOwn.never rfl (@pi_tup _ _ _ _ (@e_tup _ _ _ _ _ (@pa_cons _ _ _ _ _ pe_int (@pa_cons _ _ _ _ _ pe_int (@pa_cons _ _ _ _ _ pe_int pa_nil (by rfl)) (by rfl)) (by rfl)))) (@pg_name _ _ (3) _ sc_l_right.nd rfl (by first | exact Or.inl rfl | exact Or.inr rfl) (by first | exact .inl rfl | exact .inr rfl | assumption)) (@pss_one _ _ _ (@s_if _ _ _ _ _ _ _ _ (@L2.PW.pt _ _ _ (@w_or _ _ _ _ _ _ _ (@pt_not _ _ _ _ (@t_val _ _ _ (@pe_callB _ _ _ _ _ _ _ _ _ c_isi (by rfl) n_isinstance (by decide +kernel) (@pa_cons _ _ _ _ _ (@pe_ix _ _ _ _ _ _ _ i_tup (dv 2) (dv 3) (fun _ _ => rfl)) (@pa_cons _ _ _ _ _ (e_ty "int" (by rfl) n_int (by decide +kernel)) pa_nil (by rfl)) (by rfl)) (by decide) (by decide) (by rfl) (by rfl)) (by intro _; rfl))) (@pw_or1 _ _ _ _ (@t_val _ _ _ (@pe_callB _ _ _ _ _ _ _ _ _ c_isi (by rfl) n_isinstance (by decide +kernel) (@pa_cons _ _ _ _ _ (@pe_ix _ _ _ _ _ _ _ i_tup (dv 2) (dv 3) (fun _ _ => rfl)) (@pa_cons _ _ _ _ _ (e_ty "bool" (by rfl) n_bool (by decide +kernel)) pa_nil (by rfl)) (by rfl)) (by decide) (by decide) (by rfl) (by rfl)) (by intro _; rfl))))) (@pss_one _ _ _ (@ps_ret _ _ _ _ pe_bl)) pss_nil)) (by intro _; rfl)))) (by intro _; rfl)) (@pss_one _ _ _ (@ps_ret _ _ _ _ pe_bl)))), ?_⟩
      have sh : SeqAt.shaped (.list (gs.map gd)) = true := sh_gms fun g hg => ⟨(ok g hg).na.sok, (ok g hg).nb.sok⟩
      refine ⟨_, true, "list", eF, rfl, rfl, ⟨fun h => nb h, fun _ => ⟨_, _, rp_gms (SqL.of eF) aF, rp_gms (SqL.of eG) aG, sh, sh, ⟨fun h => ?_, fun _ => ?_⟩⟩⟩⟩
      · rw [eqv_shaped sh] at h
        exact nb h
      refine ⟨F, rfl, ⟨_, SqL.of eF⟩, for_list (K := K) (a := F) (xs := fv) (fun i σ Hx => ∃ o2 o3 : Option V, σ = [some (.ref F), some (.ref G), o2, o3] ∧ Same H Hx) ⟨_, _, rfl, Same.refl _⟩ (fun i σ Hx _ ⟨_, _, _, sx⟩ => SqL.of (sx _ _ eF)) ?_ ?_⟩
      · rintro i v σ Hx hv ⟨o2, o3, rfl, sx⟩
        obtain ⟨g, _, p, rfl, ep⟩ := aF.get hv
        have ep := sx _ _ ep
        refine ⟨_, true, "tuple", ep, rfl, rfl, ⟨fun h => nb h, fun _ => ?_⟩⟩
        refine fun T H1 s1 e1 => ⟨T, rfl, ⟨_, SqT.of e1⟩, for_tup (K := K) (a := T) (xs := [.int 0, .int 3, .int 4]) (fun j σ Hy => ∃ o3 : Option V, σ = [some (.ref F), some (.ref G), some (.ref p), o3] ∧ Hy = H1) ⟨_, rfl, rfl⟩ (fun j σ Hy _ ⟨_, _, e⟩ => e ▸ SqT.of e1) ?_ ?_⟩
        · rintro j v σ Hy hj ⟨o3', rfl, rfl⟩
          have ep := s1 _ _ ep
          match j, hj with
          | 0, hj => cases hj; exact ⟨_, ep, true, rfl, ⟨fun h => nb h, fun _ => ⟨_, ep, false, rfl, ⟨fun h => nb h, fun _ => ⟨_, rfl, rfl⟩⟩⟩⟩⟩
          | 1, hj => cases hj; exact ⟨_, ep, true, rfl, ⟨fun h => nb h, fun _ => ⟨_, ep, false, rfl, ⟨fun h => nb h, fun _ => ⟨_, rfl, rfl⟩⟩⟩⟩⟩
          | 2, hj => cases hj; exact ⟨_, ep, true, rfl, ⟨fun h => nb h, fun _ => ⟨_, ep, false, rfl, ⟨fun h => nb h, fun _ => ⟨_, rfl, rfl⟩⟩⟩⟩⟩
          | j + 3, hj => simp at hj
        · rintro σ Hy ⟨o3', rfl, rfl⟩
          exact ⟨_, _, rfl, sx.trans s1⟩
      · rintro σ Hx ⟨o2, o3, rfl, sx⟩
        exact k Hx sx
def mks : List Str := [";", ";  ", " ; ", ", ", ".", ";, ", "; ; ", " "]
def Wrong (gs : List Gm) (x : Str) : Prop := ∃ A B m, A ≠ [] ∧ B ≠ [] ∧ gs = A ++ B ∧ m ∈ mks ∧ x = Str.join sp2 (A.map wrG) ++ m ++ Str.join sp2 (B.map wrG)
theorem join_len : ∀ {gs : List Gm}, (∀ g ∈ gs, GO g) → (Str.join sp2 (gs.map wrG)).length ≤ gs.length * 902
  | [], _ => Nat.zero_le _
  | [g], h => by
    have o := h g List.mem_cons_self
    have h1 : (wrG g).length ≤ 900 := wr_len o.d0 o.d1 o.na o.nb
    show (wrG g).length ≤ _
    simp
    omega
  | g :: g' :: gs, h => by
    have o := h g List.mem_cons_self
    have h1 : (wrG g).length ≤ 900 := wr_len o.d0 o.d1 o.na o.nb
    have h2 := join_len (gs := g' :: gs) fun x hx => h x (List.mem_cons_of_mem _ hx)
    have e := co_joinS sp2 (wrG g) (wrG g') (gs.map wrG)
    have e2 := congrArg List.length e
    simp only [List.length_append, co_len] at e2
    have e3 : sp2.length = 2 := rfl
    rw [e3] at e2
    simp only [List.map_cons, List.length_cons] at h2 ⊢
    rw [e2]
    omega
theorem cut_take {xs : List V} {j : Nat} (h : j ≤ xs.length) : cutV xs none (some (j : Int)) = xs.take j := by
  unfold cutV
  rw [HT.sIx_none, HT.sIx_nat, Nat.min_eq_left h, List.drop_zero, Nat.sub_zero]
theorem cut_drop {xs : List V} {j : Nat} (h : j ≤ xs.length) : cutV xs (some (j : Int)) none = xs.drop j := by
  unfold cutV
  rw [HT.sIx_none, HT.sIx_nat, Nat.min_eq_left h, List.take_of_length_le]
  rw [List.length_drop]
  exact Nat.le_refl _
theorem mk_at {i : Int} (h0 : 0 ≤ i) (h1 : i < 8) : ∃ m, atI [V.str ";", .str ";  ", .str " ; ", .str ", ", .str ".", .str ";, ", .str "; ; ", .str " "] i = some (.str m) ∧ m ∈ mks ∧ m.length ≤ 4 := by
  have : i = 0 ∨ i = 1 ∨ i = 2 ∨ i = 3 ∨ i = 4 ∨ i = 5 ∨ i = 6 ∨ i = 7 := by omega
  rcases this with e | e | e | e | e | e | e | e <;> rw [e] <;> refine ⟨_, rfl, ?_, by decide +kernel⟩ <;> unfold mks <;> simp
def sp_l_joined (K : PySem.W.Frag) (ns : List Int) : Sp := fun vs H Q _ => match vs with
  | [.ref a, .ref L] => ∃ gs, (SqL K H a (ns.map V.int) ∧ H L = some (.lst ((gs.map wrG).map V.str)) ∧ (∀ g ∈ gs, GO g) ∧ 2 ≤ gs.length ∧ gs.length ≤ 60) ∧ ∀ x H', Same H H' → Wrong gs x → Q (.str x) H'
  | _ => False
theorem sc_l_joined : FnScope ["_law_script", "_law_parts", "_law_at", "_law_mark"] ["_law_script", "_law_parts"] (defScope s_l_joined) := ⟨rfl, rfl, rfl, by decide +kernel, rfl, by decide +kernel, by decide +kernel⟩
theorem ok_l_joined (d : Dfn K mg "_law_joined" s_l_joined ["_law_script", "_law_parts"]) (er : Errs K mg c_LadderError c_NoBook c_NoFit c_NoGame c_NoNumber c_NoPlayer c_NoRow c_NoStretch c_NoTable c_NoTree c_NoWorth) (n_len : mg "len" = none)  (c_l_draw : Cal P w K mg base "_law_draw" ["_law_script", "_law_k", "_law_many"] 2 (sp_l_draw K ns)) : Cal P w K mg base "_law_joined" ["_law_script", "_law_parts"] 3 (sp_l_joined K ns) := by
  refine d.cal (k := 2) sc_l_joined (fun vs H Q E h => ?_) (fun f cdv A outer s H vs Q E hr h => ?_)
  · match vs, h with
    | [.ref a, .ref L], _ => rfl
  · match vs, h with
    | [.ref a, .ref L], hq0 =>
      obtain ⟨gs, ⟨hS, eL, ok, l2, l60⟩, k⟩ := hq0
      refine ⟨_, (@pss_cons _ _ _ _ _ (@ps_set _ _ (2) _ _ _ _ sc_l_joined.nd rfl (by first | exact Or.inl rfl | exact Or.inr rfl) (@pe_op _ _ _ _ _ _ _ _ o_add pe_int (@e_call _ _ _ _ _ _ _ _ _ _ _ c_l_draw hr (by decide) (by rfl) (@pa_cons _ _ _ _ _ (dv 0) (@pa_cons _ _ _ _ _ pe_int (@pa_cons _ _ _ _ _ (@pe_op _ _ _ _ _ _ _ _ o_sub (@pe_callB _ _ _ _ _ _ _ _ _ c_len (by rfl) n_len (by decide +kernel) (@pa_cons _ _ _ _ _ (dv 1) pa_nil (by rfl)) (by decide) (by decide) (by rfl) (by rfl)) pe_int) pa_nil (by rfl)) (by rfl)) (by rfl)) (by decide) (by rfl) (by rfl))) (by rfl) (by first | exact .inl rfl | exact .inr rfl | assumption)) (@pss_cons _ _ _ _ _ (@ps_set _ _ (3) _ _ _ _ sc_l_joined.nd rfl (by first | exact Or.inl rfl | exact Or.inr rfl) (@pe_ix _ _ _ _ _ _ _ i_lst (@e_lst _ _ _ _ (@pa_cons _ _ _ _ _ pe_str (@pa_cons _ _ _ _ _ pe_str (@pa_cons _ _ _ _ _ pe_str (@pa_cons _ _ _ _ _ pe_str (@pa_cons _ _ _ _ _ pe_str (@pa_cons _ _ _ _ _ pe_str (@pa_cons _ _ _ _ _ pe_str (@pa_cons _ _ _ _ _ pe_str pa_nil (by rfl)) (by rfl)) (by rfl)) (by rfl)) (by rfl)) (by rfl)) (by rfl)) (by rfl))) (@e_call _ _ _ _ _ _ _ _ _ _ _ c_l_draw hr (by decide) (by rfl) (@pa_cons _ _ _ _ _ (dv 0) (@pa_cons _ _ _ _ _ pe_int (@pa_cons _ _ _ _ _ pe_int pa_nil (by rfl)) (by rfl)) (by rfl)) (by decide) (by rfl) (by rfl)) (fun _ _ => rfl)) (by rfl) (by first | exact .inl rfl | exact .inr rfl | assumption)) (@pss_one _ _ _ (@ps_ret _ _ _ _ (@pe_op _ _ _ _ _ _ _ _ o_addS (@pe_op _ _ _ _ _ _ _ _ o_addS (@e_join _ _ _ _ _ ("join") _ _ pe_str (@pa_cons _ _ _ _ _ (@pe_slice _ _ _ _ _ _ _ _ _ _ sl_lst (dv 1) po_none (po_some (dv 2))) pa_nil (by rfl)) (by rfl) (by rfl) (by rfl) (by rfl) (by rfl)) (dv 3)) (@e_join _ _ _ _ _ ("join") _ _ pe_str (@pa_cons _ _ _ _ _ (@pe_slice _ _ _ _ _ _ _ _ _ _ sl_lst (dv 1) (po_some (dv 2)) po_none) pa_nil (by rfl)) (by rfl) (by rfl) (by rfl) (by rfl) (by rfl))))))), ?_⟩
      have hm : (0 : Int) < gs.length - 1 := by omega
      refine ⟨_, .inl (SqL.of eL), ?_⟩
      rw [List.length_map, List.length_map]
      have b0 := draw_nn ns 11 hm
      have b1 := draw_lt ns 11 hm
      refine ⟨hS, ⟨by decide, by decide, hm⟩, ?_⟩
      obtain ⟨c, hc⟩ := Int.eq_ofNat_of_zero_le (show 0 ≤ 1 + draw ns 11 (gs.length - 1) by omega)
      have c0 : 0 < c := by omega
      have c1 : c < gs.length := by omega
      have w0 := draw_nn ns 12 (show (0 : Int) < 8 by decide)
      have w1 := draw_lt ns 12 (show (0 : Int) < 8 by decide)
      obtain ⟨m, hmv, mk, ml⟩ : ∃ m, atI [V.str ";", .str ";  ", .str " ; ", .str ", ", .str ".", .str ";, ", .str "; ; ", .str " "] (draw ns 12 8) = some (.str m) ∧ m ∈ mks ∧ m.length ≤ 4 := mk_at w0 w1
      refine fun L1 H1 s1 e1 => ⟨s1.seq hS, ⟨by decide, by decide, by decide⟩, _, _, SqL.of e1, hmv, ?_⟩
      have eL1 := s1 _ _ eL
      have ll : c ≤ ((gs.map wrG).map V.str).length := by rw [List.length_map, List.length_map]; omega
      have oA : ∀ g ∈ gs.take c, GO g := fun g hg => ok g (List.mem_of_mem_take hg)
      have oB : ∀ g ∈ gs.drop c, GO g := fun g hg => ok g (List.mem_of_mem_drop hg)
      have lA : (gs.take c).length ≤ 60 := by rw [List.length_take]; omega
      have lB : (gs.drop c).length ≤ 60 := by rw [List.length_drop]; omega
      have jA := join_len oA
      have jB := join_len oB
      have eA : Txt.join (Str.ofString "; ") ((gs.take c).map wrG) = Str.join sp2 ((gs.take c).map wrG) := co_inj (co_join _ _)
      have eB : Txt.join (Str.ofString "; ") ((gs.drop c).map wrG) = Str.join sp2 ((gs.drop c).map wrG) := co_inj (co_join _ _)
      have kA : cutV ((gs.map wrG).map V.str) none (some (1 + draw ns 11 (gs.length - 1))) = ((gs.take c).map wrG).map V.str := by
        rw [hc]
        exact (cut_take ll).trans (by rw [List.map_take, List.map_take])
      have kB : cutV ((gs.map wrG).map V.str) (some (1 + draw ns 11 (gs.length - 1))) none = ((gs.drop c).map wrG).map V.str := by
        rw [hc]
        exact (cut_drop ll).trans (by rw [List.map_drop, List.map_drop])
      refine ⟨rfl, _, rfl, _, SqL.of eL1, fun p H2 s2 e2 => ⟨(gs.take c).map wrG, SqL.of (e2.trans (by rw [← kA])), ?_, ?_⟩⟩
      · have h1 := sum_wr oA
        rw [List.length_map, show (Str.ofString "; ").length = 2 by decide +kernel]
        omega
      rw [eA]
      refine ⟨?_, ?_⟩
      · rw [show sizeLine = 16777216 from rfl]
        omega
      refine ⟨rfl, _, rfl, _, SqL.of (s2 _ _ eL1), fun p' H3 s3 e3 => ⟨(gs.drop c).map wrG, SqL.of (e3.trans (by rw [← kB])), ?_, ?_⟩⟩
      · have h1 := sum_wr oB
        rw [List.length_map, show (Str.ofString "; ").length = 2 by decide +kernel]
        omega
      rw [eB]
      refine ⟨?_, k _ H3 ((s1.trans s2).trans s3) ⟨gs.take c, gs.drop c, m, ?_, ?_, (List.take_append_drop c gs).symm, mk, rfl⟩⟩
      · rw [len_app, show sizeLine = 16777216 from rfl]
        omega
      · intro e
        have := congrArg List.length e
        rw [List.length_take, List.length_nil] at this
        omega
      · intro e
        have := congrArg List.length e
        rw [List.length_drop, List.length_nil] at this
        omega
theorem join_two : ∀ {A B : List Str}, A ≠ [] → B ≠ [] → co (Str.join sp2 (A ++ B)) = co (Str.join sp2 A) ++ (59 :: 32 :: co (Str.join sp2 B))
  | [], _, h, _ => absurd rfl h
  | [a], [], _, h => absurd rfl h
  | [a], b :: B, _, _ => by
    show co (Str.join sp2 (a :: b :: B)) = co a ++ _
    rw [co_joinS]
    rfl
  | a :: a' :: A, B, _, h => by
    show co (Str.join sp2 (a :: a' :: (A ++ B))) = _
    rw [co_joinS, co_joinS]
    have e := join_two (A := a' :: A) (B := B) (by simp) h
    rw [List.cons_append] at e
    rw [e]
    simp
theorem join_cons (p : Str) {b : Str} {B : List Str} {m : List Nat} {b' : Str} (hb : co b' = m ++ co b) : co (Str.join sp2 (b' :: B)) = m ++ co (Str.join sp2 (b :: B)) := by
  match B with
  | [] => exact hb
  | c :: B =>
    rw [co_joinS, co_joinS, hb]
    simp
theorem join_snoc {a a' : Str} {m : List Nat} (ha : co a' = co a ++ m) : ∀ {A : List Str}, co (Str.join sp2 (A ++ [a'])) = co (Str.join sp2 (A ++ [a])) ++ m
  | [] => ha
  | [c] => by
    show co (Str.join sp2 (c :: a' :: [])) = co (Str.join sp2 (c :: a :: [])) ++ m
    rw [co_joinS, co_joinS]
    show co c ++ (_ ++ co a') = co c ++ (_ ++ co a) ++ m
    rw [ha]
    simp
  | c :: d :: A => by
    show co (Str.join sp2 (c :: d :: (A ++ [a']))) = co (Str.join sp2 (c :: d :: (A ++ [a]))) ++ m
    rw [co_joinS, co_joinS]
    have e := join_snoc ha (A := d :: A)
    simp only [List.cons_append] at e
    rw [e]
    simp
theorem bad_part {ws : List Str} {x p : Str} (hf : ∀ p ∈ ws, 59 ∉ co p) (hx : co x = co (Str.join sp2 ws)) (hp : p ∈ ws) (hr : rd p = none) : ∃ p ∈ Txt.split x sp2, rd p = none := by
  refine ⟨p, ?_, hr⟩
  rw [split2_join (fun e => by rw [e] at hp; simp at hp) hf hx]
  exact hp
theorem free59 {gs : List Gm} (ok : ∀ g ∈ gs, GO g) : ∀ p ∈ gs.map wrG, 59 ∉ co p := fun p hp => by
  obtain ⟨g, hg, rfl⟩ := List.mem_map.mp hp
  exact wrG_free (ok g hg) (by omega) (by omega) (by omega) (by omega)
theorem bad_mid {A B : List Gm} {x p : Str} (oA : ∀ g ∈ A, GO g) (oB : ∀ g ∈ B, GO g) (hp : 59 ∉ co p) (hr : rd p = none) (hx : co x = co (Str.join sp2 (A.map wrG ++ p :: B.map wrG))) : ∃ p ∈ Txt.split x sp2, rd p = none := by
  refine bad_part (p := p) (fun q hq => ?_) hx (by simp) hr
  rcases List.mem_append.mp hq with hq | hq
  · exact free59 oA q hq
  · rcases List.mem_cons.mp hq with rfl | hq
    · exact hp
    · exact free59 oB q hq
theorem wrong_twice {A B : List Gm} {x : Str} (nA : A ≠ []) (nB : B ≠ []) (oA : ∀ g ∈ A, GO g) (oB : ∀ g ∈ B, GO g) (hx : co x = co (Str.join sp2 (A.map wrG)) ++ ([59, 32, 59, 32] ++ co (Str.join sp2 (B.map wrG)))) : ∃ p ∈ Txt.split x sp2, rd p = none := by
  refine bad_mid (p := Str.ofString "") oA oB (by decide +kernel) rd_empty ?_
  rw [hx, join_two (by simpa using nA) (by simp), show Str.ofString "" :: B.map wrG = [Str.ofString ""] ++ B.map wrG from rfl, join_two (by simp) (by simpa using nB)]
  rw [show co (Str.join sp2 [Str.ofString ""]) = [] from by decide +kernel]
  rfl
theorem wrong_ahead {A B : List Gm} {g : Gm} {x : Str} (nA : A ≠ []) (oA : ∀ g ∈ A, GO g) (oB : ∀ h ∈ g :: B, GO h) (hx : co x = co (Str.join sp2 (A.map wrG)) ++ ([59, 32, 32] ++ co (Str.join sp2 ((g :: B).map wrG)))) : ∃ p ∈ Txt.split x sp2, rd p = none := by
  have o := oB g List.mem_cons_self
  have e : co (Str.ofString " " ++ wrG g) = [32] ++ co (wrG g) := by rw [co_app, co_bl]
  refine bad_mid (p := Str.ofString " " ++ wrG g) (B := B) oA (fun h hh => oB h (List.mem_cons_of_mem _ hh)) ?_ (rd_ahead o) ?_
  · rw [e]
    intro z
    rcases List.mem_append.mp z with z | z
    · simp at z
    · exact wrG_free o (by omega) (by omega) (by omega) (by omega) z
  · rw [hx, join_two (by simpa using nA) (by simp), join_cons (wrG g) e]
    rfl
theorem wrong_behind {A B : List Gm} {g : Gm} {x : Str} (nB : B ≠ []) (oA : ∀ h ∈ A ++ [g], GO h) (oB : ∀ g ∈ B, GO g) (hx : co x = co (Str.join sp2 ((A ++ [g]).map wrG)) ++ ([32, 59, 32] ++ co (Str.join sp2 (B.map wrG)))) : ∃ p ∈ Txt.split x sp2, rd p = none := by
  have o := oA g (by simp)
  have e : co (wrG g ++ Str.ofString " ") = co (wrG g) ++ [32] := by rw [co_app, co_bl]
  refine bad_mid (p := wrG g ++ Str.ofString " ") (A := A) (B := B) (fun h hh => oA h (by simp [hh])) oB ?_ (rd_behind o) ?_
  · rw [e]
    intro z
    rcases List.mem_append.mp z with z | z
    · exact wrG_free o (by omega) (by omega) (by omega) (by omega) z
    · simp at z
  · rw [hx, show A.map wrG ++ (wrG g ++ Str.ofString " ") :: B.map wrG = (A.map wrG ++ [wrG g ++ Str.ofString " "]) ++ B.map wrG by simp, join_two (by simp) (by simpa using nB), join_snoc e, List.map_append]
    simp
theorem rd_dot {g h : Gm} (o : GO g) (q : GO h) {p : Str} (hp : co p = co (wrG g) ++ ([46] ++ co (wrG h))) : rd p = none := by
  refine rd_words (ws := [(toString g.d : Str), st g.a (decide (g.s = 1)), wd g.h, st g.b (decide (g.s = -1)) ++ Str.ofString "." ++ (toString h.d : Str), st h.a (decide (h.s = 1)), wd h.h, st h.b (decide (h.s = -1))]) ?_ (by simp) (fun w hw => ?_) (by simp)
  · rw [hp, co_wrG, co_wrG, co_join2, co_join2, co_join2, co_join2, co_join2, co_join2, co_app, co_app, show co (Str.ofString ".") = [46] from by decide +kernel]
    simp
    rfl
  · have f := free32 o
    have f' := free32 q
    unfold wds at f f'
    simp only [List.forall_mem_cons] at f f'
    have hw : w = (toString g.d : Str) ∨ w = st g.a (decide (g.s = 1)) ∨ w = wd g.h ∨ w = st g.b (decide (g.s = -1)) ++ Str.ofString "." ++ (toString h.d : Str) ∨ w = st h.a (decide (h.s = 1)) ∨ w = wd h.h ∨ w = st h.b (decide (h.s = -1)) := by simpa using hw
    rcases hw with rfl | rfl | rfl | rfl | rfl | rfl | rfl
    · exact f.1
    · exact f.2.1
    · exact f.2.2.1
    · rw [co_app, co_app, show co (Str.ofString ".") = [46] from by decide +kernel]
      intro z
      rcases List.mem_append.mp z with z | z
      · rcases List.mem_append.mp z with z | z
        · exact f.2.2.2.1 z
        · simp at z
      · exact f'.1 z
    · exact f'.2.1
    · exact f'.2.2.1
    · exact f'.2.2.2.1
theorem rd_comma {g h : Gm} (o : GO g) (q : GO h) {t : Str} (ht : 32 ∉ co t) {p : Str} (hp : co p = co (wrG g) ++ ((co t ++ [32]) ++ co (wrG h))) : rd p = none := by
  refine rd_words (ws := [(toString g.d : Str), st g.a (decide (g.s = 1)), wd g.h, st g.b (decide (g.s = -1)) ++ t, (toString h.d : Str), st h.a (decide (h.s = 1)), wd h.h, st h.b (decide (h.s = -1))]) ?_ (by simp) (fun w hw => ?_) (by simp)
  · rw [hp, co_wrG, co_wrG, co_join2, co_join2, co_join2, co_join2, co_join2, co_join2, co_join2, co_app]
    simp
    rfl
  · have f := free32 o
    have f' := free32 q
    unfold wds at f f'
    simp only [List.forall_mem_cons] at f f'
    have hw : w = (toString g.d : Str) ∨ w = st g.a (decide (g.s = 1)) ∨ w = wd g.h ∨ w = st g.b (decide (g.s = -1)) ++ t ∨ w = (toString h.d : Str) ∨ w = st h.a (decide (h.s = 1)) ∨ w = wd h.h ∨ w = st h.b (decide (h.s = -1)) := by simpa using hw
    rcases hw with rfl | rfl | rfl | rfl | rfl | rfl | rfl | rfl
    · exact f.1
    · exact f.2.1
    · exact f.2.2.1
    · rw [co_app]
      intro z
      rcases List.mem_append.mp z with z | z
      · exact f.2.2.2.1 z
      · exact ht z
    · exact f'.1
    · exact f'.2.1
    · exact f'.2.2.1
    · exact f'.2.2.2.1
theorem wrong_one {A B : List Gm} {g h : Gm} {x : Str} {m : List Nat} (oA : ∀ h ∈ A ++ [g], GO h) (oB : ∀ g ∈ h :: B, GO g) (hm : 59 ∉ m) (hr : ∀ p, co p = co (wrG g) ++ (m ++ co (wrG h)) → rd p = none) (hx : co x = co (Str.join sp2 ((A ++ [g]).map wrG)) ++ (m ++ co (Str.join sp2 ((h :: B).map wrG)))) : ∃ p ∈ Txt.split x sp2, rd p = none := by
  have o := oA g (by simp)
  have q := oB h (by simp)
  obtain ⟨p, e⟩ : ∃ p : Str, co p = co (wrG g) ++ (m ++ co (wrG h)) := ⟨⟨(co (wrG g) ++ (m ++ co (wrG h))).toArray⟩, by simp only [co]⟩
  have e2 : co p = (co (wrG g) ++ m) ++ co (wrG h) := by rw [e, List.append_assoc]
  refine bad_mid (p := p) (A := A) (B := B) (fun h hh => oA h (by simp [hh])) (fun h hh => oB h (by simp [hh])) ?_ (hr p e) ?_
  · rw [e]
    intro z
    rcases List.mem_append.mp z with z | z
    · exact wrG_free o (by omega) (by omega) (by omega) (by omega) z
    · rcases List.mem_append.mp z with z | z
      · exact hm z
      · exact wrG_free q (by omega) (by omega) (by omega) (by omega) z
  · have e3 := join_cons (wrG h) (B := B.map wrG) e2
    rw [hx, List.map_append]
    match A with
    | [] =>
      show co (wrG g) ++ (m ++ co (Str.join sp2 (wrG h :: B.map wrG))) = co (Str.join sp2 (_ :: B.map wrG))
      rw [e3, List.append_assoc]
    | c :: A =>
      rw [join_two (A := (c :: A).map wrG) (B := _ :: B.map wrG) (by simp) (by simp), e3, join_two (A := (c :: A).map wrG) (B := [g].map wrG) (by simp) (by simp)]
      show _ ++ (59 :: 32 :: co (wrG g)) ++ (m ++ co (Str.join sp2 (wrG h :: B.map wrG))) = _
      simp
theorem us_no {x : Str} (h : isNm (.str (us x)) = true) : 59 ∉ co x := by
  have key : ∀ y : Str, isNmS y = true → 59 ∉ co y := fun y hy z => by
    unfold isNmS at hy
    rw [Bool.and_eq_true] at hy
    have := abc_mem.mp (of_decide_eq_true (List.all_eq_true.mp hy.2 59 z))
    omega
  have h : isNmS (us x) = true := h
  have h1 := key _ h
  unfold us at h1
  by_cases hs : sd x = true
  · rw [if_pos hs, co_init] at h1
    have hs : (co x).getLast? = some 42 := of_decide_eq_true hs
    intro z
    have e : co x = (co x).dropLast ++ [42] := by
      obtain ⟨l, hl⟩ : ∃ l, co x = l ++ [42] := List.getLast?_eq_some_iff.mp hs
      rw [hl]
      simp
    rw [e] at z
    rcases List.mem_append.mp z with z | z
    · exact h1 z
    · simp at z
  · rw [if_neg hs] at h1
    exact h1
theorem dy_no {x : Str} (h : isDy x = true) : 59 ∉ co x := by
  unfold isDy at h
  rw [Bool.or_eq_true] at h
  rcases h with h | h
  · rw [of_decide_eq_true h]
    decide +kernel
  · rw [Bool.and_eq_true] at h
    intro z
    have := fig_mem.mp (of_decide_eq_true (List.all_eq_true.mp h.2 59 z))
    omega
theorem w_no {x : Str} (h : isW x = true) : 59 ∉ co x := by
  unfold isW at h
  rw [Bool.or_eq_true, Bool.or_eq_true] at h
  rcases h with (h | h) | h <;> rw [of_decide_eq_true h] <;> decide +kernel
theorem rd4_no {a b c d : Str} (h : rd4 a b c d = true) : ∀ p ∈ [a, b, c, d], 59 ∉ co p := by
  unfold rd4 goodG at h
  simp only [Bool.and_eq_true] at h
  obtain ⟨⟨⟨h1, h2⟩, _⟩, ⟨⟨⟨⟨_, h3⟩, h4⟩, _⟩, _⟩, _⟩ := h
  intro p hp
  have hp : p = a ∨ p = b ∨ p = c ∨ p = d := by simpa using hp
  rcases hp with rfl | rfl | rfl | rfl
  · exact dy_no h1
  · exact us_no h3
  · exact w_no h2
  · exact us_no h4
theorem rd_no59 {x : Str} (h : rd x ≠ none) : 59 ∉ co x := by
  have e : Str.join ⟨#[32]⟩ (Txt.split x ⟨#[32]⟩) = x := StrLaws.join_split ..
  have h : rdL (Txt.split x ⟨#[32]⟩) ≠ none := h
  rw [← e]
  generalize Txt.split x ⟨#[32]⟩ = ws at h
  match ws, h with
  | [a, b, c, d], h =>
    by_cases z : rd4 a b c d = true
    · exact join_free (by omega) (rd4_no z)
    · exact absurd (if_neg z) h
  | [], h => exact absurd rfl h
  | [_], h => exact absurd rfl h
  | [_, _], h => exact absurd rfl h
  | [_, _, _], h => exact absurd rfl h
  | _ :: _ :: _ :: _ :: _ :: _, h => exact absurd rfl h
theorem wrong_mark {x : Str} {k : Nat} (h1 : (co x)[k]? = some 59) (h2 : (co x)[k + 1]? ≠ some 32) : ∃ p ∈ Txt.split x sp2, rd p = none := by
  by_cases h : ∃ p ∈ Txt.split x sp2, rd p = none
  · exact h
  refine absurd ?_ h2
  have e : Str.join sp2 (Txt.split x sp2) = x := StrLaws.join_split ..
  have f := fol_join (ws := Txt.split x sp2) (fun p hp => rd_no59 fun z => h ⟨p, hp, z⟩) k
  rw [e] at f
  exact f h1
theorem head_fig {B : List Gm} {g : Gm} (o : GO g) : (co (Str.join sp2 ((g :: B).map wrG)))[0]? ≠ some 32 := by
  have h0 : ∃ c r, co (toString g.d : Str) = c :: r ∧ c ≠ 32 := by
    obtain ⟨m, hm⟩ := Int.eq_ofNat_of_zero_le o.d0
    have m1 : m < 10000 := by
      have := o.d1
      omega
    rw [hm]
    show ∃ c r, fg m = c :: r ∧ c ≠ 32
    have hl := fg_len m1
    have ha := fg_all m
    cases e : fg m with
    | nil =>
      rw [e] at hl
      simp at hl
    | cons c r =>
      have := ha c (by rw [e]; simp)
      exact ⟨c, r, rfl, by omega⟩
  obtain ⟨c, r, e, ne⟩ := h0
  have e2 : ∃ t, co (Str.join sp2 ((g :: B).map wrG)) = c :: t := by
    match B with
    | [] => exact ⟨_, (co_wrG g).trans (by rw [e, List.cons_append])⟩
    | b :: B => exact ⟨_, (co_joinS _ _ _ _).trans (by rw [co_wrG, e, List.cons_append, List.cons_append])⟩
  obtain ⟨t, e2⟩ := e2
  rw [e2]
  intro z
  exact ne (by simpa using z)
theorem snoc_of {A : List Gm} (h : A ≠ []) : ∃ A' g, A = A' ++ [g] := ⟨_, _, (List.dropLast_concat_getLast h).symm⟩
theorem wrong_all {gs : List Gm} {x : Str} (ok : ∀ g ∈ gs, GO g) (h : Wrong gs x) : ∃ p ∈ Txt.split x sp2, rd p = none := by
  obtain ⟨A, B, m, nA, nB, rfl, hm, rfl⟩ := h
  have oA : ∀ g ∈ A, GO g := fun g hg => ok g (List.mem_append_left _ hg)
  have oB : ∀ g ∈ B, GO g := fun g hg => ok g (List.mem_append_right _ hg)
  have hx : co (Str.join sp2 (A.map wrG) ++ m ++ Str.join sp2 (B.map wrG)) = co (Str.join sp2 (A.map wrG)) ++ (co m ++ co (Str.join sp2 (B.map wrG))) := by rw [co_app, co_app, List.append_assoc]
  generalize Str.join sp2 (A.map wrG) ++ m ++ Str.join sp2 (B.map wrG) = x at hx
  obtain ⟨A', g, rfl⟩ := snoc_of nA
  obtain ⟨b, B', rfl⟩ := List.exists_cons_of_ne_nil nB
  have og := oA g (by simp)
  have ob := oB b (by simp)
  have hm : m = ";" ∨ m = ";  " ∨ m = " ; " ∨ m = ", " ∨ m = "." ∨ m = ";, " ∨ m = "; ; " ∨ m = " " := by simpa [mks] using hm
  rcases hm with rfl | rfl | rfl | rfl | rfl | rfl | rfl | rfl
  · rw [show co (";" : Str) = [59] from by decide +kernel] at hx
    refine wrong_mark (k := (co (Str.join sp2 ((A' ++ [g]).map wrG))).length) ?_ ?_
    · rw [hx, List.getElem?_append_right (Nat.le_refl _), Nat.sub_self]
      rfl
    · rw [hx, List.getElem?_append_right (by omega), Nat.add_sub_cancel_left]
      exact head_fig ob
  · exact wrong_ahead nA oA oB (hx.trans (by rw [show co (";  " : Str) = [59, 32, 32] from by decide +kernel]))
  · exact wrong_behind nB oA oB (hx.trans (by rw [show co (" ; " : Str) = [32, 59, 32] from by decide +kernel]))
  · exact wrong_one (m := [44, 32]) oA oB (by simp) (fun p hp => rd_comma og ob (t := ",") (by decide +kernel) (by rw [hp, show co ("," : Str) = [44] from by decide +kernel]; rfl)) (hx.trans (by rw [show co (", " : Str) = [44, 32] from by decide +kernel]))
  · exact wrong_one (m := [46]) oA oB (by simp) (fun p hp => rd_dot og ob hp) (hx.trans (by rw [show co ("." : Str) = [46] from by decide +kernel]))
  · rw [show co (";, " : Str) = [59, 44, 32] from by decide +kernel] at hx
    refine wrong_mark (k := (co (Str.join sp2 ((A' ++ [g]).map wrG))).length) ?_ ?_
    · rw [hx, List.getElem?_append_right (Nat.le_refl _), Nat.sub_self]
      rfl
    · rw [hx, List.getElem?_append_right (by omega), Nat.add_sub_cancel_left]
      simp
  · exact wrong_twice nA nB oA oB (hx.trans (by rw [show co ("; ; " : Str) = [59, 32, 59, 32] from by decide +kernel]))
  · exact wrong_one (m := [32]) oA oB (by simp) (fun p hp => rd_comma og ob (t := "") (by decide +kernel) (by rw [hp, show co ("" : Str) = [] from by decide +kernel]; rfl)) (hx.trans (by rw [show co (" " : Str) = [32] from by decide +kernel]))
def Spo (g : Gm) (y : Str) : Prop := (y.length ≤ 100 ∧ ∀ c ∈ co y, c < 128) ∧ ((59 ∉ co y ∧ rd y = none) ∨ y = wrG g ++ Str.ofString "; ")
theorem rd_four {x a b c d : Str} (hx : co x = co (Str.join ⟨#[32]⟩ [a, b, c, d])) (fr : ∀ p ∈ [a, b, c, d], 32 ∉ co p) (h : rd4 a b c d = false) : rd x = none := rd_no (split_join 32 (by simp) fr hx) h
theorem wr_len2 {g : Gm} (o : GO g) : (wrG g).length ≤ 40 := by
  have lx := nm_len o.na
  have ly := nm_len o.nb
  have l1 := st_len g.a (decide (g.s = 1))
  have l2 := st_len g.b (decide (g.s = -1))
  have l3 := d_len o.d0 o.d1
  have l4 := wd_len g.h
  have e := congrArg List.length (co_wrG g)
  simp only [List.length_append, List.length_cons, co_len] at e
  omega
theorem asc {g : Gm} (o : GO g) : ∀ c ∈ co (wrG g), c < 128 := fun c hc => by
  rcases Nat.lt_or_ge c 128 with h | h
  · exact h
  · exact absurd hc (wrG_free o (by omega) (by omega) (by omega) (by omega))
theorem asc_app {x y : Str} (h1 : ∀ c ∈ co x, c < 128) (h2 : ∀ c ∈ co y, c < 128) : ∀ c ∈ co (x ++ y), c < 128 := fun c hc => by
  rw [co_app] at hc
  rcases List.mem_append.mp hc with h | h
  · exact h1 c h
  · exact h2 c h
theorem asc_join : ∀ {ws : List Str}, (∀ p ∈ ws, ∀ c ∈ co p, c < 128) → ∀ c ∈ co (Str.join ⟨#[32]⟩ ws), c < 128
  | [], _, c, hc => by
    rw [show co (Str.join ⟨#[32]⟩ []) = [] from rfl] at hc
    cases hc
  | [a], h, c, hc => h a List.mem_cons_self c hc
  | a :: b :: r, h, c, hc => by
    rw [co_join2] at hc
    rcases List.mem_append.mp hc with z | z
    · exact h a List.mem_cons_self c z
    · rcases List.mem_cons.mp z with z | z
      · omega
      · exact asc_join (ws := b :: r) (fun p hp => h p (List.mem_cons_of_mem _ hp)) c z
theorem asc_wds {g : Gm} (o : GO g) : ∀ p ∈ wds g, ∀ c ∈ co p, c < 128 := fun p hp c hc => by
  rcases Nat.lt_or_ge c 128 with h | h
  · exact h
  · exact absurd hc (wds_free o (by omega) (by omega) (by omega) p hp)
theorem no_sub {y : Str} {c : Nat} : ∀ {ps : List Str}, c ∈ co (Builtin.Str.glued (Str.ofString "") ps) → c ∈ co (Builtin.Str.glued y ps) := fun {ps} h => by
  rw [StrLaws.glued_eq_join] at h ⊢
  have key : ∀ ps : List Str, c ∈ co (Str.join (Str.ofString "") ps) → c ∈ co (Str.join y ps) := fun ps => by
    induction ps with
    | nil => exact id
    | cons a r ih =>
      cases r with
      | nil => exact id
      | cons b r =>
        rw [co_joinS, co_joinS]
        intro z
        rcases List.mem_append.mp z with z | z
        · exact List.mem_append_left _ z
        · rcases List.mem_append.mp z with z | z
          · rw [show co (Str.ofString "") = [] from by decide +kernel] at z
            simp at z
          · exact List.mem_append_right _ (List.mem_append_right _ (ih z))
  exact key ps h
theorem repl_sub {x y : Str} {c : Nat} (h : c ∈ co (Txt.replace x y (Str.ofString ""))) : c ∈ co x := by
  unfold Txt.replace at h
  split at h
  · exact h
  · have z := no_sub (y := y) h
    rw [StrLaws.glued_between_self] at z
    exact z
theorem rd4_alike {a b c : Str} : rd4 a b c b = false := by
  unfold rd4 goodG
  rw [show eqS (.str (us b)) (.str (us b)) = true from decide_eq_true rfl]
  simp
theorem up_no {x : Str} {c : Nat} (h : c < 65) (hx : c ∉ co x) : c ∉ co (upS x) := by
  rw [co_up]
  intro z
  obtain ⟨e, he, ec⟩ := List.mem_map.mp z
  unfold up1 at ec
  split at ec
  · omega
  · exact hx (ec ▸ he)
theorem up_w (h : Int) : isW (upS (wd h)) = false := by
  unfold wd
  split
  · decide +kernel
  · split
    · decide +kernel
    · decide +kernel
theorem spo_up {g : Gm} (o : GO g) : rd (upS (wrG g)) = none := by
  refine rd_four (a := upS (toString g.d : Str)) (b := upS (st g.a (decide (g.s = 1)))) (c := upS (wd g.h)) (d := upS (st g.b (decide (g.s = -1)))) ?_ (fun p hp => ?_) ?_
  · rw [co_up, co_wrG, co_join2, co_join2, co_join2, co_up, co_up, co_up]
    show _ = _ ++ 32 :: (_ ++ 32 :: (_ ++ 32 :: co (upS (st g.b (decide (g.s = -1))))))
    rw [co_up]
    simp [show up1 32 = 32 from rfl]
  · have f := free32 o
    unfold wds at f
    simp only [List.forall_mem_cons] at f
    have hp : p = upS (toString g.d : Str) ∨ p = upS (st g.a (decide (g.s = 1))) ∨ p = upS (wd g.h) ∨ p = upS (st g.b (decide (g.s = -1))) := by simpa using hp
    rcases hp with rfl | rfl | rfl | rfl
    · exact up_no (by omega) f.1
    · exact up_no (by omega) f.2.1
    · exact up_no (by omega) f.2.2.1
    · exact up_no (by omega) f.2.2.2.1
  · unfold rd4
    rw [up_w]
    simp
theorem f59 {g : Gm} (o : GO g) : 59 ∉ co (wrG g) := wrG_free o (by omega) (by omega) (by omega) (by omega)
theorem fw59 {g : Gm} (o : GO g) : ∀ p ∈ wds g, 59 ∉ co p := wds_free o (by omega) (by omega) (by omega)
theorem no_app {x y : Str} {c : Nat} (h1 : c ∉ co x) (h2 : c ∉ co y) : c ∉ co (x ++ y) := by
  rw [co_app]
  intro z
  rcases List.mem_append.mp z with z | z
  · exact h1 z
  · exact h2 z
theorem dy_nought {x : Str} (h : 1 ≤ x.length) : isDy (Str.ofString "0" ++ x) = false := by
  have e : co (Str.ofString "0" ++ x) = 48 :: co x := by
    rw [co_app, show co (Str.ofString "0") = [48] from by decide +kernel]
    rfl
  unfold isDy
  have n : Str.ofString "0" ++ x ≠ "0" := fun z => by
    rw [z, show co ("0" : Str) = [48] from by decide +kernel] at e
    have := congrArg List.length e
    rw [List.length_cons, List.length_cons, co_len] at this
    simp at this
    omega
  rw [decide_eq_false n, e]
  simp
theorem day1 {g : Gm} (o : GO g) : 1 ≤ (toString g.d : Str).length := by
  obtain ⟨m, hm⟩ := Int.eq_ofNat_of_zero_le o.d0
  have m1 : m < 10000 := by
    have := o.d1
    omega
  rw [hm, ← co_len]
  exact (fg_len m1).1
theorem rd_nought {g : Gm} (o : GO g) : rd (Str.ofString "0" ++ wrG g) = none := by
  refine rd_four (a := Str.ofString "0" ++ (toString g.d : Str)) (b := st g.a (decide (g.s = 1))) (c := wd g.h) (d := st g.b (decide (g.s = -1))) ?_ (fun p hp => ?_) ?_
  · rw [co_app, co_wrG, co_join2, co_join2, co_join2, co_app, List.append_assoc]
    rfl
  · have f := free32 o
    unfold wds at f
    simp only [List.forall_mem_cons] at f
    have hp : p = Str.ofString "0" ++ (toString g.d : Str) ∨ p = st g.a (decide (g.s = 1)) ∨ p = wd g.h ∨ p = st g.b (decide (g.s = -1)) := by simpa using hp
    rcases hp with rfl | rfl | rfl | rfl
    · exact no_app (by decide +kernel) f.1
    · exact f.2.1
    · exact f.2.2.1
    · exact f.2.2.2.1
  · unfold rd4
    rw [dy_nought (day1 o)]
    rfl
theorem rd_cut {g : Gm} (o : GO g) (h : (toString g.d : Str).length ≤ 1) : rd (Txt.slice (wrG g) (some 1) none) = none := by
  have h1 := day1 o
  have hc : ∃ c, co (toString g.d : Str) = [c] := by
    rw [← co_len] at h h1
    match e : co (toString g.d : Str) with
    | [] => rw [e] at h1; simp at h1
    | [c] => exact ⟨c, rfl⟩
    | _ :: _ :: _ => rw [e] at h; simp at h
  obtain ⟨c, hc⟩ := hc
  have el : 1 ≤ (wrG g).length := by
    rw [← co_len, co_wrG, List.length_append, co_len]
    omega
  refine rd_four (a := Str.ofString "") (b := st g.a (decide (g.s = 1))) (c := wd g.h) (d := st g.b (decide (g.s = -1))) ?_ (fun p hp => ?_) ?_
  · rw [show co (Txt.slice (wrG g) (some 1) none) = (co (wrG g)).drop 1 from co_from (i := 1) el, co_wrG, co_join2, co_join2, co_join2, hc, show co (Str.ofString "") = [] from by decide +kernel]
    rfl
  · have f := free32 o
    unfold wds at f
    simp only [List.forall_mem_cons] at f
    have hp : p = Str.ofString "" ∨ p = st g.a (decide (g.s = 1)) ∨ p = wd g.h ∨ p = st g.b (decide (g.s = -1)) := by simpa using hp
    rcases hp with rfl | rfl | rfl | rfl
    · decide +kernel
    · exact f.2.1
    · exact f.2.2.1
    · exact f.2.2.2.1
  · unfold rd4
    rw [show isDy (Str.ofString "") = false from by decide +kernel]
    rfl
theorem sl_sub {x : Str} {lo hi : Option Int} {c : Nat} (h : c ∈ co (Txt.slice x lo hi)) : c ∈ co x := by
  rw [co_slice] at h
  exact List.mem_of_mem_drop (List.mem_of_mem_take h)
theorem none_of {H H' : Hp} {p : Addr} (s : Same H H') (h : H' p = none) : H p = none := by
  cases e : H p with
  | none => rfl
  | some u =>
    rw [s _ _ e] at h
    cases h
theorem at_mem2 {l : List V} {i : Int} (h0 : 0 ≤ i) (h1 : i < l.length) : ∃ v, atI l i = some v ∧ v ∈ l := by
  obtain ⟨j, rfl⟩ := Int.eq_ofNat_of_zero_le h0
  have hlt : j < l.length := by omega
  exact ⟨l[j], atI_nat (List.getElem?_eq_getElem hlt), List.getElem_mem hlt⟩
def SpP (g : Gm) (v : V) : Prop := ∃ y : Str, v = .str y ∧ (y = Txt.slice (wrG g) (some 1) none ∨ Spo g y)
theorem spo_three {g : Gm} (o : GO g) : Spo g (Txt.join (Str.ofString " ") [(toString g.d : Str), st g.a (decide (g.s = 1)), wd g.h]) := by
  have lx := nm_len o.na
  have l1 := st_len g.a (decide (g.s = 1))
  have l3 := d_len o.d0 o.d1
  have l4 := wd_len g.h
  have e : Txt.join (Str.ofString " ") [(toString g.d : Str), st g.a (decide (g.s = 1)), wd g.h] = Str.join ⟨#[32]⟩ [(toString g.d : Str), st g.a (decide (g.s = 1)), wd g.h] := co_inj (co_join _ _)
  have f := free32 o
  have f' := fw59 o
  unfold wds at f f'
  rw [e]
  have fa := asc_wds o
  unfold wds at fa
  refine ⟨⟨?_, asc_join fun p hp => fa p (by simp at hp ⊢; rcases hp with h | h | h <;> simp [h])⟩, .inl ⟨join_free (by omega) fun p hp => f' p (by simp at hp ⊢; rcases hp with h | h | h <;> simp [h]), rd_words rfl (by simp) (fun p hp => f p (by simp at hp ⊢; rcases hp with h | h | h <;> simp [h])) (by simp)⟩⟩
  rw [← co_len, co_join2, co_join2]
  show (_ ++ 32 :: (_ ++ 32 :: co (wd g.h))).length ≤ _
  simp only [List.length_append, List.length_cons, co_len]
  omega
theorem spo_fourP {g : Gm} {a b c d : Str} (l : a.length + b.length + c.length + d.length ≤ 90) (f : ∀ p ∈ [a, b, c, d], 32 ∉ co p) (f' : ∀ p ∈ [a, b, c, d], 59 ∉ co p) (fa : ∀ n, 128 ≤ n → ∀ p ∈ [a, b, c, d], n ∉ co p) (h : rd4 a b c d = false) : Spo g (Txt.join (Str.ofString " ") [a, b, c, d]) := by
  have e : Txt.join (Str.ofString " ") [a, b, c, d] = Str.join ⟨#[32]⟩ [a, b, c, d] := co_inj (co_join _ _)
  rw [e]
  refine ⟨⟨?_, asc_join fun p hp n hn => by
    rcases Nat.lt_or_ge n 128 with z | z
    · exact z
    · exact absurd hn (fa n z p hp)⟩, .inl ⟨join_free (by omega) f', rd_four rfl f h⟩⟩
  rw [← co_len, co_join2, co_join2, co_join2]
  show (_ ++ 32 :: (_ ++ 32 :: (_ ++ 32 :: co d))).length ≤ _
  simp only [List.length_append, List.length_cons, co_len]
  omega
theorem spo_alike {g : Gm} (o : GO g) : Spo g (Txt.join (Str.ofString " ") [(toString g.d : Str), Txt.replace (st g.a (decide (g.s = 1))) (Str.ofString "*") (Str.ofString ""), wd g.h, Txt.replace (st g.a (decide (g.s = 1))) (Str.ofString "*") (Str.ofString "")]) := by
  have lx := nm_len o.na
  have l1 := st_len g.a (decide (g.s = 1))
  have l3 := d_len o.d0 o.d1
  have l4 := wd_len g.h
  have l5 := repl_len (st g.a (decide (g.s = 1))) (Str.ofString "*")
  have key : ∀ c, (∀ p ∈ wds g, c ∉ co p) → ∀ p ∈ [(toString g.d : Str), Txt.replace (st g.a (decide (g.s = 1))) (Str.ofString "*") (Str.ofString ""), wd g.h, Txt.replace (st g.a (decide (g.s = 1))) (Str.ofString "*") (Str.ofString "")], c ∉ co p := fun c f p hp => by
    unfold wds at f
    simp only [List.forall_mem_cons] at f
    have r : c ∉ co (Txt.replace (st g.a (decide (g.s = 1))) (Str.ofString "*") (Str.ofString "")) := fun z => f.2.1 (repl_sub z)
    simp at hp
    rcases hp with h | h | h | h <;> rw [h]
    · exact f.1
    · exact r
    · exact f.2.2.1
    · exact r
  exact spo_fourP (by omega) (key 32 (free32 o)) (key 59 (fw59 o)) (fun n hn => key n (wds_free o (by omega) (by omega) (by omega))) rd4_alike
theorem spo_won {g : Gm} (o : GO g) : Spo g (Txt.join (Str.ofString " ") [(toString g.d : Str), st g.a (decide (g.s = 1)), Str.ofString "won", st g.b (decide (g.s = -1))]) := by
  have lx := nm_len o.na
  have ly := nm_len o.nb
  have l1 := st_len g.a (decide (g.s = 1))
  have l2 := st_len g.b (decide (g.s = -1))
  have l3 := d_len o.d0 o.d1
  have l4 : (Str.ofString "won").length = 3 := by decide +kernel
  have key : ∀ c, c ∉ co (Str.ofString "won") → (∀ p ∈ wds g, c ∉ co p) → ∀ p ∈ [(toString g.d : Str), st g.a (decide (g.s = 1)), Str.ofString "won", st g.b (decide (g.s = -1))], c ∉ co p := fun c r f p hp => by
    unfold wds at f
    simp only [List.forall_mem_cons] at f
    simp only [List.mem_cons, List.not_mem_nil, or_false] at hp
    rcases hp with h | h | h | h <;> rw [h]
    · exact f.1
    · exact f.2.1
    · exact r
    · exact f.2.2.2.1
  refine spo_fourP (by omega) (key 32 (by decide +kernel) (free32 o)) (key 59 (by decide +kernel) (fw59 o)) (fun n hn => key n (fun z => by have := (show ∀ c ∈ co (Str.ofString "won"), c < 128 from by decide +kernel) n z; omega) (wds_free o (by omega) (by omega) (by omega))) ?_
  unfold rd4
  rw [show isW (Str.ofString "won") = false from by decide +kernel]
  simp
theorem spo_behind {g : Gm} (o : GO g) : Spo g (wrG g ++ Str.ofString " ") := by
  have l := wr_len2 o
  have l2 : (Str.ofString " ").length = 1 := by decide +kernel
  exact ⟨⟨by rw [len_app]; omega, asc_app (asc o) (by decide +kernel)⟩, .inl ⟨no_app (f59 o) (by decide +kernel), rd_behind o⟩⟩
theorem spo_ahead {g : Gm} (o : GO g) : Spo g (Str.ofString " " ++ wrG g) := by
  have l := wr_len2 o
  have l2 : (Str.ofString " ").length = 1 := by decide +kernel
  exact ⟨⟨by rw [len_app]; omega, asc_app (by decide +kernel) (asc o)⟩, .inl ⟨no_app (by decide +kernel) (f59 o), rd_ahead o⟩⟩
theorem spo_nought {g : Gm} (o : GO g) : Spo g (Str.ofString "0" ++ wrG g) := by
  have l := wr_len2 o
  have l2 : (Str.ofString "0").length = 1 := by decide +kernel
  exact ⟨⟨by rw [len_app]; omega, asc_app (by decide +kernel) (asc o)⟩, .inl ⟨no_app (by decide +kernel) (f59 o), rd_nought o⟩⟩
theorem spo_empty {g : Gm} : Spo g (Str.ofString "") := ⟨⟨by decide +kernel, by decide +kernel⟩, .inl ⟨by decide +kernel, rd_empty⟩⟩
theorem spo_mark {g : Gm} (o : GO g) : Spo g (wrG g ++ Str.ofString "; ") := by
  have l := wr_len2 o
  have l2 : (Str.ofString "; ").length = 2 := by decide +kernel
  exact ⟨⟨by rw [len_app]; omega, asc_app (asc o) (by decide +kernel)⟩, .inr rfl⟩
theorem spo_upper {g : Gm} (o : GO g) : Spo g (upS (wrG g)) := by
  have l := wr_len2 o
  refine ⟨⟨?_, fun c hc => ?_⟩, .inl ⟨up_no (by omega) (f59 o), spo_up o⟩⟩
  case' refine_2 =>
    rw [co_up] at hc
    obtain ⟨e, he, ec⟩ := List.mem_map.mp hc
    have := asc o e he
    unfold up1 at ec
    split at ec <;> omega
  rw [← co_len, co_up, List.length_map, co_len]
  omega
theorem spo_cut {g : Gm} (o : GO g) (h : (toString g.d : Str).length ≤ 1) : Spo g (Txt.slice (wrG g) (some 1) none) := by
  have l := wr_len2 o
  have := Txt.slice_le (wrG g) (some 1) none
  exact ⟨⟨by omega, fun c hc => asc o c (sl_sub hc)⟩, .inl ⟨fun z => f59 o (sl_sub z), rd_cut o h⟩⟩
theorem spp_all {g : Gm} (o : GO g) : ∀ v ∈ [V.str (Txt.slice (wrG g) (some 1) none), .str (Txt.join (Str.ofString " ") [(toString g.d : Str), st g.a (decide (g.s = 1)), wd g.h]), .str (wrG g ++ Str.ofString " "), .str (Str.ofString " " ++ wrG g), .str (Str.ofString "0" ++ wrG g), .str (Str.ofString ""), .str (wrG g ++ Str.ofString "; "), .str (upS (wrG g))] ++ [.str (Txt.join (Str.ofString " ") [(toString g.d : Str), Txt.replace (st g.a (decide (g.s = 1))) (Str.ofString "*") (Str.ofString ""), wd g.h, Txt.replace (st g.a (decide (g.s = 1))) (Str.ofString "*") (Str.ofString "")])] ++ [.str (Txt.join (Str.ofString " ") [(toString g.d : Str), st g.a (decide (g.s = 1)), Str.ofString "won", st g.b (decide (g.s = -1))])], SpP g v := fun v hv => by
  rcases List.mem_append.mp hv with hv | hv
  · rcases List.mem_append.mp hv with hv | hv
    · rcases List.mem_cons.mp hv with rfl | hv
      · exact ⟨_, rfl, .inl rfl⟩
      rcases List.mem_cons.mp hv with rfl | hv
      · exact ⟨_, rfl, .inr (spo_three o)⟩
      rcases List.mem_cons.mp hv with rfl | hv
      · exact ⟨_, rfl, .inr (spo_behind o)⟩
      rcases List.mem_cons.mp hv with rfl | hv
      · exact ⟨_, rfl, .inr (spo_ahead o)⟩
      rcases List.mem_cons.mp hv with rfl | hv
      · exact ⟨_, rfl, .inr (spo_nought o)⟩
      rcases List.mem_cons.mp hv with rfl | hv
      · exact ⟨_, rfl, .inr spo_empty⟩
      rcases List.mem_cons.mp hv with rfl | hv
      · exact ⟨_, rfl, .inr (spo_mark o)⟩
      rcases List.mem_cons.mp hv with rfl | hv
      · exact ⟨_, rfl, .inr (spo_upper o)⟩
      cases hv
    · rw [List.mem_singleton.mp hv]
      exact ⟨_, rfl, .inr (spo_alike o)⟩
  · rw [List.mem_singleton.mp hv]
    exact ⟨_, rfl, .inr (spo_won o)⟩
def sp_l_spoiled (K : PySem.W.Frag) (ns : List Int) : Sp := fun vs H Q _ => match vs with
  | [.ref a, .str x] => ∃ g, (SqL K H a (ns.map V.int) ∧ x = wrG g ∧ GO g) ∧ ∀ y H', Same H H' → Spo g y → Q (.str y) H'
  | _ => False
theorem sc_l_spoiled : FnScope ["_law_script", "_law_part", "_law_words", "_law_bare", "_law_some", "_law_found"] ["_law_script", "_law_part"] (defScope s_l_spoiled) := ⟨rfl, rfl, rfl, by decide +kernel, rfl, by decide +kernel, by decide +kernel⟩
theorem ok_l_spoiled (d : Dfn K mg "_law_spoiled" s_l_spoiled ["_law_script", "_law_part"]) (er : Errs K mg c_LadderError c_NoBook c_NoFit c_NoGame c_NoNumber c_NoPlayer c_NoRow c_NoStretch c_NoTable c_NoTree c_NoWorth) (n_len : mg "len" = none)  (c_l_draw : Cal P w K mg base "_law_draw" ["_law_script", "_law_k", "_law_many"] 2 (sp_l_draw K ns)) : Cal P w K mg base "_law_spoiled" ["_law_script", "_law_part"] 3 (sp_l_spoiled K ns) := by
  refine d.cal (k := 2) sc_l_spoiled (fun vs H Q E h => ?_) (fun f cdv A outer s H vs Q E hr h => ?_)
  · match vs, h with
    | [.ref a, .str x], _ => rfl
  · match vs, h with
    | [.ref a, .str x], hq0 =>
      obtain ⟨g, ⟨hS, rfl, o⟩, k⟩ := hq0
      refine ⟨_, (@pss_cons _ _ _ _ _ (@ps_set _ _ (2) _ _ _ _ sc_l_spoiled.nd rfl (by first | exact Or.inl rfl | exact Or.inr rfl) (@pe_bm _ _ _ _ _ _ _ _ _ _ _ _ PySem.F.plainAttrs_str PySem.F.slot_str_split PySem.F.type_str_split m_split (dv 1) (@pa_cons _ _ _ _ _ pe_str pa_nil (by rfl)) (by rfl) (by rfl) (by rfl) (by rfl) (by rfl)) (by rfl) (by first | exact .inl rfl | exact .inr rfl | assumption)) (@pss_cons _ _ _ _ _ (@ps_set _ _ (3) _ _ _ _ sc_l_spoiled.nd rfl (by first | exact Or.inl rfl | exact Or.inr rfl) (@e_repl _ _ _ _ _ _ _ _ _ _ _ _ _ _ _ (dv 2) (by decide) (by decide +kernel) (by decide +kernel) (by rfl) (by rfl)) (by rfl) (by first | exact .inl rfl | exact .inr rfl | assumption)) (@pss_cons _ _ _ _ _ (@ps_set _ _ (4) _ _ _ _ sc_l_spoiled.nd rfl (by first | exact Or.inl rfl | exact Or.inr rfl) (@pe_lst _ _ _ _ (@pa_cons _ _ _ _ _ (@pe_slice _ _ _ _ _ _ _ _ _ _ sl_str (dv 1) (po_some pe_int) po_none) (@pa_cons _ _ _ _ _ (@e_join _ _ _ _ _ ("join") _ _ pe_str (@pa_cons _ _ _ _ _ (@pe_slice _ _ _ _ _ _ _ _ _ _ sl_lst (dv 2) po_none (po_some pe_int)) pa_nil (by rfl)) (by rfl) (by rfl) (by rfl) (by rfl) (by rfl)) (@pa_cons _ _ _ _ _ (@pe_op _ _ _ _ _ _ _ _ o_addS (dv 1) pe_str) (@pa_cons _ _ _ _ _ (@pe_op _ _ _ _ _ _ _ _ o_addS pe_str (dv 1)) (@pa_cons _ _ _ _ _ (@pe_op _ _ _ _ _ _ _ _ o_addS pe_str (dv 1)) (@pa_cons _ _ _ _ _ pe_str (@pa_cons _ _ _ _ _ (@pe_op _ _ _ _ _ _ _ _ o_addS (dv 1) pe_str) (@pa_cons _ _ _ _ _ (@e_upper _ _ _ _ _ (dv 1) (by rfl) (by rfl)) pa_nil (by rfl)) (by rfl)) (by rfl)) (by rfl)) (by rfl)) (by rfl)) (by rfl)) (by rfl))) (by rfl) (by first | exact .inl rfl | exact .inr rfl | assumption)) (@pss_cons _ _ _ _ _ (@ps_expr _ _ _ _ (@pe_bm _ _ _ _ _ _ _ _ _ _ _ _ PySem.F.plainAttrs_list PySem.F.slot_list_append PySem.F.type_list_append mt_append (dv 4) (@pa_cons _ _ _ _ _ (@e_join _ _ _ _ _ ("join") _ _ pe_str (@pa_cons _ _ _ _ _ (@e_lst _ _ _ _ (@pa_cons _ _ _ _ _ (@pe_ix _ _ _ _ _ _ _ i_lst (dv 2) pe_int (fun _ _ => rfl)) (@pa_cons _ _ _ _ _ (dv 3) (@pa_cons _ _ _ _ _ (@pe_ix _ _ _ _ _ _ _ i_lst (dv 2) pe_int (fun _ _ => rfl)) (@pa_cons _ _ _ _ _ (dv 3) pa_nil (by rfl)) (by rfl)) (by rfl)) (by rfl))) pa_nil (by rfl)) (by rfl) (by rfl) (by rfl) (by rfl) (by rfl)) pa_nil (by rfl)) (by rfl) (by rfl) (by rfl) (by rfl) (by rfl)) (by rfl)) (@pss_cons _ _ _ _ _ (@ps_expr _ _ _ _ (@pe_bm _ _ _ _ _ _ _ _ _ _ _ _ PySem.F.plainAttrs_list PySem.F.slot_list_append PySem.F.type_list_append mt_append (dv 4) (@pa_cons _ _ _ _ _ (@e_join _ _ _ _ _ ("join") _ _ pe_str (@pa_cons _ _ _ _ _ (@e_lst _ _ _ _ (@pa_cons _ _ _ _ _ (@pe_ix _ _ _ _ _ _ _ i_lst (dv 2) pe_int (fun _ _ => rfl)) (@pa_cons _ _ _ _ _ (@pe_ix _ _ _ _ _ _ _ i_lst (dv 2) pe_int (fun _ _ => rfl)) (@pa_cons _ _ _ _ _ pe_str (@pa_cons _ _ _ _ _ (@pe_ix _ _ _ _ _ _ _ i_lst (dv 2) pe_int (fun _ _ => rfl)) pa_nil (by rfl)) (by rfl)) (by rfl)) (by rfl))) pa_nil (by rfl)) (by rfl) (by rfl) (by rfl) (by rfl) (by rfl)) pa_nil (by rfl)) (by rfl) (by rfl) (by rfl) (by rfl) (by rfl)) (by rfl)) (@pss_cons _ _ _ _ _ (@ps_set _ _ (5) _ _ _ _ sc_l_spoiled.nd rfl (by first | exact Or.inl rfl | exact Or.inr rfl) (@pe_ix _ _ _ _ _ _ _ i_lst (dv 4) (@e_call _ _ _ _ _ _ _ _ _ _ _ c_l_draw hr (by decide) (by rfl) (@pa_cons _ _ _ _ _ (dv 0) (@pa_cons _ _ _ _ _ pe_int (@pa_cons _ _ _ _ _ pe_int pa_nil (by rfl)) (by rfl)) (by rfl)) (by decide) (by rfl) (by rfl)) (fun _ _ => rfl)) (by rfl) (by first | exact .inl rfl | exact .inr rfl | assumption)) (@pss_cons _ _ _ _ _ (@s_if _ _ _ _ _ _ _ _ (@L2.PW.pt _ _ _ (@w_or _ _ _ _ _ _ _ (@t_cmp _ _ _ _ _ _ _ _ o_eq (@pe_slice _ _ _ _ _ _ _ _ _ _ sl_str (dv 1) po_none (po_some pe_int)) pe_str (@nomark _ _ (by decide) (by decide))) (@pw_or1 _ _ _ _ (@L2.PW.pt _ _ _ (@w_and _ _ _ _ _ _ _ (@t_cmp _ _ _ _ _ _ _ _ o_eq (dv 5) (@pe_slice _ _ _ _ _ _ _ _ _ _ sl_str (dv 1) (po_some pe_int) po_none) (@nomark _ _ (by decide) (by decide))) (@pw_and1 _ _ _ _ (@t_cmp _ _ _ _ _ _ _ _ o_gt (@pe_callB _ _ _ _ _ _ _ _ _ c_len (by rfl) n_len (by decide +kernel) (@pa_cons _ _ _ _ _ (@pe_ix _ _ _ _ _ _ _ i_lst (dv 2) pe_int (fun _ _ => rfl)) pa_nil (by rfl)) (by decide) (by decide) (by rfl) (by rfl)) pe_int (@nomark _ _ (by decide) (by decide))))))))) (@pss_one _ _ _ (@ps_ret _ _ _ _ (@pe_op _ _ _ _ _ _ _ _ o_addS (dv 1) pe_str))) pss_nil) (@pss_one _ _ _ (@ps_ret _ _ _ _ (dv 5)))))))))), ?_⟩
      have ew : Txt.split (wrG g) (Str.ofString " ") = wds g := split_join 32 (by simp [wds]) (free32 o) rfl
      have lx := nm_len o.na
      have ly := nm_len o.nb
      have l1 := st_len g.a (decide (g.s = 1))
      have l2 := st_len g.b (decide (g.s = -1))
      have l3 := d_len o.d0 o.d1
      have l4 := wd_len g.h
      have lp := wr_len2 o
      have l5 : (Str.ofString " ").length = 1 := by decide +kernel
      have l6 : (Str.ofString "0").length = 1 := by decide +kernel
      have l7 : (Str.ofString "; ").length = 2 := by decide +kernel
      have big : (1000 : Nat) ≤ sizeLine := by decide
      have l8 := repl_len (st g.a (decide (g.s = 1))) (Str.ofString "*")
      refine ⟨rfl, by decide +kernel, by omega, fun L H1 s1 e1 => ?_⟩
      rw [ew] at e1
      have e1 : H1 L = some (.lst [.str (toString g.d : Str), .str (st g.a (decide (g.s = 1))), .str (wd g.h), .str (st g.b (decide (g.s = -1)))]) := e1
      refine ⟨_, _, SqL.of e1, atI_nat (j := 1) rfl, by omega, ?_⟩
      have sums : ∀ ws : List Str, (ws.map (·.length)).sum + ws.length * 1 ≤ 1000 → (ws.map (·.length)).sum + ws.length * (Str.ofString " ").length ≤ 16777216 := fun ws h => by rw [l5]; omega
      refine ⟨_, rfl, by omega, rfl, _, rfl, _, SqL.of e1, fun p2 H2 s2 e2 => ⟨[(toString g.d : Str), st g.a (decide (g.s = 1)), wd g.h], SqL.of (e2.trans rfl), sums _ ?_, ?_⟩⟩
      · simp only [List.map_cons, List.map_nil, List.sum_cons, List.sum_nil, List.length_cons, List.length_nil]
        omega
      refine ⟨by omega, by omega, by omega, by omega, rfl, by omega, asc o, Nat.le_of_ble_eq_true rfl, fun D hD => ?_⟩
      have hD1 := none_of s2 hD
      have hD0 := none_of s1 hD1
      have eL : upd H2 D (.lst [.str (Txt.slice (wrG g) (some 1) none), .str (Txt.join (Str.ofString " ") [(toString g.d : Str), st g.a (decide (g.s = 1)), wd g.h]), .str (wrG g ++ Str.ofString " "), .str (Str.ofString " " ++ wrG g), .str (Str.ofString "0" ++ wrG g), .str (Str.ofString ""), .str (wrG g ++ Str.ofString "; "), .str (upS (wrG g))]) L = some (.lst [.str (toString g.d : Str), .str (st g.a (decide (g.s = 1))), .str (wd g.h), .str (st g.b (decide (g.s = -1)))]) := same_upd hD _ _ (s2 _ _ e1)
      refine ⟨.inl ⟨rfl, _, SqL.of upd_same⟩, rfl, _, _, SqL.of eL, atI_nat (j := 0) rfl, _, _, SqL.of eL, atI_nat (j := 2) rfl, fun p3 H3 s3 e3 => ⟨[_, _, _, _], SqL.of e3, sums _ ?_, D, _, _, rfl, rfl, s3 _ _ upd_same, by show 8 < sizeLine; omega, ?_⟩⟩
      · simp only [List.map_cons, List.map_nil, List.sum_cons, List.sum_nil, List.length_cons, List.length_nil]
        omega
      have s13 : Same H1 H3 := s2.trans ((same_upd hD).trans s3)
      have eL3 : ∀ u, upd H3 D u L = some (.lst [.str (toString g.d : Str), .str (st g.a (decide (g.s = 1))), .str (wd g.h), .str (st g.b (decide (g.s = -1)))]) := fun u => same_app s13 hD1 _ _ e1
      refine ⟨.inl ⟨rfl, _, SqL.of upd_same⟩, rfl, _, _, SqL.of (eL3 _), atI_nat (j := 0) rfl, _, _, SqL.of (eL3 _), atI_nat (j := 1) rfl, _, _, SqL.of (eL3 _), atI_nat (j := 3) rfl, fun p4 H4 s4 e4 => ⟨[_, _, Str.ofString "won", _], SqL.of e4, sums _ ?_, D, _, _, rfl, rfl, s4 _ _ upd_same, by show 9 < sizeLine; omega, ?_⟩⟩
      · simp only [List.map_cons, List.map_nil, List.sum_cons, List.sum_nil, List.length_cons, List.length_nil]
        rw [show (Str.ofString "won").length = 3 from by decide +kernel]
        omega
      have s15 : Same H1 H4 := (same_app s13 hD1).trans s4
      have d0 := draw_nn ns 7 (show (0 : Int) < 10 by decide)
      have d1 := draw_lt ns 7 (show (0 : Int) < 10 by decide)
      refine ⟨s1.trans (same_app s15 hD1) |>.seq hS, ⟨by decide, by decide, by decide⟩, ?_⟩
      have eL5 : ∀ u, upd H4 D u L = some (.lst [.str (toString g.d : Str), .str (st g.a (decide (g.s = 1))), .str (wd g.h), .str (st g.b (decide (g.s = -1)))]) := fun u => same_app s15 hD1 _ _ e1
      have sH : ∀ u, Same H (upd H4 D u) := fun u => s1.trans (same_app s15 hD1)
      have ok := spp_all o
      obtain ⟨v, hv, hm⟩ := at_mem2 (l := ([V.str (Txt.slice (wrG g) (some 1) none), .str (Txt.join (Str.ofString " ") [(toString g.d : Str), st g.a (decide (g.s = 1)), wd g.h]), .str (wrG g ++ Str.ofString " "), .str (Str.ofString " " ++ wrG g), .str (Str.ofString "0" ++ wrG g), .str (Str.ofString ""), .str (wrG g ++ Str.ofString "; "), .str (upS (wrG g))] ++ [.str (Txt.join (Str.ofString " ") [(toString g.d : Str), Txt.replace (st g.a (decide (g.s = 1))) (Str.ofString "*") (Str.ofString ""), wd g.h, Txt.replace (st g.a (decide (g.s = 1))) (Str.ofString "*") (Str.ofString "")])] ++ [.str (Txt.join (Str.ofString " ") [(toString g.d : Str), st g.a (decide (g.s = 1)), Str.ofString "won", st g.b (decide (g.s = -1))])] : List V)) d0 (by simp only [List.length_append, List.length_cons, List.length_nil]; exact d1)
      obtain ⟨y, rfl, hy⟩ := ok v hm
      refine ⟨_, _, SqL.of upd_same, hv, ?_⟩
      have yes : Spo g (wrG g ++ Str.ofString " ") := spo_behind o
      have go : (y = Txt.slice (wrG g) (some 1) none → (toString g.d : Str).length ≤ 1) → Spo g y := fun h => by
        rcases hy with e | e
        · rw [e]
          exact spo_cut o (h e)
        · exact e
      refine ⟨_, rfl, by omega, ⟨fun h1 => ⟨fun _ => ⟨by omega, k _ _ (sH _) yes⟩, fun h => nb h⟩, fun h1 => ⟨_, rfl, by omega, ⟨fun h2 => ⟨_, _, SqL.of (eL5 _), atI_nat (j := 0) rfl, by omega, ⟨fun h3 => ⟨by omega, k _ _ (sH _) yes⟩, fun h3 => ?_⟩⟩, fun h2 => ⟨fun h => nb h, fun _ => ?_⟩⟩⟩⟩⟩
      · have h3 : ¬ ((1 : Int) < ((toString g.d : Str).length : Int)) := of_decide_eq_false h3
        exact k _ _ (sH _) (go fun _ => by omega)
      · have h2 : y ≠ Txt.slice (wrG g) (some 1) none := of_decide_eq_false h2
        exact k _ _ (sH _) (go fun e => absurd e h2)
def NoAt (l : List Nat) : Prop := ∀ k : Nat, l[k]? = some 59 → l[k + 1]? ≠ some 32
def Win (u : List Nat) (n : Nat) : Prop := ∀ s q t : List Nat, u = s ++ (q ++ t) → NoAt q → q.length ≤ n
theorem win_any (u : List Nat) : Win u u.length := fun s q t e _ => by
  have := congrArg List.length e
  simp only [List.length_append] at this
  omega
theorem noat_take {l : List Nat} (h : NoAt l) (n : Nat) : NoAt (l.take n) := fun k h1 h2 => by
  rw [List.getElem?_take] at h1 h2
  split at h1
  · split at h2
    · exact h k h1 h2
    · cases h2
  · cases h1
theorem noat_drop {l : List Nat} (h : NoAt l) (n : Nat) : NoAt (l.drop n) := fun k h1 h2 => by
  rw [List.getElem?_drop] at h1 h2
  exact h (n + k) h1 (by rw [Nat.add_assoc]; exact h2)
theorem win_app {u v : List Nat} {a b : Nat} (hu : Win u a) (hv : Win v b) : Win (u ++ v) (a + b) := fun s q t e hq => by
  by_cases h : u.length ≤ s.length
  · have e1 := congrArg (List.drop u.length) e
    rw [List.drop_left, List.drop_append_of_le_length h] at e1
    have := hv _ _ _ e1 hq
    omega
  · have e1 := congrArg (List.take u.length) e
    have e2 := congrArg (List.drop u.length) e
    rw [List.take_left, List.take_append, List.take_of_length_le (by omega), List.take_append] at e1
    rw [List.drop_left, List.drop_append, List.drop_of_length_le (by omega), List.nil_append, List.drop_append] at e2
    have h1 := hu _ _ _ e1 (noat_take hq _)
    have h2 := hv [] _ _ e2 (noat_drop hq _)
    rw [List.length_take] at h1
    rw [List.length_drop] at h2
    omega
theorem mid0 (a R : List Nat) : (a ++ ([59, 32] ++ R))[a.length]? = some 59 := by
  rw [List.getElem?_append_right (Nat.le_refl _), Nat.sub_self]
  rfl
theorem mid1 (a R : List Nat) : (a ++ ([59, 32] ++ R))[a.length + 1]? = some 32 := by
  rw [List.getElem?_append_right (by omega), Nat.add_sub_cancel_left]
  rfl
theorem win_head {M : Nat} : ∀ {ws : List Str}, (∀ p ∈ ws, p.length ≤ M) → ∀ q t : List Nat, co (Str.join sp2 ws) = q ++ t → NoAt q → q.length ≤ M + 1
  | [], _, q, t, e, _ => by
    have := congrArg List.length e
    rw [List.length_append, show co (Str.join sp2 []) = [] from rfl, List.length_nil] at this
    omega
  | [a], h, q, t, e, _ => by
    have h1 := h a (List.mem_singleton.mpr rfl)
    have := congrArg List.length (show co a = q ++ t from e)
    rw [List.length_append, co_len] at this
    omega
  | a :: b :: r, h, q, t, e, hq => by
    have h1 := h a List.mem_cons_self
    rw [co_joinS, show co sp2 = [59, 32] from rfl] at e
    by_cases z : q.length ≤ M + 1
    · exact z
    exfalso
    have la : (co a).length = a.length := co_len a
    have g0 := mid0 (co a) (co (Str.join sp2 (b :: r)))
    have g1 := mid1 (co a) (co (Str.join sp2 (b :: r)))
    rw [e, List.getElem?_append_left (by omega)] at g0 g1
    exact hq _ g0 g1
theorem win_join {M : Nat} : ∀ {ws : List Str}, (∀ p ∈ ws, p.length ≤ M) → Win (co (Str.join sp2 ws)) (M + 2)
  | [], h => fun s q t e hq => by
    have := congrArg List.length e
    rw [List.length_append, List.length_append, show co (Str.join sp2 []) = [] from rfl, List.length_nil] at this
    omega
  | [a], h => fun s q t e hq => by
    have h1 := h a (List.mem_singleton.mpr rfl)
    have := congrArg List.length (show co a = s ++ (q ++ t) from e)
    rw [List.length_append, List.length_append, co_len] at this
    omega
  | a :: b :: r, h => fun s q t e hq => by
    have hr : ∀ p ∈ b :: r, p.length ≤ M := fun p hp => h p (List.mem_cons_of_mem _ hp)
    have h1 := h a List.mem_cons_self
    have la : (co a).length = a.length := co_len a
    have e0 := e
    rw [co_joinS, show co sp2 = [59, 32] from rfl] at e
    by_cases z1 : (co a).length + 2 ≤ s.length
    · have e1 := congrArg (List.drop ((co a).length + 2)) e
      rw [List.drop_append, List.drop_of_length_le (by omega), Nat.add_sub_cancel_left, List.drop_append_of_le_length z1] at e1
      exact win_join hr _ _ _ e1 hq
    by_cases z2 : s.length = (co a).length + 1
    · have e1 : co (Str.join sp2 (b :: r)) = List.drop ((co a).length + 2) (s ++ (q ++ t)) := by
        rw [← e, List.drop_append, List.drop_of_length_le (by omega), Nat.add_sub_cancel_left]
        rfl
      rw [List.drop_append, List.drop_of_length_le (by omega), List.nil_append, show (co a).length + 2 - s.length = 1 by omega, List.drop_append] at e1
      have := win_head hr _ _ e1 (noat_drop hq 1)
      rw [List.length_drop] at this
      omega
    · have e1 := congrArg (List.drop s.length) e0
      rw [List.drop_left] at e1
      by_cases z : q.length ≤ M + 2
      · exact z
      exfalso
      have g0 := mid0 (co a) (co (Str.join sp2 (b :: r)))
      have g1 := mid1 (co a) (co (Str.join sp2 (b :: r)))
      rw [e, List.getElem?_append_right (by omega), List.getElem?_append_left (by omega)] at g0 g1
      rw [show (co a).length + 1 - s.length = (co a).length - s.length + 1 by omega] at g1
      exact hq _ g0 g1
theorem sub_noat (x : Str) (a b : Nat) (hn : ∀ k, a ≤ k → k < b → ¬ PySem.StrLaws.At x sp2 x.length k) : NoAt (co (Builtin.Str.strSub x a b)) := fun k h1 h2 => by
  have e : co (Builtin.Str.strSub x a b) = ((co x).drop a).take (b - a) := PySem.StrLaws.strSub_toList x a b
  rw [e, List.getElem?_take] at h1 h2
  split at h1
  · split at h2
    · rw [List.getElem?_drop] at h1 h2
      exact hn (a + k) (by omega) (by omega) (at2 h1 (by rw [Nat.add_assoc]; exact h2))
    · cases h2
  · cases h1
theorem parts_noat (x : Str) : ∀ (cuts : List Nat) (a f : Nat), PySem.StrLaws.ChainG x sp2 x.length a cuts f → (∀ k, f ≤ k → ¬ PySem.StrLaws.At x sp2 x.length k) → ∀ p ∈ PySem.StrLaws.partsFrom x sp2.length a cuts, NoAt (co p)
  | [], a, f, h, hn, p, hp => by
    have e : f = a := h
    subst e
    rw [List.mem_singleton.mp hp]
    exact sub_noat x _ _ fun k h1 _ => hn k h1
  | d :: r, a, f, h, hn, p, hp => by
    rcases List.mem_cons.mp hp with rfl | hp'
    · exact sub_noat x _ _ h.2.2.1
    · exact parts_noat x r _ f h.2.2.2 hn p hp'
theorem split_noat (x : Str) : ∀ p ∈ Txt.split x sp2, NoAt (co p) := by
  obtain ⟨f, hG, hn⟩ := PySem.StrLaws.occ_tight x sp2 (by decide)
  unfold Txt.split
  split
  · rename_i hc
    intro p hp
    rw [List.mem_singleton.mp hp]
    intro j h1 h2
    have hA := at2 h1 h2
    rw [Bool.or_eq_true, decide_eq_true_eq, decide_eq_true_eq] at hc
    rcases hc with h | h
    · have := hA.1
      omega
    · have e : Builtin.Str.strKind sp2 = 1 := by decide +kernel
      rw [e] at h
      unfold Builtin.Str.strKind at h
      split at h
      · omega
      · split at h <;> omega
  · split
    · rename_i he
      intro p hp
      rw [List.mem_singleton.mp hp]
      have e0 : Builtin.Str.occurrences x sp2 0 x.length (x.length + 1) = [] := List.isEmpty_iff.mp he
      rw [e0] at hG
      have ef : f = 0 := hG
      subst ef
      exact fun j h1 h2 => hn j (Nat.zero_le _) (at2 h1 h2)
    · rw [PySem.StrLaws.partsBetween_eq]
      exact parts_noat x _ 0 f hG hn
theorem join_infix {p : Str} : ∀ {ws : List Str}, p ∈ ws → ∃ s t, co (Str.join sp2 ws) = s ++ (co p ++ t)
  | [a], h => ⟨[], [], by rw [List.mem_singleton.mp h]; simp; rfl⟩
  | a :: b :: r, h => by
    rw [co_joinS]
    rcases List.mem_cons.mp h with rfl | h
    · exact ⟨[], _, rfl⟩
    · obtain ⟨s, t, e⟩ := join_infix h
      exact ⟨co a ++ (co sp2 ++ s), t, by rw [e]; simp⟩
theorem part_len {x : Str} {n : Nat} (h : Win (co x) n) : ∀ p ∈ Txt.split x sp2, p.length ≤ n := fun p hp => by
  obtain ⟨s, t, e⟩ := join_infix hp
  rw [show Str.join sp2 (Txt.split x sp2) = x from StrLaws.join_split ..] at e
  rw [← co_len]
  exact h s (co p) t e (split_noat x p hp)
theorem join_count : ∀ (ws : List Str), ws.length ≤ (co (Str.join sp2 ws)).count 59 + 1
  | [] => Nat.zero_le _
  | [a] => by simp
  | a :: b :: r => by
    have h := join_count (b :: r)
    rw [co_joinS, List.count_append, List.count_append, show (co sp2).count 59 = 1 from by decide]
    simp only [List.length_cons] at h ⊢
    omega
theorem split_count (x : Str) : (Txt.split x sp2).length ≤ (co x).count 59 + 1 := by
  have h := join_count (Txt.split x sp2)
  rw [show Str.join sp2 (Txt.split x sp2) = x from StrLaws.join_split ..] at h
  exact h
theorem free_count : ∀ {ws : List Str}, (∀ p ∈ ws, 59 ∉ co p) → (co (Str.join sp2 ws)).count 59 ≤ ws.length
  | [], _ => by
    rw [show co (Str.join sp2 []) = [] from rfl]
    simp
  | [a], h => by
    show (co a).count 59 ≤ _
    rw [List.count_eq_zero_of_not_mem (h a List.mem_cons_self)]
    exact Nat.zero_le _
  | a :: b :: r, h => by
    have h1 := free_count (ws := b :: r) fun p hp => h p (List.mem_cons_of_mem _ hp)
    rw [co_joinS, List.count_append, List.count_append, show (co sp2).count 59 = 1 from by decide, List.count_eq_zero_of_not_mem (h a List.mem_cons_self)]
    simp only [List.length_cons] at h1 ⊢
    omega
theorem join_lenM {M : Nat} : ∀ {ws : List Str}, (∀ p ∈ ws, p.length ≤ M) → (Str.join sp2 ws).length ≤ ws.length * (M + 2)
  | [], _ => Nat.zero_le _
  | [a], h => by
    have h1 := h a List.mem_cons_self
    show a.length ≤ _
    simp
    omega
  | a :: b :: r, h => by
    have h0 := h a List.mem_cons_self
    have h1 := join_lenM (ws := b :: r) fun p hp => h p (List.mem_cons_of_mem _ hp)
    have e := congrArg List.length (co_joinS sp2 a b r)
    simp only [List.length_append, co_len, show sp2.length = 2 from rfl] at e
    rw [e]
    simp only [List.length_cons] at h1 ⊢
    rw [Nat.succ_mul]
    omega
theorem parts_sp (x : Str) : PARTS x = Txt.split x sp2 := rfl
theorem parts_ok {ws : List Str} {x : Str} (ne : ws ≠ []) (h59 : ∀ p ∈ ws, 59 ∉ co p) (hl : ∀ p ∈ ws, p.length ≤ 100) (n : ws.length ≤ 48) (hx : co x = co (Str.join sp2 ws)) : PARTS x = ws ∧ (x.length ≤ 5000 ∧ (PARTS x).length ≤ 60 ∧ ∀ p ∈ PARTS x, p.length ≤ 900) := by
  have e : PARTS x = ws := split2_join ne h59 hx
  refine ⟨e, ?_, ?_, ?_⟩
  · have h1 := join_lenM hl
    have h2 : ws.length * 102 ≤ 48 * 102 := Nat.mul_le_mul_right _ n
    rw [← co_len, hx, co_len]
    omega
  · rw [e]
    omega
  · rw [e]
    exact fun p hp => Nat.le_trans (hl p hp) (by decide)
theorem rb_wrong {H : Hp} {gs : List Gm} {x : Str} (ok : ∀ g ∈ gs, GO g) (n : gs.length ≤ 48) (h : Wrong gs x) : RB H (.str x) true := by
  have hp := wrong_all ok h
  obtain ⟨A, B, m, nA, nB, rfl, hm, rfl⟩ := h
  have oA : ∀ g ∈ A, GO g := fun g hg => ok g (List.mem_append_left _ hg)
  have oB : ∀ g ∈ B, GO g := fun g hg => ok g (List.mem_append_right _ hg)
  have hx : co (Str.join sp2 (A.map wrG) ++ m ++ Str.join sp2 (B.map wrG)) = co (Str.join sp2 (A.map wrG)) ++ (co m ++ co (Str.join sp2 (B.map wrG))) := by rw [co_app, co_app, List.append_assoc]
  generalize Str.join sp2 (A.map wrG) ++ m ++ Str.join sp2 (B.map wrG) = x at hx hp
  have mf : ∀ m ∈ mks, 1 ≤ m.length ∧ m.length ≤ 4 ∧ (co m).count 59 ≤ 2 := by decide +kernel
  obtain ⟨m1, m4, m2⟩ := mf m hm
  have kl : ∀ {gs : List Gm}, (∀ g ∈ gs, GO g) → ∀ p ∈ gs.map wrG, p.length ≤ 40 := fun ok p hp => by
    obtain ⟨g, hg, rfl⟩ := List.mem_map.mp hp
    exact wr_len2 (ok g hg)
  have lA := join_lenM (kl oA)
  have lB := join_lenM (kl oB)
  have cA := free_count (free59 oA)
  have cB := free_count (free59 oB)
  have ln := List.length_append (as := A) (bs := B)
  rw [List.length_map] at lA lB cA cB
  have hl : x.length = (Str.join sp2 (A.map wrG)).length + (m.length + (Str.join sp2 (B.map wrG)).length) := by
    have := congrArg List.length hx
    simpa only [List.length_append, co_len] using this
  refine .part x ⟨?_, ?_, fun p hp => ?_⟩ (fun e => ?_) hp
  · omega
  · have h1 := split_count x
    rw [hx, List.count_append, List.count_append] at h1
    rw [parts_sp]
    omega
  · have w := win_app (win_join (kl oA)) (win_app (win_any (co m)) (win_join (kl oB)))
    rw [← hx] at w
    have := part_len w p hp
    rw [co_len] at this
    omega
  · rw [e, show (Str.ofString "").length = 0 from by decide +kernel] at hl
    omega
theorem join_mark {u : Str} : ∀ {A B : List Str}, co (Str.join sp2 (A ++ (u ++ Str.ofString "; ") :: B)) = co (Str.join sp2 (A ++ u :: Str.ofString "" :: B)) := fun {A B} => by
  have e1 : co (u ++ Str.ofString "; ") = co u ++ [59, 32] := by rw [co_app, show co (Str.ofString "; ") = [59, 32] from by decide +kernel]
  have e0 : co (Str.ofString "") = [] := by decide +kernel
  have key : co (Str.join sp2 ((u ++ Str.ofString "; ") :: B)) = co (Str.join sp2 (u :: Str.ofString "" :: B)) := by
    match B with
    | [] =>
      rw [co_joinS]
      show co (u ++ Str.ofString "; ") = co u ++ ([59, 32] ++ co (Str.ofString ""))
      rw [e1, e0]
      rfl
    | b :: B =>
      rw [co_joinS, co_joinS, co_joinS, e1, e0]
      show co u ++ [59, 32] ++ _ = co u ++ ([59, 32] ++ _)
      simp
  match A with
  | [] => exact key
  | a :: A =>
    rw [join_two (A := a :: A) (by simp) (by simp), join_two (A := a :: A) (B := u :: Str.ofString "" :: B) (by simp) (by simp), key]
theorem parts_e : PARTS (Str.ofString "") = [Str.ofString ""] := by decide +kernel
theorem wr_len3 {gs : List Gm} (ok : ∀ g ∈ gs, GO g) : ∀ p ∈ gs.map wrG, p.length ≤ 100 := fun p hp => by
  obtain ⟨g, hg, rfl⟩ := List.mem_map.mp hp
  have := wr_len2 (ok g hg)
  omega
theorem rb_spoil {H : Hp} {A B : List Gm} {g : Gm} {x y : Str} (oA : ∀ g ∈ A, GO g) (oB : ∀ g ∈ B, GO g) (og : GO g) (n : A.length + B.length ≤ 45) (sp : Spo g y) (hx : co x = co (Str.join sp2 (A.map wrG ++ y :: B.map wrG))) (ne : A.map wrG ++ y :: B.map wrG ≠ [Str.ofString ""]) : RB H (.str x) true := by
  obtain ⟨⟨ly, _⟩, ⟨f, r⟩ | rfl⟩ := sp
  · have h1 : ∀ p ∈ A.map wrG ++ y :: B.map wrG, 59 ∉ co p := fun p hp => by
      rcases List.mem_append.mp hp with hp | hp
      · exact free59 oA p hp
      · rcases List.mem_cons.mp hp with rfl | hp
        · exact f
        · exact free59 oB p hp
    have h2 : ∀ p ∈ A.map wrG ++ y :: B.map wrG, p.length ≤ 100 := fun p hp => by
      rcases List.mem_append.mp hp with hp | hp
      · exact wr_len3 oA p hp
      · rcases List.mem_cons.mp hp with rfl | hp
        · exact ly
        · exact wr_len3 oB p hp
    obtain ⟨e, hl⟩ := parts_ok (x := x) (by simp) h1 h2 (by rw [List.length_append, List.length_cons, List.length_map, List.length_map]; omega) hx
    exact .part x hl (fun z => ne (by rw [← e, z, parts_e])) ⟨y, by rw [e]; simp, r⟩
  · rw [join_mark] at hx
    have h1 : ∀ p ∈ A.map wrG ++ wrG g :: Str.ofString "" :: B.map wrG, 59 ∉ co p := fun p hp => by
      rcases List.mem_append.mp hp with hp | hp
      · exact free59 oA p hp
      · rcases List.mem_cons.mp hp with rfl | hp
        · exact f59 og
        · rcases List.mem_cons.mp hp with rfl | hp
          · decide +kernel
          · exact free59 oB p hp
    have h2 : ∀ p ∈ A.map wrG ++ wrG g :: Str.ofString "" :: B.map wrG, p.length ≤ 100 := fun p hp => by
      rcases List.mem_append.mp hp with hp | hp
      · exact wr_len3 oA p hp
      · rcases List.mem_cons.mp hp with rfl | hp
        · exact Nat.le_trans (wr_len2 og) (by decide)
        · rcases List.mem_cons.mp hp with rfl | hp
          · decide +kernel
          · exact wr_len3 oB p hp
    obtain ⟨e, hl⟩ := parts_ok (x := x) (by simp) h1 h2 (by rw [List.length_append, List.length_cons, List.length_cons, List.length_map, List.length_map]; omega) hx
    refine .part x hl (fun z => ?_) ⟨Str.ofString "", by rw [e]; simp, rd_empty⟩
    have := congrArg List.length e
    rw [z, parts_e] at this
    simp at this
    omega
theorem rd_gs : ∀ {gs : List Gm}, (∀ g ∈ gs, GO g) → (gs.map wrG).map rd = gs.map (fun g => some (gmV g))
  | [], _ => rfl
  | g :: gs, h => by
    rw [List.map_cons, List.map_cons, List.map_cons, rd_wrG (h g List.mem_cons_self), rd_gs fun x hx => h x (List.mem_cons_of_mem _ hx)]
theorem book_parts {gs : List Gm} (ok : ∀ g ∈ gs, GO g) (n : gs.length ≤ 48) (h0 : gs ≠ []) : PARTS (Str.join sp2 (gs.map wrG)) = gs.map wrG ∧ ((Str.join sp2 (gs.map wrG)).length ≤ 5000 ∧ (PARTS (Str.join sp2 (gs.map wrG))).length ≤ 60 ∧ ∀ p ∈ PARTS (Str.join sp2 (gs.map wrG)), p.length ≤ 900) ∧ Str.join sp2 (gs.map wrG) ≠ Str.ofString "" := by
  obtain ⟨e, hl⟩ := parts_ok (ws := gs.map wrG) (x := Str.join sp2 (gs.map wrG)) (by simpa using h0) (free59 ok) (wr_len3 ok) (by simpa using n) rfl
  refine ⟨e, hl, fun z => ?_⟩
  rw [z, parts_e] at e
  obtain ⟨g, gs', rfl⟩ := List.exists_cons_of_ne_nil h0
  have e2 := List.head_eq_of_cons_eq e
  have := rd_wrG (ok g List.mem_cons_self)
  rw [← e2, rd_empty] at this
  cases this
theorem rb_size {H : Hp} {gs : List Gm} (ok : ∀ g ∈ gs, GO g) (n : gs.length ≤ 48) (p60 : (plr gs).length < 60) (bad : ¬ (gs.length ≤ 40 ∧ (plr gs).length ≤ 8)) : RB H (.str (Str.join sp2 (gs.map wrG))) false := by
  obtain ⟨e, hl, ne⟩ := book_parts ok n fun z => bad (by rw [z]; decide +kernel)
  exact .size _ gs hl ne (by rw [e]; exact rd_gs ok) p60 bad
theorem read_good {K : PySem.W.Frag} {ns : List Int} {H : Hp} {gs : List Gm} {Q : VK} {E : XK} (ok : ∀ g ∈ gs, GO g) (n : gs.length ≤ 40) (p8 : (plr gs).length ≤ 8) (k : ∀ D vs H', Same H H' → H D = none → H' D = some (.lst vs) → All2 (GmAt H') vs gs → Q (.ref D) H') : sp_read_book K ns [.str (Str.join sp2 (gs.map wrG))] H Q E := by
  by_cases h0 : gs = []
  · subst h0
    have e : Str.join sp2 (([] : List Gm).map wrG) = Str.ofString "" := by decide +kernel
    rw [e]
    refine .inr ⟨_, rfl, by rw [parts_e]; decide +kernel, fun _ D H' s n e => k D [] H' s n e .nil, fun h => absurd rfl h, fun h => absurd rfl h, .inl ⟨_, by rw [parts_e]; exact List.mem_singleton.mpr rfl, rd_empty⟩⟩
  · obtain ⟨e, hl, ne⟩ := book_parts ok (by omega) h0
    refine .inr ⟨_, rfl, hl, fun z => absurd z ne, fun _ hp => (no_both hp (by rw [e]; exact rd_gs ok)).elim, fun _ gs' hg => ?_, .inr ⟨gs, by rw [e]; exact rd_gs ok⟩⟩
    rw [e, rd_gs ok] at hg
    obtain rfl := gs_uniq hg
    exact ⟨by omega, fun _ D vs H' s n e a => k D vs H' s n e a, fun bad => absurd ⟨n, p8⟩ bad⟩
theorem plr_10 {nm : List Str} {gs : List Gm} (h : ∀ g ∈ gs, g.a ∈ nm ∧ g.b ∈ nm) : (plr gs).length ≤ nm.length := nd_len (inc_nodup (inc_srt _)) fun _ hx => plr_sub h hx
theorem set_mid {gs : List Gm} {j : Nat} {g : Gm} (h : gs[j]? = some g) (y : Str) : ((gs.map wrG).map V.str).set j (.str y) = ((gs.take j).map wrG ++ y :: (gs.drop (j + 1)).map wrG).map V.str := by
  obtain ⟨hlt, _⟩ := List.getElem?_eq_some_iff.mp h
  rw [List.set_eq_take_append_cons_drop, if_pos (by rw [List.length_map, List.length_map]; exact hlt)]
  simp [List.map_take, List.map_drop]
theorem set_back {gs : List Gm} {j : Nat} {g : Gm} (h : gs[j]? = some g) (y : Str) : (((gs.map wrG).map V.str).set j (.str y)).set j (.str (wrG g)) = (gs.map wrG).map V.str := by
  rw [List.set_set]
  obtain ⟨hlt, e⟩ := List.getElem?_eq_some_iff.mp h
  apply List.ext_getElem?
  intro i
  rw [List.getElem?_set]
  split
  · rename_i e1
    subst e1
    rw [if_pos (by rw [List.length_map, List.length_map]; exact hlt), List.getElem?_map, List.getElem?_map, h]
    rfl
  · rfl
def bTF : PyData := .list [.bool true, .bool false]
def bFT : PyData := .list [.bool false, .bool true]
theorem rp_b2 {K : PySem.W.Frag} {H : Hp} {D : Addr} {b c : Bool} (e : H D = some (.lst [.bl b, .bl c])) : Rp K H (.ref D) (.list [.bool b, .bool c]) := .lst (SqL.of e) (.cons (.bl b) (.cons (.bl c) .nil))
theorem spo_ok {g : Gm} {y : Str} (h : Spo g y) : PyData.strOk y = true := ok_of fun c hc => Nat.lt_trans (h.1.2 c hc) (by decide)
theorem wr_ok {g : Gm} (o : GO g) : PyData.strOk (wrG g) = true := ok_of fun c hc => Nat.lt_trans (asc o c hc) (by decide)
theorem sumj {ws : List Str} {n : Nat} (h : ∀ p ∈ ws, p.length ≤ 100) (hn : ws.length ≤ 100) : (ws.map (·.length)).sum + ws.length * (Str.ofString "; ").length ≤ 16777216 := by
  have key : ∀ l : List Str, (∀ p ∈ l, p.length ≤ 100) → (l.map (·.length)).sum ≤ l.length * 100 := fun l => by
    induction l with
    | nil => exact fun _ => Nat.zero_le _
    | cons a r ih =>
      intro h
      have h1 := h a List.mem_cons_self
      have h2 := ih fun p hp => h p (List.mem_cons_of_mem _ hp)
      simp only [List.map_cons, List.sum_cons, List.length_cons]
      omega
  have := key ws h
  rw [show (Str.ofString "; ").length = 2 from by decide +kernel]
  omega
theorem rb_via {K : PySem.W.Frag} {ns : List Int} {σ : L2.St} {H : Hp} {Q : VK} {i : Nat} {x : Str} (hσ : σ[i]? = some (some (.str x))) (h : sp_read_book K ns [.str x] H Q E0) : dCall (sp_read_book K ns) (tCons (dVar i) tNil) σ H Q := by
  show dVar i σ H fun y H1 => sp_read_book K ns [y] H1 Q E0
  unfold dVar
  rw [hσ]
  exact h
theorem rb_via2 {K : PySem.W.Frag} {ns : List Int} {σ : L2.St} {H : Hp} {Q : VK} {i j : Nat} {x : Str} {sp : Sp} {tb : TE} {v : V} (hσ : σ[i]? = some (some (.str x))) (hj : σ[j]? = some (some v)) (h : sp_read_book K ns [.str x] H (fun y H1 => sp [y, v] H1 (fun b H2 => match b with | .bl c => Br c (tb σ H2 Q) (Q (.bl false) H2) | _ => False) E0) E0) : dAndV (dCall sp (tCons (dCall (sp_read_book K ns) (tCons (dVar i) tNil)) (tCons (dVar j) tNil))) tb σ H Q := by
  show dVar i σ H fun y H1 => sp_read_book K ns [y] H1 (fun y H1 => dVar j σ H1 fun z H2 => sp [y, z] H2 (fun b H2 => match b with | .bl c => Br c (tb σ H2 Q) (Q (.bl false) H2) | _ => False) E0) E0
  unfold dVar
  rw [hσ, hj]
  exact h
theorem sc_law : FnScope ["_law_script", "_law_count", "_law_many", "_law_kind", "_law_names_here", "_law_games", "_law_parts", "_law_base", "_law_at", "_law_text", "_law_there", "_law_found"] ["_law_script"] (defScope s_law) := ⟨rfl, rfl, rfl, by decide +kernel, rfl, by decide +kernel, by decide +kernel⟩
theorem ok_law (d : Dfn K mg "law" s_law ["_law_script"]) (er : Errs K mg c_LadderError c_NoBook c_NoFit c_NoGame c_NoNumber c_NoPlayer c_NoRow c_NoStretch c_NoTable c_NoTree c_NoWorth) (n_list : mg "list" = none) (n_len : mg "len" = none) (n_set : mg "set" = none) (n_range : mg "range" = none)  (c_show_book : Cal P w K mg base "show_book" ["games"] 3 (sp_show_book K ns)) (c_l_right : Cal P w K mg base "_law_right" ["_law_found", "_law_games"] 1 (sp_l_right K ns)) (c_read_book : Cal P w K mg base "read_book" ["text"] 5 (sp_read_book K ns)) (c_l_caught : Cal P w K mg base "_law_caught" ["_law_text", "_law_base"] 6 (sp_l_caught K ns)) (c_l_draw : Cal P w K mg base "_law_draw" ["_law_script", "_law_k", "_law_many"] 2 (sp_l_draw K ns)) (c_l_joined : Cal P w K mg base "_law_joined" ["_law_script", "_law_parts"] 3 (sp_l_joined K ns)) (c_l_written : Cal P w K mg base "_law_written" ["_law_played"] 1 (sp_l_written K ns)) (c_l_spoiled : Cal P w K mg base "_law_spoiled" ["_law_script", "_law_part"] 3 (sp_l_spoiled K ns)) (c_l_game : Cal P w K mg base "_law_game" ["_law_script", "_law_k", "_law_names_here"] 3 (sp_l_game K ns)) (c_l_names : Cal P w K mg base "_law_names" ["_law_script", "_law_many"] 3 (sp_l_names K ns)) : Cal P w K mg base "law" ["_law_script"] 7 (sp_law K ns) := by
  refine d.cal (k := 6) sc_law (fun vs H Q E h => ?_) (fun f cdv A outer s H vs Q E hr h => ?_)
  · match vs, h with
    | [.ref a], _ => rfl
  · match vs, h with
    | [.ref a], hq0 =>
      obtain ⟨hS, hl, k⟩ := hq0
      refine ⟨_, (@pss_cons _ _ _ _ _ (@ps_set _ _ (1) _ _ _ _ sc_law.nd rfl (by first | exact Or.inl rfl | exact Or.inr rfl) (@pe_op _ _ _ _ _ _ _ _ o_add pe_int (@e_call _ _ _ _ _ _ _ _ _ _ _ c_l_draw hr (by decide) (by rfl) (@pa_cons _ _ _ _ _ (dv 0) (@pa_cons _ _ _ _ _ pe_int (@pa_cons _ _ _ _ _ pe_int pa_nil (by rfl)) (by rfl)) (by rfl)) (by decide) (by rfl) (by rfl))) (by rfl) (by first | exact .inl rfl | exact .inr rfl | assumption)) (@pss_cons _ _ _ _ _ (@ps_set _ _ (2) _ _ _ _ sc_law.nd rfl (by first | exact Or.inl rfl | exact Or.inr rfl) (@e_call _ _ _ _ _ _ _ _ _ _ _ c_l_draw hr (by decide) (by rfl) (@pa_cons _ _ _ _ _ (dv 0) (@pa_cons _ _ _ _ _ pe_int (@pa_cons _ _ _ _ _ pe_int pa_nil (by rfl)) (by rfl)) (by rfl)) (by decide) (by rfl) (by rfl)) (by rfl) (by first | exact .inl rfl | exact .inr rfl | assumption)) (@pss_cons _ _ _ _ _ (@ps_set _ _ (3) _ _ _ _ sc_law.nd rfl (by first | exact Or.inl rfl | exact Or.inr rfl) (@e_call _ _ _ _ _ _ _ _ _ _ _ c_l_draw hr (by decide) (by rfl) (@pa_cons _ _ _ _ _ (dv 0) (@pa_cons _ _ _ _ _ pe_int (@pa_cons _ _ _ _ _ pe_int pa_nil (by rfl)) (by rfl)) (by rfl)) (by decide) (by rfl) (by rfl)) (by rfl) (by first | exact .inl rfl | exact .inr rfl | assumption)) (@ss_cutE _ _ _ _ _ (@s_if _ _ _ _ _ _ _ _ (@t_cmp _ _ _ _ _ _ _ _ o_lt (dv 3) pe_int (@nomark _ _ (by decide) (by decide))) (@pss_one _ _ _ (@ps_set _ _ (2) _ _ _ _ sc_law.nd rfl (by first | exact Or.inl rfl | exact Or.inr rfl) (@pe_op _ _ _ _ _ _ _ _ o_add pe_int (@e_call _ _ _ _ _ _ _ _ _ _ _ c_l_draw hr (by decide) (by rfl) (@pa_cons _ _ _ _ _ (dv 0) (@pa_cons _ _ _ _ _ pe_int (@pa_cons _ _ _ _ _ pe_int pa_nil (by rfl)) (by rfl)) (by rfl)) (by decide) (by rfl) (by rfl))) (by rfl) (by first | exact .inl rfl | exact .inr rfl | assumption))) pss_nil) (@ss_cutE _ _ _ _ _ (@s_if _ _ _ _ _ _ _ _ (@t_cmp _ _ _ _ _ _ _ _ o_in (dv 3) (@e_tup _ _ _ _ _ (@pa_cons _ _ _ _ _ pe_int (@pa_cons _ _ _ _ _ pe_int (@pa_cons _ _ _ _ _ pe_int pa_nil (by rfl)) (by rfl)) (by rfl))) (by with_unfolding_all rfl)) (@pss_one _ _ _ (@ps_set _ _ (1) _ _ _ _ sc_law.nd rfl (by first | exact Or.inl rfl | exact Or.inr rfl) (@pe_op _ _ _ _ _ _ _ _ o_add pe_int (@pe_op _ _ _ _ _ _ _ _ o_mod (dv 3) pe_int)) (by rfl) (by first | exact .inl rfl | exact .inr rfl | assumption))) pss_nil) (@pss_cons _ _ _ _ _ (@ps_set _ _ (4) _ _ _ _ sc_law.nd rfl (by first | exact Or.inl rfl | exact Or.inr rfl) (@e_call _ _ _ _ _ _ _ _ _ _ _ c_l_names hr (by decide) (by rfl) (@pa_cons _ _ _ _ _ (dv 0) (@pa_cons _ _ _ _ _ (dv 1) pa_nil (by rfl)) (by rfl)) (by decide) (by rfl) (by rfl)) (by rfl) (by first | exact .inl rfl | exact .inr rfl | assumption)) (@pss_cons _ _ _ _ _ (@ps_compN _ _ _ _ _ _ _ _ (5) _ _ _ _ _ ["_law_k"] ["_law_script", "_law_names_here"] [0, 4] rfl (@pi_range1 _ _ _ _ _ _ (by rfl) n_range (@pa_cons _ _ _ _ _ (dv 2) pa_nil (by rfl)) (by rfl)) (fun C s H fp => (@pg_name _ _ (0) _ (show List.Nodup [("_law_k" : Str), ("_law_script" : Str), ("_law_names_here" : Str)] by decide +kernel) rfl (by first | exact Or.inl rfl | exact Or.inr rfl) (by first | exact .inl rfl | exact .inr rfl | assumption))) (fun C s H fp => (@e_call _ _ _ _ _ _ _ _ _ _ _ c_l_game hr (by decide) (by rfl) (@pa_cons _ _ _ _ _ (dv 1) (@pa_cons _ _ _ _ _ (dv 0) (@pa_cons _ _ _ _ _ (dv 2) pa_nil (by rfl)) (by rfl)) (by rfl)) (by decide) (by rfl) (by rfl))) rfl rfl (by decide +kernel) (by decide +kernel) (by rfl) ⟨rfl, ⟨rfl, True.intro⟩⟩ ⟨⟨rfl, rfl, rfl, rfl⟩, ⟨⟨rfl, rfl, rfl, rfl⟩, True.intro⟩⟩ sc_law.nd rfl rfl (by intro _; rfl) (by rfl)) (@pss_cons _ _ _ _ _ (@ps_compN _ _ _ _ _ _ _ _ (6) _ _ _ _ _ ["_law_played"] [] [] rfl (@pi_list _ _ _ _ (dv 5)) (fun C s H fp => (@pg_name _ _ (0) _ (show List.Nodup [("_law_played" : Str)] by decide +kernel) rfl (by first | exact Or.inl rfl | exact Or.inr rfl) (by first | exact .inl rfl | exact .inr rfl | assumption))) (fun C s H fp => (@e_call _ _ _ _ _ _ _ _ _ _ _ c_l_written hr (by decide) (by rfl) (@pa_cons _ _ _ _ _ (dv 0) pa_nil (by rfl)) (by decide) (by rfl) (by rfl))) rfl rfl (by decide +kernel) (by decide +kernel) (by rfl) True.intro True.intro sc_law.nd rfl rfl (by intro _; rfl) (by rfl)) (@pss_cons _ _ _ _ _ (@ps_set _ _ (7) _ _ _ _ sc_law.nd rfl (by first | exact Or.inl rfl | exact Or.inr rfl) (@pe_cmpR _ _ _ _ _ _ _ _ o_eq (@e_call _ _ _ _ _ _ _ _ _ _ _ c_l_draw hr (by decide) (by rfl) (@pa_cons _ _ _ _ _ (dv 0) (@pa_cons _ _ _ _ _ pe_int (@pa_cons _ _ _ _ _ pe_int pa_nil (by rfl)) (by rfl)) (by rfl)) (by decide) (by rfl) (by rfl)) pe_int (@nomark _ _ (by decide) (by decide))) (by rfl) (by first | exact .inl rfl | exact .inr rfl | assumption)) (@pss_cons _ _ _ _ _ (@s_if _ _ _ _ _ _ _ _ (@t_cmp _ _ _ _ _ _ _ _ (@o_neD _ hr.units) (@e_call _ _ _ _ _ _ _ _ _ _ _ c_l_caught hr (by decide) (by rfl) (@pa_cons _ _ _ _ _ (@pe_ix _ _ _ _ _ _ _ i_lst (@e_lst _ _ _ _ (@pa_cons _ _ _ _ _ pe_non (@pa_cons _ _ _ _ _ pe_int (@pa_cons _ _ _ _ _ pe_bl (@pa_cons _ _ _ _ _ (dv 6) (@pa_cons _ _ _ _ _ (@e_lst _ _ _ _ (@pa_cons _ _ _ _ _ pe_str pa_nil (by rfl))) (@pa_cons _ _ _ _ _ (@e_tup _ _ _ _ _ pa_nil) pa_nil (by rfl)) (by rfl)) (by rfl)) (by rfl)) (by rfl)) (by rfl))) (@e_call _ _ _ _ _ _ _ _ _ _ _ c_l_draw hr (by decide) (by rfl) (@pa_cons _ _ _ _ _ (dv 0) (@pa_cons _ _ _ _ _ pe_int (@pa_cons _ _ _ _ _ pe_int pa_nil (by rfl)) (by rfl)) (by rfl)) (by decide) (by rfl) (by rfl)) (fun _ _ => rfl)) (@pa_cons _ _ _ _ _ (dv 7) pa_nil (by rfl)) (by rfl)) (by decide) (by rfl) (by rfl)) (@e_lst _ _ _ _ (@pa_cons _ _ _ _ _ pe_bl (@pa_cons _ _ _ _ _ pe_bl pa_nil (by rfl)) (by rfl))) (@nomark _ _ (by decide) (by decide))) (@pss_one _ _ _ (@ps_ret _ _ _ _ pe_bl)) pss_nil) (@ss_cutE _ _ _ _ _ (@s_if _ _ _ _ _ _ _ _ (@L2.PW.pt _ _ _ (@w_and _ _ _ _ _ _ _ (@t_cmp _ _ _ _ _ _ _ _ o_eq (@e_call _ _ _ _ _ _ _ _ _ _ _ c_l_draw hr (by decide) (by rfl) (@pa_cons _ _ _ _ _ (dv 0) (@pa_cons _ _ _ _ _ pe_int (@pa_cons _ _ _ _ _ pe_int pa_nil (by rfl)) (by rfl)) (by rfl)) (by decide) (by rfl) (by rfl)) pe_int (@nomark _ _ (by decide) (by decide))) (@pw_and1 _ _ _ _ (@t_cmp _ _ _ _ _ _ _ _ o_gt (dv 2) pe_int (@nomark _ _ (by decide) (by decide)))))) (@pss_cons _ _ _ _ _ (@ps_set _ _ (8) _ _ _ _ sc_law.nd rfl (by first | exact Or.inl rfl | exact Or.inr rfl) (@e_call _ _ _ _ _ _ _ _ _ _ _ c_l_draw hr (by decide) (by rfl) (@pa_cons _ _ _ _ _ (dv 0) (@pa_cons _ _ _ _ _ pe_int (@pa_cons _ _ _ _ _ (dv 2) pa_nil (by rfl)) (by rfl)) (by rfl)) (by decide) (by rfl) (by rfl)) (by rfl) (by first | exact .inl rfl | exact .inr rfl | assumption)) (@pss_cons _ _ _ _ _ (@ps_asg _ _ _ _ _ _ (@e_call _ _ _ _ _ _ _ _ _ _ _ c_l_spoiled hr (by decide) (by rfl) (@pa_cons _ _ _ _ _ (dv 0) (@pa_cons _ _ _ _ _ (@pe_ix _ _ _ _ _ _ _ i_lst (dv 6) (dv 8) (fun _ _ => rfl)) pa_nil (by rfl)) (by rfl)) (by decide) (by rfl) (by rfl)) (@pg_sub _ _ _ _ _ _ _ (dv 6) (dv 8) set_list (by intro _; rfl)) (by rfl) (by rfl) (by rfl)) (@ss_cutE _ _ _ _ _ (@s_if _ _ _ _ _ _ _ _ (@L2.PW.pt _ _ _ (@w_and _ _ _ _ _ _ _ (@t_cmp _ _ _ _ _ _ _ _ (@o_neD _ hr.units) (dv 6) (@e_lst _ _ _ _ (@pa_cons _ _ _ _ _ pe_str pa_nil (by rfl))) (@nomark _ _ (by decide) (by decide))) (@pw_and1 _ _ _ _ (@t_cmp _ _ _ _ _ _ _ _ (@o_neD _ hr.units) (@e_call _ _ _ _ _ _ _ _ _ _ _ c_l_caught hr (by decide) (by rfl) (@pa_cons _ _ _ _ _ (@e_join _ _ _ _ _ ("join") _ _ pe_str (@pa_cons _ _ _ _ _ (dv 6) pa_nil (by rfl)) (by rfl) (by rfl) (by rfl) (by rfl) (by rfl)) (@pa_cons _ _ _ _ _ (dv 7) pa_nil (by rfl)) (by rfl)) (by decide) (by rfl) (by rfl)) (@e_lst _ _ _ _ (@pa_cons _ _ _ _ _ pe_bl (@pa_cons _ _ _ _ _ pe_bl pa_nil (by rfl)) (by rfl))) (@nomark _ _ (by decide) (by decide)))))) (@pss_one _ _ _ (@ps_ret _ _ _ _ pe_bl)) pss_nil) (@pss_cons _ _ _ _ _ (@ps_asg _ _ _ _ _ _ (@e_call _ _ _ _ _ _ _ _ _ _ _ c_l_written hr (by decide) (by rfl) (@pa_cons _ _ _ _ _ (@pe_ix _ _ _ _ _ _ _ i_lst (dv 5) (dv 8) (fun _ _ => rfl)) pa_nil (by rfl)) (by decide) (by rfl) (by rfl)) (@pg_sub _ _ _ _ _ _ _ (dv 6) (dv 8) set_list (by intro _; rfl)) (by rfl) (by rfl) (by rfl)) (@pss_one _ _ _ (@s_if _ _ _ _ _ _ _ _ (@L2.PW.pt _ _ _ (@w_and _ _ _ _ _ _ _ (@t_cmp _ _ _ _ _ _ _ _ o_gt (dv 2) pe_int (@nomark _ _ (by decide) (by decide))) (@pw_and1 _ _ _ _ (@t_cmp _ _ _ _ _ _ _ _ (@o_neD _ hr.units) (@e_call _ _ _ _ _ _ _ _ _ _ _ c_l_caught hr (by decide) (by rfl) (@pa_cons _ _ _ _ _ (@e_call _ _ _ _ _ _ _ _ _ _ _ c_l_joined hr (by decide) (by rfl) (@pa_cons _ _ _ _ _ (dv 0) (@pa_cons _ _ _ _ _ (dv 6) pa_nil (by rfl)) (by rfl)) (by decide) (by rfl) (by rfl)) (@pa_cons _ _ _ _ _ (dv 7) pa_nil (by rfl)) (by rfl)) (by decide) (by rfl) (by rfl)) (@e_lst _ _ _ _ (@pa_cons _ _ _ _ _ pe_bl (@pa_cons _ _ _ _ _ pe_bl pa_nil (by rfl)) (by rfl))) (@nomark _ _ (by decide) (by decide)))))) (@pss_one _ _ _ (@ps_ret _ _ _ _ pe_bl)) pss_nil)))))) pss_nil) (@pss_cons _ _ _ _ _ (@ps_set _ _ (9) _ _ _ _ sc_law.nd rfl (by first | exact Or.inl rfl | exact Or.inr rfl) (@e_join _ _ _ _ _ ("join") _ _ pe_str (@pa_cons _ _ _ _ _ (dv 6) pa_nil (by rfl)) (by rfl) (by rfl) (by rfl) (by rfl) (by rfl)) (by rfl) (by first | exact .inl rfl | exact .inr rfl | assumption)) (@pss_cons _ _ _ _ _ (@ps_set _ _ (10) _ _ _ _ sc_law.nd rfl (by first | exact Or.inl rfl | exact Or.inr rfl) (@pe_op _ _ _ _ _ _ _ _ o_catL (@e_compN _ _ _ _ _ _ _ _ _ _ ["_law_played"] [] [] rfl (@pi_list _ _ _ _ (dv 5)) (fun C s H fp => (@pg_name _ _ (0) _ (show List.Nodup [("_law_played" : Str)] by decide +kernel) rfl (by first | exact Or.inl rfl | exact Or.inr rfl) (by first | exact .inl rfl | exact .inr rfl | assumption))) (fun C s H fp => (@pe_ix _ _ _ _ _ _ _ i_tup (dv 0) pe_int (fun _ _ => rfl))) rfl rfl (by decide +kernel) (by decide +kernel) (by rfl) True.intro True.intro (by intro _; rfl)) (@e_compN _ _ _ _ _ _ _ _ _ _ ["_law_played"] [] [] rfl (@pi_list _ _ _ _ (dv 5)) (fun C s H fp => (@pg_name _ _ (0) _ (show List.Nodup [("_law_played" : Str)] by decide +kernel) rfl (by first | exact Or.inl rfl | exact Or.inr rfl) (by first | exact .inl rfl | exact .inr rfl | assumption))) (fun C s H fp => (@pe_ix _ _ _ _ _ _ _ i_tup (dv 0) pe_int (fun _ _ => rfl))) rfl rfl (by decide +kernel) (by decide +kernel) (by rfl) True.intro True.intro (by intro _; rfl))) (by rfl) (by first | exact .inl rfl | exact .inr rfl | assumption)) (@pss_cons _ _ _ _ _ (@s_if _ _ _ _ _ _ _ _ (@L2.PW.pt _ _ _ (@w_or _ _ _ _ _ _ _ (@t_cmp _ _ _ _ _ _ _ _ o_gt (dv 2) pe_int (@nomark _ _ (by decide) (by decide))) (@pw_or1 _ _ _ _ (@t_cmp _ _ _ _ _ _ _ _ o_gt (@e_lset _ _ _ _ _ _ _ (by rfl) n_len (by rfl) n_set (dv 10) (by rfl) (by rfl) (by rfl)) pe_int (@nomark _ _ (by decide) (by decide)))))) (@pss_one _ _ _ (@ps_ret _ _ _ _ (@pe_cmpR _ _ _ _ _ _ _ _ (@o_eqD _ hr.units) (@e_call _ _ _ _ _ _ _ _ _ _ _ c_l_caught hr (by decide) (by rfl) (@pa_cons _ _ _ _ _ (dv 9) (@pa_cons _ _ _ _ _ (dv 7) pa_nil (by rfl)) (by rfl)) (by decide) (by rfl) (by rfl)) (@e_lst _ _ _ _ (@pa_cons _ _ _ _ _ pe_bl (@pa_cons _ _ _ _ _ pe_bl pa_nil (by rfl)) (by rfl))) (@nomark _ _ (by decide) (by decide))))) pss_nil) (@pss_cons _ _ _ _ _ (@ps_set _ _ (11) _ _ _ _ sc_law.nd rfl (by first | exact Or.inl rfl | exact Or.inr rfl) (@e_call _ _ _ _ _ _ _ _ _ _ _ c_read_book hr (by decide) (by rfl) (@pa_cons _ _ _ _ _ (dv 9) pa_nil (by rfl)) (by decide) (by rfl) (by rfl)) (by rfl) (by first | exact .inl rfl | exact .inr rfl | assumption)) (@pss_cons _ _ _ _ _ (@s_if _ _ _ _ _ _ _ _ (@pt_not _ _ _ _ (@t_val _ _ _ (@e_call _ _ _ _ _ _ _ _ _ _ _ c_l_right hr (by decide) (by rfl) (@pa_cons _ _ _ _ _ (dv 11) (@pa_cons _ _ _ _ _ (dv 5) pa_nil (by rfl)) (by rfl)) (by decide) (by rfl) (by rfl)) (by intro _; rfl))) (@pss_one _ _ _ (@ps_ret _ _ _ _ pe_bl)) pss_nil) (@pss_cons _ _ _ _ _ (@ps_expr _ _ _ _ (@pe_bm _ _ _ _ _ _ _ _ _ _ _ _ PySem.F.plainAttrs_list PySem.F.slot_list_append PySem.F.type_list_append mt_append (dv 11) (@pa_cons _ _ _ _ _ (@e_tup _ _ _ _ _ pa_nil) pa_nil (by rfl)) (by rfl) (by rfl) (by rfl) (by rfl) (by rfl)) (by rfl)) (@pss_one _ _ _ (@ps_ret _ _ _ _ (@e_and _ _ _ _ _ _ _ (@e_call _ _ _ _ _ _ _ _ _ _ _ c_l_right hr (by decide) (by rfl) (@pa_cons _ _ _ _ _ (@e_call _ _ _ _ _ _ _ _ _ _ _ c_read_book hr (by decide) (by rfl) (@pa_cons _ _ _ _ _ (dv 9) pa_nil (by rfl)) (by decide) (by rfl) (by rfl)) (@pa_cons _ _ _ _ _ (dv 5) pa_nil (by rfl)) (by rfl)) (by decide) (by rfl) (by rfl)) (@pe_one _ _ _ _ _ (@pe_cmpR _ _ _ _ _ _ _ _ o_eq (@e_call _ _ _ _ _ _ _ _ _ _ _ c_show_book hr (by decide) (by rfl) (@pa_cons _ _ _ _ _ (@pe_callTy _ _ _ _ _ _ _ _ _ c_list (by rfl) n_list (by decide +kernel) (@pa_cons _ _ _ _ _ (dv 5) pa_nil (by rfl)) (by decide) (by decide) (by rfl) (by rfl)) pa_nil (by rfl)) (by decide) (by rfl) (by rfl)) (dv 9) (@nomark _ _ (by decide) (by decide)))))))))))))))))))))))), ?_⟩
      have c0 := draw_nn ns 3 (show (0 : Int) < 7 by decide)
      have c1 := draw_lt ns 3 (show (0 : Int) < 7 by decide)
      have m0 := draw_nn ns 4 (show (0 : Int) < 41 by decide)
      have m1 := draw_lt ns 4 (show (0 : Int) < 41 by decide)
      have q0 := draw_nn ns 4 (show (0 : Int) < 6 by decide)
      have q1 := draw_lt ns 4 (show (0 : Int) < 6 by decide)
      refine ⟨hS, ⟨by decide, by decide, by decide⟩, hS, ⟨by decide, by decide, by decide⟩, hS, ⟨by decide, by decide, by decide⟩, ?_⟩
      have z2 : 0 ≤ draw ns 5 8 % 2 ∧ draw ns 5 8 % 2 < 2 := by omega
      refine ⟨fun σ H' => ∃ m : Int, 0 ≤ m ∧ m ≤ 43 ∧ σ = [some (.ref a), some (.int (2 + draw ns 3 7)), some (.int m), some (.int (draw ns 5 8)), none, none, none, none, none, none, none, none] ∧ H' = H, ⟨fun _ => ⟨hS, ⟨by decide, by decide, by decide⟩, ⟨_, by omega, by omega, rfl, rfl⟩⟩, fun _ => ⟨_, m0, by omega, rfl, rfl⟩⟩, ?_⟩
      rintro σ H0 ⟨m, mm0, mm1, rfl, rfl⟩
      refine ⟨fun σ H' => ∃ c : Int, 2 ≤ c ∧ c ≤ 10 ∧ σ = [some (.ref a), some (.int c), some (.int m), some (.int (draw ns 5 8)), none, none, none, none, none, none, none, none] ∧ Same H0 H', ?_, ?_⟩
      · exact fun T H1 s1 e1 => ⟨_, .inr (SqT.of e1), rfl, rfl, ⟨fun _ => ⟨(by decide : (0 : Int) < 2), ⟨_, by omega, by omega, rfl, s1⟩⟩, fun _ => ⟨_, by omega, by omega, rfl, s1⟩⟩⟩
      rintro σ H1 ⟨c, cc0, cc1, rfl, s1⟩
      have hS1 := s1.seq hS
      refine ⟨⟨hS1, by omega, by omega⟩, fun L nm H2 s2 _ e2 ln ok => ?_⟩
      have n2 : 2 ≤ nm.length := by omega
      have n10 : nm.length ≤ 10 := by omega
      have hS2 := s2.seq hS1
      refine ⟨_, rfl, by omega, by omega, comp_rngR (n := m.toNat) (fun H y => ∃ g, GmAt H y g ∧ (GO g ∧ g.a ∈ nm ∧ g.b ∈ nm)) (fun y H H' kt ⟨g, h1, h2⟩ => ⟨g, gm_up y g H H' kt h1, h2⟩) (by omega) ?_ ?_⟩
      · intro i H3 hi s3 P hP
        exact ⟨rfl, nm, ⟨⟨s3.seq hS2, by omega, by omega⟩, s3 _ _ e2, ok, n2, n10⟩, fun y g H4 s4 g4 gm o => hP y H4 s4 ⟨g, g4, o, gm⟩⟩
      intro G H3 vs s3 _ eG lv av
      obtain ⟨gs, a3, bg⟩ := all2_ex av
      have og : ∀ g ∈ gs, GO g := fun g hg => (bg g hg).1
      have ng : ∀ g ∈ gs, g.a ∈ nm ∧ g.b ∈ nm := fun g hg => (bg g hg).2
      have lg : (gs.length : Int) = m := by
        rw [← a3.len, lv]
        omega
      have lg' : gs.length ≤ 43 := by omega
      have hS3 := s3.seq hS2
      refine ⟨G, rfl, ⟨_, SqL.of eG⟩, comp_abs GmAt gm_up (fun _ g y => y = V.str (wrG g)) (fun _ _ _ _ _ h => h) (by rw [a3.len]; omega) (SqL.of eG) a3 ?_ ?_⟩
      · intro v g H4 hM hg s4 P hP
        obtain ⟨p, rfl, ep⟩ := hM
        exact ⟨rfl, g, ⟨⟨p, rfl, ep⟩, og g hg⟩, fun H5 s5 => hP _ H5 s5 rfl⟩
      intro P H4 ys s4 nP eP a4
      have ey := all2_wr a4
      rw [ey] at eP
      clear ey a4
      have hS4 := s4.seq hS3
      have p60 : (plr gs).length < 60 := Nat.lt_of_le_of_lt (plr_10 ng) (by omega)
      have shTF : SeqAt.shaped bTF = true := by decide +kernel
      have shFT : SeqAt.shaped bFT = true := by decide +kernel
      have evTF : PyData.eqv bTF bTF = true := eqv_shaped shTF
      have evFT : PyData.eqv bFT bFT = true := eqv_shaped shFT
      refine ⟨hS4, ⟨by decide, by decide, by decide⟩, ?_⟩
      have w0 := draw_nn ns 9 (show (0 : Int) < 6 by decide)
      have w1 := draw_lt ns 9 (show (0 : Int) < 6 by decide)
      refine fun p1 H5 s5 e5 p2 H6 s6 e6 p3 H7 s7 e7 => ?_
      have s47 : Same H4 H7 := s5.trans (s6.trans s7)
      obtain ⟨v, hv, hm⟩ := at_mem2 (l := [.non, .int 7, .bl true, .ref P, .ref p1, .ref p2]) w0 (by exact w1)
      have rbv : RB H7 v true := by
        have hm : v = .non ∨ v = .int 7 ∨ v = .bl true ∨ v = .ref P ∨ v = .ref p1 ∨ v = .ref p2 := by simpa using hm
        rcases hm with rfl | rfl | rfl | rfl | rfl | rfl
        · exact .thing _ True.intro (fun x e => by cases e)
        · exact .thing _ True.intro (fun x e => by cases e)
        · exact .thing _ True.intro (fun x e => by cases e)
        · exact .thing _ ⟨_, _, s47 _ _ eP, rfl, rfl⟩ (fun x e => by cases e)
        · exact .thing _ ⟨_, _, s7 _ _ (s6 _ _ e5), rfl, rfl⟩ (fun x e => by cases e)
        · exact .thing _ ⟨_, _, s7 _ _ e6, rfl, rfl⟩ (fun x e => by cases e)
      refine ⟨s47.seq hS4, ⟨by decide, by decide, by decide⟩, _, v, SqL.of e7, hv, true, rbv, fun D H8 s8 e8 T H9 s9 e9 => ⟨bTF, bTF, rp_b2 (s9 _ _ e8), rp_b2 e9, shTF, shTF, ⟨fun h => ?_, fun _ => ?_⟩⟩⟩
      · rw [evTF] at h
        exact nb h
      clear hv hm rbv
      have s49 : Same H4 H9 := s47.trans (s8.trans s9)
      clear e5 e6 e7 e8 e9 s5 s6 s7 s8 s9 s47
      refine ⟨fun σ H' => ∃ o8, σ = [some (.ref a), some (.int c), some (.int m), some (.int (draw ns 5 8)), some (.ref L), some (.ref G), some (.ref P), some (.bl (decide (draw ns 8 2 = 0))), o8, none, none, none] ∧ Same H3 H' ∧ H' P = some (.lst ((gs.map wrG).map V.str)), ?_, ?_⟩
      · have no : ∃ o8, [some (V.ref a), some (V.int c), some (V.int m), some (V.int (draw ns 5 8)), some (V.ref L), some (V.ref G), some (V.ref P), some (V.bl (decide (draw ns 8 2 = 0))), none, none, none, none] = [some (V.ref a), some (V.int c), some (V.int m), some (V.int (draw ns 5 8)), some (V.ref L), some (V.ref G), some (V.ref P), some (V.bl (decide (draw ns 8 2 = 0))), o8, none, none, none] ∧ Same H3 H9 ∧ H9 P = some (.lst ((gs.map wrG).map V.str)) := ⟨none, rfl, s4.trans s49, s49 _ _ eP⟩
        refine ⟨s49.seq hS4, ⟨by decide, by decide, by decide⟩, ⟨fun h1 => ⟨fun h2 => ?_, fun _ => no⟩, fun _ => ⟨fun h => nb h, fun _ => no⟩⟩⟩
        have m1 : 0 < m := of_decide_eq_true h2
        have at0 := draw_nn ns 10 m1
        have at1 := draw_lt ns 10 m1
        obtain ⟨j, hj⟩ := Int.eq_ofNat_of_zero_le at0
        have jl : j < gs.length := by omega
        have hg : gs[j]? = some gs[j] := List.getElem?_eq_getElem jl
        have hgm : gs[j] ∈ gs := List.getElem_mem jl
        generalize gs[j] = g at hg hgm
        have o := og g hgm
        have ix : ∀ xs : List V, xs.length = gs.length → ixN xs.length (draw ns 10 m) = some j := fun xs hx => by
          unfold ixN
          rw [hx, hj, if_pos (by omega), if_pos (by omega), Int.toNat_natCast]
        have ixP : atI ((gs.map wrG).map V.str) (draw ns 10 m) = some (.str (wrG g)) := by
          rw [hj]
          refine atI_nat ?_
          rw [List.getElem?_map, List.getElem?_map, hg]
          rfl
        have oA : ∀ x ∈ gs.take j, GO x := fun x hx => og x (List.mem_of_mem_take hx)
        have oB : ∀ x ∈ gs.drop (j + 1), GO x := fun x hx => og x (List.mem_of_mem_drop hx)
        have lAB : (gs.take j).length + (gs.drop (j + 1)).length ≤ 45 := by
          rw [List.length_take, List.length_drop]
          omega
        refine ⟨s49.seq hS4, ⟨by decide, by decide, m1⟩, _, _, SqL.of (s49 _ _ eP), ixP, ?_⟩
        refine ⟨g, ⟨s49.seq hS4, rfl, o⟩, fun y H10 s10 sp => ⟨P, _, _, j, rfl, rfl, s10 _ _ (s49 _ _ eP), ix _ (by rw [List.length_map, List.length_map]), ?_⟩⟩
        have sb : ∀ u, Same H3 (upd H10 P u) := fun u => same_app (s4.trans (s49.trans s10)) nP
        refine ⟨fun σ H' => σ = [some (.ref a), some (.int c), some (.int m), some (.int (draw ns 5 8)), some (.ref L), some (.ref G), some (.ref P), some (.bl (decide (draw ns 8 2 = 0))), some (.int (draw ns 10 m)), none, none, none] ∧ Same H3 H' ∧ H' P = some (.lst (((gs.map wrG).map V.str).set j (.str y))), ?_, ?_⟩
        · have e11 : upd H10 P (.lst (((gs.map wrG).map V.str).set j (.str y))) P = some (.lst (((gs.map wrG).map V.str).set j (.str y))) := upd_same
          have s11 := sb (.lst (((gs.map wrG).map V.str).set j (.str y)))
          generalize upd H10 P (.lst (((gs.map wrG).map V.str).set j (.str y))) = H11 at e11 s11
          have e11' := e11
          rw [set_mid hg] at e11'
          have shw : SeqAt.shaped (.list (((gs.take j).map wrG ++ y :: (gs.drop (j + 1)).map wrG).map PyData.str)) = true := sh_strs fun x hx => by
            rcases List.mem_append.mp hx with hx | hx
            · obtain ⟨z, hz, rfl⟩ := List.mem_map.mp hx
              exact wr_ok (oA z hz)
            · rcases List.mem_cons.mp hx with rfl | hx
              · exact spo_ok sp
              · obtain ⟨z, hz, rfl⟩ := List.mem_map.mp hx
                exact wr_ok (oB z hz)
          have she : SeqAt.shaped (.list ([Str.ofString ""].map PyData.str)) = true := by decide +kernel
          refine fun T H12 s12 e12 => ⟨_, _, rp_strs (SqL.of (s12 _ _ e11')), rp_strs (l := [Str.ofString ""]) (SqL.of e12), shw, she, ⟨fun h3 => ?_, fun _ => ⟨fun h => nb h, fun _ => ⟨rfl, s11.trans s12, s12 _ _ e11⟩⟩⟩⟩
          have ne : (gs.take j).map wrG ++ y :: (gs.drop (j + 1)).map wrG ≠ [Str.ofString ""] := fun z => by
            rw [z, eqv_shaped she] at h3
            exact nb h3
          have lw : ∀ p ∈ (gs.take j).map wrG ++ y :: (gs.drop (j + 1)).map wrG, p.length ≤ 100 := fun p hp => by
            rcases List.mem_append.mp hp with hp | hp
            · exact wr_len3 oA p hp
            · rcases List.mem_cons.mp hp with rfl | hp
              · exact sp.1.1
              · exact wr_len3 oB p hp
          refine ⟨rfl, _, SqL.of (s12 _ _ e11'), sumj (n := 0) lw (by rw [List.length_append, List.length_cons, List.length_map, List.length_map]; omega), true, rb_spoil oA oB o lAB sp (co_join _ _) ne, fun D H13 s13 e13 T' H14 s14 e14 => ⟨bTF, bTF, rp_b2 (s14 _ _ e13), rp_b2 e14, shTF, shTF, ⟨fun h => ?_, fun _ => ?_⟩⟩⟩
          · rw [evTF] at h
            exact nb h
          · have sx := s12.trans (s13.trans s14)
            exact ⟨rfl, s11.trans sx, sx _ _ e11⟩
        · rintro σ H11 ⟨rfl, s11, e11⟩
          have hvl : j < vs.length := by rw [a3.len]; exact jl
          obtain ⟨g', hg', ga⟩ := a3.get (List.getElem?_eq_getElem hvl)
          have eg : g' = g := Option.some.inj (hg'.symm.trans hg)
          subst eg
          obtain ⟨p, ep, hp⟩ := ga
          refine ⟨_, _, SqL.of (s11 _ _ eG), (show atI vs (draw ns 10 m) = some (.ref p) by rw [hj, ← ep]; exact atI_nat (List.getElem?_eq_getElem hvl)), g', ⟨⟨p, rfl, s11 _ _ hp⟩, o⟩, fun H12 s12 => ⟨P, _, _, j, rfl, rfl, s12 _ _ e11, ix _ (by rw [List.length_set, List.length_map, List.length_map]), ?_⟩⟩
          have e13 : upd H12 P (.lst ((((gs.map wrG).map V.str).set j (.str y)).set j (.str (wrG g')))) P = some (.lst ((gs.map wrG).map V.str)) := by rw [upd_same, set_back hg]
          have s13 : Same H3 (upd H12 P (.lst ((((gs.map wrG).map V.str).set j (.str y)).set j (.str (wrG g'))))) := same_app (s11.trans s12) nP
          generalize upd H12 P (.lst ((((gs.map wrG).map V.str).set j (.str y)).set j (.str (wrG g')))) = H13 at e13 s13
          refine ⟨fun h3 => ?_, fun _ => ⟨fun h => nb h, fun _ => ⟨_, rfl, s13, e13⟩⟩⟩
          have h3 : 1 < m := of_decide_eq_true h3
          refine ⟨gs, ⟨s13.seq hS3, e13, og, by omega, by omega⟩, fun x H14 s14 wr => ⟨true, rb_wrong og (by omega) wr, fun D H15 s15 e15 T' H16 s16 e16 => ⟨bTF, bTF, rp_b2 (s16 _ _ e15), rp_b2 e16, shTF, shTF, ⟨fun h => ?_, fun _ => ?_⟩⟩⟩⟩
          · rw [evTF] at h
            exact nb h
          · have sx := s14.trans (s15.trans s16)
            exact ⟨_, rfl, s13.trans sx, sx _ _ e13⟩
      rintro σ H10 ⟨o8, rfl, s10, e10⟩
      have ej : Txt.join (Str.ofString "; ") (gs.map wrG) = Str.join sp2 (gs.map wrG) := co_inj (co_join _ _)
      refine ⟨rfl, gs.map wrG, SqL.of e10, sumj (n := 0) (wr_len3 og) (by rw [List.length_map]; omega), ?_⟩
      rw [ej]
      have a10 : All2 (GmAt H10) vs gs := a3.imp fun v g r => gm_up v g _ _ (kt_of s10) r
      have eG10 := s10 _ _ eG
      have hz : vs.length ≤ 1000 := by rw [a3.len]; omega
      refine ⟨G, rfl, ⟨_, SqL.of eG10⟩, comp_abs GmAt gm_up (fun _ g y => y = V.str g.a) (fun _ _ _ _ _ h => h) hz (SqL.of eG10) a10 ?_ ?_⟩
      · intro v m H2 hM _ s2 P hP
        obtain ⟨p, rfl, e⟩ := hM
        exact ⟨rfl, _, e, hP _ _ (Same.refl _) rfl⟩
      intro D1 H11 ys1 s11 _ e11 a11
      have y1 := all2_strs a11
      have a12 : All2 (GmAt H11) vs gs := a10.imp fun v g r => gm_up v g _ _ (kt_of s11) r
      have eG11 := s11 _ _ eG10
      refine ⟨G, rfl, ⟨_, SqL.of eG11⟩, comp_abs GmAt gm_up (fun _ g y => y = V.str g.b) (fun _ _ _ _ _ h => h) hz (SqL.of eG11) a12 ?_ ?_⟩
      · intro v m H2 hM _ s2 P hP
        obtain ⟨p, rfl, e⟩ := hM
        exact ⟨rfl, _, e, hP _ _ (Same.refl _) rfl⟩
      intro D2 H12 ys2 s12 _ e12 a13
      have y2 := all2_strs a13
      have l1 := a11.len
      have l2 := a13.len
      refine ⟨_, _, s12 _ _ e11, e12, by omega, fun D3 H13 s13 e13 => ?_⟩
      rw [y1, y2, ← List.map_append] at e13
      have s3d : Same H3 H13 := s10.trans (s11.trans (s12.trans s13))
      have gmUp : ∀ {H' : Hp}, Same H3 H' → BkL H' G gs := fun s => ⟨vs, s _ _ eG, a3.imp fun v g r => gm_up v g _ _ (kt_of s) r⟩
      clear e11 e12 a11 a12 a13 y1 y2 l1 l2 a10 eG10 eG11 e10
      have badk : ¬ (gs.length ≤ 40 ∧ (plr gs).length ≤ 8) → sp_l_caught K ns [.str (Str.join sp2 (gs.map wrG)), .bl (decide (draw ns 8 2 = 0))] H13 (fun x H1 => ∀ T H', Same H1 H' → H' T = some (.lst [.bl false, .bl true]) → dEqD K x (.ref T) H' Q) E := fun bad => by
        refine ⟨false, rb_size og (by omega) p60 bad, fun D H14 s14 e14 T H15 s15 e15 => ⟨bFT, bFT, rp_b2 (s15 _ _ e14), rp_b2 e15, shFT, shFT, ?_⟩⟩
        rw [evFT]
        exact k _
      refine ⟨fun h1 => ⟨fun _ => ?_, fun h => nb h⟩, fun h1 => ⟨_, SqL.of e13, by rw [List.length_append, List.length_map, List.length_map]; omega, ⟨fun h2 => ?_, fun h2 => ?_⟩⟩⟩
      · have h1 : 40 < m := of_decide_eq_true h1
        exact badk fun z => by omega
      · have h2 : (8 : Int) < ((plr gs).length : Int) := of_decide_eq_true h2
        exact badk fun z => by omega
      have h1 : ¬ 40 < m := of_decide_eq_false h1
      have h2 : ¬ (8 : Int) < ((plr gs).length : Int) := of_decide_eq_false h2
      have g40 : gs.length ≤ 40 := by omega
      have p8 : (plr gs).length ≤ 8 := by omega
      dsimp only [tNext, tSeq, tAsg]
      refine rb_via rfl (read_good og g40 p8 fun F fv H14 s14 nF eF aF => ?_)
      refine ⟨gs, ⟨⟨fv, eF, aF⟩, gmUp (s3d.trans s14), by omega, og⟩, fun H15 s15 => ⟨fun h => nb h, fun _ => ?_⟩⟩
      refine ⟨.inl ⟨rfl, _, SqL.of (s15 _ _ eF)⟩, fun T H16 s16 e16 => ⟨F, _, _, rfl, rfl, s16 _ _ (s15 _ _ eF), by rw [aF.len]; exact Nat.lt_of_le_of_lt g40 (by decide), ?_⟩⟩
      have s17 : ∀ u, Same H3 (upd H16 F u) := fun u => s3d.trans (same_app (s14.trans (s15.trans s16)) nF)
      dsimp only [tRet]
      refine rb_via2 rfl rfl (read_good og g40 p8 fun F2 fv2 H18 s18 nF2 eF2 aF2 => ?_)
      have s19 := (s17 _).trans s18
      refine ⟨gs, ⟨⟨fv2, eF2, aF2⟩, gmUp s19, by omega, og⟩, fun H19 s20 => ⟨fun _ => ?_, fun h => nb h⟩⟩
      have sE := s19.trans s20
      refine ⟨_, .inl (SqL.of (sE _ _ eG)), fun l H20 s21 e21 => ⟨gs, ⟨⟨_, SqL.of e21, a3.imp fun v g r => gm_up v g _ _ (kt_of (sE.trans s21)) r, by omega⟩, og, by omega⟩, fun H21 s22 => ?_⟩⟩
      show Q (.bl (decide (Str.join sp2 (gs.map wrG) = Str.join sp2 (gs.map wrG)))) H21
      rw [decide_eq_true rfl]
      exact k _
end
theorem lenE1 : ∀ us : List Value, us.length = 1 → ∃ y0 : Value, us = [y0]
  | [y0], _ => ⟨_, rfl⟩
theorem lenE2 : ∀ us : List Value, us.length = 2 → ∃ y0 y1 : Value, us = [y0, y1]
  | [y0, y1], _ => ⟨_, _, rfl⟩
theorem lenE3 : ∀ us : List Value, us.length = 3 → ∃ y0 y1 y2 : Value, us = [y0, y1, y2]
  | [y0, y1, y2], _ => ⟨_, _, _, rfl⟩
theorem lenE5 : ∀ us : List Value, us.length = 5 → ∃ y0 y1 y2 y3 y4 : Value, us = [y0, y1, y2, y3, y4]
  | [y0, y1, y2, y3, y4], _ => ⟨_, _, _, _, _, rfl⟩
theorem dmk {K : PySem.W.Frag} {h : Heap} {mg : Str → Option Value} {x : Str} {st : Stmt} {ps : List Str} {f : Addr} {od an : Option Addr} {sl : Array (Option Value)} {oc kV dc pm cd ct : Value} (X : K.In h) (G : h.Ns mainGlobals mg) (a : PySem.W.nsIn K mainGlobals x = some (some (.ref f))) (l : K.lookup f = some ⟨oc, od, .func (PySem.W.fnOf x x (defArgs st) (defBody st) (defScope st) .none kV dc pm an cd ct), sl⟩) (e : PySem.W.codeIn K cd x = true) (k : PySem.W.keepIn K (.ref f) = true) (hb : ∀ (kV doc pm : Value) (an : Option Addr) (cdv ct : Value) (us : List Value), us.length = ps.length → bindArgs (PySem.W.fnOf x x (defArgs st) (defBody st) (defScope st) .none kV doc pm an cdv ct) ⟨us, []⟩ = pure (ps.zip us)) : Dfn K mg x st ps := ⟨⟨_, _, fun_mk l e k, PySem.W.mg_of X G a, (fun_mk l e k).binds hb⟩⟩
theorem tup_mk {K : PySem.W.Frag} {a : Addr} {xs : List V} {us : Array Value} {n : Nat} {sl : Array (Option Value)} (p : K.lookup a = some ⟨.type "tuple", none, .seq us n, sl⟩) (h : us.size ≤ sizeLine) (q : Vals xs us.toList) : TupD K a xs := ⟨fun H => .inr ⟨_, _, _, p, rfl, rfl, h, q⟩, ⟨_, p, rfl, rfl⟩⟩
theorem all_mk {l : PySem.W.OpenLaw} {w : World} {K : PySem.W.Frag} {h : Heap} {mg : Str → Option Value} {fa : Addr} {f24 : Addr} {od24 an24 : Option Addr} {sl24 : Array (Option Value)} {oc24 kV24 dc24 pm24 cd24 ct24 : Value} {c_LadderError c_NoBook c_NoFit c_NoGame c_NoNumber c_NoPlayer c_NoRow c_NoStretch c_NoTable c_NoTree c_NoWorth : Addr} {a_WORDS : Addr} (X : K.In h) (G : h.Ns mainGlobals mg) (hfa : mg "law" = some (.ref fa)) (d_is_whole : Dfn K mg "is_whole" s_is_whole ["thing"]) (d_game : Dfn K mg "game" s_game ["day", "one", "other", "halves", "side"]) (d_is_between : Dfn K mg "is_between" s_is_between ["thing", "least", "most"]) (d_is_name : Dfn K mg "is_name" s_is_name ["thing"]) (d_read_game : Dfn K mg "read_game" s_read_game ["text"]) (d_is_number : Dfn K mg "is_number" s_is_number ["word", "longest"]) (d_is_starred : Dfn K mg "is_starred" s_is_starred ["word"]) (d_unstarred : Dfn K mg "unstarred" s_unstarred ["word"]) (d_side_of : Dfn K mg "side_of" s_side_of ["one", "other"]) (d_show_game : Dfn K mg "show_game" s_show_game ["played"]) (d_starred : Dfn K mg "starred" s_starred ["name", "had_side"]) (d_read_book : Dfn K mg "read_book" s_read_book ["text"]) (d_check_size : Dfn K mg "check_size" s_check_size ["games"]) (d_show_book : Dfn K mg "show_book" s_show_book ["games"]) (d_players : Dfn K mg "players" s_players ["games"]) (d_l_cell_at : Dfn K mg "_law_cell_at" s_l_cell_at ["_law_script", "_law_k"]) (d_l_draw : Dfn K mg "_law_draw" s_l_draw ["_law_script", "_law_k", "_law_many"]) (d_l_names : Dfn K mg "_law_names" s_l_names ["_law_script", "_law_many"]) (d_l_game : Dfn K mg "_law_game" s_l_game ["_law_script", "_law_k", "_law_names_here"]) (d_l_written : Dfn K mg "_law_written" s_l_written ["_law_played"]) (d_l_spoiled : Dfn K mg "_law_spoiled" s_l_spoiled ["_law_script", "_law_part"]) (d_l_joined : Dfn K mg "_law_joined" s_l_joined ["_law_script", "_law_parts"]) (d_l_caught : Dfn K mg "_law_caught" s_l_caught ["_law_text", "_law_base"]) (d_l_right : Dfn K mg "_law_right" s_l_right ["_law_found", "_law_games"]) (a24 : PySem.W.nsIn K mainGlobals "law" = some (some (.ref f24))) (l24 : K.lookup f24 = some ⟨oc24, od24, .func (PySem.W.fnOf "law" "law" (defArgs s_law) (defBody s_law) (defScope s_law) .none kV24 dc24 pm24 an24 cd24 ct24), sl24⟩) (e24 : PySem.W.codeIn K cd24 "law" = true) (k24 : PySem.W.keepIn K (.ref f24) = true) (er : Errs K mg c_LadderError c_NoBook c_NoFit c_NoGame c_NoNumber c_NoPlayer c_NoRow c_NoStretch c_NoTable c_NoTree c_NoWorth) (n_ValueError : mg "ValueError" = none) (n_all : mg "all" = none) (n_bool : mg "bool" = none) (n_int : mg "int" = none) (n_isinstance : mg "isinstance" = none) (n_len : mg "len" = none) (n_list : mg "list" = none) (n_range : mg "range" = none) (n_set : mg "set" = none) (n_sorted : mg "sorted" = none) (n_str : mg "str" = none) (n_tuple : mg "tuple" = none) (v_FIGURES : Cst mg "FIGURES" (.str "0123456789")) (v_LAST_DAY : Cst mg "LAST_DAY" (.int (9999))) (v_LETTERS : Cst mg "LETTERS" (.str "abcdefghijklmnopqrstuvwxyz")) (v_LONGEST_DAY : Cst mg "LONGEST_DAY" (.int (4))) (v_LONGEST_NAME : Cst mg "LONGEST_NAME" (.int (8))) (v_MOST_GAMES : Cst mg "MOST_GAMES" (.int (40))) (v_MOST_PLAYERS : Cst mg "MOST_PLAYERS" (.int (8))) (v_PARTING : Cst mg "PARTING" (.str "; ")) (v_WORDS : Cst mg "WORDS" (.ref a_WORDS)) (w_WORDS : TupD K a_WORDS [.str "lost", .str "drew", .str "beat"]) :
    ∃ fd : FuncData, (∀ (s : Shared) (v : Value), BindsTo s fd ⟨[v], []⟩ [("_law_script", v)]) ∧ ∀ base : Heap, K.In base → base.Ns mainGlobals mg → FnOk l.prog w K mg base (CXE l.prog w) 7 fa fd ["_law_script"] (sp_lawA K) := by
  have F24 := fun_mk (st := s_law) l24 e24 k24
  have d_law : Dfn K mg "law" s_law ["_law_script"] := ⟨⟨_, _, F24, PySem.W.mg_of X G a24, F24.binds fun _ _ _ _ _ _ us hl => by obtain ⟨_, rfl⟩ := lenE1 us hl; rfl⟩⟩
  have e := hfa.symm.trans (PySem.W.mg_of X G a24)
  cases e
  refine ⟨PySem.W.fnOf "law" "law" (defArgs s_law) (defBody s_law) (defScope s_law) .none kV24 dc24 pm24 an24 cd24 ct24, fun s v => .of_eq rfl, fun base _ _ => law_fn F24 (PySem.W.mg_of X G a24) fun ns => ?_⟩
  have c_is_whole := ok_is_whole (P := l.prog) (w := w) (base := base) (ns := ns) d_is_whole er n_isinstance n_bool n_int
  have c_is_name := ok_is_name (P := l.prog) (w := w) (base := base) (ns := ns) d_is_name er n_all n_len n_isinstance n_str v_LETTERS v_LONGEST_NAME
  have c_is_number := ok_is_number (P := l.prog) (w := w) (base := base) (ns := ns) d_is_number er n_all n_len v_FIGURES
  have c_is_starred := ok_is_starred (P := l.prog) (w := w) (base := base) (ns := ns) d_is_starred er
  have c_starred := ok_starred (P := l.prog) (w := w) (base := base) (ns := ns) d_starred er
  have c_players := ok_players (P := l.prog) (w := w) (base := base) (ns := ns) d_players er n_sorted n_set
  have c_l_cell_at := ok_l_cell_at (P := l.prog) (w := w) (base := base) (ns := ns) d_l_cell_at er n_len
  have c_l_written := ok_l_written (P := l.prog) (w := w) (base := base) (ns := ns) d_l_written er n_str
  have c_l_right := ok_l_right (P := l.prog) (w := w) (base := base) (ns := ns) d_l_right er n_isinstance n_bool n_int n_tuple n_list
  have c_is_between := ok_is_between d_is_between er c_is_whole
  have c_unstarred := ok_unstarred d_unstarred er c_is_starred
  have c_side_of := ok_side_of d_side_of er c_is_starred
  have c_show_game := ok_show_game d_show_game er v_WORDS w_WORDS c_starred
  have c_check_size := ok_check_size d_check_size er n_len v_MOST_PLAYERS v_MOST_GAMES c_players
  have c_l_draw := ok_l_draw d_l_draw er c_l_cell_at
  have c_game := ok_game d_game er v_LAST_DAY c_is_between c_is_name
  have c_show_book := ok_show_book d_show_book er v_PARTING c_show_game
  have c_l_names := ok_l_names d_l_names er n_range c_l_draw
  have c_l_game := ok_l_game d_l_game er n_len c_l_draw c_l_cell_at
  have c_l_spoiled := ok_l_spoiled d_l_spoiled er n_len c_l_draw
  have c_l_joined := ok_l_joined d_l_joined er n_len c_l_draw
  have c_read_game := ok_read_game d_read_game er n_int n_len n_isinstance n_str v_WORDS w_WORDS v_LONGEST_DAY c_game c_unstarred c_side_of c_is_starred c_is_number
  have c_read_book := ok_read_book d_read_book er n_isinstance n_str v_PARTING c_check_size c_read_game
  have c_l_caught := ok_l_caught d_l_caught er n_isinstance n_ValueError c_read_book
  exact ok_law d_law er n_list n_len n_set n_range c_show_book c_l_right c_read_book c_l_caught c_l_draw c_l_joined c_l_written c_l_spoiled c_l_game c_l_names
theorem walk {l : PySem.W.OpenLaw} {q : Program} {loose : List Str} {XP : (Str → Option Value) → Heap → Prop} {YP : World → Heap → Prop} {d : DefRec} {K : Params → PySem.W.Frag} (hn : l.most = some 63) (hdf : d.params.defaults = [])
    (hY : ∀ (w : World) (h : Heap), YP w h → (K w.params).In h)
    (F : ∀ (w : World) (mg : Str → Option Value) (fa : Addr) (h : Heap), (K w.params).In h → h.Ns mainGlobals mg → mg d.name = some (.ref fa) →
      ∃ fd : FuncData, (∀ (s : Shared) (u : Value), BindsTo s fd ⟨[u], []⟩ [("_law_script", u)]) ∧ ∀ base : Heap, (K w.params).In base → base.Ns mainGlobals mg → FnOk l.prog w (K w.params) mg base (CXE l.prog w) 7 fa fd ["_law_script"] (sp_lawA (K w.params))) :
    PySem.W.WalkO q loose XP YP l.row.toRowW d [] (fun f vs => PySem.call f vs) :=
  L2.walk_of (n := 63) (k := 7) (x := "_law_script") (CX := fun w => CXE l.prog w) (sp := fun w => sp_lawA (K w.params)) hn (by decide) hdf ⟨rfl, by decide, by decide⟩ hY F (fun _ _ a ns hl _ hS => ⟨ns, a, rfl, hS, hl, fun _ => rfl⟩) fun _ _ _ _ _ z => cxe0 z
end My
def PySem.W.Fast.tw13348892795492375823 := 0
def PySem.W.Fast.tw15119215153763867896 := 0
def PySem.W.Fast.tw1108303638503101554 := 0
def PySem.W.Fast.tw3746948442454004957 := 0
def PySem.W.Fast.tw3752653202581937241 := 0
def PySem.W.Fast.tw701083347654366337 := 0
def PySem.W.Fast.tw12890795989368142401 := 0
def PySem.W.Fast.tw7990946609684676621 := 0
def PySem.W.Fast.tw12731293824423511356 := 0
def PySem.W.Fast.tw16610974265335763540 := 0
def PySem.W.Fast.tw8973409175551667758 := 0
def PySem.W.Fast.tw8497033981700356967 := 0
def PySem.W.Fast.tw17467423199124543220 := 0
def PySem.W.Fast.tw3139530681388011606 := 0
def PySem.W.Fast.tw10742546504749541894 := 0
def PySem.W.Fast.tw17717167041513805600 := 0
def PySem.W.Fast.tw12128975407301990390 := 0
def PySem.W.Fast.tw17618113905499345524 := 0
def PySem.W.Fast.tw13161461048451449716 := 0
def PySem.W.Fast.tw11537981053702461371 := 0
def PySem.W.Fast.tw1725452917857486720 := 0
def PySem.W.Fast.tw11652740787841192404 := 0
def PySem.W.Fast.tw14589872104069590670 := 0
def PySem.W.Fast.tw12514644779218053563 := 0
def PySem.W.Fast.tw14816807055497361268 := 0
def PySem.W.Fast.tw14887009504433437613 := 0
def PySem.W.Fast.tw10489726523669697754 := 0
def PySem.W.Fast.tw9029473984567874847 := 0
def PySem.W.Fast.tw8777019250357274911 := 0
def PySem.W.Fast.tw601326551504676830 := 0
def PySem.W.Fast.tw14290178831160234156 := 0
def PySem.W.Fast.tw10748574211939037147 := 0
def PySem.W.Fast.tw8910371494864220106 := 0
def PySem.W.Fast.tw5091768483909236141 := 0
def PySem.W.Fast.tw9522519316470390907 := 0
def PySem.W.Fast.tw6929600727015361805 := 0
def PySem.W.Fast.tw11443223554615454515 := 0
def PySem.W.Fast.tw12990153487090795553 := 0
def PySem.W.Fast.tw3829908410042565052 := 0
def PySem.W.Fast.tw2699748569360328413 := 0
def PySem.W.Fast.tw13541382860352858352 := 0
def PySem.W.Fast.tw12167605661300609408 := 0
def PySem.W.Fast.tw18088216141924721334 := 0
def PySem.W.Fast.tw8923744362769756625 := 0
def PySem.W.Fast.tw15584594224747877102 := 0
def PySem.W.Fast.tw705099610069706943 := 0
def PySem.W.Fast.tw13051475836833561073 := 0
def PySem.W.Fast.tw15869990004110552506 := 0
def PySem.W.Fast.tw6846015604560792288 := 0
def PySem.W.Fast.tw3994752567092715629 := 0
def PySem.W.Fast.tw18001114021832063834 := 0
def PySem.W.Fast.tw2470385972295190034 := 0
def PySem.W.Fast.tw9906601305812368789 := 0
def PySem.W.Fast.tw9123526562858480142 := 0
def PySem.W.Fast.tw18182450055637309566 := 0
def PySem.W.Fast.tw8014521456556409511 := 0
def PySem.W.Fast.tw8242333525174769986 := 0
def PySem.W.Fast.tw6945286924639817938 := 0
def PySem.W.Fast.tw10828475583246234771 := 0
def PySem.W.Fast.tw8251967280446430053 := 0
def PySem.W.Fast.tw4330869892035920617 := 0
def PySem.W.Fast.tw6619194246602863251 := 0
def PySem.W.Fast.tw6983523565718665723 := 0
def PySem.W.Fast.tw9946489873440646103 := 0
def PySem.W.Fast.tw9322004144755280251 := 0
def PySem.W.Fast.tw11831803614933092727 := 0
def PySem.W.Fast.tw14343457907844717078 := 0
def PySem.W.Fast.tw7067418321931723644 := 0
def PySem.W.Fast.tw17566588257781053212 := 0
def PySem.W.Fast.tw13160537133414335043 := 0
def PySem.W.Fast.tw2019146171689953586 := 0
def PySem.W.Fast.tw7407653086399727675 := 0
def PySem.W.Fast.tw799702061806697336 := 0
def PySem.W.Fast.tw12257049931013368008 := 0
def PySem.W.Fast.tw14819866799420088010 := 0
def PySem.W.Fast.tw9191080570300649487 := 0
def PySem.W.Fast.tw8066693773113152649 := 0
def PySem.W.Fast.tw994846205991078604 := 0
def PySem.W.Fast.tw10664778573691153788 := 0
def PySem.W.Fast.tw15122472545023014026 := 0
def PySem.W.Fast.tw11202905524257544721 := 0
def PySem.W.Fast.tw15335296845643713505 := 0
def PySem.W.Fast.tw7891059439705858723 := 0
def PySem.W.Fast.tw8988731815188132840 := 0
def PySem.W.Fast.tw11462829424148901281 := 0
def PySem.W.Fast.tw8458052527939068999 := 0
open PySem PySem.W PyProof.Rows
set_option maxRecDepth 100000 in
set_option maxHeartbeats 0 in
theorem PySem.Challenge.cw_ladderworth_k11_books_read_holds : PySem.Challenge.rw_ladderworth_k11_books_read.Holds := by
  w_on; o_law; k_head; (case hw => w_witness2)
  k_fill
  refine My.walk (l := PySem.Challenge.rw_ladderworth_k11_books_read) rfl rfl (fun w h Y => PySem.W.kIn_of Y) ?F
  case F =>
    intro w mg fa h KX G hmg
    refine' My.all_mk KX G hmg ?d0 ?d1 ?d2 ?d3 ?d4 ?d5 ?d6 ?d7 ?d8 ?d9 ?d10 ?d11 ?d12 ?d13 ?d14 ?d15 ?d16 ?d17 ?d18 ?d19 ?d20 ?d21 ?d22 ?d23 ?a24 ?l24 ?e24 ?k24 ?er ?n_ValueError ?n_all ?n_bool ?n_int ?n_isinstance ?n_len ?n_list ?n_range ?n_set ?n_sorted ?n_str ?n_tuple ?v_FIGURES ?v_LAST_DAY ?v_LETTERS ?v_LONGEST_DAY ?v_LONGEST_NAME ?v_MOST_GAMES ?v_MOST_PLAYERS ?v_PARTING ?v_WORDS ?w_WORDS
    (case er =>
      refine' ⟨PySem.W.mg_of KX G ?_, PySem.W.mg_of KX G ?_, PySem.W.mg_of KX G ?_, PySem.W.mg_of KX G ?_, PySem.W.mg_of KX G ?_, PySem.W.mg_of KX G ?_, PySem.W.mg_of KX G ?_, PySem.W.mg_of KX G ?_, PySem.W.mg_of KX G ?_, PySem.W.mg_of KX G ?_, PySem.W.mg_of KX G ?_, ?_, ?_, ⟨?_, ?_, ?_, ?_, ?_, ?_⟩, ⟨?_, ?_, ?_, ?_, ?_, ?_⟩, ⟨?_, ?_, ?_, ?_, ?_, ?_⟩, ?_, ?_, ?_, ?_, ?_, ?_, ?_, ?_, ?_, ?_, ?_, ?_, ?_, ?_, ?_, ?_, ?_, ?_, ?_, ?_, ?_, ?_, ?_, ?_, ?_, ?_, ?_, ?_, ?_, ?_⟩
      all_goals (try unfold L2.NoAttr); try (first | k_is | k_exc | kernel_rfl))
    (case d0 | d3 | d4 | d6 | d7 | d9 | d11 | d12 | d13 | d14 | d19 => refine' My.dmk KX G ?uA ?uL ?uE ?uK (fun _ _ _ _ _ _ us hl => by obtain ⟨_, rfl⟩ := My.lenE1 us hl; rfl); (case uA | uL | uE | uK => k_is))
    (case d5 | d8 | d10 | d15 | d17 | d20 | d21 | d22 | d23 => refine' My.dmk KX G ?uA ?uL ?uE ?uK (fun _ _ _ _ _ _ us hl => by obtain ⟨_, _, rfl⟩ := My.lenE2 us hl; rfl); (case uA | uL | uE | uK => k_is))
    (case d2 | d16 | d18 => refine' My.dmk KX G ?uA ?uL ?uE ?uK (fun _ _ _ _ _ _ us hl => by obtain ⟨_, _, _, rfl⟩ := My.lenE3 us hl; rfl); (case uA | uL | uE | uK => k_is))
    (case d1 => refine' My.dmk KX G ?uA ?uL ?uE ?uK (fun _ _ _ _ _ _ us hl => by obtain ⟨_, _, _, _, _, rfl⟩ := My.lenE5 us hl; rfl); (case uA | uL | uE | uK => k_is))
    (case a24 | l24 | e24 | k24 => k_is)
    (case n_ValueError | n_all | n_bool | n_int | n_isinstance | n_len | n_list | n_range | n_set | n_sorted | n_str | n_tuple => refine' PySem.W.mg_none_of KX G ?_; k_is)
    (case v_FIGURES => refine' ⟨_, PySem.W.mg_of KX G ?uP, ?uQ⟩; (case uP => k_is); (case uQ => exact ⟨_, rfl⟩))
    (case v_LAST_DAY => refine' ⟨_, PySem.W.mg_of KX G ?uP, ?uQ⟩; (case uP => k_is); (case uQ => exact ⟨_, rfl⟩))
    (case v_LETTERS => refine' ⟨_, PySem.W.mg_of KX G ?uP, ?uQ⟩; (case uP => k_is); (case uQ => exact ⟨_, rfl⟩))
    (case v_LONGEST_DAY => refine' ⟨_, PySem.W.mg_of KX G ?uP, ?uQ⟩; (case uP => k_is); (case uQ => exact ⟨_, rfl⟩))
    (case v_LONGEST_NAME => refine' ⟨_, PySem.W.mg_of KX G ?uP, ?uQ⟩; (case uP => k_is); (case uQ => exact ⟨_, rfl⟩))
    (case v_MOST_GAMES => refine' ⟨_, PySem.W.mg_of KX G ?uP, ?uQ⟩; (case uP => k_is); (case uQ => exact ⟨_, rfl⟩))
    (case v_MOST_PLAYERS => refine' ⟨_, PySem.W.mg_of KX G ?uP, ?uQ⟩; (case uP => k_is); (case uQ => exact ⟨_, rfl⟩))
    (case v_PARTING => refine' ⟨_, PySem.W.mg_of KX G ?uP, ?uQ⟩; (case uP => k_is); (case uQ => exact ⟨_, rfl⟩))
    (case v_WORDS => refine' ⟨_, PySem.W.mg_of KX G ?uP, rfl⟩; (case uP => k_is))
    (case w_WORDS => refine' My.tup_mk ?uP ?uH ?uQ; (case uP => k_is); (case uH => show 3 ≤ sizeLine; decide); (case uQ => exact (Paired.cons ⟨_, rfl⟩ (Paired.cons ⟨_, rfl⟩ (Paired.cons ⟨_, rfl⟩ Paired.nil)))))
#print axioms PySem.Challenge.cw_ladderworth_k11_books_read_holds
