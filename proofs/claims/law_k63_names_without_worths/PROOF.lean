import PyProof.Rows.All
import Wide.All
import OpenK.AllK
import Wide.FinOn
import Lean
import PyProof.EqAt
import PyProof.EqKinds
import PyProof.TupleCall
import PyProof.Cells
import PyProof.AttrMissHeap
import PyProof.FactsAll.zip
import KE.KItemsList
import PyProof.DictUpdate
import KE.KEqDict
import KE.KSortTup
import PyProof.AutoSeq1
import PySem.Challenge.RW_ladderworth_k63_names_without_worths
set_option Elab.async false
set_option linter.all false
set_option maxRecDepth 100000
namespace L2
open PySem PySem.Spec PyProof.Rows
abbrev Key := Sum Int Str
def keyIs : Key → Value → Bool
  | .inl k, v => Value.isInt k v
  | .inr x, v => Value.isStrOf x v
def keyH (w : World) : Key → Int
  | .inl k => hashInt k
  | .inr x => hashStr w x
theorem keyIs_shape : ∀ {k : Key} {v : Value}, keyIs k v = true → (∃ i t, k = Sum.inl i ∧ v = Value.int i t) ∨ (∃ x t, k = Sum.inr x ∧ v = Value.str x t)
  | .inl i, v, h => by
    obtain ⟨t, e⟩ := Value.isInt_shape (k := i) (v := v) h
    exact .inl ⟨i, t, rfl, e⟩
  | .inr x, v, h => by
    obtain ⟨t, e⟩ := Value.isStrOf_shape (x := x) (v := v) h
    exact .inr ⟨x, t, rfl, e⟩
theorem keyIs_int (i : Int) (t : Tok) : keyIs (.inl i) (.int i t) = true := by simp [keyIs, Value.isInt]
theorem keyIs_str (x : Str) (t : Tok) : keyIs (.inr x) (.str x t) = true := by simp [keyIs, Value.isStrOf]
theorem key_ll (a b : Int) : decide ((Sum.inl a : Key) = Sum.inl b) = (a == b) := by
  by_cases e : a = b
  · subst e; simp
  · have h : ¬ (Sum.inl a : Key) = Sum.inl b := fun q => e (Sum.inl.inj q)
    rw [decide_eq_false h]
    exact (beq_eq_false_iff_ne.mpr e).symm
theorem key_rr (a b : Str) : decide ((Sum.inr a : Key) = Sum.inr b) = decide (a = b) := by
  by_cases e : a = b
  · subst e; simp
  · have h : ¬ (Sum.inr a : Key) = Sum.inr b := fun q => e (Sum.inr.inj q)
    rw [decide_eq_false h, decide_eq_false e]
theorem key_lr (a : Int) (b : Str) : decide ((Sum.inl a : Key) = Sum.inr b) = false := decide_eq_false (fun q => nomatch q)
theorem key_rl (a : Str) (b : Int) : decide ((Sum.inr a : Key) = Sum.inl b) = false := decide_eq_false (fun q => nomatch q)
def mixKind (prog : Program) (w : World) : PySem.KeyKind prog w Key where
  is := keyIs
  hash := keyH w
  inj := fun v a b ha hb => by
    rcases keyIs_shape ha with ⟨i, t, rfl, rfl⟩ | ⟨x, t, rfl, rfl⟩
    · rcases keyIs_shape hb with ⟨j, u, rfl, e⟩ | ⟨y, u, rfl, e⟩
      · injection e with e1 _; rw [e1]
      · exact nomatch e
    · rcases keyIs_shape hb with ⟨j, u, rfl, e⟩ | ⟨y, u, rfl, e⟩
      · exact nomatch e
      · injection e with e1 _; rw [e1]
  byValue := fun k v h => by
    rcases keyIs_shape h with ⟨i, t, rfl, rfl⟩ | ⟨x, t, rfl, rfl⟩ <;> rfl
  pyHash := fun hv h => by
    rcases keyIs_shape hv with ⟨i, t, rfl, rfl⟩ | ⟨x, t, rfl, rfl⟩
    · exact wpAny_pyHash_int h
    · exact wpAny_pyHash_str h
  eqBool := fun hu hv h => by
    rcases keyIs_shape hu with ⟨i, t, rfl, rfl⟩ | ⟨x, t, rfl, rfl⟩
    · rcases keyIs_shape hv with ⟨j, u, rfl, rfl⟩ | ⟨y, u, rfl, rfl⟩
      · rw [key_ll] at h; exact wpAny_eqBool_int h
      · rw [key_lr] at h; exact SeqAt.EqAt.int_str i t y u _ _ _ _ h
    · rcases keyIs_shape hv with ⟨j, u, rfl, rfl⟩ | ⟨y, u, rfl, rfl⟩
      · rw [key_rl] at h; exact SeqAt.EqAt.str_int x t j u _ _ _ _ h
      · rw [key_rr] at h; exact wpAny_eqBool_str h
  «strs» := fun k x t v h => by
    rcases keyIs_shape h with ⟨i, u, rfl, e⟩ | ⟨y, u, rfl, e⟩
    · exact nomatch e
    · injection e with e1 _
      subst e1
      cases v <;> rfl
theorem mixKind_int (prog : Program) (w : World) (i : Int) (t : Tok) : (mixKind prog w).is (.inl i) (.int i t) = true := keyIs_int i t
theorem mixKind_str (prog : Program) (w : World) (x : Str) (t : Tok) : (mixKind prog w).is (.inr x) (.str x t) = true := keyIs_str x t
end L2
namespace L2
open PySem PySem.Spec PyProof.Rows
inductive V where
  | non | bl (b : Bool) | int (i : Int) | str (x : Str) | byt (b : Array UInt8) | flt (b : UInt64) | ref (a : Addr) | ty (n : String)
  deriving DecidableEq
def RelV : V → Value → Prop
  | .non, u => u = Value.none
  | .bl b, u => u = Value.bool b
  | .int i, u => ∃ t, u = Value.int i t
  | .str x, u => ∃ t, u = Value.str x t
  | .byt b, u => ∃ t, u = Value.bytes b t
  | .flt b, u => ∃ t, u = Value.float b t
  | .ref a, u => u = Value.ref a
  | .ty n, u => u = Value.type n
abbrev Vals : List V → List Value → Prop := Paired RelV
theorem Vals.length {xs : List V} {us : List Value} (r : Vals xs us) : xs.length = us.length := Paired.length r
theorem Vals.get : ∀ {xs : List V} {us : List Value} {i : Nat} {x : V}, Vals xs us → xs[i]? = some x → ∃ u, us[i]? = some u ∧ RelV x u
  | _, _, _, _, .nil, e => by simp at e
  | _, _, 0, _, .cons r _, e => by simp at e; subst e; exact ⟨_, rfl, r⟩
  | _, _, i + 1, x, .cons _ t, e => by
    obtain ⟨u, h1, h2⟩ := Vals.get (i := i) (x := x) t (by simpa using e)
    exact ⟨u, by simpa using h1, h2⟩
theorem Vals.append : ∀ {xs ys : List V} {us ws : List Value}, Vals xs us → Vals ys ws → Vals (xs ++ ys) (us ++ ws)
  | _, _, _, _, .nil, s => s
  | _, _, _, _, .cons r t, s => .cons r (Vals.append t s)
theorem Vals.take : ∀ {xs : List V} {us : List Value} (n : Nat), Vals xs us → Vals (xs.take n) (us.take n)
  | _, _, 0, _ => .nil
  | _, _, _ + 1, .nil => .nil
  | _, _, n + 1, .cons r t => .cons r (Vals.take n t)
theorem Vals.drop : ∀ {xs : List V} {us : List Value} (n : Nat), Vals xs us → Vals (xs.drop n) (us.drop n)
  | _, _, 0, r => r
  | _, _, _ + 1, .nil => .nil
  | _, _, n + 1, .cons _ t => Vals.drop n t
def RelO : Option V → Option Value → Prop
  | some v, some u => RelV v u
  | none, none => True
  | _, _ => False
def KV {κ : Type} : List (κ × V) → List (κ × Value) → Prop := Paired fun (p : κ × V) (q : κ × Value) => p.1 = q.1 ∧ RelV p.2 q.2
def kV : Key → V
  | .inl i => .int i
  | .inr x => .str x
inductive HO where
  | lst (xs : List V)
  | tup (xs : List V)
  | dK (kvs : List (Key × V)) | dT (kvs : List (List Key × V))
  | set (S : Int → Bool) (n : Nat)
  | ins (C dx : Addr) (fs : List (Str × V))
  | own (x : Addr)
  | xd (fs : List (Str × V))
  | met (f x : Addr)
  | rng (lo hi : Int)
  | frz (o : Obj) (u : HO)
  | tbl (ps : Array Value)
  | ext (φ : Heap → Prop)
abbrev Hp := Addr → Option HO
def upd (H : Hp) (a : Addr) (o : HO) : Hp := fun b => if b = a then some o else H b
theorem upd_same {H : Hp} {a : Addr} {o : HO} : upd H a o a = some o := by unfold upd; rw [if_pos rfl]
theorem upd_ne {H : Hp} {a b : Addr} {o : HO} (h : b ≠ a) : upd H a o b = H b := by unfold upd; rw [if_neg h]
theorem upd_upd {H : Hp} {a : Addr} {o u : HO} : upd (upd H a o) a u = upd H a u := by
  funext b; unfold upd; split <;> rfl
theorem ne_of {H : Hp} {a b : Addr} {o u : HO} (h : H a = some o) (h' : H b = some u) (d : o ≠ u) : a ≠ b := by
  intro e; subst e; rw [h] at h'; exact d (Option.some.inj h')
theorem ne_of_none {H : Hp} {a b : Addr} {o : HO} (h : H a = some o) (h' : H b = none) : a ≠ b := by
  intro e; subst e; rw [h] at h'; cases h'
section
variable (P : Program) (w : World)
def ObjOk (H : Hp) (h : Heap) (a : Addr) : HO → Prop
  | .lst xs => xs.length ≤ sizeLine ∧ ∃ (its : List Value) (n : Nat), Vals xs its ∧ h.get? a = some { cls := .type "list", data := .seq its.toArray n }
  | .tup xs => xs.length ≤ sizeLine ∧ ∃ its : List Value, Vals xs its ∧ IsTup h a its.toArray
  | .dK kvs => kvs.length ≤ sizeLine ∧ (a == sysModules) = false ∧ ∃ vs, KV kvs vs ∧ h.DictOf (mixKind P w) a vs
  | .dT kvs => kvs.length ≤ sizeLine ∧ (a == sysModules) = false ∧ ∃ xs : List (List Key × Addr × Value),
      Paired (fun (p : List Key × V) (q : List Key × Addr × Value) => p.1 = q.1 ∧ H q.2.1 = some (.tup (p.1.map kV)) ∧ RelV p.2 q.2.2) kvs xs ∧
      ∃ o es ep, h.get? a = some o ∧ o.ExactDict ∧ o.data = .dict es ep ∧ es.toList = xs.map (entryOfKey (tupleKind (mixKind P w))) ∧ (xs.map (·.1)).Nodup
  | .set S n => h.SetOf (intKind P w) a S n
  | .ins C dx fs => H dx = some (.own a) ∧ fs.length ≤ 1000 ∧ dx ≠ a ∧ h.get? a = some (PySem.W.instObj C dx) ∧
      ∃ mA, h.Ns1 dx mA ∧ (∀ f, RelO (fs.lookup f) (mA f)) ∧ PySem.Within mA (fs.map (·.1))
  | .own _ => ∃ o, h.get? a = some o
  | .xd fs => ∃ mA, h.Ns1 a mA ∧ ∀ f, RelO (fs.lookup f) (mA f)
  | .rng lo hi => ∃ t u v, h.get? a = some { cls := .type "range", data := .fields #[.int lo t, .int hi u, .int 1 v] }
  | .frz o u => h.get? a = some o ∧ ObjOk H h a u
  | .tbl ps => h.get? a = some { cls := .none, data := .fields ps }
  | .met f x => h.get? a = some (PySem.W.methodObj (.ref f) (.ref x))
  | .ext φ => φ h ∧ (∃ o, h.get? a = some o) ∧ ∀ h1 h2 : Heap, φ h1 → (∀ o, h1.get? a = some o → h2.get? a = some o) → φ h2
def HOk (H : Hp) (h : Heap) : Prop := ∀ a o, H a = some o → ObjOk P w H h a o
end
section
variable {P : Program} {w : World} {H H' : Hp} {h h' : Heap} {a : Addr} {o : HO}
theorem ObjOk.lt (x : ObjOk P w H h a o) : a < h.objs.size := by
  cases o with
  | lst xs => obtain ⟨_, _, _, _, e⟩ := x; exact Heap.lt_size e
  | tup xs => obtain ⟨_, _, _, p⟩ := x; exact p.lt
  | dK kvs => obtain ⟨_, _, _, _, o, _, _, e, _⟩ := x; exact Heap.lt_size e
  | dT kvs => obtain ⟨_, _, _, _, o, _, _, e, _⟩ := x; exact Heap.lt_size e
  | set S n => obtain ⟨o, _, _, _, e, _⟩ := x; exact Heap.lt_size e
  | ins C dx fs => obtain ⟨_, _, _, e, _⟩ := x; exact Heap.lt_size e
  | own y => obtain ⟨_, e⟩ := x; exact Heap.lt_size e
  | xd fs => obtain ⟨_, ⟨_, _, _, e, _⟩, _⟩ := x; exact Heap.lt_size e
  | rng lo hi => obtain ⟨_, _, _, e⟩ := x; exact Heap.lt_size e
  | frz ob u => obtain ⟨e, _⟩ := x; exact Heap.lt_size e
  | tbl ps => exact Heap.lt_size (show h.get? a = some _ from x)
  | met f y => exact Heap.lt_size (show h.get? a = some _ from x)
  | ext φ => obtain ⟨_, ⟨_, e⟩, _⟩ := x; exact Heap.lt_size e
theorem Paired.mapP {α β : Type} {F G : α → β → Prop} : ∀ {l₁ : List α} {l₂ : List β}, Paired F l₁ l₂ → (∀ a b, F a b → G a b) → Paired G l₁ l₂
  | _, _, .nil, _ => .nil
  | _, _, .cons r t, f => .cons (f _ _ r) (Paired.mapP t f)
theorem ObjOk.stay (x : ObjOk P w H h a o) (k : ∀ b u, (b = a ∨ H b = some (.own a)) → h.get? b = some u → h'.get? b = some u)
    (ho : ∀ b, H b = some (.own a) → H' b = some (.own a)) (ht : ∀ b xs, H b = some (.tup xs) → H' b = some (.tup xs)) : ObjOk P w H' h' a o := by
  induction o with
  | lst xs => obtain ⟨z, its, n, r, e⟩ := x; exact ⟨z, its, n, r, k _ _ (.inl rfl) e⟩
  | tup xs => obtain ⟨z, its, r, ob, e, c⟩ := x; exact ⟨z, its, r, ob, k _ _ (.inl rfl) e, c⟩
  | dK kvs => obtain ⟨z, y, vs, r, ob, es, ep, e, c⟩ := x; exact ⟨z, y, vs, r, ob, es, ep, k _ _ (.inl rfl) e, c⟩
  | dT kvs =>
    obtain ⟨z, y, xs, r, ob, es, ep, e, c⟩ := x
    exact ⟨z, y, xs, Paired.mapP r fun p q z => ⟨z.1, ht _ _ z.2.1, z.2.2⟩, ob, es, ep, k _ _ (.inl rfl) e, c⟩
  | set S n => obtain ⟨ob, es, ep, t, e, c⟩ := x; exact ⟨ob, es, ep, t, k _ _ (.inl rfl) e, c⟩
  | ins C dx fs =>
    obtain ⟨d, z, ne, e, mA, ⟨od, es, ep, e2, c⟩, r⟩ := x
    exact ⟨ho _ d, z, ne, k _ _ (.inl rfl) e, mA, ⟨od, es, ep, k _ _ (.inr d) e2, c⟩, r⟩
  | own y => obtain ⟨ob, e⟩ := x; exact ⟨ob, k _ _ (.inl rfl) e⟩
  | xd fs => obtain ⟨mA, ⟨od, es, ep, e, c⟩, r⟩ := x; exact ⟨mA, ⟨od, es, ep, k _ _ (.inl rfl) e, c⟩, r⟩
  | rng lo hi => obtain ⟨t, u, v, e⟩ := x; exact ⟨t, u, v, k _ _ (.inl rfl) e⟩
  | frz ob u ih => obtain ⟨e, q⟩ := x; exact ⟨k _ _ (.inl rfl) e, ih q⟩
  | tbl ps =>
    have e : h.get? a = some { cls := .none, data := .fields ps } := x
    show h'.get? a = some { cls := .none, data := .fields ps }
    exact k a _ (.inl rfl) e
  | met f y =>
    have e : h.get? a = some (PySem.W.methodObj (.ref f) (.ref y)) := x
    show h'.get? a = some (PySem.W.methodObj (.ref f) (.ref y))
    exact k a _ (.inl rfl) e
  | ext φ => obtain ⟨p, ⟨o, e⟩, st⟩ := x; exact ⟨st _ _ p fun o q => k _ _ (.inl rfl) q, ⟨o, k _ _ (.inl rfl) e⟩, st⟩
theorem HOk.lt (x : HOk P w H h) (e : H a = some o) : a < h.objs.size := (x a o e).lt
theorem HOk.fresh (x : HOk P w H h) (e : h.objs.size ≤ a) : H a = none := by
  cases q : H a with
  | none => rfl
  | some u => exact absurd (Nat.lt_of_lt_of_le (x.lt q) e) (Nat.lt_irrefl _)
theorem HOk.kept (x : HOk P w H h) (k : ∀ b u, h.get? b = some u → h'.get? b = some u) : HOk P w H h' := fun a o e =>
  (x a o e).stay (fun b u _ q => k b u q) (fun _ q => q) fun _ _ q => q
theorem HOk.laid (x : HOk P w H h) (k : ∀ b u, h.get? b = some u → h'.get? b = some u) (hp : h.objs.size ≤ a) (new : ObjOk P w (upd H a o) h' a o) : HOk P w (upd H a o) h' := fun b u e => by
  have hn := x.fresh hp
  by_cases hb : b = a
  · subst hb; rw [upd_same] at e; cases e; exact new
  · rw [upd_ne hb] at e
    exact (x b u e).stay (fun c v _ q => k c v q) (fun c q => by rw [upd_ne (ne_of_none q hn)]; exact q) fun c xs q => by rw [upd_ne (ne_of_none q hn)]; exact q
end
def Rd (H : Hp) (a : Addr) (u : HO) : Prop := H a = some u ∨ ∃ o, H a = some (.frz o u)
theorem Rd.ok {P : Program} {w : World} {H : Hp} {h : Heap} {a : Addr} {u : HO} (r : Rd H a u) (x : HOk P w H h) : ObjOk P w H h a u := by
  rcases r with r | ⟨o, r⟩
  · exact x a u r
  · obtain ⟨_, q⟩ := x a _ r
    exact q
def Mut : Option HO → Prop
  | some (.lst _) => True
  | some (.dK _) => True
  | some (.dT _) => True
  | some (.set _ _) => True
  | some (.ins _ _ _) => True
  | some (.ext _) => True
  | _ => False
section
variable {P : Program} {w : World} {H : Hp} {h h' : Heap} {x e : Addr} {o' : HO}
theorem HOk.write (ok : HOk P w H h) (mu : Mut (H x)) (he : e = x ∨ H e = some (.own x)) (k : ∀ b u, b ≠ e → h.get? b = some u → h'.get? b = some u) (heo : ∃ u, h'.get? e = some u)
    (new : ObjOk P w (upd H x o') h' x o') : HOk P w (upd H x o') h' := fun b u q => by
  have nown : ∀ c y, H c = some (.own y) → c ≠ x := fun c y r z => by subst z; rw [r] at mu; exact mu
  have ntup : ∀ c xs, H c = some (.tup xs) → c ≠ x := fun c xs r z => by subst z; rw [r] at mu; exact mu
  by_cases hb : b = x
  · subst hb; rw [upd_same] at q; cases q; exact new
  · rw [upd_ne hb] at q
    by_cases hbe : b = e
    · have q' : H b = some (.own x) := by
        rcases he with z | z
        · exact absurd (hbe.trans z) hb
        · rw [hbe]; exact z
      rw [q] at q'; cases q'
      obtain ⟨v, hv⟩ := heo
      exact ⟨v, by rw [hbe]; exact hv⟩
    · refine (ok b u q).stay (fun c v hc r => k c v ?_ r) (fun c r => by rw [upd_ne (nown c b r)]; exact r) fun c xs r => by rw [upd_ne (ntup c xs r)]; exact r
      rcases hc with rfl | hc
      · exact hbe
      · rintro rfl
        rcases he with z | z
        · exact nown c b hc z
        · rw [hc] at z; cases z; exact hb rfl
end
structure Un (fs ex : List Addr) (H H' : Hp) (h h' : Heap) : Prop where
  keep : ∀ b o, h.get? b = some o → H b = none → b ∉ fs → b ∉ ex → h'.get? b = some o
  slot : ∀ b o, h.get? b = some o → H b = none → b ∈ fs → b ∉ ex → ∃ sl, h'.get? b = some { o with slots := sl }
  free : ∀ b o, h.get? b = some o → H b = none → b ∉ ex → H' b = none
  there : ∀ b o, h.get? b = some o → b ∉ ex → ∃ o', h'.get? b = some o'
  tups : ∀ b xs, H b = some (.tup xs) → H' b = some (.tup xs)
  frzs : ∀ b o u, H b = some (.frz o u) → H' b = some (.frz o u)
  tbls : ∀ b ps, H b = some (.tbl ps) → ∃ more, H' b = some (.tbl (ps ++ more))
section
variable {fs fs' ex ex' : List Addr} {H H1 H2 : Hp} {h h1 h2 h' : Heap} {a x e : Addr} {o : HO}
theorem Un.any (u : Un fs ex H H1 h h1) {b : Addr} {ob : Obj} (q : h.get? b = some ob) (n : H b = none) (hx : b ∉ ex) : ∃ sl, h1.get? b = some { ob with slots := sl } := by
  by_cases hb : b ∈ fs
  · exact u.slot b ob q n hb hx
  · exact ⟨ob.slots, u.keep b ob q n hb hx⟩
theorem Un.kept (k : ∀ b u, h.get? b = some u → h'.get? b = some u) : Un fs ex H H h h' :=
  ⟨fun b ob q _ _ _ => k b ob q, fun b ob q _ _ _ => ⟨ob.slots, k b ob q⟩, fun _ _ _ n _ => n, fun b ob q _ => ⟨ob, k b ob q⟩, fun _ _ q => q, fun _ _ _ q => q, fun _ ps q => ⟨#[], by rw [q]; simp⟩⟩
theorem Un.refl : Un fs ex H H h h := Un.kept fun _ _ q => q
theorem Un.laid (k : ∀ b u, h.get? b = some u → h'.get? b = some u) (hp : h.objs.size ≤ a) (hn : H a = none) : Un fs ex H (upd H a o) h h' where
  keep := fun b u q _ _ _ => k b u q
  slot := fun b u q _ _ _ => ⟨u.slots, k b u q⟩
  free := fun b u q n _ => by rw [upd_ne (Nat.ne_of_lt (Nat.lt_of_lt_of_le (Heap.lt_size q) hp))]; exact n
  there := fun b u q _ => ⟨u, k b u q⟩
  tups := fun b xs q => by rw [upd_ne (ne_of_none q hn)]; exact q
  frzs := fun b u xs q => by rw [upd_ne (ne_of_none q hn)]; exact q
  tbls := fun b ps q => ⟨#[], by rw [upd_ne (ne_of_none q hn), q]; simp⟩
theorem Un.write (mu : Mut (H x)) (he : e = x ∨ H e = some (.own x)) (k : ∀ b u, b ≠ e → h.get? b = some u → h'.get? b = some u) (heo : ∃ u, h'.get? e = some u) : Un fs ex H (upd H x o) h h' := by
  have hx : ∀ b, H b = none → b ≠ x := fun b n z => by subst z; rw [n] at mu; exact mu
  have hb : ∀ b, H b = none → b ≠ e := fun b n z => by
    subst z
    rcases he with r | r
    · exact hx b n r
    · rw [n] at r; cases r
  have hm : ∀ b u, H b = some u → ¬ Mut (some u) → b ≠ x := fun b u q nm z => by subst z; rw [q] at mu; exact nm mu
  refine ⟨fun b u q n _ _ => k b u (hb b n) q, fun b u q n _ _ => ⟨u.slots, k b u (hb b n) q⟩, fun b u q n _ => by rw [upd_ne (hx b n)]; exact n, fun b u q _ => ?_,
    fun b xs q => by rw [upd_ne (hm b _ q fun z => z)]; exact q, fun b u xs q => by rw [upd_ne (hm b _ q fun z => z)]; exact q, fun b ps q => ⟨#[], by rw [upd_ne (hm b _ q fun z => z), q]; simp⟩⟩
  by_cases hbe : b = e
  · subst hbe; exact heo
  · exact ⟨u, k b u hbe q⟩
end
def trk (h : Heap) (H : Hp) : List Addr := (List.range h.objs.size).filter fun a => (H a).isSome
def hidT (h : Heap) (H : Hp) : Heap := PySem.W.hideAll h (trk h H)
theorem hidT_size (h : Heap) (H : Hp) : (hidT h H).objs.size = h.objs.size := PySem.W.hideAll_size _ _
theorem hidT_get {h : Heap} {H : Hp} {b : Addr} {o : Obj} (e : h.get? b = some o) (n : H b = none) : (hidT h H).get? b = some o :=
  PySem.W.hideAll_get _ e fun hm => by
    have q : (H b).isSome = true := (List.mem_filter.mp hm).2
    rw [n] at q; simp at q
theorem of_hidT {h : Heap} {H : Hp} {b : Addr} {o : Obj} (e : (hidT h H).get? b = some o) : h.get? b = some o ∧ H b = none := by
  have e' : h.get? b = some o := PySem.W.of_hideAll (trk h H) e
  refine ⟨e', ?_⟩
  cases q : H b with
  | none => rfl
  | some x =>
    have hm : b ∈ trk h H := List.mem_filter.mpr ⟨List.mem_range.mpr (Heap.lt_size e'), by simp [q]⟩
    have z : (hidT h H).get? b = none := PySem.W.hideAll_none (trk h H) hm
    rw [z] at e; cases e
def allNews (g h : Heap) (L : Addr) : List (Addr × Obj) := (List.range h.objs.size).filterMap fun a => if a = L ∨ (g.get? a).isSome = true then none else (h.get? a).map fun o => (a, o)
def rest (g h : Heap) (L d : Addr) : List (Addr × Obj) := (allNews g h L).filter fun p => decide (p.1 ≠ d)
end L2
namespace L2
open PySem PySem.Spec PyProof.Rows
structure Mod (K : PySem.W.Frag) (mg : Str → Option Value) (base : Heap) : Prop where
  kin : K.In base
  glob : base.Ns mainGlobals mg
  blt : ∃ mb, base.Ns builtinsNs mb ∧ ∀ x : Str, x ≠ "__name__" → mb x = bootBuiltins x
  nolimit : base.NoLimit
/-- the context: a def's body (or a comprehension's block) running. base: fixed through the whole law; s₀, H₀: the entry; outer: the frames whose slots others may change (a def's callers); stack: all frames that run;
   ex: iterators that were made ahead of the entry and are walked here (a comprehension's); fn: the names whose cells were made at the entry (a def: all; a comprehension's block: its own); calm: not within an except suite; pn: pins that every state bears; xe: what is wanted of an exception that leaves the code -/
structure Cx where
  prog : Program
  w : World
  K : PySem.W.Frag
  mg : Str → Option Value
  base : Heap
  A : Around
  N : List Str
  s₀ : Shared
  H₀ : Hp
  env : Env
  outer : List Env
  stack : List Env
  ex : List Addr
  fn : Str → Bool
  calm : Bool
  pn : List (Addr × Obj)
  xe : Value → Shared → Prop
def frs (l : List Env) : List Addr := l.filterMap (·.frame)
abbrev Cx.fs (X : Cx) : List Addr := frs X.outer
def Vis (sc : Scope) (x : Str) : Prop := sc.names.lookup x = some .local ∨ sc.names.lookup x = some .cell ∨ sc.names.lookup x = some .free
def Loc (sc : Scope) (x : Str) : Prop := sc.names.lookup x = some .local ∨ sc.names.lookup x = some .cell
def Look (env : Env) (h : Heap) (m : Str → Option Value) (x : Str) (u : Value) : Prop :=
  (env.kindOf x = some .local ∧ m x = some u) ∨ ((env.kindOf x = some .cell ∨ env.kindOf x = some .free) ∧ ∃ c, env.cells.lookup x = some c ∧ h.IsCell c (some u))
structure Cx.Ok (X : Cx) : Prop where
  mod : Mod X.K X.mg X.base
  kind : X.env.scope.kind = .function
  glob : X.env.globals = mainGlobals
  blt : X.env.builtins = builtinsNs
  above : X.s₀.heap.objs.size ≤ X.env.locals
  inj : ∀ x y c, X.env.cells.lookup x = some c → X.env.cells.lookup y = some c → x = y
  has : ∀ x, (X.env.kindOf x = some .cell ∨ X.env.kindOf x = some .free) → ∃ c, X.env.cells.lookup x = some c
  cab : ∀ x c, X.fn x = true → X.env.cells.lookup x = some c → X.s₀.heap.objs.size ≤ c
  hd : X.calm = true → X.A.handled = none
  frames : X.A.frames = some X.stack
  stk : X.stack = X.outer ∨ (X.stack = X.env :: X.outer ∧ X.env.frame = some X.env.locals)
  exf : ∀ b ∈ X.ex, b ≠ X.env.locals ∧ ∀ x c, X.env.cells.lookup x = some c → c ≠ b
  bs : ∀ b o, X.base.get? b = some o → X.s₀.heap.get? b = some o ∧ X.H₀ b = none
  bsz : X.base.objs.size ≤ X.s₀.heap.objs.size
  noex : ∀ b o, X.base.get? b = some o → b ∉ X.ex
  exfs : ∀ b ∈ X.ex, b ∉ X.fs
  funs : X.s₀.heap.FunFrames X.base X.outer
  frf : ∀ b ∈ X.fs, X.H₀ b = none
structure Inv (X : Cx) (pins : List (Addr × Obj)) (σ : List (Option V)) (H : Hp) (s : Shared) : Prop where
  ok : X.Ok
  os : s.os = X.s₀.os
  bare : AllBare s.gens
  base : Un X.fs X.ex X.H₀ H X.s₀.heap s.heap
  loc : ∃ m, s.heap.Ns X.env.locals m ∧ ∀ (i : Nat) (x : Str) (v : V), X.N[i]? = some x → σ[i]? = some (some v) → Vis X.env.scope x → ∃ u, RelV v u ∧ Look X.env s.heap m x u
  cell : ∀ x c, X.env.cells.lookup x = some c → ∃ v, s.heap.IsCell c v
  free : H X.env.locals = none
  freeC : ∀ x c, X.env.cells.lookup x = some c → H c = none
  pin : ∀ p ∈ X.pn ++ pins, s.heap.get? p.1 = some p.2 ∧ H p.1 = none ∧ p.1 ≠ X.env.locals ∧ p.1 ∉ X.fs ∧ ∀ v, p.2.data ≠ .cell v
  hok : HOk X.prog X.w H s.heap
  len : σ.length = X.N.length
section
variable {X : Cx} {pins : List (Addr × Obj)} {σ : List (Option V)} {H H' : Hp} {s : Shared} {h' : Heap}
theorem Cx.Ok.nofr (ok : X.Ok) {b : Addr} {o : Obj} (e : X.base.get? b = some o) : b ∉ X.fs := fun hb => by
  have := (ok.funs.mem hb).1
  rw [e] at this; cases this
theorem Inv.bs (I : Inv X pins σ H s) : ∀ b o, X.base.get? b = some o → s.heap.get? b = some o ∧ H b = none := fun b o e =>
  ⟨I.base.keep b o (I.ok.bs b o e).1 (I.ok.bs b o e).2 (I.ok.nofr e) (I.ok.noex b o e), I.base.free b o (I.ok.bs b o e).1 (I.ok.bs b o e).2 (I.ok.noex b o e)⟩
theorem Inv.bk (I : Inv X pins σ H s) : ∀ b o, X.base.get? b = some o → s.heap.get? b = some o := fun b o e => (I.bs b o e).1
theorem Inv.mod (I : Inv X pins σ H s) : Mod X.K X.mg X.base := I.ok.mod
theorem Inv.kIn (I : Inv X pins σ H s) : X.K.In s.heap := I.ok.mod.kin.keeps I.bk
theorem Inv.lt (I : Inv X pins σ H s) : X.env.locals < s.heap.objs.size := let ⟨_, hn, _⟩ := I.loc; hn.lt
theorem Inv.sz (I : Inv X pins σ H s) : X.s₀.heap.objs.size ≤ s.heap.objs.size := Nat.le_trans I.ok.above (Nat.le_of_lt I.lt)
theorem Inv.nofs (I : Inv X pins σ H s) {a : Addr} (h : s.heap.objs.size ≤ a) : a ∉ X.fs := fun hb => by
  obtain ⟨_, o, ho, _⟩ := I.ok.funs.mem hb
  exact absurd (Nat.lt_of_lt_of_le (Heap.lt_size ho) (Nat.le_trans I.sz h)) (Nat.lt_irrefl _)
theorem Inv.cne (I : Inv X pins σ H s) : ∀ x c, X.env.cells.lookup x = some c → c ≠ X.env.locals := fun x c e z => by
  obtain ⟨v, o, ho, hd⟩ := I.cell x c e
  obtain ⟨m, ⟨o', es, ep, ho', hd', _⟩, _⟩ := I.loc
  rw [z, ho'] at ho; cases ho; rw [hd'] at hd; cases hd
theorem Inv.funs (I : Inv X pins σ H s) : s.heap.FunFrames X.base X.outer := by
  have all : ∀ (l : List Env), (∀ b ∈ frs l, b ∈ X.fs) → X.s₀.heap.FunFrames X.base l → s.heap.FunFrames X.base l := by
    intro l
    induction l with
    | nil => intro _ _; trivial
    | cons env r ih =>
      intro hs hl
      obtain ⟨hk, ⟨L, o, hf, hn, ho, hd⟩, hr⟩ := hl
      have hL : L ∈ X.fs := hs L (by unfold frs; rw [List.filterMap_cons, hf]; exact List.mem_cons_self)
      obtain ⟨sl, e⟩ := I.base.slot L o ho (I.ok.frf L hL) hL fun z => I.ok.exfs L z hL
      exact ⟨hk, ⟨L, _, hf, hn, e, hd⟩, ih (fun b hb => hs b (by unfold frs; rw [List.filterMap_cons, hf]; exact List.mem_cons_of_mem _ hb)) hr⟩
  exact all X.outer (fun _ hb => hb) I.ok.funs
theorem Inv.stack (I : Inv X pins σ H s) : s.heap.FunFrames X.base X.stack := by
  rcases I.ok.stk with e | ⟨e, hf⟩
  · rw [e]; exact I.funs
  · rw [e]
    obtain ⟨m, hn, _⟩ := I.loc
    refine .cons (by rw [I.ok.kind]; decide) hf hn ?_ I.funs
    exact Heap.get?_none_of_le (Nat.le_trans I.ok.bsz I.ok.above)
theorem Inv.stkSub (I : Inv X pins σ H s) : ∀ b ∈ frs X.stack, b ∈ X.env.locals :: X.fs := fun b hb => by
  rcases I.ok.stk with e | ⟨e, hf⟩
  · rw [e] at hb; exact List.mem_cons_of_mem _ hb
  · rw [e] at hb
    unfold frs at hb
    rw [List.filterMap_cons, hf] at hb
    exact hb
theorem Inv.stkFree (I : Inv X pins σ H s) : ∀ b ∈ frs X.stack, H b = none := fun b hb => by
  rcases List.mem_cons.mp (I.stkSub b hb) with e | hb
  · rw [e]; exact I.free
  · obtain ⟨_, o, ho, _⟩ := I.ok.funs.mem hb
    exact I.base.free b o ho (I.ok.frf b hb) fun z => I.ok.exfs b z hb
theorem Inv.step {g' : Array GenState} {t' : Nat} {d' : Drawn} {ch : List Addr} (I : Inv X pins σ H s)
    (hch : ∀ b ∈ ch, (b ∈ X.ex ∨ X.s₀.heap.objs.size ≤ b) ∧ b ≠ X.env.locals ∧ (∀ x c, X.env.cells.lookup x = some c → c ≠ b) ∧ ∀ p ∈ X.pn ++ pins, p.1 ≠ b)
    (keep : ∀ b o, b ≠ X.env.locals → b ∉ X.fs → b ∉ ch → s.heap.get? b = some o → H b = none → h'.get? b = some o)
    (slot : ∀ b o, b ≠ X.env.locals → b ∈ X.fs → b ∉ ch → s.heap.get? b = some o → H b = none → ∃ sl, h'.get? b = some { o with slots := sl }) (free : ∀ b o, b ∉ ch → s.heap.get? b = some o → H b = none → H' b = none)
    (there : ∀ b o, b ∉ ch → s.heap.get? b = some o → ∃ o', h'.get? b = some o')
    (tups : ∀ b xs, H b = some (.tup xs) → H' b = some (.tup xs)) (frzs : ∀ b o u, H b = some (.frz o u) → H' b = some (.frz o u)) (tbls : ∀ b ps, H b = some (.tbl ps) → ∃ more, H' b = some (.tbl (ps ++ more)))
    (ns : ∀ m, s.heap.Ns X.env.locals m → h'.Ns X.env.locals m) (hok : HOk X.prog X.w H' h') (hg : AllBare g') :
    Inv X pins σ H' { s with heap := h', gens := g', drawn := d', toks := t' } := by
  have neL : ∀ b o, X.s₀.heap.get? b = some o → b ≠ X.env.locals := fun b o e => Nat.ne_of_lt (Nat.lt_of_lt_of_le (Heap.lt_size e) I.ok.above)
  have neC : ∀ b o, X.s₀.heap.get? b = some o → b ∉ X.ex → b ∉ ch := fun b o e hx hb => by
    rcases (hch b hb).1 with z | z
    · exact hx z
    · exact absurd (Nat.lt_of_lt_of_le (Heap.lt_size e) z) (Nat.lt_irrefl _)
  have cellK : ∀ x c, X.env.cells.lookup x = some c → ∀ v, s.heap.IsCell c v → h'.IsCell c v := fun x c e v ⟨o, ho, hd⟩ => by
    have nch : c ∉ ch := fun z => (hch c z).2.2.1 x c e rfl
    by_cases hc : c ∈ X.fs
    · obtain ⟨sl, q⟩ := slot c o (I.cne x c e) hc nch ho (I.freeC x c e)
      exact ⟨_, q, hd⟩
    · exact ⟨o, keep c o (I.cne x c e) hc nch ho (I.freeC x c e), hd⟩
  refine ⟨I.ok, I.os, hg, ⟨fun b o e n hb hx => ?_, fun b o e n hb hx => ?_, fun b o e n hx => ?_, fun b o e hx => ?_, fun b xs e => tups b xs (I.base.tups b xs e), fun b o xs e => frzs b o xs (I.base.frzs b o xs e), fun b ps e => ?_⟩, ?_, fun x c e => ?_, ?_, fun x c e => ?_, fun p hp => ?_, hok, I.len⟩
  · exact keep b o (neL b o e) hb (neC b o e hx) (I.base.keep b o e n hb hx) (I.base.free b o e n hx)
  · obtain ⟨sl, e1⟩ := I.base.slot b o e n hb hx
    obtain ⟨sl', e2⟩ := slot b _ (neL b o e) hb (neC b o e hx) e1 (I.base.free b o e n hx)
    exact ⟨sl', e2⟩
  · obtain ⟨o', e1⟩ := I.base.there b o e hx
    exact free b o' (neC b o e hx) e1 (I.base.free b o e n hx)
  · obtain ⟨o', e1⟩ := I.base.there b o e hx
    exact there b o' (neC b o e hx) e1
  · obtain ⟨m1, e1⟩ := I.base.tbls b ps e
    obtain ⟨m2, e2⟩ := tbls b _ e1
    exact ⟨m1 ++ m2, by rw [e2, Array.append_assoc]⟩
  · obtain ⟨m, hn, hl⟩ := I.loc
    refine ⟨m, ns m hn, fun i x v e1 e2 e3 => ?_⟩
    obtain ⟨u, r, l⟩ := hl i x v e1 e2 e3
    refine ⟨u, r, ?_⟩
    rcases l with l | ⟨k, c, e, z⟩
    · exact .inl l
    · exact .inr ⟨k, c, e, cellK x c e _ z⟩
  · obtain ⟨v, z⟩ := I.cell x c e
    exact ⟨v, cellK x c e v z⟩
  · obtain ⟨m, ⟨o, _, _, ho, _⟩, _⟩ := I.loc
    exact free _ o (fun z => (hch _ z).2.1 rfl) ho I.free
  · obtain ⟨v, o, ho, hd⟩ := I.cell x c e
    exact free c o (fun z => (hch c z).2.2.1 x c e rfl) ho (I.freeC x c e)
  · obtain ⟨e, n, ne, nf, d⟩ := I.pin p hp
    have nch : p.1 ∉ ch := fun z => (hch p.1 z).2.2.2 p hp rfl
    exact ⟨keep p.1 p.2 ne nf nch e n, free p.1 p.2 nch e n, ne, nf, d⟩
theorem Inv.un {t' : Nat} (I : Inv X pins σ H s) (u : Un X.fs [] H H' s.heap h') (hok : HOk X.prog X.w H' h') : Inv X pins σ H' { s with heap := h', toks := t' } := by
  obtain ⟨m, ⟨o, es, ep, ho, r⟩, _⟩ := id I.loc
  obtain ⟨sl, hL⟩ := u.any ho I.free (by simp)
  exact I.step (g' := s.gens) (d' := s.drawn) (ch := []) (fun _ z => nomatch z) (fun b o _ hb _ e n => u.keep b o e n hb (by simp)) (fun b o _ hb _ e n => u.slot b o e n hb (by simp)) (fun b o _ e n => u.free b o e n (by simp)) (fun b o _ e => u.there b o e (by simp)) u.tups u.frzs u.tbls (fun m' hm => by
    obtain ⟨o', es', ep', ho', r'⟩ := hm
    rw [ho] at ho'; cases ho'
    exact ⟨_, es', ep', hL, r'⟩) hok I.bare
theorem Inv.call {g' : Array GenState} {t' : Nat} {d' : Drawn} {ch : List Addr} (I : Inv X pins σ H s) (u : Un (frs X.stack) ch H H' s.heap h') (hok : HOk X.prog X.w H' h') (hg : AllBare g')
    (hch : ∀ b ∈ ch, (b ∈ X.ex ∨ X.s₀.heap.objs.size ≤ b) ∧ b ≠ X.env.locals ∧ (∀ x c, X.env.cells.lookup x = some c → c ≠ b) ∧ ∀ p ∈ X.pn ++ pins, p.1 ≠ b) :
    Inv X pins σ H' { s with heap := h', gens := g', drawn := d', toks := t' } := by
  obtain ⟨m, ⟨o, es, ep, ho, r⟩, _⟩ := id I.loc
  obtain ⟨sl, hL⟩ := u.any ho I.free fun z => (hch _ z).2.1 rfl
  exact I.step (ch := ch) hch (fun b o hL hb hc e n => u.keep b o e n (fun z => (List.mem_cons.mp (I.stkSub b z)).elim hL hb) hc) (fun b o _ _ hc e n => u.any e n hc) (fun b o hc e n => u.free b o e n hc) (fun b o hc e => u.there b o e hc) u.tups u.frzs u.tbls (fun m' hm => by
    obtain ⟨o', es', ep', ho', r'⟩ := hm
    rw [ho] at ho'; cases ho'
    exact ⟨_, es', ep', hL, r'⟩) hok hg
theorem Inv.turned {t' : Nat} {it : Addr} (I : Inv X pins σ H s) (k : ∀ b o, b ≠ it → s.heap.get? b = some o → h'.get? b = some o) (hn : H it = none) (hL : it ≠ X.env.locals)
    (h1 : it ∈ X.ex ∨ X.s₀.heap.objs.size ≤ it) (h2 : ∀ x c, X.env.cells.lookup x = some c → c ≠ it) (h3 : ∀ p ∈ X.pn ++ pins, p.1 ≠ it) : Inv X pins σ H { s with heap := h', toks := t' } := by
  have nit : ∀ b u, H b = some u → b ≠ it := fun b u e z => by rw [z, hn] at e; cases e
  refine I.step (g' := s.gens) (d' := s.drawn) (ch := [it]) (fun b hb => ?_) (fun b o _ _ hc e _ => k b o (fun z => hc (by simp [z])) e) (fun b o _ _ hc e _ => ⟨o.slots, k b o (fun z => hc (by simp [z])) e⟩) (fun _ _ _ _ n => n)
    (fun b o hc e => ⟨o, k b o (fun z => hc (by simp [z])) e⟩) (fun _ _ e => e) (fun _ _ _ e => e) (fun b ps e => ⟨#[], by rw [e]; simp⟩) (fun m hm => ?_) (fun b u e => ?_) I.bare
  · have e : b = it := by simpa using hb
    subst e
    exact ⟨h1, hL, h2, h3⟩
  · obtain ⟨o, es, ep, ho, r⟩ := hm
    exact ⟨o, es, ep, k _ o (Ne.symm hL) ho, r⟩
  · refine (I.hok b u e).stay (fun c v hc q => k c v ?_ q) (fun _ q => q) fun _ _ q => q
    rcases hc with z | z
    · rw [z]; exact nit b u e
    · exact nit c _ z
theorem Inv.tok (I : Inv X pins σ H s) (t : Nat) : Inv X pins σ H { s with toks := t } := I.un (h' := s.heap) (t' := t) Un.refl I.hok
theorem Inv.kept {t' : Nat} (I : Inv X pins σ H s) (k : ∀ b u, s.heap.get? b = some u → h'.get? b = some u) : Inv X pins σ H { s with heap := h', toks := t' } := I.un (Un.kept k) (I.hok.kept k)
theorem Inv.laid {a : Addr} {o : HO} {t' : Nat} (I : Inv X pins σ H s) (k : ∀ b u, s.heap.get? b = some u → h'.get? b = some u) (hp : s.heap.objs.size ≤ a) (new : ObjOk X.prog X.w (upd H a o) h' a o) :
    Inv X pins σ (upd H a o) { s with heap := h', toks := t' } := I.un (Un.laid k hp (I.hok.fresh hp)) (I.hok.laid k hp new)
theorem Inv.write {x e : Addr} {o : HO} {t' : Nat} (I : Inv X pins σ H s) (mu : Mut (H x)) (he : e = x ∨ H e = some (.own x)) (k : ∀ b u, b ≠ e → s.heap.get? b = some u → h'.get? b = some u) (heo : ∃ u, h'.get? e = some u)
    (new : ObjOk X.prog X.w (upd H x o) h' x o) : Inv X pins σ (upd H x o) { s with heap := h', toks := t' } := I.un (Un.write mu he k heo) (I.hok.write mu he k heo new)
theorem Inv.weak {σ' : List (Option V)} (I : Inv X pins σ H s) (hl : σ'.length = σ.length) (w : ∀ (i : Nat) v, σ'[i]? = some (some v) → σ[i]? = some (some v)) : Inv X pins σ' H s :=
  ⟨I.ok, I.os, I.bare, I.base, let ⟨m, hn, hl'⟩ := I.loc; ⟨m, hn, fun i x v e1 e2 e3 => hl' i x v e1 (w i v e2) e3⟩, I.cell, I.free, I.freeC, I.pin, I.hok, hl.trans I.len⟩
theorem Inv.pins_of {pins' : List (Addr × Obj)} (I : Inv X pins σ H s) (h : ∀ p ∈ pins', s.heap.get? p.1 = some p.2 ∧ H p.1 = none ∧ p.1 ≠ X.env.locals ∧ p.1 ∉ X.fs ∧ ∀ v, p.2.data ≠ .cell v) : Inv X pins' σ H s :=
  ⟨I.ok, I.os, I.bare, I.base, I.loc, I.cell, I.free, I.freeC, fun p hp => (List.mem_append.mp hp).elim (fun z => I.pin p (List.mem_append_left _ z)) (h p), I.hok, I.len⟩
theorem nodup_ix {N : List Str} (hN : N.Nodup) {i j : Nat} {x : Str} (a : N[i]? = some x) (b : N[j]? = some x) : i = j := by
  obtain ⟨h1, e1⟩ := List.getElem?_eq_some_iff.mp a
  obtain ⟨h2, e2⟩ := List.getElem?_eq_some_iff.mp b
  exact (List.getElem_inj hN).mp (e1.trans e2.symm)
theorem store_ok2 {M : Model} {A : Around} {E : Value → Shared → Prop} {i : Nat} {x : Str} {v : V} {u : Value} {Q : Unit → Shared → Prop} (I : Inv X pins σ H s) (hN : X.N.Nodup) (hi : X.N[i]? = some x) (hx : Loc X.env.scope x) (r : RelV v u)
    (h : ∀ s', Inv X pins (σ.set i (some v)) H s' → (∃ a, Heap.SameBut a s.heap s'.heap ∧ (a = X.env.locals ∨ X.env.cells.lookup x = some a)) → Q () s') (hf : X.fn x = true ∨ X.env.scope.names.lookup x = some .local := by first | exact .inl rfl | exact .inr rfl | assumption) : wpAny M A (storeName X.env x u) Q E s := by
  obtain ⟨m, hn, hl⟩ := id I.loc
  have hcls : (X.env.scope.kind == .class || (X.env.scope.kind == .module && X.env.locals != X.env.globals)) = false := by rw [I.ok.kind]; rfl
  have hiσ : i < σ.length := by rw [I.len]; exact (List.getElem?_eq_some_iff.mp hi).1
  have cne := I.cne
  have tracked : ∀ {a : Addr} {h' : Heap}, (∃ o, s.heap.get? a = some o ∧ H a = none) → Heap.SameBut a s.heap h' → HOk X.prog X.w H h' := fun {a h'} ha hs b ob e => by
    obtain ⟨_, _, hfree⟩ := ha
    refine (I.hok b ob e).stay (fun c w' hc q => (hs.2 c ?_).trans q) (fun _ q => q) fun _ _ q => q
    rintro rfl
    rcases hc with rfl | hc
    · rw [hfree] at e; cases e
    · rw [hfree] at hc; cases hc
  rcases hx with hk | hk
  · refine wpAny_storeName_local hk hn (fun h' hn' hs => ?_) hcls
    obtain ⟨oL, _, _, hoL, _⟩ := id hn
    refine h _ ⟨I.ok, I.os, I.bare, ⟨fun b o e n hb hx => ?_, fun b o e n hb hx => ?_, I.base.free, fun b o e hx => ?_, I.base.tups, I.base.frzs, I.base.tbls⟩, ⟨_, hn', fun j y v' e1 e2 e3 => ?_⟩, fun y c e => ?_, I.free, I.freeC, fun p hp => ?_, tracked ⟨oL, hoL, I.free⟩ hs, by simpa using I.len⟩ ⟨_, hs, .inl rfl⟩
    · exact (hs.2 b (Nat.ne_of_lt (Nat.lt_of_lt_of_le (Heap.lt_size e) I.ok.above))).trans (I.base.keep b o e n hb hx)
    · obtain ⟨sl, e1⟩ := I.base.slot b o e n hb hx
      exact ⟨sl, (hs.2 b (Nat.ne_of_lt (Nat.lt_of_lt_of_le (Heap.lt_size e) I.ok.above))).trans e1⟩
    · obtain ⟨o', e1⟩ := I.base.there b o e hx
      exact ⟨o', (hs.2 b (Nat.ne_of_lt (Nat.lt_of_lt_of_le (Heap.lt_size e) I.ok.above))).trans e1⟩
    · by_cases hj : j = i
      · subst hj
        rw [hi] at e1; cases e1
        rw [List.getElem?_set_self hiσ] at e2
        cases e2
        exact ⟨u, r, .inl ⟨hk, by simp⟩⟩
      · rw [List.getElem?_set_ne (Ne.symm hj)] at e2
        obtain ⟨u', r', q⟩ := hl j y v' e1 e2 e3
        refine ⟨u', r', ?_⟩
        rcases q with ⟨k, e⟩ | ⟨k, c, e, z⟩
        · refine .inl ⟨k, ?_⟩
          have : y ≠ x := fun e => hj (nodup_ix hN e1 (e ▸ hi))
          simp [this, e]
        · exact .inr ⟨k, c, e, z.sameBut hs (cne y c e)⟩
    · obtain ⟨w', z⟩ := I.cell y c e
      exact ⟨w', z.sameBut hs (cne y c e)⟩
    · obtain ⟨e, n, ne, nf, d⟩ := I.pin p hp
      exact ⟨(hs.2 p.1 ne).trans e, n, ne, nf, d⟩
  · have hfn : X.fn x = true := by
      rcases hf with z | z
      · exact z
      · rw [z] at hk; cases hk
    obtain ⟨c, hc⟩ := I.ok.has x (.inl hk)
    obtain ⟨w', z⟩ := I.cell x c hc
    refine wpAny_storeName_cell I.ok.kind hk hc z (fun h' hc' hs => ?_)
    obtain ⟨oc, hoc, hocd⟩ := id z
    refine h { s with heap := h' } ⟨I.ok, I.os, I.bare, ⟨fun b o e n hb hx => ?_, fun b o e n hb hx => ?_, I.base.free, fun b o e hx => ?_, I.base.tups, I.base.frzs, I.base.tbls⟩, ⟨m, hn.sameBut hs (Ne.symm (cne x c hc)), fun j y v' e1 e2 e3 => ?_⟩, fun y c' e => ?_, I.free, I.freeC, fun p hp => ?_, tracked ⟨oc, hoc, I.freeC x c hc⟩ hs, by simpa using I.len⟩ ⟨c, hs, .inr hc⟩
    · exact (hs.2 b (Nat.ne_of_lt (Nat.lt_of_lt_of_le (Heap.lt_size e) (I.ok.cab x c hfn hc)))).trans (I.base.keep b o e n hb hx)
    · obtain ⟨sl, e1⟩ := I.base.slot b o e n hb hx
      exact ⟨sl, (hs.2 b (Nat.ne_of_lt (Nat.lt_of_lt_of_le (Heap.lt_size e) (I.ok.cab x c hfn hc)))).trans e1⟩
    · obtain ⟨o', e1⟩ := I.base.there b o e hx
      exact ⟨o', (hs.2 b (Nat.ne_of_lt (Nat.lt_of_lt_of_le (Heap.lt_size e) (I.ok.cab x c hfn hc)))).trans e1⟩
    · by_cases hj : j = i
      · subst hj
        rw [hi] at e1; cases e1
        rw [List.getElem?_set_self hiσ] at e2
        cases e2
        exact ⟨u, r, .inr ⟨.inl hk, c, hc, hc'⟩⟩
      · rw [List.getElem?_set_ne (Ne.symm hj)] at e2
        obtain ⟨u', r', q⟩ := hl j y v' e1 e2 e3
        refine ⟨u', r', ?_⟩
        rcases q with q | ⟨k, c', e, z'⟩
        · exact .inl q
        · refine .inr ⟨k, c', e, z'.sameBut hs ?_⟩
          rintro rfl
          exact hj (nodup_ix hN e1 (I.ok.inj _ _ _ e hc ▸ hi))
    · by_cases hcc : c' = c
      · subst hcc; exact ⟨_, hc'⟩
      · obtain ⟨w2, z2⟩ := I.cell y c' e
        exact ⟨w2, z2.sameBut hs hcc⟩
    · obtain ⟨e, n, ne, nf, d⟩ := I.pin p hp
      refine ⟨(hs.2 p.1 ?_).trans e, n, ne, nf, d⟩
      intro q
      rw [q, hoc] at e
      have q' : oc = p.2 := Option.some.inj e
      exact d w' (by rw [← q']; exact hocd)
theorem store_ok {M : Model} {A : Around} {E : Value → Shared → Prop} {i : Nat} {x : Str} {v : V} {u : Value} {Q : Unit → Shared → Prop} (I : Inv X pins σ H s) (hN : X.N.Nodup) (hi : X.N[i]? = some x) (hx : Loc X.env.scope x) (r : RelV v u)
    (h : ∀ s', Inv X pins (σ.set i (some v)) H s' → Q () s') (hf : X.fn x = true ∨ X.env.scope.names.lookup x = some .local := by first | exact .inl rfl | exact .inr rfl | assumption) : wpAny M A (storeName X.env x u) Q E s :=
  store_ok2 I hN hi hx r (fun s' I' _ => h s' I') hf
theorem Inv.call' {s' : Shared} {ch : List Addr} (I : Inv X pins σ H s) (ho : s'.os = s.os) (u : Un (frs X.stack) ch H H' s.heap s'.heap) (hok : HOk X.prog X.w H' s'.heap) (hg : AllBare s'.gens)
    (hch : ∀ b ∈ ch, (b ∈ X.ex ∨ X.s₀.heap.objs.size ≤ b) ∧ b ≠ X.env.locals ∧ (∀ x c, X.env.cells.lookup x = some c → c ≠ b) ∧ ∀ p ∈ X.pn ++ pins, p.1 ≠ b) : Inv X pins σ H' s' := by
  obtain ⟨h', g', d', t', o'⟩ := s'
  have e : o' = s.os := ho
  subst e
  exact I.call (g' := g') (t' := t') (d' := d') u hok hg hch
end
abbrev XK := Value → Option Addr → Hp → Prop
abbrev St := List (Option V)
abbrev VK := V → Hp → Prop
abbrev TE := St → Hp → VK → Prop
abbrev TT := St → Hp → (Bool → Hp → Prop) → Prop
abbrev TA := St → Hp → (List V → Hp → Prop) → Prop
structure Ends where
  nx : St → Hp → Prop
  rt : VK
  bk : St → Hp → Prop := fun _ _ => False
  ct : St → Hp → Prop := fun _ _ => False
abbrev TS := Ends → St → Hp → Prop
def EP (X : Cx) (pins : List (Addr × Obj)) (σ : St) (Q : VK) (u : Value) (s' : Shared) : Prop := ∃ v H', Inv X pins σ H' s' ∧ RelV v u ∧ Q v H'
def TP (X : Cx) (pins : List (Addr × Obj)) (σ : St) (Q : Bool → Hp → Prop) (b : Bool) (s' : Shared) : Prop := ∃ H', Inv X pins σ H' s' ∧ Q b H'
def AP (X : Cx) (pins : List (Addr × Obj)) (σ : St) (Q : List V → Hp → Prop) (us : List Value) (s' : Shared) : Prop := ∃ vs H', Inv X pins σ H' s' ∧ Vals vs us ∧ Q vs H'
def SP (X : Cx) (pins : List (Addr × Obj)) (D : Ends) (f : Flow) (s' : Shared) : Prop :=
  match f with
  | .next => ∃ σ' H', Inv X pins σ' H' s' ∧ D.nx σ' H'
  | .brk => ∃ σ' H', Inv X pins σ' H' s' ∧ D.bk σ' H'
  | .cont => ∃ σ' H', Inv X pins σ' H' s' ∧ D.ct σ' H'
  | .ret u => ∃ v σ' H', Inv X pins σ' H' s' ∧ RelV v u ∧ D.rt v H'
def PE (X : Cx) (e : Expr) (t : TE) : Prop :=
  ∀ (pins : List (Addr × Obj)) (s : Shared) (σ : St) (H : Hp) (Q : VK), Inv X pins σ H s → t σ H Q → wpAny (model X.prog X.w) X.A (eval e X.env) (EP X pins σ Q) X.xe s
def PT (X : Cx) (e : Expr) (t : TT) : Prop :=
  ∀ (pins : List (Addr × Obj)) (s : Shared) (σ : St) (H : Hp) (Q : Bool → Hp → Prop), Inv X pins σ H s → t σ H Q → wpAny (model X.prog X.w) X.A (isTrue e X.env (eval e X.env)) (TP X pins σ Q) X.xe s
def PW (X : Cx) (e : Expr) (t : TT) : Prop :=
  ∀ (whole : Sem Value) (pins : List (Addr × Obj)) (s : Shared) (σ : St) (H : Hp) (Q : Bool → Hp → Prop), Inv X pins σ H s → t σ H Q → wpAny (model X.prog X.w) X.A (isTrue e X.env whole) (TP X pins σ Q) X.xe s
theorem PW.pt {X : Cx} {e : Expr} {t : TT} (h : PW X e t) : PT X e t := h _
def PA (X : Cx) (es : List Expr) (t : TA) : Prop :=
  ∀ (pos : Pos) (pins : List (Addr × Obj)) (s : Shared) (σ : St) (H : Hp) (Q : List V → Hp → Prop), Inv X pins σ H s → t σ H Q → wpAny (model X.prog X.w) X.A (spliced (backTo pos (starEach es X.env))) (AP X pins σ Q) X.xe s
def PS (X : Cx) (st : Stmt) (t : TS) : Prop :=
  ∀ (pins : List (Addr × Obj)) (s : Shared) (σ : St) (H : Hp) (D : Ends), Inv X pins σ H s → t D σ H → wpAny (model X.prog X.w) X.A (exec st X.env) (SP X pins D) X.xe s
def PSs (X : Cx) (st : List Stmt) (t : TS) : Prop :=
  ∀ (pins : List (Addr × Obj)) (s : Shared) (σ : St) (H : Hp) (D : Ends), Inv X pins σ H s → t D σ H → wpAny (model X.prog X.w) X.A (execs st X.env) (SP X pins D) X.xe s
theorem thn {α : Type} {t : Sem α} {Q Q' : α → Shared → Prop} {M : Model} {A : Around} {E : Value → Shared → Prop} {s : Shared} (h : wpAny M A t Q E s) (hQ : ∀ a s, Q a s → Q' a s) : wpAny M A t Q' E s := wpAny_mono h hQ fun _ _ x => x
end L2
namespace L2
open PySem PySem.Spec PyProof.Rows
section
variable {X : Cx}
def tVar (i : Nat) : TE := fun σ H Q => ∃ v, σ[i]? = some (some v) ∧ Q v H
def tC (v : V) : TE := fun _ H Q => Q v H
theorem pe_var {i : Nat} {x : Str} {pos : Pos} (hN : X.N[i]? = some x) (hv : Vis X.env.scope x) (hd : (x == ("__debug__" : Str)) = false := by decide) (hcd : (x == ("__classdict__" : Str)) = false := by decide) : PE X (.Name x pos) (tVar i) := by
  intro pins s σ H Q I h
  obtain ⟨v, e, h⟩ := h
  obtain ⟨m, hn, hl⟩ := I.loc
  obtain ⟨u, r, l⟩ := hl i x v hN e hv
  have fin : EP X pins σ Q u s := ⟨v, H, I, r, h⟩
  rcases l with ⟨hk, hm⟩ | ⟨hk, c, hc, hcell⟩
  · exact wpAny_Name (wpAny_loadName_local I.ok.kind hk hn hm fin) hd
  · rcases hk with hk | hk
    · exact wpAny_Name (wpAny_loadName_cell I.ok.kind hk hc hcell fin) hd
    · exact wpAny_Name (wpAny_loadName_free I.ok.kind hk hc hcell fin hcd) hd
theorem pe_int {i j pos} : PE X (.Constant (.int i) j pos) (tC (.int i)) := fun _ _ _ H _ I h => wpAny_Constant_int ⟨.int i, H, I.tok _, ⟨_, rfl⟩, h⟩
theorem pe_bl {b j pos} : PE X (.Constant (.bool b) j pos) (tC (.bl b)) := fun _ _ _ H _ I h => Constant_bool ⟨.bl b, H, I, rfl, h⟩
theorem pe_non {j pos} : PE X (.Constant .none j pos) (tC .non) := fun _ _ _ H _ I h => Constant_none ⟨.non, H, I, rfl, h⟩
theorem pe_str {x j pos} : PE X (.Constant (.str x) j pos) (tC (.str x)) := fun _ _ _ H _ I h => Calls.Constant_str ⟨.str x, H, I.tok _, ⟨_, rfl⟩, h⟩
def Gl (X : Cx) (x : Str) : Prop := X.env.kindOf x = some .globalImplicit
theorem ld_glob {E : Value → Shared → Prop} {pins : List (Addr × Obj)} {s : Shared} {σ : St} {H : Hp} {x : Str} {u : Value} {pos : Pos} {Q : Value → Shared → Prop} (I : Inv X pins σ H s) (hg : Gl X x) (hm : X.mg x = some u) (h : Q u s)
    (hd : (x == ("__debug__" : Str)) = false := by decide) : wpAny (model X.prog X.w) X.A (eval (.Name x pos) X.env) Q E s :=
  Calls.Name_function_global I.ok.kind hg (Calls.loadGlobal_global (by rw [I.ok.glob]; exact I.mod.glob.keeps I.bk) hm h) hd
theorem ld_blt {E : Value → Shared → Prop} {pins : List (Addr × Obj)} {s : Shared} {σ : St} {H : Hp} {x : Str} {u : Value} {pos : Pos} {Q : Value → Shared → Prop} (I : Inv X pins σ H s) (hg : Gl X x) (hm : X.mg x = none) (hv : bootBuiltins x = some u) (h : Q u s)
    (hn : x ≠ "__name__" := by decide) (hd : (x == ("__debug__" : Str)) = false := by decide) : wpAny (model X.prog X.w) X.A (eval (.Name x pos) X.env) Q E s := by
  obtain ⟨mb, h1, h2⟩ := I.mod.blt
  exact Calls.Name_function_global I.ok.kind hg (Calls.loadGlobal_builtin (by rw [I.ok.glob]; exact I.mod.glob.keeps I.bk) hm (by rw [I.ok.blt]; exact h1.keeps I.bk) ((h2 x hn).trans hv) h) hd
theorem pe_glob {x : Str} {v : V} {u : Value} {pos : Pos} (hg : Gl X x) (hm : X.mg x = some u) (r : RelV v u) (hd : (x == ("__debug__" : Str)) = false := by decide) : PE X (.Name x pos) (tC v) :=
  fun _ _ _ H _ I h => ld_glob I hg hm ⟨v, H, I, r, h⟩ hd
theorem pe_bltn {x : Str} {v : V} {u : Value} {pos : Pos} (hg : Gl X x) (hm : X.mg x = none) (hv : bootBuiltins x = some u) (r : RelV v u) (hn : x ≠ "__name__" := by decide) (hd : (x == ("__debug__" : Str)) = false := by decide) : PE X (.Name x pos) (tC v) :=
  fun _ _ _ H _ I h => ld_blt I hg hm hv ⟨v, H, I, r, h⟩ hn hd
def t2I (ta tb : TE) (k : Int → Int → Hp → Prop) : St → Hp → Prop := fun σ H => ta σ H fun x H1 => tb σ H1 fun y H2 => ∃ i j, x = .int i ∧ y = .int j ∧ k i j H2
def tAdd (ta tb : TE) : TE := fun σ H Q => t2I ta tb (fun i j H2 => Q (.int (i + j)) H2) σ H
def tSub (ta tb : TE) : TE := fun σ H Q => t2I ta tb (fun i j H2 => Q (.int (i - j)) H2) σ H
def tMul (ta tb : TE) : TE := fun σ H Q => t2I ta tb (fun i j H2 => (-(2 ^ 64) < i ∧ i < 2 ^ 64) ∧ Q (.int (i * j)) H2) σ H
variable {a b : Expr} {ta tb : TE} {pos : Pos}
def PC (X : Cx) (op : CmpOp) (a b : Expr) (t : TE) : Prop :=
  ∀ (pins : List (Addr × Obj)) (s : Shared) (σ : St) (H : Hp) (Q : VK), Inv X pins σ H s → t σ H Q →
    wpAny (model X.prog X.w) X.A (eval a X.env) (fun v s₁ => wpAny (model X.prog X.w) X.A (eval b X.env) (fun u s₂ => wpAny (model X.prog X.w) X.A (compareOp op v u) (EP X pins σ Q) X.xe s₂) X.xe s₁) X.xe s
theorem nobehind (b : Expr) {op : CmpOp} (h : op ≠ .In) (h2 : op ≠ .NotIn) : behindInMarks op b = false := by
  have e1 : (op == CmpOp.In) = false := by cases op <;> first | rfl | exact absurd rfl h
  have e2 : (op == CmpOp.NotIn) = false := by cases op <;> first | rfl | exact absurd rfl h2
  cases b <;> simp [behindInMarks, e1, e2]
def tCmp (p : Int → Int → Bool) (ta tb : TE) : TE := fun σ H Q => t2I ta tb (fun i j H2 => Q (.bl (p i j)) H2) σ H
abbrev tLt : TE → TE → TE := tCmp fun i j => decide (i < j)
abbrev tLe : TE → TE → TE := tCmp fun i j => decide (i ≤ j)
abbrev tGt : TE → TE → TE := tCmp fun i j => decide (j < i)
abbrev tGe : TE → TE → TE := tCmp fun i j => decide (j ≤ i)
abbrev tEqI : TE → TE → TE := tCmp fun i j => decide (i = j)
abbrev tNeI : TE → TE → TE := tCmp fun i j => !decide (i = j)
def tIsN (ta : TE) : TE := fun σ H Q => ta σ H fun x H1 => Q (.bl (decide (x = .non))) H1
def tNotN (ta : TE) : TE := fun σ H Q => ta σ H fun x H1 => Q (.bl (!decide (x = .non))) H1
theorem RelV.none_iff {x : V} {v : Value} (r : RelV x v) : (v == Value.none) = decide (x = .non) := by
  cases x with
  | non => cases r; rfl
  | bl _ => cases r; rfl
  | int _ => obtain ⟨t, rfl⟩ := r; rfl
  | str _ => obtain ⟨t, rfl⟩ := r; rfl
  | byt _ => obtain ⟨t, rfl⟩ := r; rfl
  | flt _ => obtain ⟨t, rfl⟩ := r; rfl
  | ref _ => cases r; rfl
  | ty _ => cases r; rfl
theorem pc_isN {j pos'} (ha : PE X a ta) : PC X .Is a (.Constant .none j pos') (tIsN ta) := by
  intro pins s σ H Q I h
  refine thn (ha pins s σ H _ I h) fun v s1 ⟨x, H1, I1, r1, q1⟩ => ?_
  exact Constant_none (is_none_gen ⟨.bl _, H1, I1, by rw [r1.none_iff]; rfl, q1⟩)
def tB (t : TE) : TT := fun σ H Q => t σ H fun x H1 => ∃ c, x = .bl c ∧ Q c H1
theorem pt_cmp {op : CmpOp} {t : TE} (h : PC X op a b t) (h1 : behindInMarks op b = false := by first | exact nobehind _ (by decide) (by decide) | rfl) : PT X (.Compare a [op] [b] pos) (tB t) := by
  intro pins s σ H Q I hw
  refine wpAny_isTrue_Compare1 (thn (h pins s σ H _ I hw) fun v s1 h1 => thn h1 fun u s2 h2 => thn h2 fun c s3 ⟨x, H1, I1, r1, q1⟩ => ?_) h1
  obtain ⟨d, rfl, q⟩ := q1
  cases r1
  exact wpAny_truthy_bool ⟨H1, I1, q⟩
theorem pt_val {e : Expr} {t : TE} (h : PE X e t) (he : ∀ whole, isTrue e X.env whole = (do let v ← whole; standAt e.pos; holding [v] (truthy v)) := by intro _; rfl) : PT X e (tB t) := by
  intro pins s σ H Q I hw
  refine isTrue_plain (thn (h pins s σ H _ I hw) fun v s1 ⟨x, H1, I1, r1, q1⟩ => ?_) (he _)
  obtain ⟨d, rfl, q⟩ := q1
  cases r1
  exact wpAny_truthy_bool ⟨H1, I1, q⟩
variable {tA tB' : TT} {rest : List Expr}
def tAnd (t u : TT) : TT := fun σ H Q => t σ H fun c H1 => if c = true then u σ H1 Q else Q false H1
def tOr (t u : TT) : TT := fun σ H Q => t σ H fun c H1 => if c = true then Q true H1 else u σ H1 Q
def tNot (t : TT) : TT := fun σ H Q => t σ H fun c H1 => Q (!c) H1
theorem pw_and1 (ha : PT X a tA) : PW X (.BoolOp .And [a] pos) tA := by
  intro wh pins s σ H Q I h
  refine isTrue_and (thn (ha pins s σ H Q I h) fun c s1 e => ?_)
  cases c with
  | true => exact isTrue_and_nil e
  | false => exact e
theorem pw_or1 (ha : PT X a tA) : PW X (.BoolOp .Or [a] pos) tA := by
  intro wh pins s σ H Q I h
  refine isTrue_or (thn (ha pins s σ H Q I h) fun c s1 e => ?_)
  cases c with
  | false => exact isTrue_or_nil e
  | true => exact e
theorem pw_and (ha : PT X a tA) (hb : PW X (.BoolOp .And (b :: rest) pos) tB') : PW X (.BoolOp .And (a :: b :: rest) pos) (tAnd tA tB') := by
  intro wh pins s σ H Q I h
  refine isTrue_and (thn (ha pins s σ H _ I h) fun c s1 ⟨H1, I1, q1⟩ => ?_)
  cases c with
  | true => exact hb wh pins s1 σ H1 Q I1 q1
  | false => exact ⟨H1, I1, q1⟩
theorem pw_or (ha : PT X a tA) (hb : PW X (.BoolOp .Or (b :: rest) pos) tB') : PW X (.BoolOp .Or (a :: b :: rest) pos) (tOr tA tB') := by
  intro wh pins s σ H Q I h
  refine isTrue_or (thn (ha pins s σ H _ I h) fun c s1 ⟨H1, I1, q1⟩ => ?_)
  cases c with
  | true => exact ⟨H1, I1, q1⟩
  | false => exact hb wh pins s1 σ H1 Q I1 q1
theorem pt_not (ha : PT X a tA) : PT X (.UnaryOp .Not a pos) (tNot tA) := by
  intro pins s σ H Q I h
  exact isTrue_not (ha pins s σ H (fun c H1 => Q (!c) H1) I h)
def tAndV (ta tb : TE) : TE := fun σ H Q => ta σ H fun x H1 => ∃ c, x = .bl c ∧ if c = true then tb σ H1 Q else Q (.bl false) H1
def tOrV (ta tb : TE) : TE := fun σ H Q => ta σ H fun x H1 => ∃ c, x = .bl c ∧ if c = true then Q (.bl true) H1 else tb σ H1 Q
def tNotV (ta : TE) : TE := fun σ H Q => ta σ H fun x H1 => ∃ c, x = .bl c ∧ Q (.bl (!c)) H1
theorem pe_one {op} {t : TE} (h : PE X a t) : PE X (.BoolOp op [a] pos) t := fun pins s σ H Q I hw => BoolOp_one (h pins s σ H Q I hw)
theorem pe_and (ha : PE X a ta) (hb : PE X (.BoolOp .And (b :: rest) pos) tb) : PE X (.BoolOp .And (a :: b :: rest) pos) (tAndV ta tb) := by
  intro pins s σ H Q I h
  refine BoolOp_and (thn (ha pins s σ H _ I h) fun v s1 ⟨x, H1, I1, r1, q1⟩ => ?_)
  obtain ⟨c, rfl, q1⟩ := q1
  cases r1
  refine wpAny_truthy_bool ?_
  cases c with
  | true => exact hb pins s1 σ H1 Q I1 q1
  | false => exact ⟨.bl false, H1, I1, rfl, q1⟩
theorem pe_not (ha : PE X a ta) : PE X (.UnaryOp .Not a pos) (tNotV ta) := by
  intro pins s σ H Q I h
  refine UnaryOp_ (thn (ha pins s σ H _ I h) fun v s1 ⟨x, H1, I1, r1, q1⟩ => ?_)
  obtain ⟨c, rfl, q1⟩ := q1
  cases r1
  exact not_of (wpAny_truthy_bool ⟨.bl (!c), H1, I1, rfl, q1⟩)
def tIf (t : TT) (ta tb : TE) : TE := fun σ H Q => t σ H fun c H1 => if c = true then ta σ H1 Q else tb σ H1 Q
end
end L2
namespace L2
open PySem PySem.Spec PyProof.Rows
def SqL (K : PySem.W.Frag) (H : Hp) (a : Addr) (xs : List V) : Prop :=
  Rd H a (.lst xs) ∨
    ∃ (o : Obj) (its : Array Value) (n : Nat), K.lookup a = some o ∧ o.cls = .type "list" ∧ o.dict = none ∧ o.data = .seq its n ∧ its.size ≤ sizeLine ∧ Vals xs its.toList
def SqT (K : PySem.W.Frag) (H : Hp) (a : Addr) (xs : List V) : Prop :=
  Rd H a (.tup xs) ∨
    ∃ (o : Obj) (its : Array Value) (n : Nat), K.lookup a = some o ∧ o.cls = .type "tuple" ∧ o.data = .seq its n ∧ its.size ≤ sizeLine ∧ Vals xs its.toList
def absV : Value → Option V
  | .none => some .non
  | .bool b => some (.bl b)
  | .int i _ => some (.int i)
  | .str x _ => some (.str x)
  | .bytes b _ => some (.byt b)
  | .float b _ => some (.flt b)
  | .ref a => some (.ref a)
  | .type n => some (.ty n)
  | _ => none
theorem RelV.abs {x : V} {u : Value} (r : RelV x u) : absV u = some x := by
  cases x with
  | non => cases r; rfl
  | bl _ => cases r; rfl
  | int _ => obtain ⟨t, rfl⟩ := r; rfl
  | str _ => obtain ⟨t, rfl⟩ := r; rfl
  | byt _ => obtain ⟨t, rfl⟩ := r; rfl
  | flt _ => obtain ⟨t, rfl⟩ := r; rfl
  | ref _ => cases r; rfl
  | ty _ => cases r; rfl
theorem RelV.inj {x y : V} {u : Value} (r : RelV x u) (q : RelV y u) : x = y := Option.some.inj (r.abs.symm.trans q.abs)
theorem Vals.inj : ∀ {xs ys : List V} {us : List Value}, Vals xs us → Vals ys us → xs = ys
  | _, _, _, .nil, .nil => rfl
  | _, _, _, .cons r t, .cons r' t' => by rw [r.inj r', Vals.inj t t']
section
variable {X : Cx} {pins : List (Addr × Obj)} {σ : St} {H : Hp} {s : Shared} {a : Addr} {xs ys : List V}
theorem SqL.of {K : PySem.W.Frag} (h : H a = some (.lst xs)) : SqL K H a xs := .inl (.inl h)
theorem SqT.of {K : PySem.W.Frag} (h : H a = some (.tup xs)) : SqT K H a xs := .inl (.inl h)
theorem Inv.list (I : Inv X pins σ H s) (h : SqL X.K H a xs) : ∃ its : List Value, Vals xs its ∧ PlainL s.heap a its.toArray ∧ xs.length ≤ sizeLine := by
  rcases h with h | ⟨o, its, n, hk, hc, hd, hs, hz, r⟩
  · obtain ⟨z, its, n, r, e⟩ := h.ok I.hok
    exact ⟨its, r, ⟨_, n, e, rfl, rfl, rfl⟩, z⟩
  · refine ⟨its.toList, r, ⟨o, n, I.kIn a o hk, hc, hd, by simpa using hs⟩, ?_⟩
    have e := r.length
    simp only [Array.length_toList] at e
    omega
theorem Inv.tuple (I : Inv X pins σ H s) (h : SqT X.K H a xs) : ∃ its : List Value, Vals xs its ∧ IsTup s.heap a its.toArray ∧ xs.length ≤ sizeLine := by
  rcases h with h | ⟨o, its, n, hk, hc, hs, hz, r⟩
  · obtain ⟨z, its, r, p⟩ := h.ok I.hok
    exact ⟨its, r, p, z⟩
  · refine ⟨its.toList, r, ⟨o, I.kIn a o hk, hc, n, by simpa using hs⟩, ?_⟩
    have e := r.length
    simp only [Array.length_toList] at e
    omega
theorem Inv.list_inj (I : Inv X pins σ H s) (h : SqL X.K H a xs) (h' : SqL X.K H a ys) : xs = ys := by
  obtain ⟨its, r, ⟨o, n, e, _, _, d⟩, _⟩ := I.list h
  obtain ⟨its', r', ⟨o', n', e', _, _, d'⟩, _⟩ := I.list h'
  rw [e] at e'; cases e'
  rw [d] at d'
  injection d' with d1 _
  have : its = its' := by simpa using congrArg Array.toList d1
  subst this
  exact r.inj r'
theorem Inv.tuple_inj (I : Inv X pins σ H s) (h : SqT X.K H a xs) (h' : SqT X.K H a ys) : xs = ys := by
  obtain ⟨its, r, ⟨o, e, _, n, d⟩, _⟩ := I.tuple h
  obtain ⟨its', r', ⟨o', e', _, n', d'⟩, _⟩ := I.tuple h'
  rw [e] at e'; cases e'
  rw [d] at d'
  injection d' with d1 _
  have : its = its' := by simpa using congrArg Array.toList d1
  subst this
  exact r.inj r'
end
abbrev Cx.wish (X : Cx) (E : Value → Shared → Prop) : Cx := { X with xe := E }
abbrev Cx.nox (X : Cx) : Cx := X.wish fun _ _ => False
theorem Cx.Ok.wish {X : Cx} (ok : X.Ok) (E : Value → Shared → Prop) : (X.wish E).Ok :=
  ⟨ok.mod, ok.kind, ok.glob, ok.blt, ok.above, ok.inj, ok.has, ok.cab, ok.hd, ok.frames, ok.stk, ok.exf, ok.bs, ok.bsz, ok.noex, ok.exfs, ok.funs, ok.frf⟩
theorem Cx.Ok.unwish {X : Cx} {E : Value → Shared → Prop} (ok : (X.wish E).Ok) : X.Ok :=
  ⟨ok.mod, ok.kind, ok.glob, ok.blt, ok.above, ok.inj, ok.has, ok.cab, ok.hd, ok.frames, ok.stk, ok.exf, ok.bs, ok.bsz, ok.noex, ok.exfs, ok.funs, ok.frf⟩
section
variable {X : Cx} {pins : List (Addr × Obj)} {σ : St} {H : Hp} {s : Shared} {E : Value → Shared → Prop}
theorem Inv.wish (I : Inv X pins σ H s) (E : Value → Shared → Prop) : Inv (X.wish E) pins σ H s := ⟨I.ok.wish E, I.os, I.bare, I.base, I.loc, I.cell, I.free, I.freeC, I.pin, I.hok, I.len⟩
theorem Inv.unwish (I : Inv (X.wish E) pins σ H s) : Inv X pins σ H s := ⟨I.ok.unwish, I.os, I.bare, I.base, I.loc, I.cell, I.free, I.freeC, I.pin, I.hok, I.len⟩
theorem SP.unwish {D : Ends} {f : Flow} {s' : Shared} (h : SP (X.wish E) pins D f s') : SP X pins D f s' := by
  cases f with
  | next => obtain ⟨σ', H', I, q⟩ := h; exact ⟨σ', H', I.unwish, q⟩
  | brk => obtain ⟨σ', H', I, q⟩ := h; exact ⟨σ', H', I.unwish, q⟩
  | cont => obtain ⟨σ', H', I, q⟩ := h; exact ⟨σ', H', I.unwish, q⟩
  | ret u => obtain ⟨v, σ', H', I, r, q⟩ := h; exact ⟨v, σ', H', I.unwish, r, q⟩
theorem PSs.nox {st : List Stmt} {t : TS} (h : PSs X.nox st t) : PSs X st t := fun pins s σ H D I hw =>
  wpAny_mono (h pins s σ H D (I.wish _) hw) (fun _ _ q => q.unwish) fun _ _ z => False.elim z
end
section
variable {X : Cx} {st : Stmt} {rest : List Stmt} {t u : TS} {e : Expr} {te : TE} {pos : Pos}
def tNext : TS := fun D σ H => D.nx σ H
def tSeq (t u : TS) : TS := fun D σ H => t { D with nx := u D } σ H
theorem pss_nil : PSs X [] tNext := fun _ _ σ H _ I h => wpAny_execs_nil ⟨σ, H, I, h⟩
theorem pss_cons (h1 : PS X st t) (h2 : PSs X rest u) : PSs X (st :: rest) (tSeq t u) := by
  intro pins s σ H D I h
  refine wpAny_execs_cons (thn (h1 pins s σ H { D with nx := u D } I h) fun f s1 q => ?_)
  cases f with
  | next =>
    obtain ⟨σ', H', I', q⟩ := q
    exact h2 pins s1 σ' H' D I' q
  | ret v => exact q
  | brk => exact q
  | cont => exact q
theorem pss_one (h1 : PS X st t) : PSs X [st] t := by
  intro pins s σ H D I h
  refine wpAny_execs_cons (thn (h1 pins s σ H D I h) fun f s1 q => ?_)
  cases f with
  | next => exact wpAny_execs_nil q
  | ret v => exact q
  | brk => exact q
  | cont => exact q
def tBreak : TS := fun D σ H => D.bk σ H
def tCont : TS := fun D σ H => D.ct σ H
theorem Inv.quiet {pins : List (Addr × Obj)} {σ : St} {H : Hp} {s : Shared} (I : Inv X pins σ H s) : interactive X.env = false := by simp [interactive, I.ok.kind]
def tDrop (te : TE) : TS := fun D σ H => te σ H fun _ H1 => D.nx σ H1
theorem ps_expr (he : PE X e te) (hs : swapsWith e none pos.line X.env = pure false := by rfl) : PS X (.Expr e pos) (tDrop te) := by
  intro pins s σ H D I h
  exact wpAny_Expr_any (thn (he pins s σ H _ I h) fun v s1 ⟨x, H1, I1, r1, q1⟩ => ⟨σ, H1, I1, q1⟩) I.quiet hs
def tRet (te : TE) : TS := fun D σ H => te σ H D.rt
theorem ps_ret (he : PE X e te) : PS X (.Return (some e) pos) (tRet te) := by
  intro pins s σ H D I h
  exact wpAny_Return_some (thn (he pins s σ H _ I h) fun v s1 ⟨x, H1, I1, r1, q1⟩ => ⟨x, σ, H1, I1, r1, q1⟩)
def tRetN : TS := fun D _ H => D.rt .non H
def tIfS (c : TT) (t u : TS) : TS := fun D σ H => c σ H fun b H1 => if b = true then t D σ H1 else u D σ H1
theorem ps_if {c : Expr} {a b : List Stmt} {tc : TT} (hc : PT X c tc) (ha : PSs X a t) (hb : PSs X b u) : PS X (.If c a b pos) (tIfS tc t u) := by
  intro pins s σ H D I h
  refine wpAny_If (thn (hc pins s σ H _ I h) fun d s1 ⟨H1, I1, q1⟩ => ?_)
  cases d with
  | true => exact ha pins s1 σ H1 D I1 q1
  | false => exact hb pins s1 σ H1 D I1 q1
def tNever : TS := fun _ _ _ => False
theorem ps_never : PS X st tNever := fun _ _ _ _ _ _ h => h.elim
end
abbrev TG := V → St → Hp → (St → Hp → Prop) → Prop
abbrev TGs := List V → St → Hp → (St → Hp → Prop) → Prop
def PG (X : Cx) (target : Expr) (t : TG) : Prop :=
  ∀ (pins : List (Addr × Obj)) (s : Shared) (σ : St) (H : Hp) (v : V) (u : Value) (Q : St → Hp → Prop), Inv X pins σ H s → RelV v u → t v σ H Q →
    wpAny (model X.prog X.w) X.A (assign target X.env u) (fun _ s' => ∃ σ' H', Inv X pins σ' H' s' ∧ Q σ' H') X.xe s
def PGs (X : Cx) (ts : List Expr) (t : TGs) : Prop :=
  ∀ (pins : List (Addr × Obj)) (s : Shared) (σ : St) (H : Hp) (vs : List V) (us : List Value) (Q : St → Hp → Prop), Inv X pins σ H s → Vals vs us → t vs σ H Q →
    wpAny (model X.prog X.w) X.A (assignInOrder ((assignEach ts X.env).map (·.2)) us) (fun _ s' => ∃ σ' H', Inv X pins σ' H' s' ∧ Q σ' H') X.xe s
abbrev TSet := V → V → V → Hp → (Hp → Prop) → Prop
def PSet (X : Cx) (t : TSet) : Prop :=
  ∀ (pins : List (Addr × Obj)) (s : Shared) (σ : St) (H : Hp) (o i v : V) (ov iv u : Value) (Q : Hp → Prop), Inv X pins σ H s → RelV o ov → RelV i iv → RelV v u → t o i v H Q →
    wpAny (model X.prog X.w) X.A (setItem ov iv u) (fun _ s' => ∃ H', Inv X pins σ H' s' ∧ Q H') X.xe s
abbrev TIp := V → V → Hp → VK → Prop
def PIp (X : Cx) (op : Operator) (t : TIp) : Prop :=
  ∀ (pins : List (Addr × Obj)) (s : Shared) (σ : St) (H : Hp) (x y : V) (v u : Value) (Q : VK), Inv X pins σ H s → RelV x v → RelV y u → t x y H Q →
    wpAny (model X.prog X.w) X.A (inplaceOp op v u) (EP X pins σ Q) X.xe s
section
variable {X : Cx} {pos : Pos}
def gName (i : Nat) : TG := fun v σ H Q => Q (σ.set i (some v)) H
theorem pg_name {i : Nat} {x : Str} (hN : X.N.Nodup) (hi : X.N[i]? = some x) (hx : Loc X.env.scope x) (hf : X.fn x = true ∨ X.env.scope.names.lookup x = some .local := by first | exact .inl rfl | exact .inr rfl | assumption) : PG X (.Name x pos) (gName i) := by
  intro pins s σ H v u Q I r h
  exact wpAny_assign_Name (store_ok I hN hi hx r (fun s' I' => ⟨_, H, I', h⟩) hf)
def gNil : TGs := fun vs σ H Q => vs = [] ∧ Q σ H
def gCons (t : TG) (u : TGs) : TGs := fun vs σ H Q => ∃ v r, vs = v :: r ∧ t v σ H fun σ' H' => u r σ' H' Q
theorem pgs_nil : PGs X [] gNil := by
  intro pins s σ H vs us Q I r h
  obtain ⟨e, h⟩ := h
  subst e
  cases r
  exact assignInOrder_nil ⟨σ, H, I, h⟩
theorem pgs_cons {e : Expr} {es : List Expr} {t : TG} {u : TGs} (h1 : PG X e t) (h2 : PGs X es u)
    (hs : (assignEach (e :: es) X.env).map (·.2) = assign e X.env :: (assignEach es X.env).map (·.2) := by rfl) : PGs X (e :: es) (gCons t u) := by
  intro pins s σ H vs us Q I r h
  obtain ⟨v, vr, e1, h⟩ := h
  subst e1
  cases r with
  | cons r rr =>
    rw [hs]
    refine assignInOrder_cons (thn (h1 pins s σ H _ _ _ I r h) fun _ s1 ⟨σ1, H1, I1, q1⟩ => ?_)
    exact h2 pins s1 σ1 H1 _ _ Q I1 rr q1
def gTup (K : PySem.W.Frag) (n : Nat) (t : TGs) : TG := fun v σ H Q => ∃ a xs, v = .ref a ∧ SqT K H a xs ∧ xs.length = n ∧ t xs σ H Q
theorem pg_tup {es : List Expr} {k : Nat} {t : TGs} {n : Nat} (hc : X.calm = true) (h : PGs X es t)
    (hn : (assignEach es X.env).length = n := by rfl) (hst : (assignEach es X.env).findIdx? (·.1) = none := by rfl) : PG X (.Tuple es k pos) (gTup X.K n t) := by
  intro pins s σ H v u Q I r hw
  obtain ⟨a, xs, e1, hq, hl, hw⟩ := hw
  subst e1
  cases r
  obtain ⟨its, rv, ht, hz⟩ := I.tuple hq
  refine assign_Tuple_tuple (I.ok.hd hc) ht (by simp [hn, ← hl, rv.length]) hst fun h' hx => ?_
  have I1 : Inv X pins σ H { s with heap := h' } := I.kept (t' := s.toks) fun b o e => hx b o (Nat.ne_of_lt (Heap.lt_size e)) e
  exact h pins _ σ H xs _ Q I1 (by simpa using rv) hw
def gSub (to ti : TE) (t : TSet) : TG := fun v σ H Q => to σ H fun o H1 => ti σ H1 fun i H2 => t o i v H2 fun H3 => Q σ H3
def tAsg (te : TE) (g : TG) : TS := fun D σ H => te σ H fun x H1 => g x σ H1 D.nx
theorem ps_set {i : Nat} {x : Str} {e : Expr} {te : TE} {pos' : Pos} (hN : X.N.Nodup) (hi : X.N[i]? = some x) (hx : Loc X.env.scope x) (he : PE X e te) (hs : swapsWith e (some (.Name x pos')) pos.line X.env = pure false := by rfl) (hf : X.fn x = true ∨ X.env.scope.names.lookup x = some .local := by first | exact .inl rfl | exact .inr rfl | assumption) :
    PS X (.Assign [.Name x pos'] e pos) (tAsg te (gName i)) := by
  intro pins s σ H D I h
  refine wpAny_Assign_Name (thn (he pins s σ H _ I h) fun v s1 ⟨y, H1, I1, r1, q1⟩ => ?_) hs
  exact store_ok I1 hN hi hx r1 (fun s2 I2 => ⟨_, H1, I2, q1⟩) hf
def tPar (i j : Nat) (ta : TA) : TS := fun D σ H => ta σ H fun vs H1 => ∃ v w, vs = [v, w] ∧ D.nx ((σ.set i (some v)).set j (some w)) H1
def tAug (i : Nat) (te : TE) (ti : TIp) : TS := fun D σ H => ∃ x, σ[i]? = some (some x) ∧ te σ H fun y H1 => ti x y H1 fun z H2 => D.nx (σ.set i (some z)) H2
def tAugS (to ti te : TE) (tget : V → V → Hp → VK → Prop) (tip : TIp) (tset : TSet) : TS := fun D σ H => to σ H fun o H1 => ti σ H1 fun i H2 => tget o i H2 fun x H3 => te σ H3 fun y H4 => tip x y H4 fun z H5 => tset o i z H5 fun H6 => D.nx σ H6
def PGet (X : Cx) (t : V → V → Hp → VK → Prop) : Prop :=
  ∀ (pins : List (Addr × Obj)) (s : Shared) (σ : St) (H : Hp) (o i : V) (ov iv : Value) (Q : VK), Inv X pins σ H s → RelV o ov → RelV i iv → t o i H Q →
    wpAny (model X.prog X.w) X.A (getItem ov iv) (EP X pins σ Q) X.xe s
def ipI (f : Int → Int → Int) : TIp := fun x y H Q => ∃ i j, x = .int i ∧ y = .int j ∧ Q (.int (f i j)) H
end
section
variable {X : Cx} {pos : Pos}
def tWhile (c : TT) (tb : TS) : TS := fun D σ H => ∃ W : Nat → St → Hp → Prop, (∃ m, W m σ H) ∧ ∀ m σ H, W m σ H →
  c σ H fun b H1 => if b = true then ∃ N : St → Hp → Prop, (∀ σ' H', N σ' H' → ∃ m', m' < m ∧ W m' σ' H') ∧ tb { D with nx := N, ct := N, bk := D.nx } σ H1 else D.nx σ H1
end
structure It where
  go : Nat → Hp → Prop
  yld : Nat → Hp → V → Hp → Prop
  stop : Nat → Hp → Prop
def FpOk (X : Cx) (pins : List (Addr × Obj)) (H : Hp) (b : Addr) : Prop :=
  H b = none ∧ b ≠ X.env.locals ∧ b ∉ X.fs ∧ (b ∈ X.ex ∨ X.s₀.heap.objs.size ≤ b) ∧ (∀ x c, X.env.cells.lookup x = some c → c ≠ b) ∧ ∀ p ∈ X.pn ++ pins, p.1 ≠ b
theorem Inv.fpOk {X : Cx} {pins : List (Addr × Obj)} {σ : St} {H H' : Hp} {s : Shared} {b : Addr} (I : Inv X pins σ H s) (hb : s.heap.objs.size ≤ b) (hn : H' b = none) : FpOk X pins H' b := by
  refine ⟨hn, Nat.ne_of_gt (Nat.lt_of_lt_of_le I.lt hb), I.nofs hb, .inr (Nat.le_trans I.sz hb), fun x c e z => ?_, fun p hp z => ?_⟩
  · obtain ⟨v, q⟩ := I.cell x c e
    exact absurd (Nat.lt_of_lt_of_le q.lt (by rw [z]; exact hb)) (Nat.lt_irrefl _)
  · exact absurd (Nat.lt_of_lt_of_le (Heap.lt_size (I.pin p hp).1) (by rw [z]; exact hb)) (Nat.lt_irrefl _)
structure Turn (P : Program) (w : World) (K : PySem.W.Frag) (tg : Expr) (J : It) (fp : List Addr) (it : Addr) (tn : Nat → Heap → Prop) : Prop where
  mem : it ∈ fp
  obj : ∀ i h, tn i h → ∀ b ∈ fp, ∃ o, h.get? b = some o ∧ ∀ v, o.data ≠ .cell v
  keep : ∀ i h h', tn i h → (∀ b ∈ fp, ∀ o, h.get? b = some o → h'.get? b = some o) → tn i h'
  item : ∀ (X : Cx), X.prog = P → X.w = w → X.K = K → X.calm = true → ∀ (i : Nat) (pins : List (Addr × Obj)) (s : Shared) (σ : St) (H : Hp) (E : Value → Shared → Prop), Inv X pins σ H s → (∀ b ∈ fp, FpOk X pins H b) → tn i s.heap → J.go i H →
    wpAny (model P w) X.A (pyNext (.ref it)) (fun r s1 => ∃ u, r = some u ∧
      wpAny (model P w) X.A (letOwnedTupleGo tg (.ref it) u) (fun _ s2 => ∃ x H', Inv X pins σ H' s2 ∧ RelV x u ∧ J.yld i H x H' ∧ tn (i + 1) s2.heap ∧ ∀ b ∈ fp, H' b = none) E s1) E s
  done : ∀ (X : Cx), X.prog = P → X.w = w → X.K = K → X.calm = true → ∀ (i : Nat) (pins : List (Addr × Obj)) (s : Shared) (σ : St) (H : Hp) (E : Value → Shared → Prop), Inv X pins σ H s → (∀ b ∈ fp, FpOk X pins H b) → tn i s.heap → J.stop i H →
    wpAny (model P w) X.A (pyNext (.ref it)) (fun r s1 => r = none ∧ Inv X pins σ H s1) E s
  self : ∀ (A : Around) (i : Nat) (s : Shared) (Q : Value → Shared → Prop) (E : Value → Shared → Prop), tn i s.heap → Q (.ref it) s → wpAny (model P w) A (pyIter (.ref it)) Q E s
abbrev TI := St → Hp → (It → Hp → Prop) → Prop
def PIE (X : Cx) (pins : List (Addr × Obj)) (σ : St) (tg : Expr) (R : It → Hp → Prop) (itv : Value) (s2 : Shared) : Prop :=
  ∃ (it : Addr) (fp : List Addr) (tn : Nat → Heap → Prop) (J : It) (H' : Hp), itv = .ref it ∧ Inv X pins σ H' s2 ∧ Turn X.prog X.w X.K tg J fp it tn ∧ tn 0 s2.heap ∧ (∀ b ∈ fp, FpOk X pins H' b) ∧ R J H'
def PI (X : Cx) (tg iter : Expr) (wi : TI) : Prop :=
  ∀ (pins : List (Addr × Obj)) (s : Shared) (σ : St) (H : Hp) (R : It → Hp → Prop), Inv X pins σ H s → wi σ H R →
    wpAny (model X.prog X.w) X.A (eval iter X.env) (fun v s1 => wpAny (model X.prog X.w) X.A (pyIter v) (PIE X pins σ tg R) X.xe s1) X.xe s
theorem go_of {M : Model} {A : Around} {E : Value → Shared → Prop} {s : Shared} {tg : Expr} {it : Addr} {u : Value} {o : Obj} {n : String} {vs : Array Value} {Q : Unit → Shared → Prop} (ho : s.heap.get? it = some o) (hc : o.cls = .type n) (hd : o.data = .fields vs)
    (hn : ["enumerate", "zip", "dict_itemiterator", "dict_reverseitemiterator", "odict_iterator", "itertools.zip_longest", "itertools.pairwise"].contains n = false) (hQ : Q () s) : wpAny M A (letOwnedTupleGo tg (.ref it) u) Q E s := by
  unfold letOwnedTupleGo
  cases tg <;> first
    | exact wpAny_pure hQ
    | (cases u <;> first
        | exact wpAny_pure hQ
        | (refine wpAny_bind (wpAny_load ho ?_)
           rw [hc, hd]
           show wpAny M A (if (["enumerate", "zip", "dict_itemiterator", "dict_reverseitemiterator", "odict_iterator", "itertools.zip_longest", "itertools.pairwise"].contains n && vs[0]? == some (rawInt _)) = true then _ else _) Q E s
           rw [if_neg (by intro h; rw [hn, Bool.false_and] at h; cases h)]
           exact wpAny_pure hQ))
def Itl (K : PySem.W.Frag) (a : Addr) : It :=
  ⟨fun i H => ∃ xs x, SqL K H a xs ∧ xs[i]? = some x, fun i H x H' => H' = H ∧ ∀ xs, SqL K H a xs → xs[i]? = some x, fun i H => ∃ xs, SqL K H a xs ∧ xs.length ≤ i⟩
def Itt (K : PySem.W.Frag) (a : Addr) : It :=
  ⟨fun i H => ∃ xs x, SqT K H a xs ∧ xs[i]? = some x, fun i H x H' => H' = H ∧ ∀ xs, SqT K H a xs → xs[i]? = some x, fun i H => ∃ xs, SqT K H a xs ∧ xs.length ≤ i⟩
def Itr (lo : Int) (n : Nat) : It := ⟨fun i _ => i < n, fun i H x H' => H' = H ∧ x = .int (lo + i), fun i _ => n ≤ i⟩
theorem turn_list {P : Program} {w : World} {K : PySem.W.Frag} {tg : Expr} (a it : Addr) : Turn P w K tg (Itl K a) [it] it (fun i h => h.IsListIter it a i) where
  mem := by simp
  obj := fun i h st b hb => by
    have e : b = it := by simpa using hb
    subst e
    obtain ⟨o, e, c, d⟩ := st
    exact ⟨o, e, fun v z => by rw [d] at z; cases z⟩
  keep := fun i h h' st k => st.at fun o e => k it (by simp) o e
  item := by
    intro X hP hw hK hc i pins s σ H E I hf st hg
    subst hP hw hK
    obtain ⟨xs, x, hq, hx⟩ := hg
    obtain ⟨its, rv, p, hz⟩ := I.list hq
    obtain ⟨u, hu, ru⟩ := rv.get hx
    obtain ⟨f0, f1, f2, f3, f4, f5⟩ := hf it (by simp)
    refine wpAny_pyNext_list_item st p.isList (x := u) (by simpa using hu) fun h' st' sb => ?_
    have I1 : Inv X pins σ H { s with heap := h' } := I.turned (t' := s.toks) (fun b o hb e => (sb.2 b hb).trans e) f0 f1 f3 f4 f5
    obtain ⟨o, e, c, d⟩ := id st'
    exact ⟨u, rfl, go_of (s := { s with heap := h' }) e c d (by decide) ⟨x, H, I1, ru, ⟨rfl, fun ys hy => by rw [I.list_inj hy hq]; exact hx⟩, st', fun b hb => (hf b hb).1⟩⟩
  done := by
    intro X hP hw hK hc i pins s σ H E I hf st hg
    subst hP hw hK
    obtain ⟨xs, hq, hx⟩ := hg
    obtain ⟨its, rv, p, hz⟩ := I.list hq
    obtain ⟨f0, f1, f2, f3, f4, f5⟩ := hf it (by simp)
    have hl := rv.length
    exact wpAny_pyNext_list_end (I.ok.hd hc) st p.isList (by simp; omega) fun h' eb => ⟨rfl, I.turned (t' := s.toks) (fun b o hb e => eb b o hb e) f0 f1 f3 f4 f5⟩
  self := fun _ _ _ _ _ st h => wpAny_pyIter_listiter st h
theorem turn_range {P : Program} {w : World} {K : PySem.W.Frag} {tg : Expr} (it : Addr) (lo : Int) (n : Nat) : Turn P w K tg (Itr lo n) [it] it (fun i h => IsRangeIter h it (lo + (i : Nat) * 1) ((n : Int) - (i : Nat)) 1) where
  mem := by simp
  obj := fun i h st b hb => by
    have e : b = it := by simpa using hb
    subst e
    exact ⟨_, st, fun v z => by
      have z' : Data.fields _ = Data.cell v := z
      cases z'⟩
  keep := fun i h h' st k => k it (by simp) _ st
  item := by
    intro X hP hw hK hc i pins s σ H E I hf st hg
    subst hP hw hK
    obtain ⟨f0, f1, f2, f3, f4, f5⟩ := hf it (by simp)
    have W := Walks.range (prog := X.prog) (w := X.w) (I.ok.hd hc) it lo 1 n
    refine W.item i s _ _ hg st fun v h' tk hv st' kk => ?_
    obtain ⟨t, rfl⟩ := hv
    have I1 : Inv X pins σ H { s with heap := h', toks := tk } := I.turned (fun b o hb e => kk b o (by simpa using hb) e) f0 f1 f3 f4 f5
    refine ⟨_, rfl, go_of (s := { s with heap := h', toks := tk }) (n := "range_iterator") st' rfl rfl (by decide) ⟨.int (lo + i), H, I1, ⟨t, ?_⟩, ⟨rfl, rfl⟩, st', fun b hb => (hf b hb).1⟩⟩
    rw [Int.mul_one]
  done := by
    intro X hP hw hK hc i pins s σ H E I hf st hg
    subst hP hw hK
    obtain ⟨f0, f1, f2, f3, f4, f5⟩ := hf it (by simp)
    exact wpAny_pyNext_range_end (I.ok.hd hc) st (by have : n ≤ i := hg; omega) fun h' eb => ⟨rfl, I.turned (t' := s.toks) (fun b o hb e => eb b o hb e) f0 f1 f3 f4 f5⟩
  self := fun _ _ _ _ _ st h => wpAny_pyIter_rangeiter st h
end L2
namespace L2
open PySem PySem.Spec PyProof.Rows
section
variable {X : Cx} {tg : Expr}
def iList (K : PySem.W.Frag) (tl : TE) : TI := fun σ H R => tl σ H fun x H1 => ∃ a, x = .ref a ∧ (∃ xs, SqL K H1 a xs) ∧ R (Itl K a) H1
def iTup (K : PySem.W.Frag) (tl : TE) : TI := fun σ H R => tl σ H fun x H1 => ∃ a, x = .ref a ∧ (∃ xs, SqT K H1 a xs) ∧ R (Itt K a) H1
theorem pi_list {l : Expr} {tl : TE} (hl : PE X l tl) : PI X tg l (iList X.K tl) := by
  intro pins s σ H R I h
  refine thn (hl pins s σ H _ I h) fun v s1 ⟨x, H1, I1, r1, q1⟩ => ?_
  obtain ⟨a, e, ⟨xs, hq⟩, q⟩ := q1
  subst e
  cases r1
  obtain ⟨its, rv, p, hz⟩ := I1.list hq
  refine wpAny_pyIter_list p.isList ?_
  refine ⟨s1.heap.objs.size, [s1.heap.objs.size], _, _, H1, rfl, I1.kept (t' := s1.toks) fun b o e => Heap.get?_push_of_some _ e, turn_list a _, ⟨_, Heap.get?_push_size _ rfl, rfl, rfl⟩, fun b hb => ?_, q⟩
  have e : b = s1.heap.objs.size := by simpa using hb
  subst e
  exact I1.fpOk (Nat.le_refl _) (I1.hok.fresh (Nat.le_refl _))
theorem range_it {pins : List (Addr × Obj)} {σ : St} {H : Hp} {s : Shared} {R : It → Hp → Prop} {E : Value → Shared → Prop} {lo hi : Int} {t u v : Tok} {tk : Nat} (I : Inv X pins σ H s) (h1 : -(2 ^ 62) ≤ lo) (h2 : lo < 2 ^ 62) (h3 : -(2 ^ 62) ≤ hi) (h4 : hi < 2 ^ 62)
    (q : R (Itr lo (hi - lo).toNat) H) : wpAny (model X.prog X.w) X.A (pyIter (.ref s.heap.objs.size)) (PIE X pins σ tg R) E { s with heap := s.heap.push { cls := .type "range", data := .fields #[.int lo t, .int hi u, .int 1 v] }, toks := tk } := by
  refine wpAny_pyIter_range (IsRange.new ..) (small_one h1 h2 h3 h4) ?_
  have I1 : Inv X pins σ H { s with heap := s.heap.push { cls := .type "range", data := .fields #[.int lo t, .int hi u, .int 1 v] }, toks := tk } := I.kept fun b o e => Heap.get?_push_of_some _ e
  refine ⟨(s.heap.push { cls := .type "range", data := .fields #[.int lo t, .int hi u, .int 1 v] }).objs.size, [(s.heap.push { cls := .type "range", data := .fields #[.int lo t, .int hi u, .int 1 v] }).objs.size], _, _, H, rfl,
    I1.kept (t' := tk) fun b o e => Heap.get?_push_of_some _ e, turn_range _ lo (hi - lo).toNat, ?_, fun b hb => ?_, q⟩
  · have e1 : lo + ((0 : Nat) : Int) * 1 = lo := by simp
    have e2 : (((hi - lo).toNat : Nat) : Int) - ((0 : Nat) : Int) = Builtin.Range.rangeSize lo hi 1 := by rw [rangeSize_one]; split <;> omega
    show IsRangeIter _ _ (lo + ((0 : Nat) : Int) * 1) ((((hi - lo).toNat : Nat) : Int) - ((0 : Nat) : Int)) 1
    rw [e1, e2]
    exact Heap.get?_push_size _ rfl
  · have e : b = (s.heap.push { cls := .type "range", data := .fields #[.int lo t, .int hi u, .int 1 v] }).objs.size := by simpa using hb
    subst e
    exact I1.fpOk (Nat.le_refl _) (I1.hok.fresh (Nat.le_refl _))
def iRng1 (ta : TA) : TI := fun σ H R => ta σ H fun vs H1 => ∃ j : Int, vs = [.int j] ∧ -(2 ^ 62) ≤ j ∧ j < 2 ^ 62 ∧ R (Itr 0 j.toNat) H1
def iRng2 (ta : TA) : TI := fun σ H R => ta σ H fun vs H1 => ∃ i j : Int, vs = [.int i, .int j] ∧ (-(2 ^ 62) ≤ i ∧ i < 2 ^ 62 ∧ -(2 ^ 62) ≤ j ∧ j < 2 ^ 62) ∧ R (Itr i (j - i).toNat) H1
theorem pi_range1 {a : Expr} {ta : TA} {p pos : Pos} (hg : Gl X "range") (hm : X.mg "range" = none) (ha : PA X [a] ta) (hs : starEach [a] X.env = [(false, eval a X.env)] := by rfl) : PI X tg (.Call (.Name "range" p) [a] [] pos) (iRng1 ta) := by
  intro pins s σ H R I h
  refine Call_ (ld_blt I hg hm boot_range (PyProof.Rows.callWith_type1 (thn (ha pos pins s σ H _ I h) fun us s1 ⟨vs, H1, I1, r1, q1⟩ => ?_) hs rfl))
  obtain ⟨j, e, q1, q2, q⟩ := q1
  subst e
  cases r1 with
  | cons r rr =>
    cases rr
    obtain ⟨t, rfl⟩ := r
    exact call_range_1 (range_it I1 (by omega) (by omega) q1 q2 (by simpa using q))
def tFor (wi : TI) (g : TG) (tb : TS) : TS := fun D σ H => wi σ H fun J H1 => ∃ W : Nat → Nat → St → Hp → Prop, (∃ m, W 0 m σ H1) ∧ ∀ i m σ H, W i m σ H →
  (J.stop i H ∧ D.nx σ H) ∨ (J.go i H ∧ ∃ N : St → Hp → Prop, (∀ σ' H', N σ' H' → ∃ m', m' < m ∧ W (i + 1) m' σ' H') ∧ ∀ x H', J.yld i H x H' → g x σ H' fun σ2 H2 => tb { D with nx := N, ct := N, bk := D.nx } σ2 H2)
def pinsAt (fp : List Addr) (h : Heap) : List (Addr × Obj) := fp.filterMap fun b => (h.get? b).map fun o => (b, o)
theorem mem_pinsAt {fp : List Addr} {h : Heap} {b : Addr} {o : Obj} (hb : b ∈ fp) (e : h.get? b = some o) : (b, o) ∈ pinsAt fp h := List.mem_filterMap.mpr ⟨b, hb, by rw [e]; rfl⟩
theorem of_pinsAt {fp : List Addr} {h : Heap} {p : Addr × Obj} (hp : p ∈ pinsAt fp h) : p.1 ∈ fp ∧ h.get? p.1 = some p.2 := by
  obtain ⟨b, hb, e⟩ := List.mem_filterMap.mp hp
  cases q : h.get? b with
  | none => rw [q] at e; cases e
  | some o =>
    rw [q] at e
    have e' : (b, o) = p := Option.some.inj e
    subst e'
    exact ⟨hb, q⟩
theorem Inv.pinned {pins : List (Addr × Obj)} {σ : St} {H : Hp} {s : Shared} {fp : List Addr} (I : Inv X pins σ H s) (hf : ∀ b ∈ fp, FpOk X pins H b) (ho : ∀ b ∈ fp, ∃ o, s.heap.get? b = some o ∧ ∀ v, o.data ≠ .cell v) : Inv X (pins ++ pinsAt fp s.heap) σ H s :=
  I.pins_of fun p hp => (List.mem_append.mp hp).elim (fun z => I.pin p (List.mem_append_right _ z)) fun z => by
    obtain ⟨hb, e⟩ := of_pinsAt z
    obtain ⟨f0, f1, f2, _⟩ := hf p.1 hb
    obtain ⟨o, e', d⟩ := ho p.1 hb
    rw [e] at e'; cases e'
    exact ⟨e, f0, f1, f2, d⟩
theorem Inv.unpinned {pins pl : List (Addr × Obj)} {σ : St} {H : Hp} {s : Shared} (I : Inv X (pins ++ pl) σ H s) : Inv X pins σ H s := I.pins_of fun p hp => I.pin p (List.mem_append_right _ (List.mem_append_left _ hp))
theorem ps_for {iter : Expr} {body : List Stmt} {wi : TI} {g : TG} {tb : TS} {pos : Pos} (hp : PassesOwn (model X.prog X.w) X.A X.env X.xe) (hc : X.calm = true) (hi : PI X tg iter wi) (hg : PG X tg g) (hb : PSs X body tb)
    (hs : ∀ x, foldedSetIterable iter X.env x = pure x := by intro _; rfl) : PS X (.For tg iter body [] pos) (tFor wi g tb) := by
  intro pins s σ H D I h
  refine wpAny_For (thn (hi pins s σ H _ I h) fun v s1 h1 => thn h1 fun itv s2 h2 => ?_) hs
  obtain ⟨it, fp, tn, J, H2, e, I2, T, st2, f2, W, ⟨m0, w0⟩, turn⟩ := h2
  subst e
  have stat : ∀ {H' : Hp}, (∀ b ∈ fp, H' b = none) → ∀ b ∈ fp, FpOk X pins H' b := fun hn b hb => ⟨hn b hb, (f2 b hb).2⟩
  refine codeAny_forLoop_any (fun n s' => ∃ i σ' H', Inv X pins σ' H' s' ∧ tn i s'.heap ∧ (∀ b ∈ fp, H' b = none) ∧ W i n σ' H') ?_ m0 ⟨0, σ, H2, I2, st2, fun b hb => (f2 b hb).1, w0⟩
  rintro n s3 ⟨i, σ3, H3, I3, st3, fr3, w3⟩
  rcases turn i n σ3 H3 w3 with ⟨stop, qn⟩ | ⟨go, N, hN, step⟩
  · refine wpAny_passesOwn hp (thn (T.done X rfl rfl rfl hc i pins s3 σ3 H3 X.xe I3 (stat fr3) st3 stop) fun r s4 ⟨hr, I4⟩ => ?_)
    subst hr
    exact wpAny_execs_nil ⟨σ3, H3, I4, qn⟩
  · refine wpAny_passesOwn hp (thn (T.item X rfl rfl rfl hc i pins s3 σ3 H3 X.xe I3 (stat fr3) st3 go) fun r s4 ⟨u, hr, h4⟩ => ?_)
    subst hr
    refine wpAny_passesOwn hp (thn h4 fun _ s5 ⟨x, H5, I5, r5, y5, st5, fr5⟩ => ?_)
    have I5' := I5.pinned (stat fr5) (T.obj _ _ st5)
    refine wpAny_passesOwn hp (thn (hg _ s5 σ3 H5 x u _ I5' r5 (step x H5 y5)) fun _ s6 ⟨σ6, H6, I6, q6⟩ => ?_)
    refine wpAny_passesOwn hp (thn (hb _ s6 σ6 H6 _ I6 q6) fun f s7 q7 => ?_)
    have again : ∀ {σ7 : St} {H7 : Hp}, Inv X (pins ++ pinsAt fp s5.heap) σ7 H7 s7 → N σ7 H7 → ∃ m, m < n ∧ ∃ i σ' H', Inv X pins σ' H' s7 ∧ tn i s7.heap ∧ (∀ b ∈ fp, H' b = none) ∧ W i m σ' H' := fun {σ7 H7} I7 n7 => by
      obtain ⟨m', hm, w7⟩ := hN σ7 H7 n7
      refine ⟨m', hm, i + 1, σ7, H7, I7.unpinned, T.keep _ _ _ st5 fun b hb o e => (I7.pin (b, o) (List.mem_append_right _ (List.mem_append_right _ (mem_pinsAt hb e)))).1, fun b hb => ?_, w7⟩
      obtain ⟨o, e, d⟩ := T.obj _ _ st5 b hb
      exact (I7.pin (b, o) (List.mem_append_right _ (List.mem_append_right _ (mem_pinsAt hb e)))).2.1
    cases f with
    | next => obtain ⟨σ7, H7, I7, n7⟩ := q7; exact again I7 n7
    | cont => obtain ⟨σ7, H7, I7, n7⟩ := q7; exact again I7 n7
    | brk => obtain ⟨σ7, H7, I7, q7⟩ := q7; exact ⟨σ7, H7, I7.unpinned, q7⟩
    | ret v => obtain ⟨x7, σ7, H7, I7, r7, q7⟩ := q7; exact ⟨x7, σ7, H7, I7.unpinned, r7, q7⟩
end
theorem for_list {K : PySem.W.Frag} {a : Addr} {xs : List V} {g : TG} {tb : TS} {D : Ends} {σ : St} {H : Hp} (Pv : Nat → St → Hp → Prop) (h0 : Pv 0 σ H) (hl : ∀ i σ H, i ≤ xs.length → Pv i σ H → SqL K H a xs)
    (hs : ∀ i x σ H, xs[i]? = some x → Pv i σ H → g x σ H fun σ2 H2 => tb { D with nx := Pv (i + 1), ct := Pv (i + 1), bk := D.nx } σ2 H2) (hd : ∀ σ H, Pv xs.length σ H → D.nx σ H) :
    ∃ W : Nat → Nat → St → Hp → Prop, (∃ m, W 0 m σ H) ∧ ∀ i m σ H, W i m σ H →
      ((Itl K a).stop i H ∧ D.nx σ H) ∨ ((Itl K a).go i H ∧ ∃ N : St → Hp → Prop, (∀ σ' H', N σ' H' → ∃ m', m' < m ∧ W (i + 1) m' σ' H') ∧ ∀ x H', (Itl K a).yld i H x H' → g x σ H' fun σ2 H2 => tb { D with nx := N, ct := N, bk := D.nx } σ2 H2) := by
  refine ⟨fun i m σ H => m = xs.length - i ∧ i ≤ xs.length ∧ Pv i σ H, ⟨xs.length, by simp, Nat.zero_le _, h0⟩, ?_⟩
  rintro i m σ H ⟨rfl, hi, p⟩
  have q := hl i σ H hi p
  by_cases hlt : i < xs.length
  · refine .inr ⟨⟨xs, xs[i], q, by simp [hlt]⟩, Pv (i + 1), fun σ' H' p' => ⟨xs.length - (i + 1), by omega, rfl, hlt, p'⟩, fun x H' y => ?_⟩
    obtain ⟨e, y⟩ := y
    subst e
    exact hs i x σ _ (y xs q) p
  · have e : i = xs.length := by omega
    subst e
    exact .inl ⟨⟨xs, q, Nat.le_refl _⟩, hd σ H p⟩
theorem for_range {lo : Int} {n : Nat} {g : TG} {tb : TS} {D : Ends} {σ : St} {H : Hp} (Pv : Nat → St → Hp → Prop) (h0 : Pv 0 σ H)
    (hs : ∀ i σ H, i < n → Pv i σ H → g (.int (lo + i)) σ H fun σ2 H2 => tb { D with nx := Pv (i + 1), ct := Pv (i + 1), bk := D.nx } σ2 H2) (hd : ∀ σ H, Pv n σ H → D.nx σ H) :
    ∃ W : Nat → Nat → St → Hp → Prop, (∃ m, W 0 m σ H) ∧ ∀ i m σ H, W i m σ H →
      ((Itr lo n).stop i H ∧ D.nx σ H) ∨ ((Itr lo n).go i H ∧ ∃ N : St → Hp → Prop, (∀ σ' H', N σ' H' → ∃ m', m' < m ∧ W (i + 1) m' σ' H') ∧ ∀ x H', (Itr lo n).yld i H x H' → g x σ H' fun σ2 H2 => tb { D with nx := N, ct := N, bk := D.nx } σ2 H2) := by
  refine ⟨fun i m σ H => m = n - i ∧ i ≤ n ∧ Pv i σ H, ⟨n, by simp, Nat.zero_le _, h0⟩, ?_⟩
  rintro i m σ H ⟨rfl, hi, p⟩
  by_cases hlt : i < n
  · refine .inr ⟨hlt, Pv (i + 1), fun σ' H' p' => ⟨n - (i + 1), by omega, rfl, hlt, p'⟩, fun x H' y => ?_⟩
    obtain ⟨e, y⟩ := y
    subst e y
    exact hs i σ _ hlt p
  · have e : i = n := by omega
    subst e
    exact .inl ⟨Nat.le_refl _, hd σ H p⟩
end L2
namespace L2
open PySem PySem.Spec PyProof.Rows
abbrev R2 := V → V → Hp → VK → Prop
def OpR (X : Cx) (f : Value → Value → Sem Value) (r : R2) : Prop :=
  ∀ (pins : List (Addr × Obj)) (s : Shared) (σ : St) (H : Hp) (x y : V) (v u : Value) (Q : VK), Inv X pins σ H s → RelV x v → RelV y u → r x y H Q →
    wpAny (model X.prog X.w) X.A (f v u) (EP X pins σ Q) X.xe s
def UnR (X : Cx) (f : Value → Sem Value) (r : V → Hp → VK → Prop) : Prop :=
  ∀ (pins : List (Addr × Obj)) (s : Shared) (σ : St) (H : Hp) (x : V) (v : Value) (Q : VK), Inv X pins σ H s → RelV x v → r x H Q →
    wpAny (model X.prog X.w) X.A (f v) (EP X pins σ Q) X.xe s
def CallR (X : Cx) (f : Value) (r : List V → Hp → VK → Prop) : Prop :=
  ∀ (pins : List (Addr × Obj)) (s : Shared) (σ : St) (H : Hp) (xs : List V) (us : List Value) (Q : VK), Inv X pins σ H s → Vals xs us → r xs H Q →
    wpAny (model X.prog X.w) X.A (call f us) (EP X pins σ Q) X.xe s
def TruR (X : Cx) (r : V → Hp → (Bool → Hp → Prop) → Prop) : Prop :=
  ∀ (pins : List (Addr × Obj)) (s : Shared) (σ : St) (H : Hp) (x : V) (v : Value) (Q : Bool → Hp → Prop), Inv X pins σ H s → RelV x v → r x H Q →
    wpAny (model X.prog X.w) X.A (truthy v) (TP X pins σ Q) X.xe s
def tOp (r : R2) (ta tb : TE) : TE := fun σ H Q => ta σ H fun x H1 => tb σ H1 fun y H2 => r x y H2 Q
def tUn (r : V → Hp → VK → Prop) (ta : TE) : TE := fun σ H Q => ta σ H fun x H1 => r x H1 Q
def rI (C : Int → Int → Prop) (g : Int → Int → V) : R2 := fun x y H Q => ∃ i j, x = .int i ∧ y = .int j ∧ C i j ∧ Q (g i j) H
def rI0 (g : Int → Int → V) : R2 := fun x y H Q => ∃ i j, x = .int i ∧ y = .int j ∧ Q (g i j) H
def rU (g : Int → V) : V → Hp → VK → Prop := fun x H Q => ∃ i, x = .int i ∧ Q (g i) H
section
variable {X : Cx} {a b c : Expr} {ta tb tc : TE} {pos : Pos}
theorem binT (ha : PE X a ta) (hb : PE X b tb) {pins : List (Addr × Obj)} {s : Shared} {σ : St} {H : Hp} {R : V → V → Hp → Prop} (I : Inv X pins σ H s)
    (h : ta σ H fun x H1 => tb σ H1 fun y H2 => R x y H2) {Q : Value → Shared → Prop} {f : Value → Value → Sem Value}
    (hf : ∀ v u s2 x y H2, Inv X pins σ H2 s2 → RelV x v → RelV y u → R x y H2 → wpAny (model X.prog X.w) X.A (f v u) Q X.xe s2) :
    wpAny (model X.prog X.w) X.A (eval a X.env) (fun v s₁ => wpAny (model X.prog X.w) X.A (eval b X.env) (fun u s₂ => wpAny (model X.prog X.w) X.A (f v u) Q X.xe s₂) X.xe s₁) X.xe s := by
  refine thn (ha pins s σ H _ I h) fun v s1 ⟨x, H1, I1, r1, q1⟩ => ?_
  refine thn (hb pins s1 σ H1 _ I1 q1) fun u s2 ⟨y, H2, I2, r2, q2⟩ => ?_
  exact hf v u s2 x y H2 I2 r1 r2 q2
theorem pe_op {op : Operator} {r : R2} (ho : OpR X (binaryOp op) r) (ha : PE X a ta) (hb : PE X b tb) : PE X (.BinOp a op b pos) (tOp r ta tb) := by
  intro pins s σ H Q I h
  exact wpAny_BinOp (binT ha hb I h fun v u s2 x y H2 I2 rx ry q => ho pins s2 σ H2 x y v u Q I2 rx ry q)
theorem pe_un {op : UnaryOp} {r : V → Hp → VK → Prop} (ho : UnR X (unaryOp op) r) (ha : PE X a ta) : PE X (.UnaryOp op a pos) (tUn r ta) := by
  intro pins s σ H Q I h
  exact UnaryOp_ (thn (ha pins s σ H _ I h) fun v s1 ⟨x, H1, I1, r1, q1⟩ => ho pins s1 σ H1 x v Q I1 r1 q1)
theorem opI {f : Value → Value → Sem Value} {C : Int → Int → Prop} {g : Int → Int → Int}
    (rule : ∀ (i j : Int) (t u : Tok) (s : Shared) (Q : Value → Shared → Prop) (E : Value → Shared → Prop), C i j → Q (.int (g i j) s.toks) { s with toks := s.toks + 1 } → wpAny (model X.prog X.w) X.A (f (.int i t) (.int j u)) Q E s) :
    OpR X f (rI C fun i j => .int (g i j)) := by
  intro pins s σ H x y v u Q I rx ry h
  obtain ⟨i, j, rfl, rfl, hc, q⟩ := h
  obtain ⟨t, rfl⟩ := rx
  obtain ⟨t', rfl⟩ := ry
  exact rule i j t t' s _ _ hc ⟨.int (g i j), H, I.tok _, ⟨_, rfl⟩, q⟩
theorem opI0 {f : Value → Value → Sem Value} {g : Int → Int → Int}
    (rule : ∀ (i j : Int) (t u : Tok) (s : Shared) (Q : Value → Shared → Prop) (E : Value → Shared → Prop), Q (.int (g i j) s.toks) { s with toks := s.toks + 1 } → wpAny (model X.prog X.w) X.A (f (.int i t) (.int j u)) Q E s) :
    OpR X f (rI0 fun i j => .int (g i j)) := by
  intro pins s σ H x y v u Q I rx ry h
  obtain ⟨i, j, rfl, rfl, q⟩ := h
  obtain ⟨t, rfl⟩ := rx
  obtain ⟨t', rfl⟩ := ry
  exact rule i j t t' s _ _ ⟨.int (g i j), H, I.tok _, ⟨_, rfl⟩, q⟩
theorem opB0 {f : Value → Value → Sem Value} {g : Int → Int → Bool}
    (rule : ∀ (i j : Int) (t u : Tok) (s : Shared) (Q : Value → Shared → Prop) (E : Value → Shared → Prop), Q (.bool (g i j)) s → wpAny (model X.prog X.w) X.A (f (.int i t) (.int j u)) Q E s) :
    OpR X f (rI0 fun i j => .bl (g i j)) := by
  intro pins s σ H x y v u Q I rx ry h
  obtain ⟨i, j, rfl, rfl, q⟩ := h
  obtain ⟨t, rfl⟩ := rx
  obtain ⟨t', rfl⟩ := ry
  exact rule i j t t' s _ _ ⟨.bl (g i j), H, I, rfl, q⟩
def CDiv (i j : Int) : Prop := 0 < j ∧ j < 1073741824
def CDivN (i j : Int) : Prop := j ≠ 0 ∧ j.natAbs < 1073741824
def CPow (i j : Int) : Prop := 0 ≤ j ∧ j ≤ 1000000 ∧ i.natAbs < 2 ^ 64
def CMul (i j : Int) : Prop := (-(2 ^ 64) < i ∧ i < 2 ^ 64) ∨ (-(2 ^ 64) < j ∧ j < 2 ^ 64)
theorem CMul.ok {i j : Int} (h : CMul i j) : IntMulOk i j := by
  rcases h with ⟨h1, h2⟩ | ⟨h1, h2⟩
  · exact .of_left (intBits_le_64 h1 h2)
  · exact .of_right (intBits_le_64 h1 h2)
theorem op_add : OpR X (binaryOp .Add) (rI0 fun i j => .int (i + j)) := opI0 fun _ _ _ _ _ _ _ q => add_int q
theorem op_sub : OpR X (binaryOp .Sub) (rI0 fun i j => .int (i - j)) := opI0 fun _ _ _ _ _ _ _ q => sub_int q
theorem op_mod : OpR X (binaryOp .Mod) (rI (fun _ j => 0 < j) fun i j => .int (i % j)) := opI fun i j _ _ _ _ _ hc q => by
  have h1 : (0 : Int) < j := hc
  exact mod_int' (by omega) (by rw [Int.fmod_eq_emod_of_nonneg i (by omega)]; exact q)
theorem op_modN : OpR X (binaryOp .Mod) (rI (fun _ j => j ≠ 0) fun i j => .int (i.fmod j)) := opI fun _ _ _ _ _ _ _ hc q => mod_int' hc q
theorem unI {f : Value → Sem Value} {g : Int → Int}
    (rule : ∀ (i : Int) (t : Tok) (s : Shared) (Q : Value → Shared → Prop) (E : Value → Shared → Prop), Q (.int (g i) s.toks) { s with toks := s.toks + 1 } → wpAny (model X.prog X.w) X.A (f (.int i t)) Q E s) :
    UnR X f (rU fun i => .int (g i)) := by
  intro pins s σ H x v Q I rx h
  obtain ⟨i, rfl, q⟩ := h
  obtain ⟨t, rfl⟩ := rx
  exact rule i t s _ _ ⟨.int (g i), H, I.tok _, ⟨_, rfl⟩, q⟩
theorem un_neg : UnR X (unaryOp .USub) (rU fun i => .int (-i)) := unI fun _ _ _ _ _ q => neg_int q
end
def scal : V → V → Bool
  | .non, .non => true | .non, .int _ => true | .int _, .non => true | .non, .bl _ => true | .bl _, .non => true | .non, .str _ => true | .str _, .non => true
  | .int _, .int _ => true | .bl _, .bl _ => true | .str _, .str _ => true | .byt _, .byt _ => true
  | .int _, .str _ => true | .str _, .int _ => true | .bl _, .str _ => true | .str _, .bl _ => true
  | _, _ => false
def rEq : R2 := fun x y H Q => scal x y = true ∧ Q (.bl (decide (x = y))) H
def rNe : R2 := fun x y H Q => scal x y = true ∧ Q (.bl (!decide (x = y))) H
theorem dec_int {i j : Int} : decide (V.int i = V.int j) = (i == j) := by
  rw [Bool.eq_iff_iff]
  simp
theorem dec_bl {i j : Bool} : decide (V.bl i = V.bl j) = (i == j) := by
  rw [Bool.eq_iff_iff]
  simp
theorem dec_str {i j : Str} : decide (V.str i = V.str j) = (i == j) := by
  rw [Bool.eq_iff_iff]
  simp
theorem dec_byt {i j : Array UInt8} : decide (V.byt i = V.byt j) = (i.toList == j.toList) := by
  rw [Bool.eq_iff_iff]
  cases i
  cases j
  simp
section
variable {X : Cx} {a b c : Expr} {ta tb tc : TE} {pos : Pos}
theorem fin_bl {pins : List (Addr × Obj)} {σ : St} {H : Hp} {s : Shared} {Q : VK} {k k' : Bool} (I : Inv X pins σ H s) (q : Q (.bl k) H) (e : k = k') : EP X pins σ Q (.bool k') s := by
  subst e
  exact ⟨.bl k, H, I, rfl, q⟩
theorem op_eq : OpR X (compareOp .Eq) rEq := by
  intro pins s σ H x y v u Q I rx ry h
  obtain ⟨hs, q⟩ := h
  cases x with
  | non =>
    cases rx
    cases y with
    | non => cases ry; exact PySem.EqNone.eq_none_none (fin_bl I q (by simp))
    | bl j => cases ry; exact PySem.EqNone.eq_none_bool (fin_bl I q (by simp))
    | int j => obtain ⟨t', rfl⟩ := ry; exact PySem.EqNone.eq_none_int (fin_bl I q (by simp))
    | str j => obtain ⟨t', rfl⟩ := ry; exact PySem.EqNone.eq_none_str (fin_bl I q (by simp))
    | _ => exact absurd (show false = true from hs) Bool.false_ne_true
  | bl i =>
    cases rx
    cases y with
    | non => cases ry; exact PySem.EqNone.eq_bool_none (fin_bl I q (by simp))
    | bl j => cases ry; exact eq_bool (fin_bl I q dec_bl)
    | str j => obtain ⟨t', rfl⟩ := ry; exact PySem.EqMixed.eq_bool_str (fin_bl I q (by simp))
    | _ => exact absurd (show false = true from hs) Bool.false_ne_true
  | int i =>
    obtain ⟨t, rfl⟩ := rx
    cases y with
    | non => cases ry; exact PySem.EqNone.eq_int_none (fin_bl I q (by simp))
    | int j => obtain ⟨t', rfl⟩ := ry; exact eq_int (fin_bl I q dec_int)
    | str j => obtain ⟨t', rfl⟩ := ry; exact PySem.EqMixed.eq_int_str (fin_bl I q (by simp))
    | _ => exact absurd (show false = true from hs) Bool.false_ne_true
  | str i =>
    obtain ⟨t, rfl⟩ := rx
    cases y with
    | non => cases ry; exact PySem.EqNone.eq_str_none (fin_bl I q (by simp))
    | bl j => cases ry; exact PySem.EqMixed.eq_str_bool (fin_bl I q (by simp))
    | int j => obtain ⟨t', rfl⟩ := ry; exact PySem.EqMixed.eq_str_int (fin_bl I q (by simp))
    | str j => obtain ⟨t', rfl⟩ := ry; exact eq_str (fin_bl I q dec_str)
    | _ => exact absurd (show false = true from hs) Bool.false_ne_true
  | byt i =>
    obtain ⟨t, rfl⟩ := rx
    cases y with
    | byt j => obtain ⟨t', rfl⟩ := ry; exact PySem.W.eq_bytes (fin_bl I q dec_byt)
    | _ => exact absurd (show false = true from hs) Bool.false_ne_true
  | _ => cases y <;> exact absurd (show false = true from hs) Bool.false_ne_true
theorem op_ne : OpR X (compareOp .NotEq) rNe := by
  intro pins s σ H x y v u Q I rx ry h
  obtain ⟨hs, q⟩ := h
  cases x with
  | non =>
    cases rx
    cases y with
    | non => cases ry; exact PySem.EqNone.ne_none_none (fin_bl I q (by simp))
    | bl j => cases ry; exact PySem.EqNone.ne_none_bool (fin_bl I q (by simp))
    | int j => obtain ⟨t', rfl⟩ := ry; exact PySem.EqNone.ne_none_int (fin_bl I q (by simp))
    | str j => obtain ⟨t', rfl⟩ := ry; exact PySem.EqNone.ne_none_str (fin_bl I q (by simp))
    | _ => exact absurd (show false = true from hs) Bool.false_ne_true
  | bl i =>
    cases rx
    cases y with
    | non => cases ry; exact PySem.EqNone.ne_bool_none (fin_bl I q (by simp))
    | bl j => cases ry; exact ne_bool (fin_bl I q (congrArg not dec_bl))
    | str j => obtain ⟨t', rfl⟩ := ry; exact PySem.EqMixed.ne_bool_str (fin_bl I q (by simp))
    | _ => exact absurd (show false = true from hs) Bool.false_ne_true
  | int i =>
    obtain ⟨t, rfl⟩ := rx
    cases y with
    | non => cases ry; exact PySem.EqNone.ne_int_none (fin_bl I q (by simp))
    | int j => obtain ⟨t', rfl⟩ := ry; exact ne_int (fin_bl I q (congrArg not dec_int))
    | str j => obtain ⟨t', rfl⟩ := ry; exact PySem.EqMixed.ne_int_str (fin_bl I q (by simp))
    | _ => exact absurd (show false = true from hs) Bool.false_ne_true
  | str i =>
    obtain ⟨t, rfl⟩ := rx
    cases y with
    | non => cases ry; exact PySem.EqNone.ne_str_none (fin_bl I q (by simp))
    | bl j => cases ry; exact PySem.EqMixed.ne_str_bool (fin_bl I q (by simp))
    | int j => obtain ⟨t', rfl⟩ := ry; exact PySem.EqMixed.ne_str_int (fin_bl I q (by simp))
    | str j => obtain ⟨t', rfl⟩ := ry; exact ne_str (fin_bl I q (congrArg not dec_str))
    | _ => exact absurd (show false = true from hs) Bool.false_ne_true
  | byt i =>
    obtain ⟨t, rfl⟩ := rx
    cases y with
    | byt j => obtain ⟨t', rfl⟩ := ry; exact PySem.W.ne_bytes (fin_bl I q (congrArg not dec_byt))
    | _ => exact absurd (show false = true from hs) Bool.false_ne_true
  | _ => cases y <;> exact absurd (show false = true from hs) Bool.false_ne_true
theorem op_lt : OpR X (compareOp .Lt) (rI0 fun i j => .bl (decide (i < j))) := opB0 fun _ _ _ _ _ _ _ q => lt_int q
theorem op_le : OpR X (compareOp .LtE) (rI0 fun i j => .bl (decide (i ≤ j))) := opB0 fun _ _ _ _ _ _ _ q => le_int q
theorem op_in_str : OpR X (compareOp .In) (fun x y H Q => ∃ i j, x = .str i ∧ y = .str j ∧ Q (.bl (!(Builtin.Str.occurrences j i 0 j.length 1).isEmpty)) H) := by
  intro pins s σ H x y v u Q I rx ry h
  obtain ⟨i, j, rfl, rfl, q⟩ := h
  obtain ⟨t, rfl⟩ := rx
  obtain ⟨t', rfl⟩ := ry
  exact in_str (fin_bl I q rfl)
def isObj : HO → Bool
  | .lst _ => true
  | .ins _ _ _ => true
  | _ => false
theorem nomark (b : Expr) {op : CmpOp} (h : op ≠ .In := by decide) (h2 : op ≠ .NotIn := by decide) : behindInMarks op b = false := by
  have e1 : (op == CmpOp.In) = false := by cases op <;> first | rfl | exact absurd rfl h
  have e2 : (op == CmpOp.NotIn) = false := by cases op <;> first | rfl | exact absurd rfl h2
  cases b <;> simp [behindInMarks, e1, e2]
theorem pe_cmpR {op : CmpOp} {r : R2} (ho : OpR X (compareOp op) r) (ha : PE X a ta) (hb : PE X b tb) (hm : behindInMarks op b = false) : PE X (.Compare a [op] [b] pos) (tOp r ta tb) := by
  intro pins s σ H Q I h
  exact wpAny_Compare1 (binT ha hb I h fun v u s2 x y H2 I2 rx ry q => ho pins s2 σ H2 x y v u Q I2 rx ry q) hm
def tTest (t : TE) : TT := fun σ H Q => t σ H fun x H' => ∃ k, x = .bl k ∧ Q k H'
theorem pt_cmpR {op : CmpOp} {r : R2} (ho : OpR X (compareOp op) r) (ha : PE X a ta) (hb : PE X b tb) (hm : behindInMarks op b = false) : PT X (.Compare a [op] [b] pos) (tTest (tOp r ta tb)) := by
  intro pins s σ H Q I h
  refine wpAny_isTrue_Compare1 (thn (ha pins s σ H _ I h) fun v s1 ⟨x, H1, I1, r1, q1⟩ => thn (hb pins s1 σ H1 _ I1 q1) fun u s2 ⟨y, H2, I2, r2, q2⟩ =>
    thn (ho pins s2 σ H2 x y v u _ I2 r1 r2 q2) fun c s3 ⟨z, H3, I3, r3, k, e, q3⟩ => ?_) hm
  subst e
  cases r3
  exact wpAny_truthy_bool ⟨H3, I3, q3⟩
def tChain (r r' : R2) (ta tb tc : TE) : TE := fun σ H Q => ta σ H fun x H1 => tb σ H1 fun y H2 => r x y H2 fun z H3 => ∃ k, z = .bl k ∧
  (if k = true then tc σ H3 fun w' H4 => r' y w' H4 Q else Q (.bl false) H3)
theorem pt_chain {op op' : CmpOp} {r r' : R2} (ho : OpR X (compareOp op) r) (ho' : OpR X (compareOp op') r') (ha : PE X a ta) (hb : PE X b tb) (hc : PE X c tc)
    (hm : lastMarks [op, op'] [b, c] = false := by with_unfolding_all rfl) : PT X (.Compare a [op, op'] [b, c] pos) (tTest (tChain r r' ta tb tc)) := by
  intro pins s σ H Q I h
  refine isTrue_chain (thn (ha pins s σ H _ I h) fun v s1 ⟨x, H1, I1, r1, q1⟩ => test_link (thn (hb pins s1 σ H1 _ I1 q1) fun u s2 ⟨y, H2, I2, r2, q2⟩ =>
    thn (ho pins s2 σ H2 x y v u _ I2 r1 r2 q2) fun d s3 ⟨z, H3, I3, r3, k, e, q3⟩ => ?_)) hm
  subst e
  cases r3
  refine wpAny_truthy_bool ?_
  cases k with
  | false =>
    obtain ⟨k', e', q'⟩ := q3
    cases e'
    exact ite_ff ⟨H3, I3, q'⟩
  | true =>
    refine ite_tt (test_last (thn (hc pins s3 σ H3 _ I3 q3) fun w' s4 ⟨z', H4, I4, r4, q4⟩ => thn (ho' pins s4 σ H4 y z' u w' _ I4 r2 r4 q4) fun d' s5 ⟨z2, H5, I5, r5, k2, e2, q5⟩ => ?_))
    subst e2
    cases r5
    exact wpAny_truthy_bool ⟨H5, I5, q5⟩
def TruV (K : PySem.W.Frag) (x : V) (H : Hp) (k : Bool) : Prop :=
  match x with
  | .non => k = false
  | .bl b => k = b
  | .int i => k = (i != 0)
  | .str y => y.length ≤ sizeLine ∧ k = ((y.length : Int) != 0)
  | .byt y => y.size ≤ sizeLine ∧ k = ((y.size : Int) != 0)
  | .ref p => (∃ xs, SqL K H p xs ∧ k = !xs.isEmpty) ∨ (∃ xs, SqT K H p xs ∧ k = !xs.isEmpty) ∨ ∃ kvs, H p = some (.dK kvs) ∧ k = !kvs.isEmpty
  | _ => False
theorem line63 : (sizeLine : Nat) < 2 ^ 63 := by rw [sizeLine_eq]; decide
theorem op_add_str : OpR X (binaryOp .Add) (fun x y H Q => ∃ i j, x = .str i ∧ y = .str j ∧ i.length + j.length ≤ sizeLine ∧ Q (.str (i ++ j)) H) := by
  intro pins s σ H x y v u Q I rx ry h
  obtain ⟨i, j, rfl, rfl, hz, q⟩ := h
  obtain ⟨t, rfl⟩ := rx
  obtain ⟨t', rfl⟩ := ry
  exact add_str (fun t' tk => ⟨.str (i ++ j), H, I.tok _, ⟨_, rfl⟩, q⟩) hz
def PlainIxT (b : Expr) : Prop := ∀ o i, subscripted b false o i = operate [o, i] (getItem o i)
theorem vals1 {x : V} {us : List Value} (r : Vals [x] us) : ∃ u, us = [u] ∧ RelV x u := by
  cases r with
  | cons r1 r2 => cases r2; exact ⟨_, rfl, r1⟩
theorem vals2 {x y : V} {us : List Value} (r : Vals [x, y] us) : ∃ u w', us = [u, w'] ∧ RelV x u ∧ RelV y w' := by
  cases r with
  | cons r1 r2 =>
    cases r2 with
    | cons r3 r4 => cases r4; exact ⟨_, _, rfl, r1, r3⟩
theorem call_abs : CallR X (.builtin "abs") (fun xs H Q => ∃ i, xs = [.int i] ∧ Q (.int (if i < 0 then -i else i)) H) := by
  intro pins s σ H xs us Q I r h
  obtain ⟨i, rfl, q⟩ := h
  obtain ⟨u, rfl, t, rfl⟩ := vals1 r
  exact call_abs_int fun u tk => ⟨.int (if i < 0 then -i else i), H, I.tok _, ⟨_, rfl⟩, q⟩
def LenV (K : PySem.W.Frag) (x : V) (H : Hp) (n : Nat) : Prop :=
  match x with
  | .str y => y.length ≤ sizeLine ∧ n = y.length
  | .byt y => y.size ≤ sizeLine ∧ n = y.size
  | .ref p => (∃ xs, SqL K H p xs ∧ n = xs.length) ∨ ∃ xs, SqT K H p xs ∧ n = xs.length
  | _ => False
end
end L2
namespace L2
open PySem PySem.Spec PyProof.Rows
structure ObjM (h : Heap) (x dx C : Addr) (mA : Str → Option Value) : Prop where
  obj : h.get? x = some (PySem.W.instObj C dx)
  ns : h.Ns1 dx mA
  ne : dx ≠ x
theorem lookIn_ns {h : Heap} {dx : Addr} {mA : Str → Option Value} (n : h.Ns1 dx mA) : ∃ od, h.get? dx = some od ∧ ∀ name, PySem.W.lookIn name od = some (mA name) := by
  obtain ⟨o, es, ep, ho, hd, hk, _, hm⟩ := n
  refine ⟨o, ho, fun name => ?_⟩
  have e := hm name
  unfold nsFind findBy at e
  rw [← Array.find?_toList] at e
  unfold PySem.W.lookIn
  rw [hd]
  dsimp only
  split
  · rename_i y q
    rw [q] at e
    exact congrArg some e
  · rename_i q
    rw [q] at e
    have a : es.toList.any (·.refKey) = false := by
      rw [List.any_eq_false]
      intro y hy
      obtain ⟨z, t, hkey⟩ := hk y (Array.mem_toList_iff.mp hy)
      simp [DictEntry.refKey, hkey]
    have a' : ¬ es.toList.any (·.refKey) = true := by rw [a]; exact Bool.false_ne_true
    rw [if_neg a']
    exact congrArg some e
theorem ObjM.look {h : Heap} {x dx C : Addr} {mA : Str → Option Value} (I : ObjM h x dx C mA) : ∃ od, PySem.W.InstAt h x (PySem.W.instObj C dx) C (some od) ∧ ∀ name, PySem.W.lookIn name od = some (mA name) :=
  let ⟨od, ho, hl⟩ := lookIn_ns I.ns
  ⟨od, ⟨I.obj, rfl, rfl, ho⟩, hl⟩
section
variable {prog : Program} {w : World} {A : Around} {E : Value → Shared → Prop} {s : Shared} {K : PySem.W.Frag} {x dx C f : Addr} {mA : Str → Option Value} {name : Str} {v : Value}
end
def putF (f : Str) (v : V) : List (Str × V) → List (Str × V)
  | [] => [(f, v)]
  | (g, x) :: r => if g = f then (g, v) :: r else (g, x) :: putF f v r
theorem RelO.some_of {v : V} {o : Option Value} (r : RelO (some v) o) : ∃ u, o = some u ∧ RelV v u := by
  cases o with
  | none => exact (show False from r).elim
  | some u => exact ⟨u, rfl, r⟩
section
variable {P : Program} {w : World} {H H' : Hp} {h h' : Heap} {a C dx : Addr} {fs fs' : List (Str × V)}
theorem ins_get (hok : HOk P w H h) (e : H a = some (.ins C dx fs)) : ∃ mA, ObjM h a dx C mA ∧ (∀ f, RelO (fs.lookup f) (mA f)) ∧ PySem.Within mA (fs.map (·.1)) ∧ fs.length ≤ 1000 ∧ H dx = some (.own a) := by
  obtain ⟨d, z, ne, ob, mA, n, r, q⟩ := (show ObjOk P w H h a (.ins C dx fs) from hok a _ e)
  exact ⟨mA, ⟨ob, n, ne⟩, r, q, z, d⟩
end
structure Cls (K : PySem.W.Frag) (C : Addr) : Prop where
  pg : PySem.W.plainGet K C Str.empty = true
  hd : PySem.W.hasDictIn K C = true
  po : PySem.W.plainOver K C = true
  sa : PySem.W.findIn K (.ref C) "__setattr__" = some (some (.builtin "object.__setattr__"))
theorem Cls.get {K : PySem.W.Frag} {C : Addr} (c : Cls K C) (f : Str) : PySem.W.plainGet K C f = true := c.pg
def NoAttr (K : PySem.W.Frag) (C : Addr) (f : Str) : Prop := PySem.W.findIn K (.ref C) f = some none
structure Con (K : PySem.W.Frag) (C : Addr) (f : Str) (v : V) (u : Value) : Prop where
  at_ : PySem.W.findIn K (.ref C) f = some (some u)
  rel : RelV v u
  get : PySem.W.specialIn K u "__get__" = some none
  cp : PySem.W.copiedNames.contains f = false
structure Meth (K : PySem.W.Frag) (C : Addr) (m : Str) (f : Addr) : Prop where
  at_ : PySem.W.findIn K (.ref C) m = some (some (.ref f))
  fn : PySem.W.isFn K (.ref f) = true
  kp : PySem.W.keepIn K (.ref f) = true
section
variable {X : Cx} {pins : List (Addr × Obj)} {σ : St} {H : Hp} {s : Shared} {a C dx : Addr} {fs : List (Str × V)} {f : Str} {v : V} {A : Around} {E : Value → Shared → Prop}
end
def tFld (K : PySem.W.Frag) (ta : TE) (f : Str) : TE := fun σ H Q => ta σ H fun x H1 => ∃ a C dx fs v, x = .ref a ∧ H1 a = some (.ins C dx fs) ∧ Cls K C ∧ NoAttr K C f ∧ fs.lookup f = some v ∧ Q v H1
def tCon (K : PySem.W.Frag) (ta : TE) (f : Str) : TE := fun σ H Q => ta σ H fun x H1 => ∃ a C dx fs v u, x = .ref a ∧ H1 a = some (.ins C dx fs) ∧ Cls K C ∧ Con K C f v u ∧ fs.lookup f = none ∧ Q v H1
def sFld (K : PySem.W.Frag) (ta tv : TE) (f : Str) : TS := fun D σ H => tv σ H fun y H1 => ta σ H1 fun x H2 => ∃ a C dx fs, x = .ref a ∧ H2 a = some (.ins C dx fs) ∧ Cls K C ∧ NoAttr K C f ∧ fs.length < 1000 ∧
  D.nx σ (upd H2 a (.ins C dx (putF f y fs)))
def InOp (X : Cx) (op : Operator) (rd : V → V → Hp → VK → Prop) : Prop :=
  ∀ (pins : List (Addr × Obj)) (s : Shared) (σ : St) (H : Hp) (x y : V) (u v : Value) (Q : VK), Inv X pins σ H s → RelV x u → RelV y v → rd x y H Q → wpAny (model X.prog X.w) X.A (inplaceOp op u v) (EP X pins σ Q) X.xe s
def sFldAug (K : PySem.W.Frag) (ta tv : TE) (rd : V → V → Hp → VK → Prop) (f : Str) : TS := fun D σ H => ta σ H fun x H1 => ∃ a C dx fs v, x = .ref a ∧ H1 a = some (.ins C dx fs) ∧ Cls K C ∧ NoAttr K C f ∧ fs.lookup f = some v ∧
  tv σ H1 fun y H2 => rd v y H2 fun z H3 => ∃ dx' fs', H3 a = some (.ins C dx' fs') ∧ fs'.length < 1000 ∧ D.nx σ (upd H3 a (.ins C dx' (putF f z fs')))
section
variable {X : Cx} {o e value : Expr} {f : Str} {pos pos' tpos : Pos} {ta tv : TE}
def rAdd : V → V → Hp → VK → Prop := fun x y H Q => ∃ i j, x = .int i ∧ y = .int j ∧ Q (.int (i + j)) H
def rSub : V → V → Hp → VK → Prop := fun x y H Q => ∃ i j, x = .int i ∧ y = .int j ∧ Q (.int (i - j)) H
end
section
variable {X : Cx} {pins : List (Addr × Obj)} {σ : St} {H : Hp} {s : Shared} {A : Around} {E : Value → Shared → Prop} {Q : Value → Shared → Prop} {c : Value} {b : Bool}
inductive TyOf (K : PySem.W.Frag) (H : Hp) : V → Value → Prop where
  | non : TyOf K H .non (.type "NoneType")
  | bl (x : Bool) : TyOf K H (.bl x) (.type "bool")
  | int (i : Int) : TyOf K H (.int i) (.type "int")
  | str (x : Str) : TyOf K H (.str x) (.type "str")
  | flt (x : UInt64) : TyOf K H (.flt x) (.type "float")
  | lst {a : Addr} {xs : List V} (e : H a = some (.lst xs)) : TyOf K H (.ref a) (.type "list")
  | frz {a : Addr} {o : Obj} {xs : List V} (e : H a = some (.frz o (.lst xs))) : TyOf K H (.ref a) (.type "list")
  | tup {a : Addr} {xs : List V} (e : H a = some (.tup xs)) : TyOf K H (.ref a) (.type "tuple")
  | dK {a : Addr} {kvs : List (Key × V)} (e : H a = some (.dK kvs)) : TyOf K H (.ref a) (.type "dict")
  | dT {a : Addr} {kvs : List (List Key × V)} (e : H a = some (.dT kvs)) : TyOf K H (.ref a) (.type "dict")
  | ins {a C dx : Addr} {fs : List (Str × V)} (e : H a = some (.ins C dx fs)) (cl : Cls K C) (ha : PySem.W.findIn K (.ref C) "__class__" = some (some (.builtin "object.__class__")))
      (hn : PySem.W.specialIn K (.builtin "object.__class__") "__get__" = some (some (.builtin "getset_descriptor.__get__"))) (htk : PySem.W.takesIn K (.builtin "object.__class__") = some true)
      (hm : PySem.W.mroIn K C (.type "object") = some true) : TyOf K H (.ref a) (.ref C)
theorem isinst_ok {x : V} {u t : Value} (I : Inv X pins σ H s) (rx : RelV x u) (ty : TyOf X.K H x t) (e : PySem.W.kitOne X.K t c = some b) (h : ∀ tk, Q (.bool b) { s with toks := tk }) :
    wpAny (model X.prog X.w) A (call (.builtin "isinstance") [u, c]) Q E s := by
  cases ty with
  | non => cases (show u = Value.none from rx); exact PySem.W.kia_one PySem.W.kitx_none I.kIn True.intro e (fun z => nomatch z) h
  | bl y => cases (show u = Value.bool y from rx); exact PySem.W.kia_one PySem.W.kitx_bool I.kIn True.intro e (fun z => nomatch z) h
  | int i => obtain ⟨t, q⟩ := (show ∃ t, u = Value.int i t from rx); cases q; exact PySem.W.kia_one PySem.W.kitx_int I.kIn True.intro e (fun z => nomatch z) h
  | str y => obtain ⟨t, q⟩ := (show ∃ t, u = Value.str y t from rx); cases q; exact PySem.W.kia_one PySem.W.kitx_str I.kIn True.intro e (fun z => nomatch z) h
  | flt y => obtain ⟨t, q⟩ := (show ∃ t, u = Value.float y t from rx); cases q; exact PySem.W.kia_one PySem.W.kitx_float I.kIn True.intro e (fun z => nomatch z) h
  | @lst a xs ea =>
    cases (show u = Value.ref a from rx)
    obtain ⟨_, _, n, _, h1⟩ := (show ObjOk X.prog X.w H s.heap a (.lst xs) from I.hok a _ ea)
    exact PySem.W.kia_one PySem.W.kitx_list I.kIn ⟨_, h1, rfl⟩ e (fun z => nomatch z) h
  | @frz a ob xs ea =>
    cases (show u = Value.ref a from rx)
    obtain ⟨_, _, _, n, _, h1⟩ := (show ObjOk X.prog X.w H s.heap a (.frz ob (.lst xs)) from I.hok a _ ea)
    exact PySem.W.kia_one PySem.W.kitx_list I.kIn ⟨_, h1, rfl⟩ e (fun z => nomatch z) h
  | @tup a xs ea =>
    cases (show u = Value.ref a from rx)
    obtain ⟨_, _, _, p⟩ := (show ObjOk X.prog X.w H s.heap a (.tup xs) from I.hok a _ ea)
    obtain ⟨o, h1, h2, _⟩ := p
    exact PySem.W.kia_one PySem.W.kitx_tuple I.kIn ⟨o, h1, h2⟩ e (fun z => nomatch z) h
  | @dK a kvs ea =>
    cases (show u = Value.ref a from rx)
    obtain ⟨_, _, vs, _, p⟩ := (show ObjOk X.prog X.w H s.heap a (.dK kvs) from I.hok a _ ea)
    obtain ⟨o, es, ep, h1, h2, _⟩ := p
    exact PySem.W.kia_one PySem.W.kitx_dict I.kIn ⟨o, h1, h2.1⟩ e (fun z => nomatch z) h
  | @dT a kvs ea =>
    cases (show u = Value.ref a from rx)
    obtain ⟨_, _, xs, _, o, es, ep, h1, h2, _⟩ := (show ObjOk X.prog X.w H s.heap a (.dT kvs) from I.hok a _ ea)
    exact PySem.W.kia_one PySem.W.kitx_dict I.kIn ⟨o, h1, h2.1⟩ e (fun z => nomatch z) h
  | @ins a C dx fs ea cl ha hn htk hm =>
    cases (show u = Value.ref a from rx)
    obtain ⟨mA, O, _⟩ := ins_get I.hok ea
    obtain ⟨od, J, _⟩ := O.look
    exact PySem.W.kia_one (PySem.W.kitx_own (cl.get _) cl.hd ha hn htk hm) I.kIn J e (fun z => nomatch z) h
end
end L2
namespace L2
open PySem PySem.Spec PyProof.Rows
structure Room (k : Nat) (A : Around) : Prop where
  hd : A.handled = none
  dp : A.depth + 3 * k + 5 < recursionLimit
  un : A.units + 16 * k + 200 < cLine
theorem Room.mono {j k : Nat} {A : Around} (r : Room k A) (h : j ≤ k) : Room j A := ⟨r.hd, by have := r.dp; omega, by have := r.un; omega⟩
theorem Room.deeper {k : Nat} {A : Around} (r : Room (k + 1) A) (env : Env) : Room k (A.deeper env) :=
  ⟨r.hd, by have := r.dp; show A.depth + 1 + 3 * k + 5 < _; omega, by have := r.un; show A.units + 3 + 16 * k + 200 < _; omega⟩
theorem Room.depth {k : Nat} {A : Around} (r : Room k A) : A.depth < recursionLimit := by have := r.dp; omega
theorem Room.units {k : Nat} {A : Around} (r : Room k A) : A.units + 64 < cLine := by have := r.un; omega
def tNil : TA := fun _ H Q => Q [] H
def tCons (ta : TE) (tr : TA) : TA := fun σ H Q => ta σ H fun x H1 => tr σ H1 fun xs H2 => Q (x :: xs) H2
section
variable {X : Cx} {e : Expr} {es : List Expr} {te : TE} {t : TA} {pos : Pos}
theorem pa_nil : PA X [] tNil := fun _ _ _ _ H Q I h => Calls.spliced_nil ⟨[], H, I, .nil, h⟩
theorem pa_cons (ha : PE X e te) (hr : PA X es t) (hs : starEach (e :: es) X.env = (false, eval e X.env) :: starEach es X.env := by rfl) : PA X (e :: es) (tCons te t) := by
  intro pos pins s σ H Q I h
  rw [hs]
  show wpAny _ _ (spliced ((false, eval e X.env) :: backTo pos (starEach es X.env))) _ _ s
  refine Calls.spliced_cons (thn (ha pins s σ H _ I h) fun u s1 ⟨x, H1, I1, r1, q1⟩ => ?_)
  exact thn (hr pos pins s1 σ H1 _ I1 q1) fun us s2 ⟨xs, H2, I2, r2, q2⟩ => ⟨x :: xs, H2, I2, .cons r1 r2, q2⟩
def tTup (t : TA) : TE := fun σ H Q => t σ H fun xs H1 => xs.length ≤ sizeLine ∧ ∀ p, H1 p = none → Q (.ref p) (upd H1 p (.tup xs))
def tLst (t : TA) : TE := fun σ H Q => t σ H fun xs H1 => xs.length ≤ sizeLine ∧ ∀ p, H1 p = none → Q (.ref p) (upd H1 p (.lst xs))
theorem pe_lst (h : PA X es t) : PE X (.List es pos) (tLst t) := by
  intro pins s σ H Q I hq
  refine wpAny_List_spliced (thn (h pos pins s σ H _ I hq) fun us s1 ⟨xs, H1, I1, r, z, q⟩ => ⟨by rw [← r.length]; exact z, ?_⟩)
  have hf : H1 s1.heap.objs.size = none := I1.hok.fresh (Nat.le_refl _)
  refine ⟨.ref s1.heap.objs.size, upd H1 s1.heap.objs.size (.lst xs), I1.laid (t' := s1.toks) (fun b u e => Heap.get?_push_of_some _ e) (Nat.le_refl _) ?_, rfl, q _ hf⟩
  exact ⟨z, us, 0, r, Heap.get?_push_size _ rfl⟩
end
abbrev Sp := List V → Hp → VK → XK → Prop
abbrev CXT := List Env → Hp → Shared → XK → Value → Shared → Prop
structure Env0 (P : Program) (w : World) (K : PySem.W.Frag) (mg : Str → Option Value) (base : Heap) (A : Around) (outer : List Env) (s : Shared) (H : Hp) : Prop where
  frames : A.frames = some outer
  mod : Mod K mg base
  bs : ∀ b o, base.get? b = some o → s.heap.get? b = some o ∧ H b = none
  bsz : base.objs.size ≤ s.heap.objs.size
  funs : s.heap.FunFrames base outer
  frf : ∀ b ∈ frs outer, H b = none
  hok : HOk P w H s.heap
  bare : AllBare s.gens
def CE (outer : List Env) (P : Program) (w : World) (H : Hp) (s : Shared) (Q : VK) (u : Value) (s' : Shared) : Prop :=
  ∃ v H', s'.os = s.os ∧ AllBare s'.gens ∧ Un (frs outer) [] H H' s.heap s'.heap ∧ HOk P w H' s'.heap ∧ RelV v u ∧ Q v H'
def CR (CX : CXT) (outer : List Env) (P : Program) (w : World) (H : Hp) (s : Shared) (Q : VK) (E : XK) (r : Result) (s' : Shared) : Prop :=
  match r with
  | .ok (.ret u) => CE outer P w H s Q u s'
  | .ok _ => False
  | .error e => CX outer H s E e s'
structure FnOk (P : Program) (w : World) (K : PySem.W.Frag) (mg : Str → Option Value) (base : Heap) (CX : CXT) (k : Nat) (f : Addr) (fd : FuncData) (ps : List Str) (sp : Sp) : Prop where
  len : ∀ vs H Q E, sp vs H Q E → vs.length = ps.length
  run : ∀ (A : Around) (outer : List Env) (s : Shared) (H : Hp) (args : Args) (us : List Value) (vs : List V) (Q : VK) (E : XK), Room k A → Env0 P w K mg base A outer s H → BindsTo s fd args (ps.zip us) → Vals vs us → sp vs H Q E →
    codeAny (model P w) A (.call (.ref f) args) (CR CX outer P w H s Q E) s
theorem FnOk.mono {P : Program} {w : World} {K : PySem.W.Frag} {mg : Str → Option Value} {base : Heap} {CX : CXT} {j k : Nat} {f : Addr} {fd : FuncData} {ps : List Str} {sp : Sp} (F : FnOk P w K mg base CX j f fd ps sp) (h : j ≤ k) :
    FnOk P w K mg base CX k f fd ps sp := ⟨F.len, fun A outer s H args us vs Q E hr => F.run A outer s H args us vs Q E (hr.mono h)⟩
section
variable {X : Cx} {pins : List (Addr × Obj)} {σ : St} {H : Hp} {s s' : Shared}
theorem Inv.env0 (I : Inv X pins σ H s) : Env0 X.prog X.w X.K X.mg X.base X.A X.stack s H :=
  ⟨I.ok.frames, I.ok.mod, I.bs, Nat.le_trans I.ok.bsz I.sz, I.stack, I.stkFree, I.hok, I.bare⟩
theorem Inv.after {Q : VK} {u : Value} (I : Inv X pins σ H s) (h : CE X.stack X.prog X.w H s Q u s') : EP X pins σ Q u s' := by
  obtain ⟨v, H', os, bare, un, hok, r, q⟩ := h
  obtain ⟨hh, g, d, t, os'⟩ := s'
  obtain rfl : os' = s.os := os
  exact ⟨v, H', I.call (h' := hh) (g' := g) (d' := d) (t' := t) (ch := []) un hok bare (fun b z => absurd z (by simp)), r, q⟩
end
def tCall (sp : Sp) (dvs : List V) (E : XK) (t : TA) : TE := fun σ H Q => t σ H fun vs H1 => sp (vs ++ dvs) H1 Q E
def tMeth (C : Addr) (m : Str) (sp : Sp) (dvs : List V) (E : XK) (ta : TE) (t : TA) : TE := fun σ H Q => ta σ H fun x H1 => ∃ a dx fs, x = .ref a ∧ H1 a = some (.ins C dx fs) ∧ fs.lookup m = none ∧
  t σ H1 fun vs H2 => sp (x :: (vs ++ dvs)) H2 Q E
def tMake (C : Addr) (sp : Sp) (dvs : List V) (E : XK) (t : TA) : TE := fun σ H Q => t σ H fun vs H1 => ∀ x dx, H1 x = none → H1 dx = none → dx ≠ x →
  sp (.ref x :: (vs ++ dvs)) (upd (upd H1 dx (.own x)) x (.ins C dx [])) (fun v H2 => v = .non ∧ Q (.ref x) H2) E
def Binds (K : PySem.W.Frag) (fd : FuncData) (ps : List Str) (ds : List Value) : Prop :=
  ∀ (s : Shared) (us : List Value), K.In s.heap → (us ++ ds).length = ps.length → BindsTo s fd ⟨us, []⟩ (ps.zip (us ++ ds))
theorem Binds.all {K : PySem.W.Frag} {fd : FuncData} {ps : List Str} (h : ∀ us : List Value, us.length = ps.length → bindArgs fd ⟨us, []⟩ = pure (ps.zip us)) : Binds K fd ps [] := fun s us _ hl => by
  rw [List.append_nil] at hl ⊢
  exact .of_eq (h us hl)
def Passes (CX : CXT) (X : Cx) (E : XK) : Prop := ∀ (pins : List (Addr × Obj)) (σ : St) (H : Hp) (s : Shared) (e : Value) (s' : Shared), Inv X pins σ H s → CX X.stack H s E e s' → X.xe e s'
section
variable {X : Cx} {CX : CXT} {k : Nat} {f C : Addr} {fd : FuncData} {ps : List Str} {sp : Sp} {dvs : List V} {ds : List Value} {E : XK} {x m : Str} {p pos apos : Pos} {e o : Expr} {es : List Expr} {ta : TE} {t : TA}
theorem run_fn {pins : List (Addr × Obj)} {σ : St} {H : Hp} {s : Shared} {Q : VK} {us : List Value} {vs : List V} (F : FnOk X.prog X.w X.K X.mg X.base CX k f fd ps sp) (hr : Room k X.A) (hb : Binds X.K fd ps ds) (hd : Vals dvs ds) (hx : Passes CX X E)
    (I : Inv X pins σ H s) (r : Vals vs us) (h : sp (vs ++ dvs) H Q E) : wpAny (model X.prog X.w) X.A (call (.ref f) us) (EP X pins σ Q) X.xe s := by
  have r2 : Vals (vs ++ dvs) (us ++ ds) := r.append hd
  have hl : (us ++ ds).length = ps.length := by rw [← r2.length]; exact F.len _ _ _ _ h
  refine wpAny_call (codeAny_mono (F.run X.A X.stack s H ⟨us, []⟩ (us ++ ds) (vs ++ dvs) Q E hr I.env0 (hb s us I.kIn hl) r2 h) fun r s' hq => ?_)
  cases r with
  | error e => exact hx pins σ H s e s' I hq
  | ok fl =>
    cases fl with
    | ret u => exact I.after hq
    | next => exact False.elim hq
    | brk => exact False.elim hq
    | cont => exact False.elim hq
theorem pe_call (F : FnOk X.prog X.w X.K X.mg X.base CX k f fd ps sp) (hr : Room k X.A) (hg : Gl X x) (hm : X.mg x = some (.ref f)) (hk : PySem.W.keepIn X.K (.ref f) = true) (hb : Binds X.K fd ps ds) (hd : Vals dvs ds) (hx : Passes CX X E)
    (ha : PA X (e :: es) t) (hdb : (x == ("__debug__" : Str)) = false := by decide) (he : starEach (e :: es) X.env = (false, eval e X.env) :: starEach es X.env := by rfl) (hpl : (backTo pos (starEach es X.env)).any (·.1) = false := by rfl) :
    PE X (.Call (.Name x p) (e :: es) [] pos) (tCall sp dvs E t) := by
  intro pins s σ H Q I h
  refine wpAny_Call_Name_kw (ld_glob I hg hm ?_ hdb)
  refine PySem.W.callWith_K (h₀ := X.base) I.ok.mod.kin hk (thn (ha pos pins s σ H _ I h) fun us s1 ⟨vs, H1, I1, r, q⟩ => ⟨I1.kIn, ?_⟩) he hpl
  exact run_fn F hr hb hd hx I1 r q
structure Mk (K : PySem.W.Frag) (C f : Addr) : Prop where
  makes : PySem.W.makesIn K C = true
  init : PySem.W.findIn K (.ref C) "__init__" = some (some (.ref f))
  fn : PySem.W.isFn K (.ref f) = true
  kp : PySem.W.keepIn K (.ref C) = true
end
def PK (X : Cx) (kws : List Keyword) (t : TA) : Prop :=
  ∀ (pos : Pos) (pins : List (Addr × Obj)) (s : Shared) (σ : St) (H : Hp) (Q : List V → Hp → Prop), Inv X pins σ H s → t σ H Q → wpAny (model X.prog X.w) X.A (evalAll ((backToKw pos (keywordEach kws X.env)).map (·.2))) (AP X pins σ Q) X.xe s
section
variable {X : Cx} {CX : CXT} {k : Nat} {f C : Addr} {fd : FuncData} {ps ks : List Str} {sp : Sp} {E : XK} {x m : Str} {p pos apos kpos : Pos} {e o : Expr} {es : List Expr} {kws : List Keyword} {te ta : TE} {t tk : TA} {nm : Option Str}
structure KBinds (K : PySem.W.Frag) (fd : FuncData) (ps ks : List Str) (g : List Value → List Value → List Value) (gV : List V → List V → List V) : Prop where
  to : ∀ (s : Shared) (us ws : List Value), K.In s.heap → (g us ws).length = ps.length → BindsTo s fd ⟨us, ks.zip ws⟩ (ps.zip (g us ws))
  rel : ∀ {vs : List V} {us : List Value} {zs : List V} {ws : List Value}, Vals vs us → Vals zs ws → Vals (gV vs zs) (g us ws)
def tCallK (sp : Sp) (gV : List V → List V → List V) (E : XK) (t tk : TA) : TE := fun σ H Q => t σ H fun vs H1 => tk σ H1 fun zs H2 => sp (gV vs zs) H2 Q E
variable {g : List Value → List Value → List Value} {gV : List V → List V → List V}
end
structure FnScope (N P : List Str) (sc : Scope) : Prop where
  kind : sc.kind = .function
  co : sc.isCoroutine = false
  gen : sc.isGenerator = false
  nd : N.Nodup
  pre : N.take P.length = P
  par : ∀ x ∈ P, sc.names.lookup x = some .local ∨ sc.names.lookup x = some .cell
  nofree : ∀ y ∈ sc.names, y.2 ≠ .free
theorem bindL_out {kindOf : Str → Option NameKind} {x : Str} : ∀ {binds : List (Str × Value)} {m : Str → Option Value}, (∀ v, (x, v) ∉ binds) → bindL kindOf binds m x = m x
  | [], _, _ => rfl
  | (n, v) :: r, m, h => by
    unfold bindL
    rw [bindL_out fun w hw => h w (List.mem_cons_of_mem _ hw)]
    split
    · have : x ≠ n := by rintro rfl; exact h v List.mem_cons_self
      simp [this]
    · rfl
theorem bindC_out {kindOf : Str → Option NameKind} {x : Str} : ∀ {binds : List (Str × Value)} {m : Str → Option Value}, (∀ v, (x, v) ∉ binds) → bindC kindOf binds m x = m x
  | [], _, _ => rfl
  | (n, v) :: r, m, h => by
    unfold bindC
    rw [bindC_out fun w hw => h w (List.mem_cons_of_mem _ hw)]
    split
    · rfl
    · have : x ≠ n := by rintro rfl; exact h v List.mem_cons_self
      simp [this]
theorem bindL_get {kindOf : Str → Option NameKind} {x : Str} {v : Value} : ∀ {P : List Str} {vs : List Value} {i : Nat} {m : Str → Option Value}, P.Nodup → P[i]? = some x → vs[i]? = some v → kindOf x = some .local →
    bindL kindOf (P.zip vs) m x = some v
  | [], _, _, _, _, h, _, _ => by simp at h
  | _ :: _, [], _, _, _, _, h, _ => by simp at h
  | p :: P, w :: vs, 0, m, nd, h1, h2, hk => by
    simp at h1 h2; subst h1; subst h2
    show bindL kindOf ((p, w) :: P.zip vs) m p = _
    unfold bindL
    rw [bindL_out fun v hv => (List.nodup_cons.mp nd).1 (List.of_mem_zip hv).1, if_pos hk]
    simp
  | p :: P, w :: vs, i + 1, m, nd, h1, h2, hk => by
    show bindL kindOf ((p, w) :: P.zip vs) m x = _
    unfold bindL
    exact bindL_get (i := i) (List.nodup_cons.mp nd).2 (by simpa using h1) (by simpa using h2) hk
theorem bindC_get {kindOf : Str → Option NameKind} {x : Str} {v : Value} : ∀ {P : List Str} {vs : List Value} {i : Nat} {m : Str → Option Value}, P.Nodup → P[i]? = some x → vs[i]? = some v → kindOf x ≠ some .local →
    bindC kindOf (P.zip vs) m x = some v
  | [], _, _, _, _, h, _, _ => by simp at h
  | _ :: _, [], _, _, _, _, h, _ => by simp at h
  | p :: P, w :: vs, 0, m, nd, h1, h2, hk => by
    simp at h1 h2; subst h1; subst h2
    show bindC kindOf ((p, w) :: P.zip vs) m p = _
    unfold bindC
    rw [bindC_out fun v hv => (List.nodup_cons.mp nd).1 (List.of_mem_zip hv).1, if_neg hk]
    simp
  | p :: P, w :: vs, i + 1, m, nd, h1, h2, hk => by
    show bindC kindOf ((p, w) :: P.zip vs) m x = _
    unfold bindC
    exact bindC_get (i := i) (List.nodup_cons.mp nd).2 (by simpa using h1) (by simpa using h2) hk
def start (N : List Str) (vs : List V) : St := vs.map some ++ List.replicate (N.length - vs.length) none
def cxOf (CX : CXT) (P : Program) (w : World) (K : PySem.W.Frag) (mg : Str → Option Value) (base : Heap) (N : List Str) (qual : Str) (scope : Scope) (f : Addr) (cd : Value) (A : Around) (outer : List Env) (s : Shared) (H : Hp) (E : XK) : Cx where
  prog := P
  w := w
  K := K
  mg := mg
  base := base
  A := A.deeper (envOfC qual scope s.heap.objs.size f cd)
  N := N
  s₀ := s
  H₀ := H
  env := envOfC qual scope s.heap.objs.size f cd
  outer := outer
  stack := envOfC qual scope s.heap.objs.size f cd :: outer
  ex := []
  calm := true
  fn := fun _ => true
  pn := []
  xe := fun e s' => wpAny (model P w) (A.deeper (envOfC qual scope s.heap.objs.size f cd)) (leaving (envOfC qual scope s.heap.objs.size f cd) e) (fun _ s'' => CX outer H s E e s'') (fun e' s'' => CX outer H s E e' s'') s'
theorem cell_has {sc : Scope} {n : Nat} {x : Str} (h : sc.names.lookup x = some .cell) : ∃ c, (cellsFrom n sc.names []).lookup x = some c := by
  have q := PySem.W.cellsFrom_some sc.names n [] (.inl h)
  exact Option.isSome_iff_exists.mp q
theorem inv_start {CX : CXT} {P : Program} {w : World} {K : PySem.W.Frag} {mg : Str → Option Value} {base : Heap} {N ps : List Str} {qual : Str} {scope : Scope} {f : Addr} {cd : Value} {A : Around} {outer : List Env} {s s1 : Shared} {H : Hp} {E : XK} {us : List Value} {vs : List V}
    (S : FnScope N ps scope) (hd : A.handled = none) (e0 : Env0 P w K mg base A outer s H) (hl : vs.length = ps.length) (r : Vals vs us)
    (x : InCallC s s.heap.objs.size (bindL (envOfC qual scope s.heap.objs.size f cd).kindOf (ps.zip us) fun _ => none) (cellsFrom (s.heap.objs.size + 1) scope.names []) (bindC (envOfC qual scope s.heap.objs.size f cd).kindOf (ps.zip us) fun _ => none) s1) :
    Inv (cxOf CX P w K mg base N qual scope f cd A outer s H E) [] (start N vs) H s1 := by
  have hpl : ps.length ≤ N.length := by have := congrArg List.length S.pre; rw [List.length_take] at this; omega
  obtain ⟨h1, tk, rfl, hk⟩ := x.done
  have noA : ∀ b : Addr, b ∉ (cxOf CX P w K mg base N qual scope f cd A outer s H E).ex := fun b z => absurd (show b ∈ ([] : List Addr) from z) (by simp)
  refine ⟨⟨e0.mod, S.kind, rfl, rfl, Nat.le_refl _, fun y z c h1 h2 => ?_, fun y hy => ?_, fun y c _ h => ?_, fun _ => hd, Around.frames_deeper e0.frames, .inr ⟨rfl, rfl⟩, fun b z => absurd z (noA b), e0.bs, e0.bsz, fun b _ _ => noA b, fun b z => absurd z (noA b), e0.funs, e0.frf⟩,
    rfl, e0.bare, Un.kept hk, ⟨_, x.toInCall.ns, fun i y v h1 h2 h3 => ?_⟩, fun y c h => ⟨_, x.cell y c h⟩, e0.hok.fresh (Nat.le_refl _), fun y c h => ?_, fun p hp => absurd (show p ∈ ([] : List (Addr × Obj)) from hp) (by simp), e0.hok.kept hk, ?_⟩
  · exact name_of_addr x.apart (PySem.mem_of_lookup h1) (PySem.mem_of_lookup h2)
  · have hy : scope.names.lookup y = some .cell ∨ scope.names.lookup y = some .free := hy
    rcases hy with hy | hy
    · exact cell_has hy
    · exact absurd rfl (S.nofree _ (PySem.mem_of_lookup hy))
  · exact Nat.le_of_lt (x.above y c (PySem.mem_of_lookup h))
  · have hi : i < vs.length := by
      unfold start at h2
      by_cases hi : i < vs.length
      · exact hi
      · rw [List.getElem?_append_right (by simpa using hi)] at h2
        rw [List.getElem?_replicate] at h2
        split at h2 <;> cases h2
    have ha : vs[i]? = some v := by
      unfold start at h2
      rw [List.getElem?_append_left (by simpa using hi), List.getElem?_map] at h2
      cases e : vs[i]? with
      | none => rw [e] at h2; cases h2
      | some a => rw [e] at h2; cases h2; rfl
    obtain ⟨u, hu, rv⟩ := r.get ha
    have hp : ps[i]? = some y := by
      rw [← S.pre, List.getElem?_take_of_lt (by omega)]; exact h1
    have ndP : ps.Nodup := by rw [← S.pre]; exact S.nd.sublist (List.take_sublist _ _)
    refine ⟨u, rv, ?_⟩
    rcases S.par y (List.mem_of_getElem? hp) with k | k
    · exact .inl ⟨k, bindL_get ndP hp hu k⟩
    · obtain ⟨c, e⟩ := cell_has (n := s.heap.objs.size + 1) k
      refine .inr ⟨.inl k, c, e, ?_⟩
      have q := x.cell y c e
      rw [bindC_get ndP hp hu (by show scope.names.lookup y ≠ _; rw [k]; decide)] at q
      exact q
  · exact e0.hok.fresh (Nat.le_of_lt (x.above y c (PySem.mem_of_lookup h)))
  · unfold start
    show _ = N.length
    rw [List.length_append, List.length_map, List.length_replicate]
    omega
theorem fn_of {CX : CXT} {P : Program} {w : World} {K : PySem.W.Frag} {mg : Str → Option Value} {base : Heap} {k : Nat} {f : Addr} {name qual : Str} {params : Arguments} {body : List Stmt} {scope : Scope} {dV kV doc pm cdv ct oc : Value} {an od : Option Addr}
    {osl : Array (Option Value)} {N ps : List Str} {sp : Sp} (lk : K.lookup f = some ⟨oc, od, .func (PySem.W.fnOf name qual params body scope dV kV doc pm an cdv ct), osl⟩) (hcd : PySem.W.codeIn K cdv qual = true) (S : FnScope N ps scope)
    (len : ∀ vs H Q E, sp vs H Q E → vs.length = ps.length)
    (hbody : ∀ (A : Around) (outer : List Env) (s : Shared) (H : Hp) (vs : List V) (Q : VK) (E : XK), Room k (A.deeper (envOfC qual scope s.heap.objs.size f cdv)) → sp vs H Q E →
      ∃ t, PSs (cxOf CX P w K mg base N qual scope f cdv A outer s H E) body t ∧ t { nx := fun _ H' => Q .non H', rt := Q } (start N vs) H) :
    FnOk P w K mg base CX (k + 1) f (PySem.W.fnOf name qual params body scope dV kV doc pm an cdv ct) ps sp := by
  refine ⟨len, fun A outer s H args us vs Q E hr e0 hb r hsp => ?_⟩
  have hl := len _ _ _ _ hsp
  have KX : K.In s.heap := e0.mod.kin.keeps fun b o e => (e0.bs b o e).1
  have lim : s.heap.NoLimit := e0.mod.nolimit.keeps fun b o e => (e0.bs b o e).1
  have hkind : ∀ y ∈ ps.zip us, scope.names.lookup y.1 = some .local ∨ (scope.names.lookup y.1 = some .cell ∧ ((cellsFrom (s.heap.objs.size + 1) scope.names []).lookup y.1).isSome = true) := fun ⟨n, v⟩ hy => by
    rcases S.par n (List.of_mem_zip hy).1 with q | q
    · exact .inl q
    · exact .inr ⟨q, PySem.W.cellsFrom_some _ _ _ (.inl q)⟩
  refine codeAny_call_function hr.depth (KX _ _ lk) rfl S.co S.gen rfl (PySem.W.codeRec_of KX hcd) (hb _ _ _ _ ?_)
  refine wpAny_newFunctionEnv_cells S.kind hkind fun env he s1 x => ?_
  subst he
  refine ⟨lim.keeps x.toInCall.keep, codeAny_func ?_⟩
  obtain ⟨t, ht, hq⟩ := hbody A outer s H vs Q E (hr.deeper _) hsp
  have I : Inv (cxOf CX P w K mg base N qual scope f cdv A outer s H E) [] (start N vs) H s1 := inv_start S hr.hd e0 hl r x
  refine wpAny_mono (ht [] s1 (start N vs) H _ I hq) (fun fl s' hs => ?_) fun e s' hs => hs
  have fin : ∀ {σ' : St} {H' : Hp} {v : V} {u : Value}, Inv (cxOf CX P w K mg base N qual scope f cdv A outer s H E) [] σ' H' s' → RelV v u → Q v H' → CE outer P w H s Q u s' :=
    fun {σ' H' v u} J rv q => ⟨v, H', J.os, J.bare, J.base, J.hok, rv, q⟩
  cases fl with
  | ret u =>
    obtain ⟨v, σ', H', J, rv, q⟩ := hs
    exact fin J rv q
  | next =>
    obtain ⟨σ', H', J, q⟩ := hs
    exact fin (v := V.non) (u := Value.none) J rfl q
  | brk =>
    obtain ⟨_, _, _, q⟩ := hs
    exact False.elim q
  | cont =>
    obtain ⟨_, _, _, q⟩ := hs
    exact False.elim q
end L2
namespace L2
open PySem PySem.Spec PyProof.Rows
section
variable {X : Cx} {x : Str} {p pos : Pos} {e : Expr} {es : List Expr} {t : TA} {id T : String} {r : List V → Hp → VK → Prop}
def tCB (r : List V → Hp → VK → Prop) (t : TA) : TE := fun σ H Q => t σ H fun vs H1 => r vs H1 Q
theorem pe_callB (hc : CallR X (.builtin id) r) (hg : Gl X x) (hm : X.mg x = none) (hv : bootBuiltins x = some (.builtin id)) (ha : PA X (e :: es) t) (hn : x ≠ "__name__" := by decide) (hdb : (x == ("__debug__" : Str)) = false := by decide)
    (he : starEach (e :: es) X.env = (false, eval e X.env) :: starEach es X.env := by rfl) (hpl : (backTo pos (starEach es X.env)).any (·.1) = false := by rfl) : PE X (.Call (.Name x p) (e :: es) [] pos) (tCB r t) := by
  intro pins s σ H Q I h
  refine wpAny_Call_Name_kw (ld_blt I hg hm hv ?_ hn hdb)
  exact PyProof.Rows.callWith_builtin1 (thn (ha pos pins s σ H _ I h) fun us s1 ⟨vs, H1, I1, r1, q1⟩ => hc pins s1 σ H1 vs us Q I1 r1 q1) he hpl
theorem pe_callTy (hc : CallR X (.type T) r) (hg : Gl X x) (hm : X.mg x = none) (hv : bootBuiltins x = some (.type T)) (ha : PA X (e :: es) t) (hn : x ≠ "__name__" := by decide) (hdb : (x == ("__debug__" : Str)) = false := by decide)
    (he : starEach (e :: es) X.env = (false, eval e X.env) :: starEach es X.env := by rfl) (hpl : (backTo pos (starEach es X.env)).any (·.1) = false := by rfl) : PE X (.Call (.Name x p) (e :: es) [] pos) (tCB r t) := by
  intro pins s σ H Q I h
  refine wpAny_Call_Name_kw (ld_blt I hg hm hv ?_ hn hdb)
  exact PyProof.Rows.callWith_type1 (thn (ha pos pins s σ H _ I h) fun us s1 ⟨vs, H1, I1, r1, q1⟩ => hc pins s1 σ H1 vs us Q I1 r1 q1) he hpl
end
end L2
namespace HT
open PySem PyProof.Rows
def lexLt : List Int → List Int → Bool
  | [], [] => false
  | [], _ :: _ => true
  | _ :: _, [] => false
  | x :: xs, y :: ys => if x = y then lexLt xs ys else decide (x < y)
section
open PySem.SeqAt
open PySem.AutoSeq1 (wpAny_loadPart')
open PySem.MeetsSeq PySem.MeetsSeq2 PySem.MeetsSeq3
end
section
variable {prog : Program} {w : World} {A : Around} {E : Value → Shared → Prop} {s : Shared}
def sIx (n d : Nat) : Option Int → Nat
  | none => d
  | some v => if v < 0 then (v + (n : Int)).toNat else min v.toNat n
theorem sIx_none (n d : Nat) : sIx n d none = d := rfl
theorem sIx_nat (n d k : Nat) : sIx n d (some (k : Int)) = min k n := by
  show (if (k : Int) < 0 then ((k : Int) + (n : Int)).toNat else min (k : Int).toNat n) = min k n
  rw [if_neg (by omega), Int.toNat_natCast]
theorem sIx_le (n d : Nat) (hd : d ≤ n) (o : Option Int) : sIx n d o ≤ n := by
  cases o with
  | none => exact hd
  | some v =>
    show (if v < 0 then (v + (n : Int)).toNat else min v.toNat n) ≤ n
    by_cases hv : v < 0
    · rw [if_pos hv]; omega
    · rw [if_neg hv]; exact Nat.min_le_right _ _
end
end HT
namespace L2
open PySem PySem.Spec PyProof.Rows
abbrev TO := St → Hp → (Option Int → Hp → Prop) → Prop
def PO (X : Cx) (e : Option Expr) (t : TO) : Prop :=
  ∀ (pins : List (Addr × Obj)) (s : Shared) (σ : St) (H : Hp) (Q : Option Int → Hp → Prop), Inv X pins σ H s → t σ H Q →
    wpAny (model X.prog X.w) X.A (evalPart e X.env) (fun u s' => ∃ o H', Inv X pins σ H' s' ∧ IsPart u o ∧ Q o H') X.xe s
def tNoPart : TO := fun _ H Q => Q none H
def tPart (t : TE) : TO := fun σ H Q => t σ H fun x H1 => ∃ i, x = .int i ∧ Q (some i) H1
theorem intsAre_of {ns : List Int} : ∀ {us : List Value}, Vals (ns.map V.int) us → IntsAre us ns := by
  induction ns with
  | nil => intro us r; rw [List.map_nil] at r; cases r; exact .nil
  | cons n ns ih =>
    intro us r
    rw [List.map_cons] at r
    cases r with
    | cons r1 r2 =>
      obtain ⟨t, e⟩ := r1
      subst e
      exact .cons n t (ih r2)
section
variable {X : Cx} {e : Expr} {te : TE} {lo hi : Option Expr} {tl th : TO} {pos p2 : Pos}
theorem po_none : PO X none tNoPart := by
  intro pins s σ H Q I h
  rw [evalPart_none]
  exact wpAny_pure ⟨none, H, I, .none, h⟩
theorem po_some (h : PE X e te) : PO X (some e) (tPart te) := by
  intro pins s σ H Q I hw
  rw [evalPart_some]
  refine thn (h pins s σ H _ I hw) fun u s1 ⟨x, H1, I1, r1, q1⟩ => ?_
  obtain ⟨i, rfl, q⟩ := q1
  obtain ⟨t, rfl⟩ := r1
  exact ⟨some i, H1, I1, .int i t, q⟩
def SlR (X : Cx) (r : V → Option Int → Option Int → Hp → VK → Prop) : Prop :=
  ∀ (pins : List (Addr × Obj)) (s : Shared) (σ : St) (H : Hp) (x : V) (v vl vu : Value) (lo hi : Option Int) (sl : Addr) (Q : VK), Inv X pins σ H s → RelV x v → s.heap.IsSliceOf sl vl vu .none → IsPart vl lo → IsPart vu hi → r x lo hi H Q →
    ∃ T id, typeLookup (.type T) "__getitem__" = pure (some (.builtin id)) ∧ s.TypeIs v T ∧ wpAny (model X.prog X.w) X.A (getItem v (.ref sl)) (EP X pins σ Q) X.xe s
def tSl (r : V → Option Int → Option Int → Hp → VK → Prop) (te : TE) (tl th : TO) : TE := fun σ H Q => te σ H fun x H1 => tl σ H1 fun l H2 => th σ H2 fun u H3 => r x l u H3 Q
theorem pe_slice {r : V → Option Int → Option Int → Hp → VK → Prop} (hr : SlR X r) (he : PE X e te) (hl : PO X lo tl) (hu : PO X hi th) : PE X (.Subscript e (.Slice lo hi none p2) pos) (tSl r te tl th) := by
  intro pins s σ H Q I h
  refine Subscript_ (thn (he pins s σ H _ I h) fun v s1 ⟨x, H1, I1, r1, q1⟩ => ?_)
  refine wpAny_Slice (thn (hl pins s1 σ H1 _ I1 q1) fun vl s2 ⟨l, H2, I2, pl, q2⟩ => thn (hu pins s2 σ H2 _ I2 q2) fun vu s3 ⟨u, H3, I3, pu, q3⟩ => ?_)
  rw [evalPart_none]
  refine wpAny_pure ?_
  have I4 : Inv X pins σ H3 { s3 with heap := s3.heap.push { cls := .type "slice", data := .fields #[vl, vu, .none] } } := I3.kept (t' := s3.toks) fun b ob q => Heap.get?_push_of_some _ q
  obtain ⟨T, id, hT, ht, hg⟩ := hr pins { s3 with heap := s3.heap.push { cls := .type "slice", data := .fields #[vl, vu, .none] } } σ H3 x v vl vu l u s3.heap.objs.size Q I4 r1 (Heap.IsSliceOf.new ..) pl pu q3
  show wpAny (model X.prog X.w) X.A (subscriptTail e (.Slice lo hi none p2) v (.ref s3.heap.objs.size)) (EP X pins σ Q) X.xe { s3 with heap := s3.heap.push { cls := .type "slice", data := .fields #[vl, vu, .none] } }
  exact tail_any (ops := [.ref s3.heap.objs.size, v]) ht hT hg (by with_unfolding_all rfl)
def cutV (xs : List V) (lo hi : Option Int) : List V := (xs.drop (HT.sIx xs.length 0 lo)).take (HT.sIx xs.length xs.length hi - HT.sIx xs.length 0 lo)
theorem cutV_length (xs : List V) (lo hi : Option Int) : (cutV xs lo hi).length ≤ xs.length := by
  unfold cutV
  rw [List.length_take, List.length_drop]
  omega
def rSlT (K : PySem.W.Frag) : V → Option Int → Option Int → Hp → VK → Prop := fun x lo hi H Q => ∃ a xs, x = .ref a ∧ SqT K H a xs ∧
  ¬ (HT.sIx xs.length 0 lo = 0 ∧ HT.sIx xs.length xs.length hi = xs.length) ∧ ∀ p, H p = none → Q (.ref p) (upd H p (.tup (cutV xs lo hi)))
def rLtT (K : PySem.W.Frag) : R2 := fun x y H Q => ∃ a b ns ms, x = .ref a ∧ y = .ref b ∧ SqT K H a (ns.map V.int) ∧ SqT K H b (ms.map V.int) ∧ Q (.bl (HT.lexLt ns ms)) H
def rCatT (K : PySem.W.Frag) : R2 := fun x y H Q => ∃ a b xs ys, x = .ref a ∧ y = .ref b ∧ SqT K H a xs ∧ SqT K H b ys ∧ xs ≠ [] ∧ xs.length + ys.length ≤ sizeLine ∧
  (ys = [] → Q (.ref a) H) ∧ (ys ≠ [] → ∀ p, H p = none → Q (.ref p) (upd H p (.tup (xs ++ ys))))
end
end L2
namespace L2
open PySem PySem.Spec PyProof.Rows
def ixN (n : Nat) (i : Int) : Option Nat := if 0 ≤ i then (if i < n then some i.toNat else none) else if -(n : Int) ≤ i then some (i + n).toNat else none
def atI {α : Type} (xs : List α) (i : Int) : Option α := (ixN xs.length i).bind fun j => xs[j]?
theorem ixN_seq {n : Nat} {i : Int} {j : Nat} (h : ixN n i = some j) : seqIndex? i n = some j ∧ j < n ∧ -(n : Int) ≤ i ∧ i < n := by
  unfold ixN at h
  by_cases h0 : 0 ≤ i
  · rw [if_pos h0] at h
    by_cases h1 : i < n
    · rw [if_pos h1] at h
      have e : i.toNat = j := Option.some.inj h
      exact ⟨by rw [seqIndex_of h0 h1, e], by omega, by omega, h1⟩
    · rw [if_neg h1] at h; cases h
  · rw [if_neg h0] at h
    by_cases h1 : -(n : Int) ≤ i
    · rw [if_pos h1] at h
      have e : (i + n).toNat = j := Option.some.inj h
      exact ⟨by rw [seqIndex_neg (by omega) h1, e], by omega, h1, by omega⟩
    · rw [if_neg h1] at h; cases h
theorem atI_get {α : Type} {xs : List α} {i : Int} {v : α} (h : atI xs i = some v) : ∃ j, seqIndex? i xs.length = some j ∧ xs[j]? = some v ∧ j < xs.length ∧ -(xs.length : Int) ≤ i ∧ i < xs.length := by
  unfold atI at h
  cases e : ixN xs.length i with
  | none => rw [e] at h; cases h
  | some j =>
    rw [e] at h
    obtain ⟨h1, h2, h3, h4⟩ := ixN_seq e
    exact ⟨j, h1, h, h2, h3, h4⟩
theorem atI_nat {α : Type} {xs : List α} {j : Nat} {v : α} (h : xs[j]? = some v) : atI xs (j : Int) = some v := by
  have hj : j < xs.length := (List.getElem?_eq_some_iff.mp h).1
  have e : ixN xs.length (j : Int) = some j := by
    unfold ixN
    rw [if_pos (by omega), if_pos (by omega)]; simp
  unfold atI; rw [e]; exact h
def PlainIx (b : Expr) : Prop := ∀ o i, subscripted b false o i = operate [o, i] (getItem o i)
def IxR (X : Cx) (r : R2) : Prop :=
  ∀ (value slice : Expr) (pins : List (Addr × Obj)) (s : Shared) (σ : St) (H : Hp) (x y : V) (v u : Value) (Q : VK), Inv X pins σ H s → RelV x v → RelV y u → r x y H Q →
    subscripted slice false v u = operate [v, u] (getItem v u) → wpAny (model X.prog X.w) X.A (subscriptTail value slice v u) (EP X pins σ Q) X.xe s
def MtR (X : Cx) (id : String) (r : V → List V → Hp → VK → Prop) : Prop :=
  ∀ (pins : List (Addr × Obj)) (s : Shared) (σ : St) (H : Hp) (x : V) (xs : List V) (v : Value) (us : List Value) (Q : VK), Inv X pins σ H s → RelV x v → Vals xs us → r x xs H Q →
    wpAny (model X.prog X.w) X.A (call (.builtin id) (v :: us)) (EP X pins σ Q) X.xe s
section
variable {X : Cx} {a b : Expr} {ta tb : TE} {pos : Pos}
theorem pe_ix {r : R2} (hr : IxR X r) (ha : PE X a ta) (hb : PE X b tb) (hs : PlainIx b) : PE X (.Subscript a b pos) (tOp r ta tb) := by
  intro pins s σ H Q I h
  exact Subscript_ (binT ha hb I h fun v u s2 x y H2 I2 rx ry q => hr a b pins s2 σ H2 x y v u Q I2 rx ry q (hs _ _))
def rIxL (K : PySem.W.Frag) : R2 := fun x y H Q => ∃ p xs i v, x = .ref p ∧ y = .int i ∧ SqL K H p xs ∧ atI xs i = some v ∧ Q v H
def rIxT (K : PySem.W.Frag) : R2 := fun x y H Q => ∃ p xs i v, x = .ref p ∧ y = .int i ∧ SqT K H p xs ∧ atI xs i = some v ∧ Q v H
def rIxS : R2 := fun x y H Q => ∃ z i c, x = .str z ∧ y = .int i ∧ z.length ≤ sizeLine ∧ atI z.cps.toList i = some c ∧ Q (.str ⟨#[c]⟩) H
theorem ix_list : IxR X (rIxL X.K) := by
  intro value slice pins s σ H x y v u Q I rx ry h hs
  obtain ⟨p, xs, i, z, rfl, rfl, hq, he, q⟩ := h
  cases rx
  obtain ⟨t, rfl⟩ := ry
  obtain ⟨its, r, pl, hz⟩ := I.list hq
  obtain ⟨j, h1, h2, h3, h4, h5⟩ := atI_get he
  obtain ⟨w, ew, rw'⟩ := r.get h2
  have hl := r.length
  have hn := line63
  have fin : EP X pins σ Q w s := ⟨z, H, I, rw', q⟩
  by_cases h0 : 0 ≤ i
  · have hj : i.toNat = j := by
      rw [seqIndex_of h0 h5] at h1
      exact Option.some.inj h1
    exact item_listR pl.isList h0 (by omega) (by rw [hj]; simpa using ew) fin hs
  · have hj : (i + (its.toArray.size : Int)).toNat = j := by
      rw [seqIndex_neg (by omega) h4] at h1
      rw [List.size_toArray, ← hl]
      exact Option.some.inj h1
    exact subscriptTail_builtinR (x := w) pl.isList.typeIs slot_list_getitem.lookup
      (wpAny_getItem_list_neg (Q := fun r s' => r = w ∧ EP X pins σ Q r s') pl.isList (by omega) (by rw [List.size_toArray] <;> omega) (by omega) (by rw [hj]; simpa using ew) ⟨rfl, fin⟩) hs
theorem ix_tup : IxR X (rIxT X.K) := by
  intro value slice pins s σ H x y v u Q I rx ry h hs
  obtain ⟨p, xs, i, z, rfl, rfl, hq, he, q⟩ := h
  cases rx
  obtain ⟨t, rfl⟩ := ry
  obtain ⟨its, r, pl, hz⟩ := I.tuple hq
  obtain ⟨j, h1, h2, h3, h4, h5⟩ := atI_get he
  obtain ⟨w, ew, rw'⟩ := r.get h2
  have hl := r.length
  have hn := line63
  have fin : EP X pins σ Q w s := ⟨z, H, I, rw', q⟩
  exact subscriptTail_builtinR (x := w) pl.typeIs slot_tuple_getitem.lookup
    (getItem_tuple (j := j) (Q := fun r s' => r = w ∧ EP X pins σ Q r s') pl (by omega) (by omega) (by rw [List.size_toArray, ← hl]; exact h1) (by simpa using ew) ⟨rfl, fin⟩) hs
theorem ix_str : IxR X rIxS := by
  intro value slice pins s σ H x y v u Q I rx ry h hs
  obtain ⟨z, i, c, rfl, rfl, hz, he, q⟩ := h
  obtain ⟨t, rfl⟩ := rx
  obtain ⟨t', rfl⟩ := ry
  obtain ⟨j, h1, h2, h3, h4, h5⟩ := atI_get he
  have hl : z.cps.toList.length = z.length := by simp [Str.length]
  rw [hl] at h1 h4 h5
  have hn := line63
  exact tail_any (typeIs_str s z t) slot_str_getitem.lookup (getItem_str (c := c) (by
    have e1 : decide (i < -(2 ^ 63 : Int)) = false := decide_eq_false (by omega)
    have e2 : decide (i ≥ 2 ^ 63) = false := decide_eq_false (by omega)
    rw [e1, e2, Bool.or_false]) (by rw [h1]; simpa using h2) ⟨.str ⟨#[c]⟩, H, I.tok _, ⟨_, rfl⟩, q⟩) hs
def rIx (K : PySem.W.Frag) : R2 := fun x y H Q => rIxL K x y H Q ∨ rIxT K x y H Q ∨ rIxS x y H Q
def rSetL : V → V → V → Hp → (Hp → Prop) → Prop := fun o i v H Q => ∃ p xs k j, o = .ref p ∧ i = .int k ∧ H p = some (.lst xs) ∧ ixN xs.length k = some j ∧ Q (upd H p (.lst (xs.set j v)))
theorem slice_bounds (lo hi : Option Int) (n : Nat) : (sliceBounds lo hi none n).1 = ((HT.sIx n 0 lo : Nat) : Int) ∧ (sliceBounds lo hi none n).2.1 = ((HT.sIx n n hi : Nat) : Int) ∧ (sliceBounds lo hi none n).2.2 = 1 := by
  refine ⟨?_, ?_, rfl⟩
  · cases lo with
    | none => simp [sliceBounds, HT.sIx]
    | some i =>
      simp only [sliceBounds, HT.sIx, Option.getD_none, show (1 : Int) > 0 by decide, if_true]
      by_cases h : i < 0
      · simp only [h, if_true] <;> omega
      · simp only [h, if_false] <;> omega
  · cases hi with
    | none => simp [sliceBounds, HT.sIx]
    | some i =>
      simp only [sliceBounds, HT.sIx, Option.getD_none, show (1 : Int) > 0 by decide, if_true]
      by_cases h : i < 0
      · simp only [h, if_true] <;> omega
      · simp only [h, if_false] <;> omega
theorem slicePick_cut (its : List Value) (lo hi : Option Int) : slicePick its.toArray lo hi none = ((its.drop (HT.sIx its.length 0 lo)).take (HT.sIx its.length its.length hi - HT.sIx its.length 0 lo)).toArray := by
  obtain ⟨h1, h2, h3⟩ := slice_bounds lo hi its.toArray.size
  unfold slicePick
  rw [h1, h2, h3]
  simp only [sliceRange_one, pick_run, List.size_toArray] <;> rfl
def rSlL (K : PySem.W.Frag) : V → Option Int → Option Int → Hp → VK → Prop := fun x lo hi H Q => ∃ a xs, x = .ref a ∧ SqL K H a xs ∧ ∀ p, H p = none → Q (.ref p) (upd H p (.lst (cutV xs lo hi)))
theorem sl_list : SlR X (rSlL X.K) := by
  intro pins s σ H x v vl vu lo hi sl Q I rx hs pl pu h
  obtain ⟨a, xs, rfl, hx, q⟩ := h
  cases rx
  obtain ⟨its, r, ht, hz⟩ := I.list hx
  have hlen := r.length
  refine ⟨"list", _, slot_list_getitem.lookup, ht.isList.typeIs, ?_⟩
  refine wpAny_getItem_list_slice ht.isList hs pl pu .none (by simp) ?_ (by rw [List.size_toArray] <;> omega)
  rw [slicePick_cut, ← hlen]
  refine ⟨.ref s.heap.objs.size, _, I.laid (t' := s.toks) (o := .lst (cutV xs lo hi)) (fun b ob q => Heap.get?_push_of_some _ q) (Nat.le_refl _) ?_, rfl, q _ (I.hok.fresh (Nat.le_refl _))⟩
  exact ⟨Nat.le_trans (cutV_length xs lo hi) hz, _, 0, (r.drop (HT.sIx xs.length 0 lo)).take (HT.sIx xs.length xs.length hi - HT.sIx xs.length 0 lo), Heap.get?_push_size _ rfl⟩
def flatV : V → Bool
  | .non => true
  | .bl _ => true
  | .int _ => true
  | .str _ => true
  | _ => false
def eqV : V → V → Bool
  | .non, .non => true
  | .bl a, .bl b => a == b
  | .bl a, .int b => (if a then 1 else 0) == b
  | .int a, .bl b => a == (if b then 1 else 0)
  | .int a, .int b => a == b
  | .str a, .str b => a == b
  | _, _ => false
theorem eqAt_V {A : Around} {s : Shared} {y x : V} {u v : Value} (ry : RelV y u) (rx : RelV x v) (fy : flatV y = true) (fx : flatV x = true) : SeqAt.EqAt A s u v (eqV y x) := by
  cases y with
  | non =>
    cases ry
    cases x with
    | non => cases rx; exact SeqAt.EqAt.same _
    | bl b => cases rx; exact SeqAt.EqAt.none_bool b
    | int b => obtain ⟨t, rfl⟩ := rx; exact SeqAt.EqAt.none_int b t
    | str b => obtain ⟨t, rfl⟩ := rx; exact SeqAt.EqAt.none_str b t
    | _ => exact absurd (show false = true from fx) Bool.false_ne_true
  | bl a =>
    cases ry
    cases x with
    | non => cases rx; exact SeqAt.EqAt.bool_none a
    | bl b => cases rx; exact SeqAt.EqAt.bool_bool a b
    | int b => obtain ⟨t, rfl⟩ := rx; exact SeqAt.EqAt.bool_int a b t
    | str b => obtain ⟨t, rfl⟩ := rx; exact SeqAt.EqAt.bool_str a b t
    | _ => exact absurd (show false = true from fx) Bool.false_ne_true
  | int a =>
    obtain ⟨t', rfl⟩ := ry
    cases x with
    | non => cases rx; exact SeqAt.EqAt.int_none a t'
    | bl b => cases rx; exact SeqAt.EqAt.int_bool a t' b
    | int b => obtain ⟨t, rfl⟩ := rx; exact SeqAt.EqAt.int_int a t' b t
    | str b => obtain ⟨t, rfl⟩ := rx; exact SeqAt.EqAt.int_str a t' b t
    | _ => exact absurd (show false = true from fx) Bool.false_ne_true
  | str a =>
    obtain ⟨t', rfl⟩ := ry
    cases x with
    | non => cases rx; exact SeqAt.EqAt.str_none a t'
    | bl b => cases rx; exact SeqAt.EqAt.str_bool a t' b
    | int b => obtain ⟨t, rfl⟩ := rx; exact SeqAt.EqAt.str_int a t' b t
    | str b => obtain ⟨t, rfl⟩ := rx; exact SeqAt.EqAt.str_str a t' b t
    | _ => exact absurd (show false = true from fx) Bool.false_ne_true
  | _ => exact absurd (show false = true from fy) Bool.false_ne_true
def eqU (x : V) (u : Value) : Bool := match u with
  | .none => eqV .non x
  | .bool b => eqV (.bl b) x
  | .int i _ => eqV (.int i) x
  | .str z _ => eqV (.str z) x
  | _ => false
theorem eqU_of {x y : V} {u : Value} (r : RelV y u) (f : flatV y = true) : eqU x u = eqV y x := by
  cases y with
  | non => cases r; rfl
  | bl b => cases r; rfl
  | int i => obtain ⟨t, rfl⟩ := r; rfl
  | str z => obtain ⟨t, rfl⟩ := r; rfl
  | _ => exact absurd (show false = true from f) Bool.false_ne_true
theorem any_eqU {x : V} : ∀ {xs : List V} {us : List Value}, Vals xs us → xs.all flatV = true → us.any (eqU x) = xs.any fun y => eqV y x
  | _, _, .nil, _ => rfl
  | y :: xs, u :: us, .cons r t, f => by
    rw [List.all_cons, Bool.and_eq_true] at f
    rw [List.any_cons, List.any_cons, eqU_of r f.1, any_eqU t f.2]
theorem mem_eqAt {A : Around} {s : Shared} {x : V} {v : Value} (rx : RelV x v) (fx : flatV x = true) : ∀ {xs : List V} {us : List Value}, Vals xs us → xs.all flatV = true → ∀ u ∈ us, SeqAt.EqAt A s u v (eqU x u)
  | _, _, .nil, _ => fun u hu => by cases hu
  | y :: xs, u :: us, .cons r t, f => fun u' hu => by
    rw [List.all_cons, Bool.and_eq_true] at f
    rcases List.mem_cons.mp hu with rfl | hu
    · rw [eqU_of r f.1]; exact eqAt_V r rx f.1 fx
    · exact mem_eqAt rx fx t f.2 u' hu
def inV (x : V) (xs : List V) : Bool := xs.any fun y => eqV y x
def rIn (K : PySem.W.Frag) (neg : Bool) : R2 := fun x y H Q => ∃ p xs, y = .ref p ∧ (SqL K H p xs ∨ SqT K H p xs) ∧ flatV x = true ∧ xs.all flatV = true ∧ Q (.bl (if neg then !inV x xs else inV x xs)) H
theorem op_in_seq : OpR X (compareOp .In) (rIn X.K false) := by
  intro pins s σ H x y v u Q I rx ry h
  obtain ⟨p, xs, rfl, hq, fx, fs, q⟩ := h
  cases ry
  rcases hq with hq | hq
  · obtain ⟨its, r, pl, hz⟩ := I.list hq
    refine SeqAt.in_listAt (eqU x) pl.isList (fun w hw => mem_eqAt rx fx r fs w (by simpa using hw)) ⟨.bl _, H, I, rfl, ?_⟩
    rw [show its.toArray.any (eqU x) = its.any (eqU x) by simp, any_eqU r fs]
    exact q
  · obtain ⟨its, r, pl, hz⟩ := I.tuple hq
    refine SeqAt.in_tupleAt (eqU x) pl (fun w hw => mem_eqAt rx fx r fs w (by simpa using hw)) ⟨.bl _, H, I, rfl, ?_⟩
    rw [show its.toArray.any (eqU x) = its.any (eqU x) by simp, any_eqU r fs]
    exact q
theorem op_notIn_seq : OpR X (compareOp .NotIn) (rIn X.K true) := by
  intro pins s σ H x y v u Q I rx ry h
  obtain ⟨p, xs, rfl, hq, fx, fs, q⟩ := h
  cases ry
  rcases hq with hq | hq
  · obtain ⟨its, r, pl, hz⟩ := I.list hq
    refine SeqAt.notIn_listAt (eqU x) pl.isList (fun w hw => mem_eqAt rx fx r fs w (by simpa using hw)) ⟨.bl _, H, I, rfl, ?_⟩
    rw [show its.toArray.any (eqU x) = its.any (eqU x) by simp, any_eqU r fs]
    exact q
  · obtain ⟨its, r, pl, hz⟩ := I.tuple hq
    refine SeqAt.notIn_tupleAt (eqU x) pl (fun w hw => mem_eqAt rx fx r fs w (by simpa using hw)) ⟨.bl _, H, I, rfl, ?_⟩
    rw [show its.toArray.any (eqU x) = its.any (eqU x) by simp, any_eqU r fs]
    exact q
theorem call_len_seq : CallR X (.builtin "len") (fun xs H Q => ∃ p ys, xs = [.ref p] ∧ (SqL X.K H p ys ∨ SqT X.K H p ys) ∧ Q (.int ys.length) H) := by
  intro pins s σ H xs us Q I r h
  obtain ⟨p, ys, rfl, hq, q⟩ := h
  obtain ⟨u, rfl, rx⟩ := vals1 r
  cases rx
  have hn := line63
  rcases hq with hq | hq
  · obtain ⟨its, r', pl, hz⟩ := I.list hq
    have hlen := r'.length
    exact Calls.call_len_list pl.isList (by simp only [List.size_toArray] <;> omega) ⟨.int ys.length, H, I.tok _, ⟨s.toks + 1, by rw [List.size_toArray, hlen]⟩, q⟩
  · obtain ⟨its, r', pl, hz⟩ := I.tuple hq
    have hlen := r'.length
    exact len_tuple pl (by simp only [List.size_toArray] <;> omega) ⟨.int ys.length, H, I.tok _, ⟨s.toks + 1, by rw [List.size_toArray, hlen]⟩, q⟩
theorem call_len_str : CallR X (.builtin "len") (fun xs H Q => ∃ z, xs = [.str z] ∧ z.length ≤ sizeLine ∧ Q (.int z.length) H) := by
  intro pins s σ H xs us Q I r h
  obtain ⟨z, rfl, hz, q⟩ := h
  obtain ⟨u, rfl, t, rfl⟩ := vals1 r
  have hn := line63
  exact len_str (by omega) ⟨.int z.length, H, I.tok _, ⟨_, rfl⟩, q⟩
theorem call_list_of : CallR X (.type "list") (fun xs H Q => ∃ p ys, xs = [.ref p] ∧ (SqL X.K H p ys ∨ SqT X.K H p ys) ∧ ∀ l, H l = none → Q (.ref l) (upd H l (.lst ys))) := by
  intro pins s σ H xs us Q I r h
  obtain ⟨p, ys, rfl, hq, q⟩ := h
  obtain ⟨u, rfl, rx⟩ := vals1 r
  cases rx
  have fin : ∀ (its : List Value), Vals ys its → ys.length ≤ sizeLine → ∀ (h' : Heap) (c' : Nat), (∀ b o', s.heap.get? b = some o' → h'.get? b = some o') →
      h'.get? s.heap.objs.size = some { cls := .type "list", dict := none, data := .seq its.toArray c', slots := #[] } → EP X pins σ Q (.ref s.heap.objs.size) { s with heap := h' } := fun its r' hz h' c' kp e =>
    ⟨.ref s.heap.objs.size, _, I.laid (t' := s.toks) kp (Nat.le_refl _) (show ObjOk X.prog X.w _ h' _ (.lst ys) from ⟨hz, its, c', r', e⟩), rfl, q _ (I.hok.fresh (Nat.le_refl _))⟩
  rcases hq with hq | hq
  · obtain ⟨its, r', pl, hz⟩ := I.list hq
    have hlen := r'.length
    obtain ⟨o, ho, hc, n, hd⟩ := pl.isList
    exact call_list_seq p (.inl rfl) ho hc hd (fun h' c' kp e => fin its r' hz h' c' kp e) (by simp only [List.size_toArray] <;> omega)
  · obtain ⟨its, r', pl, hz⟩ := I.tuple hq
    have hlen := r'.length
    obtain ⟨o, ho, hc, n, hd⟩ := pl
    exact call_list_seq p (.inr rfl) ho hc hd (fun h' c' kp e => fin its r' hz h' c' kp e) (by simp only [List.size_toArray] <;> omega)
def tyV (K : PySem.W.Frag) (T : String) (x : V) (H : Hp) : Prop := match x with
  | .str _ => T = "str"
  | .int _ => T = "int"
  | .ref p => (T = "list" ∧ ∃ xs, SqL K H p xs) ∨ (T = "tuple" ∧ ∃ o, K.lookup p = some o ∧ o.cls = .type "tuple" ∧ o.dict = none) ∨
      (T = "dict" ∧ ((∃ kvs, H p = some (.dK kvs)) ∨ ∃ kvs, H p = some (.dT kvs))) ∨ (T = "set" ∧ ∃ S n, H p = some (.set S n))
  | _ => False
theorem tyV_is {pins : List (Addr × Obj)} {σ : St} {H : Hp} {s : Shared} {T : String} {x : V} {v : Value} (I : Inv X pins σ H s) (r : RelV x v) (ty : tyV X.K T x H) :
    s.TypeIs v T ∧ ∀ a, v = .ref a → ∃ ob, s.heap.get? a = some ob ∧ ob.dict = none := by
  cases x with
  | str z =>
    obtain ⟨t, rfl⟩ := r
    cases (show T = "str" from ty)
    exact ⟨typeIs_str s z t, fun _ e => nomatch e⟩
  | int i =>
    obtain ⟨t, rfl⟩ := r
    cases (show T = "int" from ty)
    exact ⟨typeIs_int s i t, fun _ e => nomatch e⟩
  | ref p =>
    cases r
    rcases ty with ⟨rfl, xs, hq⟩ | ⟨rfl, o, hk, hc, hd⟩ | ⟨rfl, hk⟩ | ⟨rfl, S, n, hk⟩
    · obtain ⟨its, _, pl, _⟩ := I.list hq
      refine ⟨pl.isList.typeIs, fun a e => ?_⟩
      cases e
      obtain ⟨o, n, e, c, hd, _⟩ := pl
      exact ⟨o, e, hd⟩
    · refine ⟨⟨o, I.kIn p o hk, hc⟩, fun a e => ?_⟩
      cases e
      exact ⟨o, I.kIn _ o hk, hd⟩
    · have z : ∃ o, s.heap.get? p = some o ∧ o.ExactDict := by
        rcases hk with ⟨kvs, hk⟩ | ⟨kvs, hk⟩
        · obtain ⟨_, _, _, _, o, _, _, e, ex, _⟩ := I.hok p _ hk
          exact ⟨o, e, ex⟩
        · obtain ⟨_, _, _, _, o, _, _, e, ex, _⟩ := I.hok p _ hk
          exact ⟨o, e, ex⟩
      obtain ⟨o, e, ex⟩ := z
      refine ⟨⟨o, e, ex.1⟩, fun a e2 => ?_⟩
      cases e2
      exact ⟨o, e, ex.2.1⟩
    · obtain ⟨o, _, _, _, e, ex, _⟩ := I.hok p _ hk
      refine ⟨⟨o, e, ex.1⟩, fun a e2 => ?_⟩
      cases e2
      exact ⟨o, e, ex.2.1⟩
  | _ => exact False.elim ty
def tBM0 (K : PySem.W.Frag) (T : String) (r : V → List V → Hp → VK → Prop) (to : TE) : TE := fun σ H Q => to σ H fun x H1 => tyV K T x H1 ∧ r x [] H1 Q
def tBM (K : PySem.W.Frag) (T : String) (r : V → List V → Hp → VK → Prop) (to : TE) (t : TA) : TE := fun σ H Q => to σ H fun x H1 => tyV K T x H1 ∧ t σ H1 fun xs H2 => r x xs H2 Q
variable {o e : Expr} {es : List Expr} {to : TE} {t : TA} {name : Str} {apos cpos : Pos} {T id : String} {r : V → List V → Hp → VK → Prop}
theorem pe_bm0 (pa : PlainAttrs T) (slot : Slot T name id) (hty : typeOf (.builtin id) = pure (.type "method_descriptor")) (hm : MtR X id r) (ho : PE X o to)
    (hbase : attributeBase o name X.env (eval o X.env) = eval o X.env := by rfl) (hline : (apos.endLine == cpos.line) = true := by rfl) : PE X (.Call (.Attribute o name apos) [] [] cpos) (tBM0 X.K T r to) := by
  intro pins s σ H Q I h
  refine wpAny_Call_method0_late hbase hline (thn (ho pins s σ H _ I h) fun v s1 ⟨x, H1, I1, r1, ty, q1⟩ => ?_)
  obtain ⟨h1, h2⟩ := tyV_is I1 r1 ty
  exact ⟨T, id, pa, slot, hty, h1, h2, Calls.callWith_builtin rfl (PySem.evalArgs_none (hm pins s1 σ H1 x [] v [] Q I1 r1 .nil q1))⟩
theorem pe_bm (pa : PlainAttrs T) (slot : Slot T name id) (hty : typeOf (.builtin id) = pure (.type "method_descriptor")) (hm : MtR X id r) (ho : PE X o to) (ha : PA X (e :: es) t)
    (hbase : attributeBase o name X.env (eval o X.env) = eval o X.env := by rfl)
    (hfew : ((backTo cpos (starEach (e :: es) X.env)).all (fun x => !x.1) && (backToKw cpos (keywordEach [] X.env)).all (fun x => x.1.isSome)
      && decide ((e :: es).length + ([] : List Keyword).length + (if ([] : List Keyword).isEmpty then 0 else 1) < 30)) = true := by rfl)
    (hline : (apos.endLine == cpos.line) = true := by rfl) (hs : starEach (e :: es) X.env = (false, eval e X.env) :: starEach es X.env := by rfl) (hplain : (backTo cpos (starEach es X.env)).any (·.1) = false := by rfl) :
    PE X (.Call (.Attribute o name apos) (e :: es) [] cpos) (tBM X.K T r to t) := by
  intro pins s σ H Q I h
  refine wpAny_Call_method_late hbase hfew hline rfl (thn (ho pins s σ H _ I h) fun v s1 ⟨x, H1, I1, r1, ty, q1⟩ => ?_)
  obtain ⟨h1, h2⟩ := tyV_is I1 r1 ty
  refine ⟨T, id, pa, slot, hty, h1, h2, ?_⟩
  have hA := ha cpos pins s1 σ H1 _ I1 q1
  rw [hs] at hA ⊢
  refine Calls.callWith_builtin (by show (false || (backTo cpos (starEach es X.env)).any (·.1)) = false; rw [hplain] <;> rfl) (Calls.evalArgs_plain ?_)
  exact thn hA fun us s2 ⟨vs, H2, I2, r2, q2⟩ => hm pins s2 σ H2 x vs v us Q I2 r1 r2 q2
/- xs.append(e), list.index on a module's tuple .. are MtR facts of 06m -/
end
end L2
namespace L2
open PySem PySem.Spec PyProof.Rows
def MtM (X : Cx) (id : String) (r : V → List V → Hp → VK → Prop) : Prop :=
  ∀ (pins : List (Addr × Obj)) (s : Shared) (σ : St) (H : Hp) (x : V) (xs : List V) (v : Value) (us : List Value) (Q : VK), Inv X pins σ H s → RelV x v → Vals xs us → r x xs H Q →
    wpAny (model X.prog X.w) X.A (call (.builtin id) (v :: us)) (EP X pins σ Q) X.xe s
theorem Vals.one : ∀ {x : V} {us : List Value}, Vals [x] us → ∃ u, us = [u] ∧ RelV x u
  | _, _, .cons r .nil => ⟨_, rfl, r⟩
theorem Vals.zero : ∀ {us : List Value}, Vals [] us → us = []
  | _, .nil => rfl
theorem Vals.dropLast {xs : List V} {us : List Value} (h : Vals xs us) : Vals xs.dropLast us.dropLast := by
  induction h with
  | nil => exact .nil
  | cons r t ih =>
    cases t with
    | nil => exact .nil
    | cons q t' => exact .cons r ih
theorem erase_last {α : Type} (l : List α) : l.eraseIdx (l.length - 1) = l.dropLast := by
  induction l with
  | nil => rfl
  | cons a r ih =>
    cases r with
    | nil => rfl
    | cons b r =>
      have e : (a :: b :: r).length - 1 = ((b :: r).length - 1) + 1 := by
        have h1 : (a :: b :: r).length = r.length + 2 := rfl
        have h2 : (b :: r).length = r.length + 1 := rfl
        omega
      rw [e, List.eraseIdx_cons_succ, ih]
      all_goals rfl
section
variable {X : Cx} {pins : List (Addr × Obj)} {σ : St} {H : Hp} {s : Shared} {l b : Addr} {xs ys zs : List V}
theorem Inv.lset {its its' : List Value} {n : Nat} {f : Array Value → Array Value} {t' : Nat} (I : Inv X pins σ H s) (hH : H l = some (.lst xs))
    (e : s.heap.get? l = some { cls := .type "list", data := .seq its.toArray n }) (hf : f its.toArray = its'.toArray) (hv : Vals ys its') (hz : ys.length ≤ sizeLine) :
    Inv X pins σ (upd H l (.lst ys)) { s with heap := s.heap.update l (Obj.mapSeq f), toks := t' } := by
  have q := PySem.IsL.update e f
  rw [hf] at q
  refine I.write (x := l) (e := l) (by rw [hH]; exact trivial) (.inl rfl) (fun b' u hb hu => (Heap.get?_update_other s.heap (Obj.mapSeq f) (Ne.symm hb)).trans hu) ⟨_, q⟩ ?_
  exact ⟨hz, its', _, hv, q⟩
theorem Inv.lnew {its : List Value} {t' : Nat} (I : Inv X pins σ H s) (hv : Vals ys its) (hz : ys.length ≤ sizeLine) :
    Inv X pins σ (upd H s.heap.objs.size (.lst ys)) { s with heap := s.heap.push { cls := .type "list", data := .seq its.toArray }, toks := t' } :=
  I.laid (fun _ _ q => Heap.get?_push_of_some _ q) (Nat.le_refl _) ⟨hz, its, 0, hv, Heap.get?_push_size _ rfl⟩
theorem Inv.fresh (I : Inv X pins σ H s) : H s.heap.objs.size = none := I.hok.fresh (Nat.le_refl _)
theorem Inv.lstM (I : Inv X pins σ H s) (hH : H l = some (.lst xs)) : xs.length ≤ sizeLine ∧ ∃ (its : List Value) (n : Nat), Vals xs its ∧ xs.length = its.length ∧ s.heap.get? l = some { cls := .type "list", data := .seq its.toArray n } := by
  obtain ⟨z, its, n, r, e⟩ := I.hok l _ hH
  exact ⟨z, its, n, r, r.length, e⟩
theorem notLongL {n : Nat} (h : n ≤ sizeLine) : Builtin.List.listTooLong n = false := by
  unfold Builtin.List.listTooLong
  exact decide_eq_false (by omega)
end
section
variable {X : Cx}
def rAppend : V → List V → Hp → VK → Prop := fun x vs H Q => ∃ l xs y, x = .ref l ∧ vs = [y] ∧ H l = some (.lst xs) ∧ xs.length < sizeLine ∧ Q .non (upd H l (.lst (xs ++ [y])))
theorem mt_append : MtM X "list.append" rAppend := by
  intro pins s σ H x vs v us Q I rx rv h
  obtain ⟨l, xs, y, rfl, rfl, hH, hz, q⟩ := h
  cases rx
  obtain ⟨u, rfl, ru⟩ := rv.one
  obtain ⟨z, its, n, r, hl, e⟩ := I.lstM hH
  refine call_meets F.slot_list_append ⟨_, e, rfl⟩ F.entry_list_append (F.args_list_append_2 _ _) (PySem.list_append l its.toArray n u (by rw [List.size_toArray]; omega)) ⟨e, ?_⟩
  refine ⟨.non, _, I.lset (its' := its ++ [u]) hH e (by simp) (r.append (.cons ru .nil)) ?_, rfl, q⟩
  rw [List.length_append, List.length_singleton]
  omega
def rExtend : V → List V → Hp → VK → Prop := fun x vs H Q => ∃ l b xs zs, x = .ref l ∧ vs = [.ref b] ∧ H l = some (.lst xs) ∧ H b = some (.lst zs) ∧ xs.length + zs.length ≤ sizeLine ∧ Q .non (upd H l (.lst (xs ++ zs)))
theorem mt_extend : MtM X "list.extend" rExtend := by
  intro pins s σ H x vs v us Q I rx rv h
  obtain ⟨l, b, xs, zs, rfl, rfl, hH, hB, hz, q⟩ := h
  cases rx
  obtain ⟨u, rfl, ru⟩ := rv.one
  cases ru
  obtain ⟨z, its, n, r, hl, e⟩ := I.lstM hH
  obtain ⟨z2, its2, n2, r2, hl2, e2⟩ := I.lstM hB
  have hsz : its.toArray.size + its2.toArray.size ≤ sizeLine := by rw [List.size_toArray, List.size_toArray]; omega
  have hlong : ¬ (!its.toArray.isEmpty && Builtin.List.listTooLong (its.toArray.size + its2.toArray.size)) = true := by
    rw [notLongL hsz, Bool.and_false]
    exact Bool.false_ne_true
  refine call_meets F.slot_list_extend ⟨_, e, rfl⟩ F.entry_list_extend (F.args_list_extend_2 _ _)
    (AutoSeq1.list_extend_list_list_0 l its.toArray n b its2.toArray n2 hlong (by rw [List.size_toArray]; omega) (by omega)) ⟨e, e2, ?_⟩
  refine ⟨.non, _, I.lset (its' := its ++ its2) hH e (by simp) (r.append r2) ?_, rfl, q⟩
  rw [List.length_append]
  omega
def rPop : V → List V → Hp → VK → Prop := fun x vs H Q => ∃ l xs y, x = .ref l ∧ vs = [] ∧ H l = some (.lst xs) ∧ xs[xs.length - 1]? = some y ∧ Q y (upd H l (.lst xs.dropLast))
theorem mt_pop : MtM X "list.pop" rPop := by
  intro pins s σ H x vs v us Q I rx rv h
  obtain ⟨l, xs, y, rfl, rfl, hH, hy, q⟩ := h
  cases rx
  have hus := rv.zero
  subst hus
  obtain ⟨z, its, n, r, hl, e⟩ := I.lstM hH
  obtain ⟨u, hu, ru⟩ := r.get hy
  have hy' : its.toArray[its.toArray.size - 1]? = some u := by
    show its.toArray[its.length - 1]? = some u
    rw [← Array.getElem?_toList, ← hl]
    exact hu
  refine call_meets F.slot_list_pop ⟨_, e, rfl⟩ F.entry_list_pop (F.args_list_pop_1 _) (MeetsSeq.list_pop_last l its.toArray n u hy' (by rw [List.size_toArray]; omega)) ⟨e, ?_⟩
  refine ⟨y, _, I.lset (its' := its.dropLast) hH e ?_ r.dropLast ?_, ru, q⟩
  · show its.toArray.eraseIdxIfInBounds (its.toArray.size - 1) = its.dropLast.toArray
    rw [List.size_toArray, List.eraseIdxIfInBounds_toArray, erase_last]
  · rw [List.length_dropLast]
    omega
def rPopAt : V → List V → Hp → VK → Prop := fun x vs H Q => ∃ l xs i k y, x = .ref l ∧ vs = [.int i] ∧ H l = some (.lst xs) ∧ -(2 ^ 63) ≤ i ∧ i < 2 ^ 63 ∧ seqIndex? i xs.length = some k ∧ xs[k]? = some y ∧ Q y (upd H l (.lst (xs.eraseIdx k)))
def rReverse : V → List V → Hp → VK → Prop := fun x vs H Q => ∃ l xs, x = .ref l ∧ vs = [] ∧ H l = some (.lst xs) ∧ Q .non (upd H l (.lst xs.reverse))
def rClear : V → List V → Hp → VK → Prop := fun x vs H Q => ∃ l xs, x = .ref l ∧ vs = [] ∧ H l = some (.lst xs) ∧ Q .non (upd H l (.lst []))
def rCat : R2 := fun x y H Q => ∃ l b xs zs, x = .ref l ∧ y = .ref b ∧ H l = some (.lst xs) ∧ H b = some (.lst zs) ∧ xs.length + zs.length ≤ sizeLine ∧ ∀ p, H p = none → Q (.ref p) (upd H p (.lst (xs ++ zs)))
theorem op_cat : OpR X (binaryOp .Add) rCat := by
  intro pins s σ H x y v u Q I rx ry h
  obtain ⟨l, b, xs, zs, rfl, rfl, hH, hB, hz, q⟩ := h
  cases rx
  cases ry
  obtain ⟨z, its, n, r, hl, e⟩ := I.lstM hH
  obtain ⟨z2, its2, n2, r2, hl2, e2⟩ := I.lstM hB
  refine PySem.P.add_list e e2 ?_ (by rw [List.size_toArray, List.size_toArray]; omega)
  have ea : its.toArray ++ its2.toArray = (its ++ its2).toArray := by simp
  rw [ea]
  exact ⟨.ref _, _, I.lnew (t' := s.toks) (r.append r2) (by rw [List.length_append]; omega), rfl, q _ I.fresh⟩
def rRep : R2 := fun x y H Q => ∃ l k xs, x = .ref l ∧ y = .int k ∧ H l = some (.lst xs) ∧ -(2 ^ 63) ≤ k ∧ k < 2 ^ 63 ∧ xs.length * k.toNat ≤ sizeLine ∧
  ∀ p, H p = none → Q (.ref p) (upd H p (.lst (List.replicate k.toNat xs).flatten))
end
section
variable {prog : Program} {w : World} {A : Around} {E : Value → Shared → Prop} {s : Shared}
set_option maxRecDepth 100000 in
end
section
variable {X : Cx}
end
end L2
namespace Att
open PySem PySem.W PySem.Calls PyProof.Rows
theorem ints_of_wellAll {P : Params} {h : Heap} : ∀ (ns : List Int) (vs : List Value), WellAll P h vs (ns.map WData.int) → IntsAre vs ns := by
  intro ns
  induction ns with
  | nil =>
    intro vs w
    rw [List.map_nil] at w
    cases w
    exact .nil
  | cons n ns ih =>
    intro vs w
    rw [List.map_cons] at w
    cases w with
    | cons a b =>
      cases a
      exact .cons _ _ (ih _ b)
theorem script_of {l : OpenLaw} {n : Nat} (hn : l.most = some n) {P : Params} {h : Heap} {args : List WData} {vals : List Value}
    (hpre : l.row.toRowW.claim.pre args = true) (hwl : WellAll P h vals args) :
    ∃ a vs ns, vals = [Value.ref a] ∧ args = [WData.list (ns.map WData.int)] ∧ h.get? a = some { cls := .type "list", data := .seq vs.toArray } ∧ IntsAre vs ns ∧ ns.length ≤ n := by
  have hsh : WShape.hasAll [] args [.list .int] = true := (pre_splitW hpre).1
  have hc : l.pre.holds [] { args := args } = true := (pre_splitW hpre).2
  obtain ⟨d, r, rfl, h1, h2⟩ := hasAllW_cons hsh
  obtain rfl := hasAllW_nil h2
  obtain ⟨xs, rfl, h3⟩ := hasW_list h1
  obtain ⟨ns, rfl⟩ := items_int h3
  have hlen : ns.length ≤ n := by
    unfold OpenLaw.pre at hc
    have h4 : (WTm.not (.lt (.lit (.int (n : Int))) (.len (.arg 0)))).holds [] { args := [.list (ns.map .int)] } = true := by
      have h4 := (holds_andW hc).1
      rw [hn] at h4
      exact h4
    have h5 := condW_of h4 (w_not (w_lt w_lit (w_len_list (w_arg rfl))))
    rw [List.length_map] at h5
    refine Nat.le_of_not_lt fun q => ?_
    have q' : (n : Int) < ((ns.length : Nat) : Int) := by omega
    first
      | (rw [decide_eq_true q'] at h5; exact absurd h5 (by decide))
      | (simp at h5; omega)
  cases hwl with
  | cons w1 w2 =>
    cases w2
    cases w1 with
    | list ho hall => exact ⟨_, _, ns, rfl, rfl, ho, ints_of_wellAll ns _ hall, hlen⟩
theorem post_true (l : OpenLaw) (args : List WData) : l.row.toRowW.claim.post args (.bool true) args = true :=
  postW_of (r := l.row.toRowW) (X := (true == true))
    (show WShape.has [] (.bool true) .bool = true by first | rfl | decide | simp [WShape.has, WShape.arms, WShape.armsAll])
    (show (WTm.eq .res (.lit (.bool true))).value [] { args := args, res := some (.bool true), after := args } = some (.bool (true == true)) from w_eq_bool (w_res rfl) w_lit) rfl
theorem attach_call {l : OpenLaw} {n : Nat} {q : Program} {loose : List Str} {XP : (Str → Option Value) → Heap → Prop} {YP : World → Heap → Prop} {d : DefRec}
    (hn : l.most = some n) (hdf : d.params.defaults = [])
    (call : ∀ (w : World) (s₀ s₁ : Shared) (mg mb : Str → Option Value) (fa : Addr) (o : Obj) (pm cd doc : Value) (a : Addr) (vs : List Value) (ns : List Int),
      Ground q loose [] XP w s₀ mg mb s₁.heap → YP w s₁.heap →
      s₁.heap.get? fa = some o → o.data = .func (docDef d.name d.params d.body d.scope pm cd doc) → s₁.heap.CodeRec cd d.name → mg d.name = some (.ref fa) →
      s₁.heap.get? a = some { cls := .type "list", data := .seq vs.toArray } → IntsAre vs ns → ns.length ≤ n → s₁.gens = #[] →
      codeAny (model l.prog w) callerA (.call (.ref fa) ⟨[.ref a], []⟩) (fun r s' => r = .ok (.ret (.bool true)) ∧ OldK s₁.heap s'.heap ∧ s'.os = s₁.os ∧ AllBare s'.gens) s₁) :
    WalkO q loose XP YP l.row.toRowW d [] (fun f vs => PySem.call f vs) := by
  intro w s₀ s₁ mg mb G Y fa o pm cd doc dV kV ho hd hcd hD hmg hg args vals as hpre hlay hrd hwl hlo
  obtain rfl : dV = .none := Dflts.none hD hdf
  obtain rfl : kV = .none := Dflts.noKw hD
  obtain ⟨a, vs, ns, rfl, rfl, hobj, hints, hlen⟩ := script_of hn hpre hwl
  refine enter_call (codeAny_mono (call w s₀ s₁ mg mb fa o pm cd doc a vs ns G Y ho (fd_plain hd) hcd hmg hobj hints hlen hg) fun r s' hq => ?_)
  obtain ⟨rfl, h2, h3, h4⟩ := hq
  exact ⟨.inl ⟨.bool true, .bool true, [], rfl, fun _ => rfl, .bool true, post_true l _, fun _ => ⟨List.Pairwise.nil, fun _ hm => (nomatch hm)⟩⟩, h2, h3, h4⟩
section
variable {prog : Program} {w : World} {A : Around} {E : Value → Shared → Prop} {s : Shared} {K : Frag}
def noObjs (h : Heap) : Heap := { h with objs := #[] }
def ledger (h : Heap) (L d : Addr) : List (Addr × Obj) := (List.range h.objs.size).filterMap fun a => if a = L ∨ a = d then none else (h.get? a).map fun o => (a, o)
end
end Att
namespace L2
open PySem PySem.Spec PyProof.Rows
theorem vals_ints : ∀ {vs : List Value} {ns : List Int}, IntsAre vs ns → Vals (ns.map V.int) vs
  | _, _, .nil => .nil
  | _, _, .cons n t h => .cons ⟨t, rfl⟩ (vals_ints h)
def Only (H : Hp) : Prop := ∀ b, H b = none ∨ ∃ o xs, H b = some (.frz o (.lst xs))
theorem law_call {P : Program} {w : World} {K : PySem.W.Frag} {mg mb : Str → Option Value} {CX : CXT} {k : Nat} {fa a : Addr} {fd : FuncData} {x : Str} {sp : Sp} {s₁ : Shared} {vs : List Value} {ns : List Int}
    (KX : K.In s₁.heap) (hns : s₁.heap.Ns mainGlobals mg) (hb : s₁.heap.Ns builtinsNs mb) (hbb : ∀ x : Str, x ≠ "__name__" → mb x = bootBuiltins x) (hlim : s₁.heap.NoLimit) (hg : s₁.gens = #[])
    (ha : s₁.heap.get? a = some { cls := .type "list", data := .seq vs.toArray }) (hi : IntsAre vs ns) (hl : ns.length ≤ sizeLine) (hr : Room k callerA)
    (F : ∀ base : Heap, K.In base → base.Ns mainGlobals mg → FnOk P w K mg base CX k fa fd [x] sp) (hbind : ∀ (s : Shared) (u : Value), BindsTo s fd ⟨[u], []⟩ [(x, u)])
    (hsp : ∀ H : Hp, Only H → SqL K H a (ns.map V.int) → sp [.ref a] H (fun v _ => v = .bl true) fun _ _ _ => False)
    (hCX : ∀ H e s', CX [] H s₁ (fun _ _ _ => False) e s' → False) :
    codeAny (model P w) callerA (.call (.ref fa) ⟨[.ref a], []⟩) (fun r s' => r = .ok (.ret (.bool true)) ∧ OldK s₁.heap s'.heap ∧ s'.os = s₁.os ∧ AllBare s'.gens) s₁ := by
  have rv := vals_ints hi
  have lenV := hi.length
  have core : ∀ H : Hp, Only H → SqL K H a (ns.map V.int) → HOk P w H s₁.heap → (∀ b, H b ≠ none → b = a) → (H a ≠ none → K.lookup a = none) →
      codeAny (model P w) callerA (.call (.ref fa) ⟨[.ref a], []⟩) (fun r s' => r = .ok (.ret (.bool true)) ∧ OldK s₁.heap s'.heap ∧ s'.os = s₁.os ∧ AllBare s'.gens) s₁ := by
    intro H hO hS hok hA hK
    have base_of : ∀ {b : Addr} {o : Obj}, s₁.heap.get? b = some o → H b = none → (hidT s₁.heap H).get? b = some o := fun e n => hidT_get e n
    have noA : ∀ {b : Addr} {o : Obj} {es : Array DictEntry} {ep : Nat}, s₁.heap.get? b = some o → o.data = .dict es ep → H b = none := fun {b o es ep} e d => by
      cases q : H b with
      | none => rfl
      | some u =>
        have e' : b = a := hA b (by rw [q]; simp)
        subst e'
        rw [ha] at e; cases e
        have d' : Data.seq vs.toArray _ = Data.dict es ep := d
        cases d'
    have nsK : ∀ {b : Addr} {m : Str → Option Value}, s₁.heap.Ns b m → (hidT s₁.heap H).Ns b m := fun {b m} ⟨o, es, ep, e, d, r⟩ => ⟨o, es, ep, base_of e (noA e d), d, r⟩
    have hKb : K.In (hidT s₁.heap H) := fun b o e => base_of (KX b o e) (by
      cases q : H b with
      | none => rfl
      | some u =>
        have e' : b = a := hA b (by rw [q]; simp)
        subst e'
        rw [hK (by rw [q]; simp)] at e; cases e)
    have hM : Mod K mg (hidT s₁.heap H) := ⟨hKb, nsK hns, ⟨mb, nsK hb, hbb⟩, let ⟨mc, h1, h2⟩ := hlim; ⟨mc, nsK h1, h2⟩⟩
    have e0 : Env0 P w K mg (hidT s₁.heap H) callerA [] s₁ H := ⟨rfl, hM, fun b o e => of_hidT e, Nat.le_of_eq (hidT_size _ _), trivial, fun b hb => absurd (show b ∈ ([] : List Addr) from hb) (by simp), hok, .of_eq hg⟩
    refine codeAny_mono ((F _ hKb (nsK hns)).run callerA [] s₁ H ⟨[.ref a], []⟩ [.ref a] [.ref a] _ _ hr e0 (hbind s₁ (.ref a)) (.cons rfl .nil) (hsp H hO hS)) fun r s' h => ?_
    cases r with
    | error e => exact (hCX H e s' h).elim
    | ok fl =>
      cases fl with
      | next => exact False.elim h
      | brk => exact False.elim h
      | cont => exact False.elim h
      | ret u =>
        obtain ⟨v, H', os, bare, un, hok', r', q⟩ := h
        have q' : v = .bl true := q
        subst q'
        obtain rfl : u = Value.bool true := r'
        refine ⟨rfl, OldK.of_keep fun b o e => ?_, os, bare⟩
        cases q : H b with
        | none => exact un.keep b o e q (by intro z; exact absurd (show b ∈ ([] : List Addr) from z) (by simp)) (by simp)
        | some u =>
          rcases hO b with z | ⟨ob, xs, z⟩
          · rw [q] at z; cases z
          · have z2 := un.frzs b ob _ z
            obtain ⟨e1, _⟩ := hok b _ z
            obtain ⟨e2, _⟩ := hok' b _ z2
            rw [e] at e1; cases e1
            exact e2
  cases hk : K.lookup a with
  | some o =>
    have e := KX a o hk
    rw [ha] at e
    cases e
    refine core (fun _ => none) (fun _ => .inl rfl) (.inr ⟨_, vs.toArray, _, hk, rfl, rfl, rfl, by rw [List.size_toArray, lenV]; exact hl, by simpa using rv⟩) (fun b u z => by have z' : (none : Option HO) = some u := z; cases z') (fun b z => absurd rfl z) fun z => absurd rfl z
  | none =>
    refine core (fun b => if b = a then some (.frz { cls := .type "list", data := .seq vs.toArray } (.lst (ns.map V.int))) else none) (fun b => ?_) (.inl (.inr ⟨{ cls := .type "list", data := .seq vs.toArray }, if_pos rfl⟩)) (fun b u z => ?_) (fun b z => ?_) fun _ => hk
    · by_cases hb : b = a
      · exact .inr ⟨_, _, if_pos hb⟩
      · exact .inl (if_neg hb)
    · by_cases hb : b = a
      · have z' := (if_pos hb).symm.trans z
        cases z'
        subst hb
        exact ⟨ha, by rw [List.length_map]; exact hl, vs, _, rv, ha⟩
      · have z' := (if_neg hb).symm.trans z
        cases z'
    · by_cases hb : b = a
      · exact hb
      · exact absurd (if_neg hb) z
end L2
namespace L2
open PySem PySem.Spec PyProof.Rows
abbrev KOf {K : PySem.W.Frag} {h : Heap} (_ : K.In h) : PySem.W.Frag := K
theorem walk_of {l : PySem.W.OpenLaw} {n k : Nat} {q : Program} {loose : List Str} {XP : (Str → Option Value) → Heap → Prop} {YP : World → Heap → Prop} {d : DefRec} {K : Params → PySem.W.Frag} {CX : World → CXT} {sp : World → Sp} {x : Str}
    (hn : l.most = some n) (hn2 : n ≤ sizeLine) (hdf : d.params.defaults = []) (hr : Room k callerA)
    (hY : ∀ (w : World) (h : Heap), YP w h → (K w.params).In h)
    (F : ∀ (w : World) (mg : Str → Option Value) (fa : Addr) (h : Heap), (K w.params).In h → h.Ns mainGlobals mg → mg d.name = some (.ref fa) →
      ∃ fd : FuncData, (∀ (s : Shared) (u : Value), BindsTo s fd ⟨[u], []⟩ [(x, u)]) ∧
        ∀ base : Heap, (K w.params).In base → base.Ns mainGlobals mg → FnOk l.prog w (K w.params) mg base (CX w) k fa fd [x] (sp w))
    (hsp : ∀ (w : World) (H : Hp) (a : Addr) (ns : List Int), ns.length ≤ n → Only H → SqL (K w.params) H a (ns.map V.int) → sp w [.ref a] H (fun v _ => v = .bl true) fun _ _ _ => False)
    (hCX : ∀ (w : World) (H : Hp) (s : Shared) (e : Value) (s' : Shared), CX w [] H s (fun _ _ _ => False) e s' → False) :
    PySem.W.WalkO q loose XP YP l.row.toRowW d [] (fun f vs => PySem.call f vs) := by
  refine Att.attach_call hn hdf fun w s₀ s₁ mg mb fa o pm cd doc a vs ns G Y ho hd hcd hmg hobj hints hlen hg => ?_
  have KX := hY w _ Y
  obtain ⟨fd, hb, hF⟩ := F w mg fa _ KX G.T.g hmg
  exact law_call KX G.T.g G.T.b G.T.builtins G.T.nolimit hg hobj hints (Nat.le_trans hlen hn2) hr hF hb (fun H hO hS => hsp w H a ns hlen hO hS) fun H e s' => hCX w H s₁ e s'
end L2
/- THE LAST THEOREM (shape; LID, My.* are yours):
   My.Adr: a structure of the addresses that your layer names (classes, functions); My.Txt K t: a structure (Prop) of the equations over K;
   My.txt_mk : {K} {implicit addresses ..} (e1 : nsIn K mainGlobals "law" = some (some (.ref f))) (e2 : K.lookup f = some ⟨oc, od, .func (fnOf "law" "law" params body scope dV kV doc pm an cdv ct), sl⟩) (e3 : codeIn K cdv "law" = true) .. : ∃ t, My.Txt K t
set_option maxRecDepth 100000 in
set_option maxHeartbeats 0 in
(the tactic k_is has no namespace: write k_is) -/
namespace L2
open PySem PySem.Spec PyProof.Rows
def inClass (s : Stmt) (j : Nat) : Stmt := match s with
  | .ClassDef _ _ _ body _ _ _ _ _ _ _ => body.getD j (.Pass ⟨0, 0, 0, 0⟩)
  | _ => .Pass ⟨0, 0, 0, 0⟩
def defArgs (s : Stmt) : Arguments := match s with
  | .FunctionDef _ a _ _ _ _ _ _ _ _ => a
  | _ => { posonlyargs := [], args := [], vararg := none, kwonlyargs := [], kw_defaults := [], kwarg := none, defaults := [] }
def defBody (s : Stmt) : List Stmt := match s with
  | .FunctionDef _ _ b _ _ _ _ _ _ _ => b
  | _ => []
def defScope (s : Stmt) : Scope := match s with
  | .FunctionDef _ _ _ _ _ _ sc _ _ _ => sc
  | _ => { kind := .function, names := [], isGenerator := false, isCoroutine := false }
abbrev CX0 : CXT := fun _ _ _ _ _ _ => False
abbrev E0 : XK := fun _ _ _ => False
structure Fun (K : PySem.W.Frag) (x qual : Str) (st : Stmt) (f : Addr) (fd : FuncData) : Prop where
  ex : ∃ (oc : Value) (od : Option Addr) (kV doc pm : Value) (an : Option Addr) (cdv ct : Value) (osl : Array (Option Value)),
    fd = PySem.W.fnOf x qual (defArgs st) (defBody st) (defScope st) .none kV doc pm an cdv ct ∧ K.lookup f = some ⟨oc, od, .func fd, osl⟩ ∧ PySem.W.codeIn K cdv qual = true
  kp : PySem.W.keepIn K (.ref f) = true
section
variable {P : Program} {w : World} {K : PySem.W.Frag} {mg : Str → Option Value} {base : Heap}
theorem Fun.binds {x qual : Str} {st : Stmt} {f : Addr} {fd : FuncData} {ps : List Str} (F : Fun K x qual st f fd)
    (h : ∀ (kV doc pm : Value) (an : Option Addr) (cdv ct : Value) (us : List Value), us.length = ps.length → bindArgs (PySem.W.fnOf x qual (defArgs st) (defBody st) (defScope st) .none kV doc pm an cdv ct) ⟨us, []⟩ = pure (ps.zip us)) : Binds K fd ps [] := by
  obtain ⟨oc, od, kV, doc, pm, an, cdv, ct, osl, rfl, lk, hcd⟩ := F.ex
  exact .all (h kV doc pm an cdv ct)
theorem fun_mk {x qual : Str} {st : Stmt} {f : Addr} {oc : Value} {od an : Option Addr} {osl : Array (Option Value)} {kV doc pm cdv ct : Value} (l : K.lookup f = some ⟨oc, od, .func (PySem.W.fnOf x qual (defArgs st) (defBody st) (defScope st) .none kV doc pm an cdv ct), osl⟩)
    (c : PySem.W.codeIn K cdv qual = true) (k : PySem.W.keepIn K (.ref f) = true) : Fun K x qual st f (PySem.W.fnOf x qual (defArgs st) (defBody st) (defScope st) .none kV doc pm an cdv ct) := ⟨⟨oc, od, kV, doc, pm, an, cdv, ct, osl, rfl, l, c⟩, k⟩
end
section
variable {X : Cx}
end
def Same (H H' : Hp) : Prop := ∀ b o, H b = some o → H' b = some o
theorem Same.refl (H : Hp) : Same H H := fun _ _ h => h
theorem Same.trans {H H1 H2 : Hp} (a : Same H H1) (b : Same H1 H2) : Same H H2 := fun c o h => b c o (a c o h)
theorem Same.seq {K : PySem.W.Frag} {H H' : Hp} {a : Addr} {xs : List V} (e : Same H H') (h : SqL K H a xs) : SqL K H' a xs := by
  rcases h with (h | ⟨o, h⟩) | h
  · exact .inl (.inl (e _ _ h))
  · exact .inl (.inr ⟨o, e _ _ h⟩)
  · exact .inr h
end L2
section
set_option Elab.async false
set_option linter.all false
set_option maxRecDepth 100000
namespace L2
open PySem PySem.Spec PyProof.Rows
section
variable {κ : Type} [DecidableEq κ]
def valV (kvs : List (κ × V)) (k : κ) : Option V := (kvs.find? fun kv => decide (kv.1 = k)).map (·.2)
def putK (kvs : List (κ × V)) (k : κ) (v : V) : List (κ × V) :=
  if (kvs.any fun kv => decide (kv.1 = k)) = true then kvs.map (fun kv => if kv.1 = k then (kv.1, v) else kv) else kvs ++ [(k, v)]
def dropK (kvs : List (κ × V)) (k : κ) : List (κ × V) := kvs.filter fun kv => decide (kv.1 ≠ k)
theorem valV_pos {p : κ × V} {r : List (κ × V)} {k : κ} (e : p.1 = k) : valV (p :: r) k = some p.2 := by simp [valV, List.find?_cons, e]
theorem valV_neg {p : κ × V} {r : List (κ × V)} {k : κ} (e : ¬ p.1 = k) : valV (p :: r) k = valV r k := by simp [valV, List.find?_cons, e]
theorem valV_any (k : κ) : ∀ kvs : List (κ × V), (kvs.any fun kv => decide (kv.1 = k)) = (valV kvs k).isSome
  | [] => rfl
  | p :: r => by
    rw [List.any_cons]
    by_cases e : p.1 = k
    · simp only [valV_pos e, decide_eq_true e, Bool.true_or, Option.isSome_some]
    · rw [valV_neg e, decide_eq_false e, Bool.false_or]; exact valV_any k r
theorem length_putK (kvs : List (κ × V)) (k : κ) (v : V) : (putK kvs k v).length ≤ kvs.length + 1 := by
  unfold putK
  split
  · rw [List.length_map]; omega
  · rw [List.length_append, List.length_cons, List.length_nil]; omega
theorem RelO.isSome_eq {o : Option V} {u : Option Value} (r : RelO o u) : o.isSome = u.isSome := by
  cases o with
  | none => cases u with
    | none => rfl
    | some _ => exact (show False from r).elim
  | some _ => cases u with
    | none => exact (show False from r).elim
    | some _ => rfl
theorem KV.val {kvs : List (κ × V)} {vs : List (κ × Value)} (r : KV kvs vs) (k : κ) : RelO (valV kvs k) (valueAt vs k) := by
  unfold KV at r
  induction r with
  | nil => exact True.intro
  | @cons p q ps qs h t ih =>
    obtain ⟨h1, h2⟩ := h
    by_cases e : p.1 = k
    · have e' : q.1 = k := h1.symm.trans e
      have b : valueAt (q :: qs) k = some q.2 := by simp [valueAt, List.find?_cons, e']
      rw [valV_pos e, b]; exact h2
    · have e' : ¬ q.1 = k := fun z => e (h1.trans z)
      have b : valueAt (q :: qs) k = valueAt qs k := by simp [valueAt, List.find?_cons, e']
      rw [valV_neg e, b]; exact ih
theorem KV.any {kvs : List (κ × V)} {vs : List (κ × Value)} (r : KV kvs vs) (k : κ) : (kvs.any fun kv => decide (kv.1 = k)) = vs.any fun kv => decide (kv.1 = k) := by
  unfold KV at r
  induction r with
  | nil => rfl
  | cons h t ih => rw [List.any_cons, List.any_cons, ih, h.1]
theorem KV.repl {kvs : List (κ × V)} {vs : List (κ × Value)} (r : KV kvs vs) (k : κ) {y : V} {u : Value} (ry : RelV y u) :
    KV (kvs.map fun kv => if kv.1 = k then (kv.1, y) else kv) (vs.map fun kv => if kv.1 = k then (kv.1, u) else kv) := by
  unfold KV at r ⊢
  induction r with
  | nil => exact .nil
  | @cons p q ps qs h t ih =>
    rw [List.map_cons, List.map_cons]
    refine .cons ?_ ih
    obtain ⟨h1, h2⟩ := h
    by_cases e : p.1 = k
    · rw [if_pos e, if_pos (h1.symm.trans e)]; exact ⟨h1, ry⟩
    · rw [if_neg e, if_neg (fun z => e (h1.trans z))]; exact ⟨h1, h2⟩
theorem KV.put {kvs : List (κ × V)} {vs : List (κ × Value)} (r : KV kvs vs) (k : κ) {y : V} {u : Value} (ry : RelV y u) : KV (putK kvs k y) (stored vs k u) := by
  unfold putK stored
  rw [r.any k]
  by_cases e : (vs.any fun kv => decide (kv.1 = k)) = true
  · rw [if_pos e, if_pos e]; exact r.repl k ry
  · rw [if_neg e, if_neg e]; exact Paired.snoc r ⟨rfl, ry⟩
theorem KV.drop {kvs : List (κ × V)} {vs : List (κ × Value)} (r : KV kvs vs) (k : κ) : KV (dropK kvs k) (without vs k) := by
  unfold KV at r ⊢
  unfold dropK without
  induction r with
  | nil => exact .nil
  | @cons p q ps qs h t ih =>
    obtain ⟨h1, h2⟩ := h
    rw [List.filter_cons, List.filter_cons]
    by_cases e : p.1 = k
    · have a : ¬ decide (p.1 ≠ k) = true := by simp [e]
      have b : ¬ decide (q.1 ≠ k) = true := by simp [h1.symm.trans e]
      rw [if_neg a, if_neg b]; exact ih
    · have e' : ¬ q.1 = k := fun z => e (h1.trans z)
      have a : decide (p.1 ≠ k) = true := by simp [e]
      have b : decide (q.1 ≠ k) = true := by simp [e']
      rw [if_pos a, if_pos b]; exact .cons ⟨h1, h2⟩ ih
theorem KV.keys {kvs : List (κ × V)} {vs : List (κ × Value)} (r : KV kvs vs) : kvs.map (·.1) = vs.map (·.1) := by
  unfold KV at r
  induction r with
  | nil => rfl
  | cons h t ih => rw [List.map_cons, List.map_cons, ih, h.1]
theorem KV.length {kvs : List (κ × V)} {vs : List (κ × Value)} (r : KV kvs vs) : kvs.length = vs.length := Paired.length r
theorem dropK_le (kvs : List (κ × V)) (k : κ) : (dropK kvs k).length ≤ kvs.length := List.length_filter_le _ _
end
theorem kV_is {P : Program} {w : World} {k : Key} {u : Value} (r : RelV (kV k) u) : (mixKind P w).is k u = true := by
  cases k with
  | inl i => obtain ⟨t, e⟩ := (show ∃ t, u = Value.int i t from r); subst e; exact mixKind_int P w i t
  | inr x => obtain ⟨t, e⟩ := (show ∃ t, u = Value.str x t from r); subst e; exact mixKind_str P w x t
theorem items_are {P : Program} {w : World} : ∀ {ks : List Key} {us : List Value}, Vals (ks.map kV) us → ItemsAre (mixKind P w) ks us
  | [], _, r => by rw [List.map_nil] at r; cases r; exact .nil
  | k :: ks, _, r => by
    rw [List.map_cons] at r
    cases r with
    | cons h t => exact .cons (kV_is h) (items_are t)
abbrev KT (H : Hp) : List (List Key × V) → List (List Key × Addr × Value) → Prop := Paired fun p q => p.1 = q.1 ∧ H q.2.1 = some (.tup (p.1.map kV)) ∧ RelV p.2 q.2.2
theorem KT.val {H : Hp} {kvs : List (List Key × V)} {xs : List (List Key × Addr × Value)} (r : KT H kvs xs) (k : List Key) : RelO (valV kvs k) ((atKey xs k).map (·.2)) := by
  induction r with
  | nil => exact True.intro
  | @cons p q ps qs h t ih =>
    obtain ⟨h1, _, h2⟩ := h
    by_cases e : p.1 = k
    · have e' : q.1 = k := h1.symm.trans e
      have b : atKey (q :: qs) k = some q.2 := by simp [atKey, List.find?_cons, e']
      rw [valV_pos e, b]; exact h2
    · have e' : ¬ q.1 = k := fun z => e (h1.trans z)
      have b : atKey (q :: qs) k = atKey qs k := by simp [atKey, List.find?_cons, e']
      rw [valV_neg e, b]; exact ih
theorem KT.repl {H : Hp} {kvs : List (List Key × V)} {xs : List (List Key × Addr × Value)} (r : KT H kvs xs) (k : List Key) {y : V} {u : Value} (ry : RelV y u) :
    KT H (kvs.map fun kv => if kv.1 = k then (kv.1, y) else kv) (xs.map (putAt k u)) := by
  induction r with
  | nil => exact .nil
  | @cons p q ps qs h t ih =>
    rw [List.map_cons, List.map_cons]
    refine .cons ?_ ih
    obtain ⟨h1, h2, h3⟩ := h
    unfold putAt
    by_cases e : p.1 = k
    · rw [if_pos e, if_pos (h1.symm.trans e)]; exact ⟨h1, h2, ry⟩
    · rw [if_neg e, if_neg (fun z => e (h1.trans z))]; exact ⟨h1, h2, h3⟩
theorem KT.put {H : Hp} {kvs : List (List Key × V)} {xs : List (List Key × Addr × Value)} (r : KT H kvs xs) (k : List Key) {b : Addr} {y : V} {u : Value} (hb : H b = some (.tup (k.map kV))) (ry : RelV y u) :
    KT H (putK kvs k y) (storedH xs k b u) := by
  have e : (kvs.any fun kv => decide (kv.1 = k)) = (atKey xs k).isSome := by
    rw [valV_any, (r.val k).isSome_eq, Option.isSome_map]
  unfold putK storedH
  rw [e]
  by_cases q : (atKey xs k).isSome = true
  · rw [if_pos q, if_pos q]; exact r.repl k ry
  · rw [if_neg q, if_neg q]; exact Paired.snoc r ⟨rfl, hb, ry⟩
theorem KT.keeps {H H' : Hp} {kvs : List (List Key × V)} {xs : List (List Key × Addr × Value)} (r : KT H kvs xs) (ht : ∀ b ys, H b = some (.tup ys) → H' b = some (.tup ys)) : KT H' kvs xs :=
  Paired.mapP r fun _ _ z => ⟨z.1, ht _ _ z.2.1, z.2.2⟩
section
variable {P : Program} {w : World} {H : Hp} {h : Heap} {a : Addr}
theorem rd_of {u : HO} (ok : HOk P w H h) (e : Rd H a u) : ObjOk P w H h a u := e.ok ok
theorem dk_rd {kvs : List (Key × V)} (ok : HOk P w H h) (e : Rd H a (.dK kvs)) : kvs.length ≤ sizeLine ∧ (a == sysModules) = false ∧ ∃ vs, KV kvs vs ∧ h.DictOf (mixKind P w) a vs :=
  show ObjOk P w H h a (.dK kvs) from rd_of ok e
theorem dk_of {kvs : List (Key × V)} (ok : HOk P w H h) (e : H a = some (.dK kvs)) : kvs.length ≤ sizeLine ∧ (a == sysModules) = false ∧ ∃ vs, KV kvs vs ∧ h.DictOf (mixKind P w) a vs := dk_rd ok (.inl e)
theorem key_of {ks : List Key} (ok : HOk P w H h) (e : H a = some (.tup (ks.map kV))) : (tupleKind (mixKind P w)).is h ks a := by
  obtain ⟨_, its, r, o, h1, h2, n, h3⟩ := (show ObjOk P w H h a (.tup (ks.map kV)) from ok a _ e)
  exact ⟨o, its.toArray, n, h1, h2, h3, by simpa using items_are r⟩
theorem dt_rd {kvs : List (List Key × V)} (ok : HOk P w H h) (e : Rd H a (.dT kvs)) : kvs.length ≤ sizeLine ∧ (a == sysModules) = false ∧
    ∃ xs, KT H kvs xs ∧ h.DictOfH (tupleKind (mixKind P w)) a xs := by
  obtain ⟨z, y, xs, r, o, es, ep, h1, h2, h3, h4, h5⟩ := (show ObjOk P w H h a (.dT kvs) from rd_of ok e)
  refine ⟨z, y, xs, r, o, es, ep, h1, h2, h3, h4, fun x hx => ?_, h5⟩
  have all : ∀ {l : List (List Key × V)} {m : List (List Key × Addr × Value)}, KT H l m → ∀ x ∈ m, (tupleKind (mixKind P w)).is h x.1 x.2.1 := by
    intro l m q
    induction q with
    | nil => intro x hx; exact nomatch hx
    | @cons p q ps qs hq t ih =>
      intro x hx
      rcases List.mem_cons.mp hx with e | hx
      · subst e
        exact key_of ok (by rw [← hq.1]; exact hq.2.1)
      · exact ih x hx
  exact all r x hx
theorem dt_of {kvs : List (List Key × V)} (ok : HOk P w H h) (e : H a = some (.dT kvs)) : kvs.length ≤ sizeLine ∧ (a == sysModules) = false ∧
    ∃ xs, KT H kvs xs ∧ h.DictOfH (tupleKind (mixKind P w)) a xs := dt_rd ok (.inl e)
end
def DGet (H : Hp) (a : Addr) (y : V) (r : Option V) : Prop :=
  (∃ kvs k, Rd H a (.dK kvs) ∧ y = kV k ∧ r = valV kvs k) ∨ ∃ kvs k b, Rd H a (.dT kvs) ∧ y = .ref b ∧ H b = some (.tup (k.map kV)) ∧ r = valV kvs k
def DPut (H : Hp) (a : Addr) (y v : V) (H' : Hp) : Prop :=
  (∃ kvs k, H a = some (.dK kvs) ∧ y = kV k ∧ kvs.length < sizeLine ∧ H' = upd H a (.dK (putK kvs k v))) ∨
  ∃ kvs k b, H a = some (.dT kvs) ∧ y = .ref b ∧ H b = some (.tup (k.map kV)) ∧ kvs.length < sizeLine ∧ H' = upd H a (.dT (putK kvs k v))
theorem DPut.k {H : Hp} {a : Addr} {kvs : List (Key × V)} {k : Key} {v : V} (e : H a = some (.dK kvs)) (hl : kvs.length < sizeLine) : DPut H a (kV k) v (upd H a (.dK (putK kvs k v))) := .inl ⟨kvs, k, e, rfl, hl, rfl⟩
section
variable {X : Cx} {pins : List (Addr × Obj)} {σ : St} {H : Hp} {s : Shared} {a : Addr} {y v : V} {u r : Value} {o : Option V} {A : Around} {E : Value → Shared → Prop}
theorem Inv.big (I : Inv X pins σ H s) : sysModules < s.heap.objs.size := by
  have h : mainGlobals < s.heap.objs.size := (I.mod.glob.keeps I.bk).lt
  exact Nat.lt_trans (by decide) h
theorem d_getItem {Q : Value → Shared → Prop} (hu : A.units + 1 < cLine) (I : Inv X pins σ H s) (g : DGet H a y (some v)) (ry : RelV y u) (h : ∀ w' s', Inv X pins σ H s' → RelV v w' → Q w' s') :
    wpAny (model X.prog X.w) A (getItem (.ref a) u) Q E s := by
  rcases g with ⟨kvs, k, e, ey, l⟩ | ⟨kvs, k, b, e, ey, eb, l⟩
  · subst ey
    obtain ⟨z, hd, vs, rel, dd⟩ := dk_rd I.hok e
    obtain ⟨w', hw, rw'⟩ := RelO.some_of (v := v) (o := valueAt vs k) (by rw [l]; exact rel.val k)
    exact wpAny_getItem_of (kV_is ry) dd.mapOf hw (h w' _ (I.tok _) rw')
  · subst ey
    cases (show u = Value.ref b from ry)
    obtain ⟨z, hd, xs, rel, dd⟩ := dt_rd I.hok e
    obtain ⟨w', hw, rw'⟩ := RelO.some_of (v := v) (o := (atKey xs k).map (·.2)) (by rw [l]; exact rel.val k)
    obtain ⟨p, hp, hp2⟩ := Option.map_eq_some_iff.mp hw
    refine wpAny_getItem_heap (tupleKind_room_in1 hu) (key_of I.hok eb) dd hp ?_
    rw [hp2]
    exact h w' _ (I.tok _) rw'
theorem d_notIn {Q : Value → Shared → Prop} (hu : A.units + 1 < cLine) (I : Inv X pins σ H s) (g : DGet H a y o) (ry : RelV y u) (h : ∀ s', Inv X pins σ H s' → Q (.bool (!o.isSome)) s') :
    wpAny (model X.prog X.w) A (compareOp .NotIn u (.ref a)) Q E s := by
  rcases g with ⟨kvs, k, e, ey, l⟩ | ⟨kvs, k, b, e, ey, eb, l⟩
  · subst ey
    obtain ⟨z, hd, vs, rel, dd⟩ := dk_rd I.hok e
    refine wpAny_notIn_of (kV_is ry) hd dd.mapOf ?_
    rw [← (rel.val k).isSome_eq, ← l]
    exact h _ (I.tok _)
  · subst ey
    cases (show u = Value.ref b from ry)
    obtain ⟨z, hd, xs, rel, dd⟩ := dt_rd I.hok e
    refine wpAny_notIn_heap (tupleKind_room_in1 hu) (key_of I.hok eb) hd dd ?_
    have q := (rel.val k).isSome_eq
    rw [Option.isSome_map] at q
    rw [← q, ← l]
    exact h _ (I.tok _)
theorem d_write {h' : Heap} {t' : Nat} {ob : HO} (I : Inv X pins σ H s) (mu : Mut (H a)) (hs : Heap.SameBut a s.heap h') (he : ∃ q, h'.get? a = some q) (new : ObjOk X.prog X.w (upd H a ob) h' a ob) :
    Inv X pins σ (upd H a ob) { s with heap := h', toks := t' } :=
  I.write (x := a) (e := a) mu (.inl rfl) (fun b q hb z => (hs.2 b hb).trans z) he new
theorem dk_new {P : Program} {w : World} {H' : Hp} {h' : Heap} {kvs : List (Key × V)} {vs : List (Key × Value)} (z : kvs.length ≤ sizeLine) (hd : (a == sysModules) = false) (rel : KV kvs vs) (dd : h'.DictOf (mixKind P w) a vs) :
    ObjOk P w H' h' a (.dK kvs) := ⟨z, hd, vs, rel, dd⟩
theorem d_setItem {H' : Hp} {Q : Unit → Shared → Prop} (hu : A.units + 1 < cLine) (I : Inv X pins σ H s) (g : DPut H a y v H') (ry : RelV y u) (rv : RelV v r) (h : ∀ s', Inv X pins σ H' s' → Q () s') :
    wpAny (model X.prog X.w) A (setItem (.ref a) u r) Q E s := by
  rcases g with ⟨kvs, k, e, ey, l, eH⟩ | ⟨kvs, k, b, e, ey, eb, l, eH⟩
  · subst ey eH
    obtain ⟨z, hd, vs, rel, dd⟩ := dk_of I.hok e
    have hz : vs.length ≤ sizeLine := by rw [← rel.length]; exact z
    have hl : (putK kvs k v).length ≤ sizeLine := by have := length_putK kvs k v; omega
    refine wpAny_setItem_pairs (hsz := hz) (kV_is ry) dd fun h' dd' hs => h _ ?_
    have he : ∃ q, h'.get? a = some q := let ⟨q, _, _, hq, _⟩ := dd'; ⟨q, hq⟩
    exact d_write I (by rw [e]; exact True.intro) hs he (dk_new hl hd (rel.put k rv) dd')
  · subst ey eH
    cases (show u = Value.ref b from ry)
    obtain ⟨z, hd, xs, rel, dd⟩ := dt_of I.hok e
    have hz : xs.length ≤ sizeLine := by rw [← Paired.length rel]; exact z
    have hl : (putK kvs k v).length ≤ sizeLine := by have := length_putK kvs k v; omega
    refine wpAny_setItem_heap (hsz := hz) (tupleKind_room_in1 hu) (key_of I.hok eb) dd fun h' dd' hs => h _ ?_
    obtain ⟨q, es, ep, hq, h2, h3, h4, _, h5⟩ := dd'
    refine d_write I (by rw [e]; exact True.intro) hs ⟨q, hq⟩ ⟨hl, hd, _, (rel.put k eb rv).keeps fun c ys ec => ?_, q, es, ep, hq, h2, h3, h4, h5⟩
    rw [upd_ne (ne_of ec e (fun z => nomatch z))]
    exact ec
end
section
variable {X : Cx} {pins : List (Addr × Obj)} {σ : St} {H : Hp} {s : Shared} {a : Addr} {kvs : List (Key × V)} {k : Key} {u : Value} {A : Around} {E : Value → Shared → Prop}
theorem d_pop {v : V} {more : List Value} {Q : Value → Shared → Prop} (I : Inv X pins σ H s) (e : H a = some (.dK kvs)) (ry : RelV (kV k) u) (l : valV kvs k = some v) (hm : more = [] ∨ ∃ x, more = [x])
    (h : ∀ w' s', Inv X pins σ (upd H a (.dK (dropK kvs k))) s' → RelV v w' → Q w' s') : wpAny (model X.prog X.w) A (call (.builtin "dict.pop") (.ref a :: u :: more)) Q E s := by
  obtain ⟨z, hd, vs, rel, dd⟩ := dk_of I.hok e
  obtain ⟨w', hw, rw'⟩ := RelO.some_of (v := v) (o := valueAt vs k) (by rw [← l]; exact rel.val k)
  have hp : (keyPart u).isSome = true := by
    cases k with
    | inl i => obtain ⟨t, q⟩ := (show ∃ t, u = Value.int i t from ry); subst q; rfl
    | inr x => obtain ⟨t, q⟩ := (show ∃ t, u = Value.str x t from ry); subst q; rfl
  have ha : argsOk "dict.pop" ⟨.ref a :: u :: more, []⟩ := by
    rcases hm with q | ⟨x, q⟩
    · subst q; exact PySem.F.args_dict_pop_2 _ _
    · subst q; exact PySem.F.args_dict_pop_3 _ _ _
  refine call_meetsIn PySem.F.slot_dict_pop dd.typeIs PySem.F.entry_dict_pop ha (meets_dict_pop_there (mixKind X.prog X.w) a (kV_is ry) more hm hp)
    ⟨vs, w', dd, by rw [← rel.length]; exact z, hw, fun h' dd' hs => h w' _ ?_ rw'⟩
  have he : ∃ q, h'.get? a = some q := let ⟨q, _, _, hq, _⟩ := dd'; ⟨q, hq⟩
  exact d_write I (by rw [e]; exact True.intro) hs he (dk_new (Nat.le_trans (dropK_le kvs k) z) hd (rel.drop k) dd')
end
def NoSl (i : Expr) : Prop := ∀ ov iv, subscripted i false ov iv = operate [ov, iv] (getItem ov iv)
theorem subD_of {prog : Program} {w : World} {A : Around} {E : Value → Shared → Prop} {s : Shared} {env : Env} {value slice : Expr} {pos : Pos} {T id : String} {Q : Value → Shared → Prop}
    (hl : typeLookup (.type T) "__getitem__" = pure (some (.builtin id))) (hs : NoSl slice)
    (h : wpAny (model prog w) A (eval value env) (fun o s₁ => wpAny (model prog w) A (eval slice env) (fun i s₂ => s₂.TypeIs o T ∧ wpAny (model prog w) A (getItem o i) Q E s₂) E s₁) E s) :
    wpAny (model prog w) A (eval (.Subscript value slice pos) env) Q E s := by
  refine Subscript_ (wpAny_mono h (fun o s₁ h₁ => wpAny_mono h₁ (fun i s₂ h₂ => ?_) fun _ _ x => x) fun _ _ x => x)
  obtain ⟨hT, h₂⟩ := h₂
  unfold subscriptTail
  refine wpAny_bind ?_
  rw [getitemInPython_of_ne hT.not_modules]
  refine wpAny_bind (wpAny_specialOf hT hl ?_)
  have fin : wpAny (model prog w) A (subscripted slice false o i) (fun r s₃ => wpAny (model prog w) A (letTemporaryGo value o r >>= fun _ => pure r) Q E s₃) E s₂ := by
    rw [hs o i]
    exact wpAny_operating (wpAny_mono h₂ (fun r s₃ h₃ => wpAny_bind (wpAny_letTemporaryGo (wpAny_pure h₃))) fun _ _ x => x)
  first
    | exact wpAny_pure (wpAny_bind fin)
    | exact wpAny_bind (wpAny_pure (wpAny_bind fin))
    | exact wpAny_bind fin
theorem dict_typeIs {X : Cx} {pins : List (Addr × Obj)} {σ : St} {H : Hp} {s : Shared} {a : Addr} {y : V} {o : Option V} (I : Inv X pins σ H s) (g : DGet H a y o) : s.TypeIs (.ref a) "dict" := by
  rcases g with ⟨kvs, k, e, _, _⟩ | ⟨kvs, k, b, e, _, _, _⟩
  · obtain ⟨_, _, vs, _, dd⟩ := dk_rd I.hok e
    exact dd.typeIs
  · obtain ⟨_, _, xs, _, dd⟩ := dt_rd I.hok e
    exact dd.typeIs
def tDGet (td ty : TE) : TE := fun σ H Q => td σ H fun x H1 => ty σ H1 fun y H2 => ∃ a v, x = .ref a ∧ DGet H2 a y (some v) ∧ Q v H2
def tDIn (ty td : TE) : TE := fun σ H Q => ty σ H fun y H1 => td σ H1 fun x H2 => ∃ a o, x = .ref a ∧ DGet H2 a y o ∧ Q (.bl o.isSome) H2
def tDNotIn (ty td : TE) : TE := fun σ H Q => ty σ H fun y H1 => td σ H1 fun x H2 => ∃ a o, x = .ref a ∧ DGet H2 a y o ∧ Q (.bl (!o.isSome)) H2
def sDPut (td ty tv : TE) : TS := fun D σ H => tv σ H fun v H1 => td σ H1 fun x H2 => ty σ H2 fun y H3 => ∃ a H4, x = .ref a ∧ DPut H3 a y v H4 ∧ D.nx σ H4
def sDAug (td ty tv : TE) (rd : V → V → Hp → VK → Prop) : TS := fun D σ H => td σ H fun x H1 => ty σ H1 fun y H2 => ∃ a v, x = .ref a ∧ DGet H2 a y (some v) ∧
  tv σ H2 fun y2 H3 => rd v y2 H3 fun z H4 => ∃ H5, DPut H4 a y z H5 ∧ D.nx σ H5
def sDDel (td ty : TE) : TS := fun D σ H => td σ H fun x H1 => ty σ H1 fun y H2 => ∃ a kvs k, x = .ref a ∧ H2 a = some (.dK kvs) ∧ y = kV k ∧ (valV kvs k).isSome = true ∧ D.nx σ (upd H2 a (.dK (dropK kvs k)))
section
variable {X : Cx} {o i e value : Expr} {pos pos' tpos : Pos} {td ty tv : TE}
theorem pe_dget (hu : X.A.units + 1 < cLine) (ho : PE X o td) (hi : PE X i ty) (hs : NoSl i) : PE X (.Subscript o i pos) (tDGet td ty) := by
  intro pins s σ H Q I h
  refine subD_of PySem.F.slot_dict_getitem.lookup hs (thn (ho pins s σ H _ I h) fun u s1 ⟨x, H1, I1, rx, q1⟩ => thn (hi pins s1 σ H1 _ I1 q1) fun iv s2 ⟨y, H2, I2, ry, a, v, ex, g, q2⟩ => ?_)
  subst ex
  obtain rfl : u = Value.ref a := rx
  exact ⟨dict_typeIs I2 g, d_getItem hu I2 g ry fun w' s3 I3 rw' => ⟨v, H2, I3, rw', q2⟩⟩
theorem pc_dnotin (hu : X.A.units + 1 < cLine) (hi : PE X i ty) (ho : PE X o td) : PC X .NotIn i o (tDNotIn ty td) := by
  intro pins s σ H Q I h
  refine thn (hi pins s σ H _ I h) fun iv s1 ⟨y, H1, I1, ry, q1⟩ => thn (ho pins s1 σ H1 _ I1 q1) fun u s2 ⟨x, H2, I2, rx, a, ov, ex, g, q2⟩ => ?_
  subst ex
  obtain rfl : u = Value.ref a := rx
  exact d_notIn hu I2 g ry fun s3 I3 => ⟨.bl (!ov.isSome), H2, I3, rfl, q2⟩
theorem ps_dput (hu : X.A.units + 1 < cLine) (ho : PE X o td) (hi : PE X i ty) (hv : PE X value tv) (hs : swapsWith value (some (.Subscript o i pos')) pos.line X.env = pure false) :
    PS X (.Assign [.Subscript o i pos'] value pos) (sDPut td ty tv) := by
  intro pins s σ H D I h
  refine wpAny_Assign_Subscript (thn (hv pins s σ H _ I h) fun r s1 ⟨v, H1, I1, rv, q1⟩ => thn (ho pins s1 σ H1 _ I1 q1) fun u s2 ⟨x, H2, I2, rx, q2⟩ => thn (hi pins s2 σ H2 _ I2 q2) fun iv s3 ⟨y, H3, I3, ry, a, H4, ex, g, q3⟩ => ?_) hs
  subst ex
  obtain rfl : u = Value.ref a := rx
  exact d_setItem hu I3 g ry rv fun s4 I4 => ⟨σ, H4, I4, q3⟩
end
theorem dk_empty {P : Program} {w : World} {H : Hp} (h : Heap) (hb : sysModules < h.objs.size) : ObjOk P w H (h.push { cls := .type "dict", data := .dict #[] }) h.objs.size (.dK []) :=
  ⟨Nat.zero_le _, beq_eq_false_iff_ne.mpr (Ne.symm (Nat.ne_of_lt hb)), [], .nil, Heap.DictOf.new h⟩
def tDNewK : TE := fun _ H Q => ∀ p, H p = none → Q (.ref p) (upd H p (.dK []))
def tDNewT : TE := fun _ H Q => ∀ p, H p = none → Q (.ref p) (upd H p (.dT []))
section
variable {X : Cx} {pos : Pos}
theorem pe_dnewK : PE X (.Dict [] [] pos) tDNewK := fun pins s σ H Q I h =>
  wpAny_Dict_empty ⟨.ref s.heap.objs.size, _, I.laid (a := s.heap.objs.size) (o := .dK []) (t' := s.toks) (fun _ _ q => Heap.get?_push_of_some _ q) (Nat.le_refl _) (dk_empty s.heap I.big), rfl, h _ (I.hok.fresh (Nat.le_refl _))⟩
end
def tPairs : List (TE × TE) → St → Hp → (List (V × V) → Hp → Prop) → Prop
  | [], _, H, Q => Q [] H
  | (tk, tv) :: r, σ, H, Q => tk σ H fun x H1 => tv σ H1 fun y H2 => tPairs r σ H2 fun ps H3 => Q ((x, y) :: ps) H3
abbrev VV : List (V × V) → List (Value × Value) → Prop := Paired fun p q => RelV p.1 q.1 ∧ RelV p.2 q.2
def PPs (X : Cx) (pos : Pos) (keys : List (Option Expr)) (values : List Expr) (trs : List (TE × TE)) : Prop :=
  ∀ (pins : List (Addr × Obj)) (s : Shared) (σ : St) (H : Hp) (Q : List (V × V) → Hp → Prop), Inv X pins σ H s → tPairs trs σ H Q →
    wpAny (model X.prog X.w) X.A (evalPairs (pairTrees keys values X.env pos)) (fun vs s' => ∃ ps H', Inv X pins σ H' s' ∧ VV ps vs ∧ Q ps H') X.xe s
theorem pps_nil {X : Cx} {pos : Pos} : PPs X pos [] [] [] := fun pins s σ H Q I h => pairTrees_nil_walk ⟨[], H, I, .nil, h⟩
theorem pps_cons {X : Cx} {pos : Pos} {k v : Expr} {ks : List (Option Expr)} {vs : List Expr} {tk tv : TE} {trs : List (TE × TE)} (hk : PE X k tk) (hv : PE X v tv) (hr : PPs X pos ks vs trs) :
    PPs X pos (some k :: ks) (v :: vs) ((tk, tv) :: trs) := fun pins s σ H Q I h =>
  pairTrees_cons_walk (thn (hk pins s σ H _ I h) fun u s1 ⟨x, H1, I1, rx, q1⟩ => thn (hv pins s1 σ H1 _ I1 q1) fun w2 s2 ⟨y, H2, I2, ry, q2⟩ =>
    thn (hr pins s2 σ H2 _ I2 q2) fun ws s3 ⟨ps, H3, I3, rel, q3⟩ => ⟨(x, y) :: ps, H3, I3, .cons ⟨rx, ry⟩ rel, q3⟩)
def mergeK (kvs more : List (Key × V)) : List (Key × V) := more.foldl (fun acc kv => putK acc kv.1 kv.2) kvs
theorem KV.merge : ∀ {more : List (Key × V)} {rs : List (Key × Value)} {kvs : List (Key × V)} {vs : List (Key × Value)}, KV more rs → KV kvs vs → KV (mergeK kvs more) (merged vs rs) := by
  intro more rs kvs vs r
  unfold KV at r
  induction r generalizing kvs vs with
  | nil => intro q; exact q
  | @cons p q ps qs h t ih =>
    intro r0
    have e : KV (putK kvs p.1 p.2) (stored vs q.1 q.2) := by
      have := r0.put p.1 h.2
      rw [← h.1]; exact this
    exact ih e
theorem length_mergeK : ∀ (more kvs : List (Key × V)), (mergeK kvs more).length ≤ kvs.length + more.length
  | [], kvs => by show kvs.length ≤ kvs.length + 0; omega
  | p :: r, kvs => by
    have h1 := length_mergeK r (putK kvs p.1 p.2)
    have h2 := length_putK kvs p.1 p.2
    show (mergeK (putK kvs p.1 p.2) r).length ≤ _
    rw [List.length_cons]; omega
theorem carries_of {P : Program} {w : World} : ∀ {kvs : List (Key × V)} {ws : List (Value × Value)}, VV (kvs.map fun kv => (kV kv.1, kv.2)) ws → ∃ rs, Carries (mixKind P w) ws rs ∧ KV kvs rs
  | [], _, r => by rw [List.map_nil] at r; cases r; exact ⟨[], True.intro, .nil⟩
  | p :: kvs, _, r => by
    rw [List.map_cons] at r
    cases r with
    | @cons a b as bs h t =>
      obtain ⟨rs, c, q⟩ := carries_of (P := P) (w := w) t
      obtain ⟨b1, b2⟩ := b
      exact ⟨(p.1, b2) :: rs, ⟨kV_is h.1, rfl, c⟩, .cons ⟨rfl, h.2⟩ q⟩
def tDisp (trs : List (TE × TE)) : TE := fun σ H Q => ∀ p, H p = none → tPairs trs σ (upd H p (.dK [])) fun ps H2 => H2 p = some (.dK []) ∧ ∃ kvs : List (Key × V), ps = kvs.map (fun kv => (kV kv.1, kv.2)) ∧ kvs.length ≤ 15 ∧ Q (.ref p) (upd H2 p (.dK (mergeK [] kvs)))
theorem pe_disp {X : Cx} {pos : Pos} {keys : List (Option Expr)} {values : List Expr} {trs : List (TE × TE)} (h : PPs X pos keys values trs) (hall : keys.all (·.isSome) = true) (hl : keys.length = values.length) (h0 : keys ≠ [])
    (h15 : keys.length ≤ 15) : PE X (.Dict keys values pos) (tDisp trs) := by
  intro pins s σ H Q I q
  have hn := I.hok.fresh (Nat.le_refl s.heap.objs.size)
  have I1 := I.laid (a := s.heap.objs.size) (o := .dK []) (h' := s.heap.push { cls := .type "dict", data := .dict #[] }) (t' := s.toks) (fun _ _ q => Heap.get?_push_of_some _ q) (Nat.le_refl _) (dk_empty s.heap I.big)
  refine wpAny_Dict_walk (knd := mixKind X.prog X.w) hall hl h0 h15 (thn (h pins _ σ _ _ I1 (q _ hn)) fun ws s2 ⟨ps, H2, I2, rel, e, kvs, ep, lk, q2⟩ => ?_)
  subst ep
  obtain ⟨rs, c, rk⟩ := carries_of (P := X.prog) (w := X.w) rel
  obtain ⟨z, hd, vs0, r0, dd⟩ := dk_of I2.hok e
  cases r0
  refine ⟨rs, c, dd, fun h' dd' hs => ⟨.ref s.heap.objs.size, _, ?_, rfl, q2⟩⟩
  have hz : (mergeK [] kvs).length ≤ sizeLine := by
    have h1 := length_mergeK kvs []
    rw [List.length_nil] at h1
    rw [sizeLine_eq]; omega
  have he : ∃ q, h'.get? s.heap.objs.size = some q := let ⟨q, _, _, hq, _⟩ := dd'; ⟨q, hq⟩
  exact d_write I2 (by rw [e]; exact True.intro) hs he (dk_new hz hd (rk.merge .nil) dd')
structure M1 (X : Cx) (o : Expr) (m : Str) (apos : Pos) (e : Expr) (cpos : Pos) : Prop where
  base : attributeBase o m X.env (eval o X.env) = eval o X.env
  few : ((backTo cpos (starEach [e] X.env)).all (fun x => !x.1) && (backToKw cpos (keywordEach [] X.env)).all (fun x => x.1.isSome)
    && decide (([e] : List Expr).length + ([] : List Keyword).length + (if ([] : List Keyword).isEmpty then 0 else 1) < 30)) = true
  line : (apos.endLine == cpos.line) = true
  trees : backTo cpos (starEach [e] X.env) = [(false, eval e X.env)]
structure M2 (X : Cx) (o : Expr) (m : Str) (apos : Pos) (e f : Expr) (cpos : Pos) : Prop where
  base : attributeBase o m X.env (eval o X.env) = eval o X.env
  few : ((backTo cpos (starEach [e, f] X.env)).all (fun x => !x.1) && (backToKw cpos (keywordEach [] X.env)).all (fun x => x.1.isSome)
    && decide (([e, f] : List Expr).length + ([] : List Keyword).length + (if ([] : List Keyword).isEmpty then 0 else 1) < 30)) = true
  line : (apos.endLine == cpos.line) = true
  trees : backTo cpos (starEach [e, f] X.env) = [(false, eval e X.env), (false, eval f X.env)]
def IsD (H : Hp) (a : Addr) : Prop := (∃ kvs, Rd H a (.dK kvs)) ∨ ∃ kvs, Rd H a (.dT kvs)
theorem isD_at {X : Cx} {pins : List (Addr × Obj)} {σ : St} {H : Hp} {s : Shared} {a : Addr} (I : Inv X pins σ H s) (d : IsD H a) :
    s.TypeIs (.ref a) "dict" ∧ (∀ b, Value.ref a = .ref b → ∃ ob, s.heap.get? b = some ob ∧ ob.dict = none) ∧ (a == sysModules) = false := by
  rcases d with ⟨kvs, e⟩ | ⟨kvs, e⟩
  · obtain ⟨_, hd, vs, _, dd⟩ := dk_rd I.hok e
    refine ⟨dd.typeIs, fun b q => ?_, hd⟩
    cases q
    obtain ⟨ob, _, _, h1, h2, _⟩ := dd
    exact ⟨ob, h1, h2.2.1⟩
  · obtain ⟨_, hd, xs, _, dd⟩ := dt_rd I.hok e
    refine ⟨dd.typeIs, fun b q => ?_, hd⟩
    cases q
    obtain ⟨ob, _, _, h1, h2, _⟩ := dd
    exact ⟨ob, h1, h2.2.1⟩
section
variable {X : Cx} {pins : List (Addr × Obj)} {σ : St} {H : Hp} {s : Shared} {a : Addr} {y d : V} {u r : Value} {o : Option V} {A : Around} {E : Value → Shared → Prop}
end
def tDGet1 (td ty : TE) : TE := fun σ H Q => td σ H fun x H1 => ∃ a, x = .ref a ∧ IsD H1 a ∧ ty σ H1 fun y H2 => ∃ o, DGet H2 a y o ∧ Q (o.getD .non) H2
def tDGet2 (td ty tx : TE) : TE := fun σ H Q => td σ H fun x H1 => ∃ a, x = .ref a ∧ IsD H1 a ∧ ty σ H1 fun y H2 => tx σ H2 fun z H3 => ∃ o, DGet H3 a y o ∧ Q (o.getD z) H3
def tDPop1 (td ty : TE) : TE := fun σ H Q => td σ H fun x H1 => ∃ a, x = .ref a ∧ IsD H1 a ∧ ty σ H1 fun y H2 => ∃ kvs k v, H2 a = some (.dK kvs) ∧ y = kV k ∧ valV kvs k = some v ∧ Q v (upd H2 a (.dK (dropK kvs k)))
def tDPop2 (td ty tx : TE) : TE := fun σ H Q => td σ H fun x H1 => ∃ a, x = .ref a ∧ IsD H1 a ∧ ty σ H1 fun y H2 => tx σ H2 fun z H3 => ∃ kvs k, H3 a = some (.dK kvs) ∧ y = kV k ∧
  (∀ v, valV kvs k = some v → Q v (upd H3 a (.dK (dropK kvs k)))) ∧ (valV kvs k = none → Q z H3)
section
variable {X : Cx} {o e f : Expr} {apos cpos : Pos} {td ty tx : TE}
theorem pe_dpop1 (ho : PE X o td) (he : PE X e ty) (m : M1 X o "pop" apos e cpos) : PE X (.Call (.Attribute o "pop" apos) [e] [] cpos) (tDPop1 td ty) := by
  intro pins s σ H Q I h
  refine wpAny_Call_method m.base m.few m.line PySem.F.plainAttrs_dict PySem.F.slot_dict_pop PySem.F.type_dict_pop (thn (ho pins s σ H _ I h) fun u s1 ⟨x, H1, I1, rx, a, ex, d, q1⟩ => ?_)
  subst ex
  obtain rfl : u = Value.ref a := rx
  obtain ⟨t1, t2, _⟩ := isD_at I1 d
  refine ⟨t1, t2, ?_⟩
  rw [m.trees]
  refine Calls.callWith_builtin rfl (Calls.evalArgs_plain (Calls.spliced_cons (thn (he pins s1 σ H1 _ I1 q1) fun iv s2 ⟨y, H2, I2, ry, kvs, k, v, ea, ey, l, q2⟩ => Calls.spliced_nil ?_)))
  subst ey
  exact d_pop I2 ea ry l (.inl rfl) fun w' s3 I3 rw' => ⟨v, _, I3, rw', q2⟩
end
section
variable {X : Cx} {pins : List (Addr × Obj)} {σ : St} {H : Hp} {s : Shared} {a : Addr} {kvs : List (Key × V)} {A : Around} {E : Value → Shared → Prop}
theorem d_copyOf {Q : Value → Shared → Prop} (I : Inv X pins σ H s) (e : Rd H a (.dK kvs)) (h : ∀ p s', H p = none → Inv X pins σ (upd H p (.dK kvs)) s' → Q (.ref p) s') : wpAny (model X.prog X.w) A (call (.type "dict") [.ref a]) Q E s := by
  obtain ⟨z, hd, vs, rel, dd⟩ := dk_rd I.hok e
  refine kt_call_dict hd dd (by rw [← rel.length]; exact z) fun h' dd' hs => ?_
  refine h _ _ (I.hok.fresh (Nat.le_refl _)) (I.laid (a := s.heap.objs.size) (o := .dK kvs) (t' := s.toks) (fun b q hq => ?_) (Nat.le_refl _) (dk_new z (beq_eq_false_iff_ne.mpr (Ne.symm (Nat.ne_of_lt I.big))) rel dd'))
  exact (hs.2 b (Nat.ne_of_lt (Heap.lt_size hq))).trans (Heap.get?_push_of_some _ hq)
end
section
variable {X : Cx} {pins : List (Addr × Obj)} {σ : St} {H : Hp} {s : Shared} {a : Addr} {y : V} {u : Value} {A : Around} {E : Value → Shared → Prop}
end
end L2
namespace L2
open PySem PySem.Spec PyProof.Rows
section
variable {X : Cx}
end
section
variable {κ : Type} [DecidableEq κ]
end
end L2
end
section
set_option Elab.async false
set_option linter.all false
set_option maxRecDepth 100000
set_option maxHeartbeats 4000000
namespace Lw
open PySem PySem.Spec PyProof.Rows L2
theorem obj_some {P : Program} {w : World} {H : Hp} {h : Heap} {a : Addr} {o : HO} (x : ObjOk P w H h a o) : ∃ u, h.get? a = some u := by
  cases o with
  | lst xs => obtain ⟨_, _, _, _, e⟩ := x; exact ⟨_, e⟩
  | tup xs => obtain ⟨_, _, _, o, e, _⟩ := x; exact ⟨_, e⟩
  | dK kvs => obtain ⟨_, _, _, _, o, _, _, e, _⟩ := x; exact ⟨_, e⟩
  | dT kvs => obtain ⟨_, _, _, _, o, _, _, e, _⟩ := x; exact ⟨_, e⟩
  | set S n => obtain ⟨o, _, _, _, e, _⟩ := x; exact ⟨_, e⟩
  | ins C dx fs => obtain ⟨_, _, _, e, _⟩ := x; exact ⟨_, e⟩
  | own y => exact x
  | xd fs => obtain ⟨_, ⟨_, _, _, e, _⟩, _⟩ := x; exact ⟨_, e⟩
  | rng lo hi => obtain ⟨_, _, _, e⟩ := x; exact ⟨_, e⟩
  | frz ob u => exact ⟨_, x.1⟩
  | tbl ps => exact ⟨_, x⟩
  | met f y => exact ⟨_, x⟩
  | ext φ => exact x.2.1
structure Fly (P : Program) (w : World) (outer : List Env) (H : Hp) (s : Shared) (H' : Hp) (a : Addr) (cls : Value) (B : Heap) (a0 : Value) (s' : Shared) : Prop where
  os : s'.os = s.os
  bare : AllBare s'.gens
  un : Un (frs outer) [] H H' s.heap s'.heap
  hok : HOk P w H' s'.heap
  fresh : s.heap.get? a = none
  free : H' a = none
  fly : Heap.FlyingW B outer a cls a0 s'.heap
  trk : ∀ b o, H' b ≠ none → s'.heap.get? b = some o → B.get? b = some o
  old : ∀ b o, s.heap.get? b = some o → H b = none → b ∉ frs outer → B.get? b = some o
  any : ∀ b o, s.heap.get? b = some o → b ∉ frs outer → ∃ o', B.get? b = some o'
section
variable {P : Program} {w : World} {outer : List Env} {H H' : Hp} {s s' : Shared} {a : Addr} {cls a0 : Value} {B h5 : Heap}
theorem Fly.slots (F : Fly P w outer H s H' a cls B a0 s') (U : s'.heap.UpToSlots h5) {b : Addr} {o : Obj} (hb : b ∈ frs outer) (e : s'.heap.get? b = some o) : ∃ sl, h5.get? b = some { o with slots := sl } := by
  obtain ⟨_, o', e', nf⟩ := F.fly.2.2.1.mem hb
  rw [e] at e'
  cases e'
  exact U b o e nf
theorem Fly.un5 (F : Fly P w outer H s H' a cls B a0 s') (St : B.StaysIn h5) (U : s'.heap.UpToSlots h5) : Un (frs outer) [] H H' s.heap h5 where
  keep := fun b o e n hb _ => St b o (F.old b o e n hb)
  slot := fun b o e n hb hx => by
    obtain ⟨sl, e1⟩ := F.un.slot b o e n hb hx
    obtain ⟨sl2, e2⟩ := F.slots U hb e1
    exact ⟨sl2, e2⟩
  free := F.un.free
  there := fun b o e hx => by
    by_cases hb : b ∈ frs outer
    · obtain ⟨o', e1⟩ := F.un.there b o e hx
      obtain ⟨sl, e2⟩ := F.slots U hb e1
      exact ⟨_, e2⟩
    · obtain ⟨o', e1⟩ := F.any b o e hb
      exact ⟨o', St b o' e1⟩
  tups := F.un.tups
  frzs := F.un.frzs
  tbls := F.un.tbls
theorem Fly.hok5 (F : Fly P w outer H s H' a cls B a0 s') (St : B.StaysIn h5) : HOk P w H' h5 := fun b u e => by
  refine (F.hok b u e).stay (fun c v hc q => St c v (F.trk c v ?_ q)) (fun _ q => q) fun _ _ q => q
  rcases hc with z | z
  · rw [z, e]; simp
  · rw [z]; simp
theorem Fly.trk5 (F : Fly P w outer H s H' a cls B a0 s') (St : B.StaysIn h5) : ∀ b o, H' b ≠ none → h5.get? b = some o → B.get? b = some o := fun b o n e => by
  cases q : H' b with
  | none => exact absurd q n
  | some u =>
    obtain ⟨o1, e1⟩ := obj_some (F.hok b u q)
    have e2 := F.trk b o1 n e1
    have e3 := St b o1 e2
    rw [e] at e3
    cases e3
    exact e2
end
structure DefCx (X : Cx) : Prop where
  stk : X.stack = X.env :: X.outer
  fr : X.env.frame = some X.env.locals
  ex : X.ex = []
section
variable {X : Cx} {pins : List (Addr × Obj)} {σ : L2.St} {H H' : Hp} {s s' : Shared} {M : Model} {E : Value → Shared → Prop} {Q : Unit → Shared → Prop}
theorem not_stk (I : Inv X pins σ H s) {b : Addr} {o : Obj} (e : X.s₀.heap.get? b = some o) (hb : b ∉ X.fs) : b ∉ frs X.stack := fun z => by
  rcases List.mem_cons.mp (I.stkSub b z) with q | q
  · subst q
    exact Nat.lt_irrefl _ (Nat.lt_of_lt_of_le (Heap.lt_size e) I.ok.above)
  · exact hb q
theorem fresh_of (D : DefCx X) (I : Inv X pins σ H s) {a : Addr} (n : s.heap.get? a = none) : X.s₀.heap.get? a = none := by
  cases q : X.s₀.heap.get? a with
  | none => rfl
  | some o =>
    obtain ⟨o', e⟩ := I.base.there a o q (by rw [D.ex]; simp)
    rw [n] at e
    cases e
theorem fly_on {a : Addr} {cls a0 : Value} {B : Heap} (D : DefCx X) (I : Inv X pins σ H s) (F : Fly X.prog X.w X.stack H s H' a cls B a0 s')
    (k : ∀ s'', Fly X.prog X.w X.outer X.H₀ X.s₀ H' a cls B a0 s'' → Q () s'') : wpAny M X.A (leaving X.env (.ref a)) Q E s' := by
  have hfr : X.A.frames = some (X.env :: X.outer) := by rw [I.ok.frames, D.stk]
  have hfl := F.fly
  rw [D.stk] at hfl
  have hex : ∀ b : Addr, b ∉ X.ex := fun b => by rw [D.ex]; simp
  refine wpAny_leaves_onW hfr D.fr hfl fun h5 f5 u5 => k _ ?_
  have I5 : Inv X pins σ H' { s' with heap := h5 } := I.call' (s' := { s' with heap := h5 }) (ch := []) F.os (F.un5 f5.1 u5) (F.hok5 f5.1) F.bare fun b hb => absurd hb (by simp)
  refine ⟨I5.os, I5.bare, ?_, I5.hok, fresh_of D I F.fresh, F.free, f5, F.trk5 f5.1, fun b o e n hb => ?_, fun b o e hb => ?_⟩
  · have u := I5.base
    rw [D.ex] at u
    exact u
  · exact F.old b o (I.base.keep b o e n hb (hex b)) (I.base.free b o e n (hex b)) (not_stk I e hb)
  · obtain ⟨o1, e1⟩ := I.base.there b o e (hex b)
    exact F.any b o1 e1 (not_stk I e hb)
theorem fly_made {h' : Heap} {e : Addr} {cls : Value} {vs : List Value} (D : DefCx X) (I : Inv X pins σ H s) (hx : Heap.MadeExcOf s.heap h' e cls vs)
    (k : ∀ s'' B a0, Fly X.prog X.w X.outer X.H₀ X.s₀ H e cls B a0 s'' → Q () s'') : wpAny M X.A (leaving X.env (.ref e)) Q E { s with heap := h' } := by
  have hfr : X.A.frames = some (X.env :: X.outer) := by rw [I.ok.frames, D.stk]
  have hex : ∀ b : Addr, b ∉ X.ex := fun b => by rw [D.ex]; simp
  have hB : ∀ b o, s.heap.get? b = some o → b ∉ frs X.stack → (PySem.W.hideAll s.heap (frs X.stack)).get? b = some o := fun b o q nm => PySem.W.hideAll_get _ q nm
  have hl : s.heap.FunFrames (PySem.W.hideAll s.heap (frs X.stack)) (X.env :: X.outer) := by
    have z := PySem.W.funFrames_hide (as := frs X.stack) I.stack fun env he b hb => List.mem_filterMap.mpr ⟨env, he, hb⟩
    rw [D.stk] at z ⊢
    exact z
  have tn : ∀ b, H b ≠ none → b ∉ frs X.stack := fun b n z => n (I.stkFree b z)
  refine wpAny_leaves_madeW (s := { s with heap := h' }) hfr D.fr (fun b o q => PySem.W.of_hideAll _ q) hl hx fun h5 t f5 _ _ u5 => k _ (PySem.W.hideAll s.heap (frs X.stack)) (.ref t) ?_
  have St := f5.1
  have un5 : Un (frs X.stack) [] H H s.heap h5 := by
    have sl : ∀ b o, s.heap.get? b = some o → b ∈ frs X.stack → ∃ sl, h5.get? b = some { o with slots := sl } := fun b o e hb => by
      obtain ⟨_, o', e', nf⟩ := I.stack.mem hb
      rw [e] at e'
      cases e'
      exact u5 b o (hx.keeps b o e) nf
    refine ⟨fun b o e n hb _ => St b o (hB b o e hb), fun b o e n hb _ => sl b o e hb, fun _ _ _ n _ => n, fun b o e _ => ?_, fun _ _ q => q, fun _ _ _ q => q, fun b ps q => ⟨#[], by rw [q]; simp⟩⟩
    by_cases hb : b ∈ frs X.stack
    · obtain ⟨z, e1⟩ := sl b o e hb
      exact ⟨_, e1⟩
    · exact ⟨o, St b o (hB b o e hb)⟩
  have hok5 : HOk X.prog X.w H h5 := fun b u e => by
    refine (I.hok b u e).stay (fun c v hc q => St c v (hB c v q (tn c ?_))) (fun _ q => q) fun _ _ q => q
    rcases hc with z | z
    · rw [z, e]; simp
    · rw [z]; simp
  have I5 : Inv X pins σ H { s with heap := h5 } := I.call' (s' := { s with heap := h5 }) (ch := []) rfl un5 hok5 I.bare fun b hb => absurd hb (by simp)
  refine ⟨I5.os, I5.bare, ?_, hok5, fresh_of D I hx.new, ?_, f5, fun b o n q => ?_, fun b o e n hb => ?_, fun b o e hb => ?_⟩
  · have u := I5.base
    rw [D.ex] at u
    exact u
  · cases q : H e with
    | none => rfl
    | some u =>
      obtain ⟨o, z⟩ := obj_some (I.hok e u q)
      rw [hx.new] at z
      cases z
  · cases z : H b with
    | none => exact absurd z n
    | some u =>
      obtain ⟨o1, e1⟩ := obj_some (I.hok b u z)
      have e2 := hB b o1 e1 (tn b n)
      have e3 := St b o1 e2
      have q' : h5.get? b = some o := q
      rw [q'] at e3
      cases e3
      exact e2
  · exact hB b o (I.base.keep b o e n hb (hex b)) (not_stk I e hb)
  · obtain ⟨o1, e1⟩ := I.base.there b o e (hex b)
    exact ⟨o1, hB b o1 e1 (not_stk I e hb)⟩
end
def CXE (P : Program) (w : World) : CXT := fun outer H s E e s' => ∃ a cls H' B a0, e = .ref a ∧ Fly P w outer H s H' a cls B a0 s' ∧ E cls none H'
theorem cxe0 {P : Program} {w : World} {outer : List Env} {H : Hp} {s s' : Shared} {e : Value} (h : CXE P w outer H s (fun _ _ _ => False) e s') : False := by
  obtain ⟨_, _, _, _, _, _, _, z⟩ := h
  exact z
theorem passX0 {X : Cx} : Passes (CXE X.prog X.w) X E0 := fun _ _ _ _ _ _ _ h => (cxe0 h).elim
section
variable {P : Program} {w : World} {K : PySem.W.Frag} {mg : Str → Option Value} {base : Heap} {N : List Str} {qual : Str} {scope : Scope} {f : Addr} {cd : Value} {A : Around} {outer : List Env} {s₀ : Shared} {H₀ : Hp} {E : XK}
theorem passX : Passes (CXE P w) (cxOf (CXE P w) P w K mg base N qual scope f cd A outer s₀ H₀ E) E := by
  intro pins σ H1 s1 e s' I h
  obtain ⟨a, cls, H', B, a0, rfl, F, q⟩ := h
  exact fly_on (X := cxOf (CXE P w) P w K mg base N qual scope f cd A outer s₀ H₀ E) ⟨rfl, rfl, rfl⟩ I F fun s'' F' => ⟨a, cls, H', B, a0, rfl, F', q⟩
theorem raiseX {pins : List (Addr × Obj)} {σ : L2.St} {H : Hp} {s : Shared} {h' : Heap} {e : Addr} {cls : Value} {vs : List Value} (I : Inv (cxOf (CXE P w) P w K mg base N qual scope f cd A outer s₀ H₀ E) pins σ H s) (hx : Heap.MadeExcOf s.heap h' e cls vs) (q : E cls none H) :
    (cxOf (CXE P w) P w K mg base N qual scope f cd A outer s₀ H₀ E).xe (.ref e) { s with heap := h' } :=
  fly_made (X := cxOf (CXE P w) P w K mg base N qual scope f cd A outer s₀ H₀ E) ⟨rfl, rfl, rfl⟩ I hx fun s'' B a0 F' => ⟨e, cls, H, B, a0, rfl, F', q⟩
end
end Lw
end
section
set_option Elab.async false
set_option linter.all false
set_option maxRecDepth 100000
set_option maxHeartbeats 4000000
namespace Lw
open PySem PySem.Spec PyProof.Rows L2
def Br (b : Bool) (A B : Prop) : Prop := (b = true → A) ∧ (b = false → B)
theorem br_eq (b : Bool) (A B : Prop) : Br b A B = (if b = true then A else B) := by
  unfold Br
  cases b <;> simp
def dVar (i : Nat) : TE := fun σ H Q => match σ[i]? with
  | some (some v) => Q v H
  | _ => False
theorem dVar_eq (i : Nat) : dVar i = tVar i := by
  funext σ H Q
  apply propext
  unfold dVar tVar
  cases h : σ[i]? with
  | none => simp
  | some o => cases o <;> simp
def dI (C : Int → Int → Prop) (g : Int → Int → V) : R2 := fun x y H Q => match x, y with
  | .int i, .int j => C i j ∧ Q (g i j) H
  | _, _ => False
def dI0 (g : Int → Int → V) : R2 := fun x y H Q => match x, y with
  | .int i, .int j => Q (g i j) H
  | _, _ => False
def dU (g : Int → V) : V → Hp → VK → Prop := fun x H Q => match x with
  | .int i => Q (g i) H
  | _ => False
def dTest (t : TE) : TT := fun σ H Q => t σ H fun x H' => match x with
  | .bl k => Q k H'
  | _ => False
theorem dTest_eq (t : TE) : dTest t = tTest t := by
  funext σ H Q
  unfold dTest tTest
  congr 1
  funext x H'
  apply propext
  cases x <;> simp
theorem dTest_eqB (t : TE) : dTest t = tB t := dTest_eq t
def dAnd (t u : TT) : TT := fun σ H Q => t σ H fun c H1 => Br c (u σ H1 Q) (Q false H1)
def dOr (t u : TT) : TT := fun σ H Q => t σ H fun c H1 => Br c (Q true H1) (u σ H1 Q)
theorem dAnd_eq (t u : TT) : dAnd t u = tAnd t u := by
  funext σ H Q
  unfold dAnd tAnd
  simp only [br_eq]
theorem dOr_eq (t u : TT) : dOr t u = tOr t u := by
  funext σ H Q
  unfold dOr tOr
  simp only [br_eq]
def dAndV (ta tb : TE) : TE := fun σ H Q => ta σ H fun x H1 => match x with
  | .bl c => Br c (tb σ H1 Q) (Q (.bl false) H1)
  | _ => False
def dOrV (ta tb : TE) : TE := fun σ H Q => ta σ H fun x H1 => match x with
  | .bl c => Br c (Q (.bl true) H1) (tb σ H1 Q)
  | _ => False
def dNotV (ta : TE) : TE := fun σ H Q => ta σ H fun x H1 => match x with
  | .bl c => Q (.bl (!c)) H1
  | _ => False
theorem dAndV_eq (t u : TE) : dAndV t u = tAndV t u := by
  funext σ H Q
  unfold dAndV tAndV
  congr 1
  funext x H'
  apply propext
  cases x <;> simp [br_eq]
theorem dNotV_eq (t : TE) : dNotV t = tNotV t := by
  funext σ H Q
  unfold dNotV tNotV
  congr 1
  funext x H'
  apply propext
  cases x <;> simp
def dIfS (c : TT) (t u : TS) : TS := fun D σ H => c σ H fun b H1 => Br b (t D σ H1) (u D σ H1)
theorem dIfS_eq (c : TT) (t u : TS) : dIfS c t u = tIfS c t u := by
  funext D σ H
  unfold dIfS tIfS
  simp only [br_eq]
def dIf (t : TT) (ta tb : TE) : TE := fun σ H Q => t σ H fun c H1 => Br c (ta σ H1 Q) (tb σ H1 Q)
section
variable {X : Cx} {a b c : Expr} {ta tb tc : TE} {pos : Pos} {tA tB' : TT} {rest : List Expr}
theorem dv (i : Nat) {x : Str} {pos : Pos} (hN : X.N[i]? = some x := by rfl) (hv : Vis X.env.scope x := by first | exact Or.inl rfl | exact Or.inr (Or.inl rfl) | exact Or.inr (Or.inr rfl)) (hd : (x == ("__debug__" : Str)) = false := by decide)
    (hcd : (x == ("__classdict__" : Str)) = false := by decide) : PE X (.Name x pos) (dVar i) := by
  rw [dVar_eq]
  exact pe_var hN hv hd hcd
theorem opD {f : Value → Value → Sem Value} {C : Int → Int → Prop} {g : Int → Int → V} (h : OpR X f (rI C g)) : OpR X f (dI C g) := by
  intro pins s σ H x y v u Q I rx ry q
  cases x <;> cases y <;> first
    | exact False.elim q
    | exact h _ _ _ _ _ _ _ _ _ I rx ry ⟨_, _, rfl, rfl, q.1, q.2⟩
theorem opD0 {f : Value → Value → Sem Value} {g : Int → Int → V} (h : OpR X f (rI0 g)) : OpR X f (dI0 g) := by
  intro pins s σ H x y v u Q I rx ry q
  cases x <;> cases y <;> first
    | exact False.elim q
    | exact h _ _ _ _ _ _ _ _ _ I rx ry ⟨_, _, rfl, rfl, q⟩
theorem unD {f : Value → Sem Value} {g : Int → V} (h : UnR X f (rU g)) : UnR X f (dU g) := by
  intro pins s σ H x v Q I rx q
  cases x <;> first
    | exact False.elim q
    | exact h _ _ _ _ _ _ _ I rx ⟨_, rfl, q⟩
def Bd (n : Nat) (x : Int) : Prop := x.natAbs < 2 ^ n
theorem Bd.bits {n : Nat} {x : Int} (h : Bd n x) : Builtin.Int.intBits x ≤ n := intBits_le_iff.mpr h
def COk (i j : Int) : Prop := (Bd 4000 i ∧ Bd 4000 j) ∨ CMul i j
theorem COk.ok {i j : Int} (h : COk i j) : IntMulOk i j := by
  rcases h with ⟨h1, h2⟩ | h
  · exact PySem.IntMulOk.of_bits (Nat.le_trans h1.bits (by decide)) (Nat.le_trans h2.bits (by decide))
  · exact h.ok
theorem pow_log {n : Nat} {x : Int} (h : Bd n x) (h0 : 0 < n) : x.natAbs.log2 < n := by
  by_cases z : x.natAbs = 0
  · rw [z]
    simpa using h0
  · exact (Nat.log2_lt z).mpr h
theorem o_add : OpR X (binaryOp .Add) (dI0 fun i j => .int (i + j)) := opD0 op_add
theorem o_sub : OpR X (binaryOp .Sub) (dI0 fun i j => .int (i - j)) := opD0 op_sub
theorem o_mul : OpR X (binaryOp .Mult) (dI COk fun i j => .int (i * j)) := opD (opI fun _ _ _ _ _ _ _ hc q => mul_int q hc.ok)
theorem o_div : OpR X (binaryOp .FloorDiv) (dI (fun _ j => 0 < j ∧ Bd 4000 j) fun i j => .int (i / j)) := opD (opI fun i j _ _ _ _ _ hc q => by
  have h1 : (0 : Int) < j := hc.1
  exact floordiv_int (by omega) (by rw [Int.fdiv_eq_ediv_of_nonneg i (by omega)]; exact q) (.inl (PyProof.noPylong_of_log2 (Nat.lt_trans (pow_log hc.2 (by decide)) (by decide)))))
theorem o_divN : OpR X (binaryOp .FloorDiv) (dI (fun _ j => j ≠ 0 ∧ Bd 4000 j) fun i j => .int (i.fdiv j)) := opD (opI fun i j _ _ _ _ _ hc q => by
  exact floordiv_int hc.1 q (.inl (PyProof.noPylong_of_log2 (Nat.lt_trans (pow_log hc.2 (by decide)) (by decide)))))
theorem o_mod : OpR X (binaryOp .Mod) (dI (fun _ j => 0 < j) fun i j => .int (i % j)) := opD op_mod
theorem o_modN : OpR X (binaryOp .Mod) (dI (fun _ j => j ≠ 0) fun i j => .int (i.fmod j)) := opD op_modN
theorem o_lt : OpR X (compareOp .Lt) (dI0 fun i j => .bl (decide (i < j))) := opD0 op_lt
theorem o_le : OpR X (compareOp .LtE) (dI0 fun i j => .bl (decide (i ≤ j))) := opD0 op_le
theorem u_neg : UnR X (unaryOp .USub) (dU fun i => .int (-i)) := unD un_neg
def dEq : R2 := fun x y H Q => match x, y with
  | .int i, .int j => Q (.bl (decide (i = j))) H
  | .bl i, .bl j => Q (.bl (i == j)) H
  | .str i, .str j => Q (.bl (decide (i = j))) H
  | _, _ => False
def dNe : R2 := fun x y H Q => match x, y with
  | .int i, .int j => Q (.bl (!decide (i = j))) H
  | .bl i, .bl j => Q (.bl (i != j)) H
  | .str i, .str j => Q (.bl (!decide (i = j))) H
  | _, _ => False
theorem o_eq : OpR X (compareOp .Eq) dEq := by
  intro pins s σ H x y v u Q I rx ry q
  cases x <;> cases y <;> first
    | exact False.elim q
    | (refine op_eq _ _ _ _ _ _ _ _ _ I rx ry ⟨rfl, ?_⟩
       have e : ∀ (i j : Int), decide (V.int i = V.int j) = decide (i = j) := fun i j => by simp
       have e2 : ∀ (i j : Str), decide (V.str i = V.str j) = decide (i = j) := fun i j => by simp
       first
         | (rw [e]; exact q)
         | (rw [e2]; exact q)
         | (rw [dec_bl]; exact q))
theorem o_ne : OpR X (compareOp .NotEq) dNe := by
  intro pins s σ H x y v u Q I rx ry q
  cases x <;> cases y <;> first
    | exact False.elim q
    | (refine op_ne _ _ _ _ _ _ _ _ _ I rx ry ⟨rfl, ?_⟩
       have e : ∀ (i j : Int), decide (V.int i = V.int j) = decide (i = j) := fun i j => by simp
       have e2 : ∀ (i j : Str), decide (V.str i = V.str j) = decide (i = j) := fun i j => by simp
       first
         | (rw [e]; exact q)
         | (rw [e2]; exact q)
         | (rw [dec_bl]; exact q))
theorem t_cmp {op : CmpOp} {r : R2} (ho : OpR X (compareOp op) r) (ha : PE X a ta) (hb : PE X b tb) (hm : behindInMarks op b = false) : PT X (.Compare a [op] [b] pos) (dTest (tOp r ta tb)) := by
  rw [dTest_eq]
  exact pt_cmpR ho ha hb hm
theorem t_isN {j pos'} (ha : PE X a ta) : PT X (.Compare a [.Is] [.Constant .none j pos'] pos) (dTest (tIsN ta)) := by
  rw [dTest_eqB]
  exact pt_cmp (pc_isN ha)
theorem t_val {e : Expr} {t : TE} (h : PE X e t) (he : ∀ whole, isTrue e X.env whole = (do let v ← whole; standAt e.pos; holding [v] (truthy v)) := by intro _; rfl) : PT X e (dTest t) := by
  rw [dTest_eqB]
  exact pt_val h he
theorem w_and (ha : PT X a tA) (hb : PW X (.BoolOp .And (b :: rest) pos) tB') : PW X (.BoolOp .And (a :: b :: rest) pos) (dAnd tA tB') := by
  rw [dAnd_eq]
  exact pw_and ha hb
theorem w_or (ha : PT X a tA) (hb : PW X (.BoolOp .Or (b :: rest) pos) tB') : PW X (.BoolOp .Or (a :: b :: rest) pos) (dOr tA tB') := by
  rw [dOr_eq]
  exact pw_or ha hb
theorem e_and (ha : PE X a ta) (hb : PE X (.BoolOp .And (b :: rest) pos) tb) : PE X (.BoolOp .And (a :: b :: rest) pos) (dAndV ta tb) := by
  rw [dAndV_eq]
  exact pe_and ha hb
theorem e_not (ha : PE X a ta) : PE X (.UnaryOp .Not a pos) (dNotV ta) := by
  rw [dNotV_eq]
  exact pe_not ha
theorem s_if {c : Expr} {a b : List Stmt} {tc : TT} {t u : TS} (hc : PT X c tc) (ha : PSs X a t) (hb : PSs X b u) : PS X (.If c a b pos) (dIfS tc t u) := by
  rw [dIfS_eq]
  exact ps_if hc ha hb
def tCut (R : L2.St → Hp → Prop) (t u : TS) : TS := fun D σ H => t { D with nx := R } σ H ∧ ∀ σ' H', R σ' H' → u D σ' H'
theorem ss_cut (R : L2.St → Hp → Prop) {st : Stmt} {r : List Stmt} {t u : TS} (h1 : PS X st t) (h2 : PSs X r u) : PSs X (st :: r) (tCut R t u) := by
  intro pins s σ H D I h
  refine wpAny_execs_cons (thn (h1 pins s σ H { D with nx := R } I h.1) fun f s1 q => ?_)
  cases f with
  | next =>
    obtain ⟨σ', H', I', q⟩ := q
    exact h2 pins s1 σ' H' D I' (h.2 σ' H' q)
  | ret v => exact q
  | brk => exact q
  | cont => exact q
structure Cal (P : Program) (w : World) (K : PySem.W.Frag) (mg : Str → Option Value) (base : Heap) (x : Str) (ps : List Str) (k : Nat) (sp : Sp) : Prop where
  ex : ∃ (f : Addr) (fd : FuncData), mg x = some (.ref f) ∧ PySem.W.keepIn K (.ref f) = true ∧ Binds K fd ps [] ∧ FnOk P w K mg base (CXE P w) k f fd ps sp ∧
    ∃ (oc : Value) (od : Option Addr) (osl : Array (Option Value)), K.lookup f = some ⟨oc, od, .func fd, osl⟩
def dCall (sp : Sp) (t : TA) : TE := fun σ H Q => t σ H fun vs H1 => sp vs H1 Q E0
theorem dCall_eq (sp : Sp) (t : TA) : dCall sp t = tCall sp [] E0 t := by
  funext σ H Q
  unfold dCall tCall
  simp only [List.append_nil]
theorem e_call {x : Str} {ps : List Str} {k k' : Nat} {sp : Sp} {p : Pos} {e : Expr} {es : List Expr} {t : TA} (C : Cal X.prog X.w X.K X.mg X.base x ps k sp) (hr : Room k' X.A) (hk : k ≤ k') (hg : Gl X x)
    (ha : PA X (e :: es) t) (hdb : (x == ("__debug__" : Str)) = false := by decide) (he : starEach (e :: es) X.env = (false, eval e X.env) :: starEach es X.env := by rfl) (hpl : (backTo pos (starEach es X.env)).any (·.1) = false := by rfl) :
    PE X (.Call (.Name x p) (e :: es) [] pos) (dCall sp t) := by
  obtain ⟨f, fd, h1, h2, h3, h4, _⟩ := C.ex
  rw [dCall_eq]
  exact pe_call (h4.mono hk) hr hg h1 h2 h3 .nil passX0 ha hdb he hpl
def lenOk (xs : List V) : Bool := Nat.ble xs.length 1000
theorem lenOk_le {xs : List V} (h : lenOk xs = true) : xs.length ≤ sizeLine := Nat.le_trans (Nat.le_of_ble_eq_true h) (by decide)
def dTup (t : TA) : TE := fun σ H Q => t σ H fun xs H1 => match lenOk xs with
  | true => ∀ p H', Same H1 H' → H' p = some (.tup xs) → Q (.ref p) H'
  | false => False
def dLst (t : TA) : TE := fun σ H Q => t σ H fun xs H1 => match lenOk xs with
  | true => ∀ p H', Same H1 H' → H' p = some (.lst xs) → Q (.ref p) H'
  | false => False
theorem same_upd {H : Hp} {p : Addr} {o : HO} (h : H p = none) : Same H (upd H p o) := fun b u e => by
  rw [upd_ne (ne_of_none e h)]
  exact e
theorem e_tup {es : List Expr} {t : TA} {x1} (h : PA X es t) : PE X (.Tuple es x1 pos) (dTup t) := by
  intro pins s σ H Q I hq
  refine wpAny_Tuple_spliced (thn (h pos pins s σ H _ I hq) fun us s1 ⟨xs, H1, I1, r, q⟩ => ?_)
  cases hl : lenOk xs with
  | false =>
    have q' : (match lenOk xs with | true => _ | false => False : Prop) := q
    rw [hl] at q'
    exact q'.elim
  | true =>
    have z := lenOk_le hl
    have q' : (match lenOk xs with | true => ∀ p H', Same H1 H' → H' p = some (.tup xs) → Q (.ref p) H' | false => False : Prop) := q
    rw [hl] at q'
    refine ⟨by rw [← r.length]; exact z, ?_⟩
    have hf : H1 s1.heap.objs.size = none := I1.hok.fresh (Nat.le_refl _)
    refine ⟨.ref s1.heap.objs.size, upd H1 s1.heap.objs.size (.tup xs), I1.laid (t' := s1.toks) (fun b u e => Heap.get?_push_of_some _ e) (Nat.le_refl _) ?_, rfl, q' _ _ (same_upd hf) upd_same⟩
    exact ⟨z, us, r, ⟨_, Heap.get?_push_size _ rfl, rfl, _, rfl⟩⟩
theorem e_lst {es : List Expr} {t : TA} (h : PA X es t) : PE X (.List es pos) (dLst t) := by
  intro pins s σ H Q I hq
  refine wpAny_List_spliced (thn (h pos pins s σ H _ I hq) fun us s1 ⟨xs, H1, I1, r, q⟩ => ?_)
  cases hl : lenOk xs with
  | false =>
    have q' : (match lenOk xs with | true => _ | false => False : Prop) := q
    rw [hl] at q'
    exact q'.elim
  | true =>
    have z := lenOk_le hl
    have q' : (match lenOk xs with | true => ∀ p H', Same H1 H' → H' p = some (.lst xs) → Q (.ref p) H' | false => False : Prop) := q
    rw [hl] at q'
    refine ⟨by rw [← r.length]; exact z, ?_⟩
    have hf : H1 s1.heap.objs.size = none := I1.hok.fresh (Nat.le_refl _)
    refine ⟨.ref s1.heap.objs.size, upd H1 s1.heap.objs.size (.lst xs), I1.laid (t' := s1.toks) (fun b u e => Heap.get?_push_of_some _ e) (Nat.le_refl _) ?_, rfl, q' _ _ (same_upd hf) upd_same⟩
    exact ⟨z, us, 0, r, Heap.get?_push_size _ rfl⟩
def nthI (xs : List V) : Int → Option V
  | .ofNat n => xs[n]?
  | .negSucc _ => none
theorem nthI_at {xs : List V} {i : Int} {v : V} (h : nthI xs i = some v) : atI xs i = some v := by
  cases i with
  | ofNat n => exact atI_nat h
  | negSucc n => cases h
def dIxT : R2 := fun x y H Q => match x, y with
  | .ref p, .int i => ∃ xs, H p = some (.tup xs) ∧ match nthI xs i with
    | some v => Q v H
    | none => False
  | _, _ => False
def dIxL (K : PySem.W.Frag) : R2 := fun x y H Q => match x, y with
  | .ref p, .int i => ∃ xs v, SqL K H p xs ∧ atI xs i = some v ∧ Q v H
  | _, _ => False
theorem i_tup : IxR X dIxT := by
  intro value slice pins s σ H x y v u Q I rx ry h hs
  cases x <;> cases y <;> first
    | exact False.elim h
    | (obtain ⟨xs, e, q⟩ := h
       cases z : nthI xs _ with
       | none =>
         rw [z] at q
         exact q.elim
       | some w =>
         rw [z] at q
         exact ix_tup value slice pins s σ H _ _ v u Q I rx ry ⟨_, xs, _, w, rfl, rfl, SqT.of e, nthI_at z, q⟩ hs)
theorem i_lst : IxR X (dIxL X.K) := by
  intro value slice pins s σ H x y v u Q I rx ry h hs
  cases x <;> cases y <;> first
    | exact False.elim h
    | (obtain ⟨xs, w, e, z, q⟩ := h
       exact ix_list value slice pins s σ H _ _ v u Q I rx ry ⟨_, xs, _, w, rfl, rfl, e, z, q⟩ hs)
theorem e_ty (T : String) {x : Str} (hg : Gl X x) (hm : X.mg x = none) (hv : bootBuiltins x = some (.type T)) (hn : x ≠ "__name__" := by decide) (hd : (x == ("__debug__" : Str)) = false := by decide) : PE X (.Name x pos) (tC (.ty T)) :=
  pe_bltn hg hm hv rfl hn hd
def dAbs : List V → Hp → VK → Prop := fun xs H Q => match xs with
  | [.int i] => Q (.int (i.natAbs : Int)) H
  | _ => False
theorem c_abs : CallR X (.builtin "abs") dAbs := by
  intro pins s σ H xs us Q I r h
  match xs, h with
  | [.int i], h =>
    have e : (if i < 0 then -i else i) = (i.natAbs : Int) := by split <;> omega
    exact call_abs pins s σ H _ us Q I r ⟨i, rfl, by rw [e]; exact h⟩
def dLen (K : PySem.W.Frag) : List V → Hp → VK → Prop := fun xs H Q => match xs with
  | [.ref p] => ∃ ys, (SqL K H p ys ∨ SqT K H p ys) ∧ Q (.int ys.length) H
  | [.str z] => z.length ≤ sizeLine ∧ Q (.int z.length) H
  | _ => False
theorem c_len : CallR X (.builtin "len") (dLen X.K) := by
  intro pins s σ H xs us Q I r h
  match xs, h with
  | [.ref p], ⟨ys, h1, q⟩ => exact call_len_seq pins s σ H _ us Q I r ⟨p, ys, rfl, h1, q⟩
  | [.str z], ⟨h1, q⟩ => exact call_len_str pins s σ H _ us Q I r ⟨z, rfl, h1, q⟩
def tyB (t c : String) : Option Bool :=
  if t = c then some true else if t = "bool" ∧ c = "int" then some true
  else if (t = "int" ∨ t = "bool" ∨ t = "str" ∨ t = "tuple" ∨ t = "list" ∨ t = "dict" ∨ t = "NoneType") ∧ (c = "int" ∨ c = "bool" ∨ c = "str" ∨ c = "tuple" ∨ c = "list") then some false else none
def tyHO : HO → Option String
  | .lst _ => some "list"
  | .frz _ (.lst _) => some "list"
  | .tup _ => some "tuple"
  | .dK _ => some "dict"
  | .dT _ => some "dict"
  | _ => none
def dIsi : List V → Hp → VK → Prop := fun xs H Q => match xs with
  | [.non, .ty c] => ∃ b, tyB "NoneType" c = some b ∧ Q (.bl b) H
  | [.bl _, .ty c] => ∃ b, tyB "bool" c = some b ∧ Q (.bl b) H
  | [.int _, .ty c] => ∃ b, tyB "int" c = some b ∧ Q (.bl b) H
  | [.str _, .ty c] => ∃ b, tyB "str" c = some b ∧ Q (.bl b) H
  | [.ref p, .ty c] => ∃ u b t, H p = some u ∧ tyHO u = some t ∧ tyB t c = some b ∧ Q (.bl b) H
  | _ => False
theorem kit_tyB (K : PySem.W.Frag) {t c : String} {b : Bool} (h : tyB t c = some b) : PySem.W.kitOne K (.type t) (.type c) = some b := by
  unfold tyB at h
  split at h
  · rename_i e
    subst e
    cases h
    unfold PySem.W.kitOne
    rw [if_pos (by simp)]
  · split at h
    · rename_i e
      obtain ⟨rfl, rfl⟩ := e
      cases h
      kernel_rfl
    · split at h
      · rename_i e1 e2 e
        cases h
        obtain ⟨ht, hc⟩ := e
        rcases ht with rfl | rfl | rfl | rfl | rfl | rfl | rfl <;> rcases hc with rfl | rfl | rfl | rfl | rfl <;> first
          | exact absurd rfl e1
          | exact absurd ⟨rfl, rfl⟩ e2
          | kernel_rfl
      · cases h
theorem c_isi : CallR X (.builtin "isinstance") dIsi := by
  intro pins s σ H xs us Q I r h
  match xs, h with
  | [.non, .ty c], ⟨b, e, q⟩ =>
    obtain ⟨u, w', rfl, r1, r2⟩ := vals2 r
    cases (show w' = Value.type c from r2)
    exact isinst_ok I r1 .non (kit_tyB X.K e) fun tk => ⟨.bl b, H, I.tok _, rfl, q⟩
  | [.bl y, .ty c], ⟨b, e, q⟩ =>
    obtain ⟨u, w', rfl, r1, r2⟩ := vals2 r
    cases (show w' = Value.type c from r2)
    exact isinst_ok I r1 (.bl y) (kit_tyB X.K e) fun tk => ⟨.bl b, H, I.tok _, rfl, q⟩
  | [.int y, .ty c], ⟨b, e, q⟩ =>
    obtain ⟨u, w', rfl, r1, r2⟩ := vals2 r
    cases (show w' = Value.type c from r2)
    exact isinst_ok I r1 (.int y) (kit_tyB X.K e) fun tk => ⟨.bl b, H, I.tok _, rfl, q⟩
  | [.str y, .ty c], ⟨b, e, q⟩ =>
    obtain ⟨u, w', rfl, r1, r2⟩ := vals2 r
    cases (show w' = Value.type c from r2)
    exact isinst_ok I r1 (.str y) (kit_tyB X.K e) fun tk => ⟨.bl b, H, I.tok _, rfl, q⟩
  | [.ref p, .ty c], ⟨o, b, t, e1, e2, e, q⟩ =>
    obtain ⟨u, w', rfl, r1, r2⟩ := vals2 r
    cases (show w' = Value.type c from r2)
    have ty : TyOf X.K H (.ref p) (.type t) := by
      cases o with
      | lst ys => cases e2; exact .lst e1
      | tup ys => cases e2; exact .tup e1
      | dK ys => cases e2; exact .dK e1
      | dT ys => cases e2; exact .dT e1
      | frz ob u =>
        cases u with
        | lst ys => cases e2; exact .frz e1
        | _ => cases e2
      | _ => cases e2
    exact isinst_ok I r1 ty (kit_tyB X.K e) fun tk => ⟨.bl b, H, I.tok _, rfl, q⟩
end
section
variable {X : Cx} {pos : Pos}
def dWhile (c : TT) (tb : TS) : TS := fun D σ H => ∃ W : Nat → L2.St → Hp → Prop, (∃ m, W m σ H) ∧ ∀ m σ H, W m σ H →
  c σ H fun b H1 => Br b (tb { D with nx := fun σ' H' => ∃ m', m' < m ∧ W m' σ' H', ct := fun σ' H' => ∃ m', m' < m ∧ W m' σ' H', bk := D.nx } σ H1) (D.nx σ H1)
theorem s_while {c : Expr} {body : List Stmt} {tc : TT} {tb : TS} (hp : PassesOwn (model X.prog X.w) X.A X.env X.xe) (hc : PT X c tc) (hb : PSs X body tb) : PS X (.While c body [] pos) (dWhile tc tb) := by
  intro pins s σ H D I h
  obtain ⟨W, ⟨m0, w0⟩, turn⟩ := h
  refine wpAny_While (codeAny_whileLoop (fun n s' => ∃ σ' H', Inv X pins σ' H' s' ∧ W n σ' H') ?_ m0 ⟨σ, H, I, w0⟩)
  rintro n s1 ⟨σ1, H1, I1, w1⟩
  refine wpAny_passesOwn hp (thn (hc pins s1 σ1 H1 _ I1 (turn n σ1 H1 w1)) fun b s2 ⟨H2, I2, q2⟩ => ?_)
  cases b with
  | true =>
    have q2 := q2.1 rfl
    rw [if_pos rfl]
    refine wpAny_passesOwn hp (thn (hb pins s2 σ1 H2 _ I2 q2) fun f s3 q3 => ?_)
    cases f with
    | next =>
      obtain ⟨σ3, H3, I3, m', hm, w3⟩ := q3
      exact ⟨m', hm, σ3, H3, I3, w3⟩
    | cont =>
      obtain ⟨σ3, H3, I3, m', hm, w3⟩ := q3
      exact ⟨m', hm, σ3, H3, I3, w3⟩
    | brk => exact q3
    | ret v => exact q3
  | false =>
    rw [if_neg Bool.false_ne_true]
    exact wpAny_execs_nil ⟨σ1, H2, I2, q2.2 rfl⟩
end
structure Dfn (K : PySem.W.Frag) (mg : Str → Option Value) (x : Str) (st : Stmt) (ps : List Str) : Prop where
  ex : ∃ (f : Addr) (fd : FuncData), Fun K x x st f fd ∧ mg x = some (.ref f) ∧ Binds K fd ps []
section
variable {P : Program} {w : World} {K : PySem.W.Frag} {mg : Str → Option Value} {base : Heap}
theorem Dfn.calX {x : Str} {st : Stmt} {N ps : List Str} {k : Nat} {sp : Sp} (d : Dfn K mg x st ps) (S : FnScope N ps (defScope st)) (len : ∀ vs H Q E, sp vs H Q E → vs.length = ps.length)
    (hbody : ∀ (f : Addr) (cdv : Value) (A : Around) (outer : List Env) (s : Shared) (H : Hp) (vs : List V) (Q : VK) (E : XK), Room k (A.deeper (envOfC x (defScope st) s.heap.objs.size f cdv)) → sp vs H Q E →
      ∃ t, PSs (cxOf (CXE P w) P w K mg base N x (defScope st) f cdv A outer s H E) (defBody st) t ∧ t { nx := fun _ H' => Q .non H', rt := Q } (start N vs) H) : Cal P w K mg base x ps (k + 1) sp := by
  obtain ⟨f, fd, F, hm, hb⟩ := d.ex
  obtain ⟨oc, od, kV, doc, pm, an, cdv, ct, osl, rfl, lk, hcd⟩ := F.ex
  exact ⟨f, _, hm, F.kp, hb, fn_of lk hcd S len fun A outer s H vs Q E hr hsp => hbody f cdv A outer s H vs Q E hr hsp, oc, od, osl, lk⟩
theorem Dfn.cal {x : Str} {st : Stmt} {N ps : List Str} {k : Nat} {sp : Sp} (d : Dfn K mg x st ps) (S : FnScope N ps (defScope st)) (len : ∀ vs H Q E, sp vs H Q E → vs.length = ps.length)
    (hbody : ∀ (f : Addr) (cdv : Value) (A : Around) (outer : List Env) (s : Shared) (H : Hp) (vs : List V) (Q : VK) (E : XK), Room k (A.deeper (envOfC x (defScope st) s.heap.objs.size f cdv)) → sp vs H Q E →
      ∃ t, PSs (cxOf (CXE P w) P w K mg base N x (defScope st) f cdv A outer s H E).nox (defBody st) t ∧ t { nx := fun _ H' => Q .non H', rt := Q } (start N vs) H) : Cal P w K mg base x ps (k + 1) sp :=
  d.calX S len fun f cdv A outer s H vs Q E hr hsp => by
    obtain ⟨t, h, q⟩ := hbody f cdv A outer s H vs Q E hr hsp
    exact ⟨t, h.nox, q⟩
def sp_law (K : PySem.W.Frag) (ns : List Int) : Sp := fun vs H Q _ => match vs with
  | [.ref a] => SqL K H a (ns.map V.int) ∧ ns.length ≤ 63 ∧ ∀ H', Q (.bl true) H'
  | _ => False
def sp_lawA (K : PySem.W.Frag) : Sp := fun vs H Q _ => ∃ (ns : List Int) (a : Addr), vs = [.ref a] ∧ SqL K H a (ns.map V.int) ∧ ns.length ≤ 63 ∧ ∀ H', Q (.bl true) H'
theorem law_fn {k : Nat} {st : Stmt} {f : Addr} {fd : FuncData} (F : Fun K "law" "law" st f fd) (hm : mg "law" = some (.ref f)) (C : ∀ ns, Cal P w K mg base "law" ["_law_script"] k (sp_law K ns)) : FnOk P w K mg base (CXE P w) k f fd ["_law_script"] (sp_lawA K) := by
  refine ⟨fun vs H Q E h => ?_, fun A outer s H args us vs Q E hr he hb hv hs => ?_⟩
  · obtain ⟨ns, a, rfl, _⟩ := h
    rfl
  · obtain ⟨ns, a, rfl, h1, h2, h3⟩ := hs
    obtain ⟨f', fd', e1, e2, e3, G, oc', od', osl', lk'⟩ := (C ns).ex
    obtain ⟨oc, od, kV, doc, pm, an, cdv, ct, osl, _, lk, _⟩ := F.ex
    rw [hm] at e1
    cases e1
    rw [lk] at lk'
    cases lk'
    exact G.run A outer s H args us _ Q E hr he hb hv ⟨h1, h2, h3⟩
end
theorem sm_sqT {K : PySem.W.Frag} {H H' : Hp} {a : Addr} {xs : List V} (e : Same H H') (h : SqT K H a xs) : SqT K H' a xs := by
  rcases h with (h | ⟨o, h⟩) | h
  · exact .inl (.inl (e _ _ h))
  · exact .inl (.inr ⟨o, e _ _ h⟩)
  · exact .inr h
mutual
inductive Rp (K : PySem.W.Frag) (H : Hp) : V → PyData → Prop where
  | non : Rp K H .non .none
  | bl (b : Bool) : Rp K H (.bl b) (.bool b)
  | int (i : Int) : Rp K H (.int i) (.int i)
  | str (x : Str) : Rp K H (.str x) (.str x)
  | tup {p : Addr} {xs : List V} {ds : List PyData} : SqT K H p xs → RpL K H xs ds → Rp K H (.ref p) (.tuple ds)
  | lst {p : Addr} {xs : List V} {ds : List PyData} : SqL K H p xs → RpL K H xs ds → Rp K H (.ref p) (.list ds)
inductive RpL (K : PySem.W.Frag) (H : Hp) : List V → List PyData → Prop where
  | nil : RpL K H [] []
  | cons {v : V} {d : PyData} {vs : List V} {ds : List PyData} : Rp K H v d → RpL K H vs ds → RpL K H (v :: vs) (d :: ds)
end
mutual
theorem Rp.up {K : PySem.W.Frag} {H H' : Hp} (s : Same H H') : ∀ {v : V} {d : PyData}, Rp K H v d → Rp K H' v d
  | _, _, .non => .non
  | _, _, .bl b => .bl b
  | _, _, .int i => .int i
  | _, _, .str x => .str x
  | _, _, .tup h r => .tup (sm_sqT s h) (RpL.up s r)
  | _, _, .lst h r => .lst (s.seq h) (RpL.up s r)
theorem RpL.up {K : PySem.W.Frag} {H H' : Hp} (s : Same H H') : ∀ {v : List V} {d : List PyData}, RpL K H v d → RpL K H' v d
  | _, _, .nil => .nil
  | _, _, .cons h r => .cons (Rp.up s h) (RpL.up s r)
end
section
variable {X : Cx}
mutual
theorem Rp.reads {pins : List (Addr × Obj)} {σ : L2.St} {H : Hp} {s : Shared} (I : Inv X pins σ H s) : ∀ {v : V} {d : PyData} {u : Value}, Rp X.K H v d → L2.RelV v u → ∃ as, Reads s.heap u d as
  | _, _, _, .non, r => by cases r; exact ⟨_, Reads.none⟩
  | _, _, _, .bl b, r => by cases r; exact ⟨_, Reads.bool b⟩
  | _, _, _, .int i, r => by obtain ⟨t, rfl⟩ := r; exact ⟨_, Reads.int i t⟩
  | _, _, _, .str i, r => by obtain ⟨t, rfl⟩ := r; exact ⟨_, Reads.str i t⟩
  | _, _, _, .tup h q, r => by
    cases r
    obtain ⟨its, rv, ⟨o, e, c, n, dd⟩, _⟩ := I.tuple h
    obtain ⟨as, ra⟩ := RpL.reads I q rv
    exact ⟨as, reads_tuple_at e c dd (by simpa using ra)⟩
  | _, _, _, .lst h q, r => by
    cases r
    obtain ⟨its, rv, ⟨o, n, e, c, _, dd⟩, _⟩ := I.list h
    obtain ⟨as, ra⟩ := RpL.reads I q rv
    exact ⟨_, reads_list_at e c dd (by simpa using ra)⟩
theorem RpL.reads {pins : List (Addr × Obj)} {σ : L2.St} {H : Hp} {s : Shared} (I : Inv X pins σ H s) : ∀ {v : List V} {d : List PyData} {u : List Value}, RpL X.K H v d → Vals v u → ∃ as, ReadsAll s.heap u d as
  | _, _, _, .nil, r => by cases r; exact ⟨_, ReadsAll.nil⟩
  | _, _, _, .cons h q, r => by
    cases r with
    | cons r1 r2 =>
      obtain ⟨as, ra⟩ := Rp.reads I h r1
      obtain ⟨bs, rb⟩ := RpL.reads I q r2
      exact ⟨_, ReadsAll.cons ra rb⟩
end
def dEqD (K : PySem.W.Frag) : R2 := fun x y H Q => ∃ d e, Rp K H x d ∧ Rp K H y e ∧ SeqAt.shaped d = true ∧ SeqAt.shaped e = true ∧ Q (.bl (PyData.eqv d e)) H
def dNeD (K : PySem.W.Frag) : R2 := fun x y H Q => ∃ d e, Rp K H x d ∧ Rp K H y e ∧ SeqAt.shaped d = true ∧ SeqAt.shaped e = true ∧ Q (.bl (!PyData.eqv d e)) H
theorem o_eqD (hu : X.A.units + 64 < cLine) : OpR X (compareOp .Eq) (dEqD X.K) := by
  intro pins s σ H x y v u Q I rx ry q
  obtain ⟨d, e, h1, h2, h3, h4, q⟩ := q
  obtain ⟨as, r1⟩ := h1.reads I rx
  obtain ⟨bs, r2⟩ := h2.reads I ry
  exact PyProof.Rows.eq_dataH r1 r2 h3 h4 hu ⟨.bl _, H, I, rfl, q⟩
theorem o_neD (hu : X.A.units + 64 < cLine) : OpR X (compareOp .NotEq) (dNeD X.K) := by
  intro pins s σ H x y v u Q I rx ry q
  obtain ⟨d, e, h1, h2, h3, h4, q⟩ := q
  obtain ⟨as, r1⟩ := h1.reads I rx
  obtain ⟨bs, r2⟩ := h2.reads I ry
  exact PyProof.Rows.ne_dataH r1 r2 h3 h4 hu ⟨.bl _, H, I, rfl, q⟩
end
end Lw
end
section
set_option Elab.async false
set_option linter.all false
set_option maxRecDepth 100000
set_option maxHeartbeats 4000000
set_option exponentiation.threshold 5000
namespace Lw
open PySem PySem.Spec PyProof.Rows L2
def cell (ns : List Int) (k : Int) : Int := if ns.length = 0 then 0 else ns.getD (k % (ns.length : Int)).toNat 0
def draw (ns : List Int) (k m : Int) : Int := (cell ns k + 1) * (k * k + 7 * k + 48271) % 99991 / 3 % m
theorem bd_lit {n : Nat} {x : Int} (h : Nat.blt x.natAbs (2 ^ n) = true) : Bd n x := by
  unfold Bd
  exact Nat.lt_of_lt_of_le (Nat.lt_of_succ_le (Nat.le_of_ble_eq_true h)) (Nat.le_refl _)
theorem Bd.mono {m n : Nat} {x : Int} (h : Bd m x) (l : m ≤ n) : Bd n x := Nat.lt_of_lt_of_le h (Nat.pow_le_pow_right (by decide) l)
theorem Bd.mul {m n : Nat} {x y : Int} (h : Bd m x) (l : Bd n y) : Bd (m + n) (x * y) := by
  unfold Bd at *
  rw [Int.natAbs_mul, Nat.pow_add]
  by_cases z : y.natAbs = 0
  · rw [z, Nat.mul_zero]
    exact Nat.mul_pos (Nat.pow_pos (by decide)) (Nat.pow_pos (by decide))
  · exact Nat.lt_of_lt_of_le (Nat.mul_lt_mul_of_pos_right h (Nat.pos_of_ne_zero z)) (Nat.mul_le_mul_left _ (Nat.le_of_lt l))
theorem Bd.add {n : Nat} {x y : Int} (h : Bd n x) (l : Bd n y) : Bd (n + 1) (x + y) := by
  unfold Bd at *
  have := Int.natAbs_add_le x y
  rw [Nat.pow_succ]
  omega
theorem Bd.of_le {n : Nat} {x y : Int} (h : Bd n y) (l : x.natAbs ≤ y.natAbs) : Bd n x := Nat.lt_of_le_of_lt l h
theorem bd_of {x b : Int} {n : Nat} (h1 : -b ≤ x) (h2 : x ≤ b) (h : Bd n b) : Bd n x := h.of_le (by omega)
def lowT (t b : Int) : Int := t / (Int.gcd t b : Int)
def lowB (t b : Int) : Int := b / (Int.gcd t b : Int)
theorem gcd_pos' (t : Int) {b : Int} (hb : 0 < b) : 0 < (Int.gcd t b : Int) := by
  have : 0 < Int.gcd t b := Int.gcd_pos_of_ne_zero_right _ (by omega)
  omega
theorem lowT_mul (t b : Int) : lowT t b * (Int.gcd t b : Int) = t := Int.ediv_mul_cancel (Int.gcd_dvd_left ..)
theorem lowB_mul (t b : Int) : lowB t b * (Int.gcd t b : Int) = b := Int.ediv_mul_cancel (Int.gcd_dvd_right ..)
theorem lowB_pos (t : Int) {b : Int} (hb : 0 < b) : 0 < lowB t b := by
  have h := lowB_mul t b
  have g := gcd_pos' t hb
  refine Int.lt_of_not_ge fun c => ?_
  have := Int.mul_nonpos_of_nonpos_of_nonneg c (Int.le_of_lt g)
  omega
theorem natAbs_ediv_le' (x : Int) (g : Nat) : (x / (g : Int)).natAbs ≤ x.natAbs := Int.natAbs_ediv_le_natAbs x g
theorem bd_lowT {n : Nat} {t b : Int} (h : Bd n t) : Bd n (lowT t b) := h.of_le (natAbs_ediv_le' ..)
theorem bd_lowB {n : Nat} {t b : Int} (h : Bd n b) : Bd n (lowB t b) := h.of_le (natAbs_ediv_le' ..)
structure Fq (n : Nat) (H : Hp) (p : Addr) (a b : Int) : Prop where
  at' : H p = some (.tup [.int a, .int b])
  pos : 0 < b
  ba : Bd n a
  bb : Bd n b
theorem Fq.up {n : Nat} {H H' : Hp} {p : Addr} {a b : Int} (s : Same H H') (h : Fq n H p a b) : Fq n H' p a b := ⟨s _ _ h.at', h.pos, h.ba, h.bb⟩
theorem Fq.mono {m n : Nat} {H : Hp} {p : Addr} {a b : Int} (h : Fq m H p a b) (l : m ≤ n) : Fq n H p a b := ⟨h.at', h.pos, h.ba.mono l, h.bb.mono l⟩
abbrev Q2 := Int × Int
def ltQ (x y : Q2) : Bool := decide (x.1 * y.2 < y.1 * x.2)
def sumQ (x y : Q2) : Q2 := (lowT (x.1 * y.2 + y.1 * x.2) (x.2 * y.2), lowB (x.1 * y.2 + y.1 * x.2) (x.2 * y.2))
theorem cok {m n : Nat} {i j : Int} (h : Bd m i) (h' : Bd n j) (l : m ≤ 4000) (l' : n ≤ 4000) : COk i j := .inl ⟨h.mono l, h'.mono l'⟩
structure Pq (n : Nat) (H : Hp) (r : Addr) (lo : Q2) (hi : Option Q2) : Prop where
  ex : ∃ l x, H r = some (.tup [.ref l, x]) ∧ Fq n H l lo.1 lo.2 ∧ (hi = none ∧ x = .non ∨ ∃ q y, hi = some y ∧ x = .ref q ∧ Fq n H q y.1 y.2)
def okHi (lo : Q2) (hi : Option Q2) : Prop := 0 < lo.2 ∧ ∀ h, hi = some h → 0 < h.2 ∧ ltQ h lo = false
def bnQ (hi : Option Q2) (lo : Q2) : Bool := match hi with
  | none => false
  | some h => ltQ h lo
def inQ (x lo : Q2) (hi : Option Q2) : Bool := !ltQ x lo && !bnQ hi x
theorem gcd_fmod (a b : Int) : Int.gcd b (a.fmod b) = Int.gcd a b := by
  rw [Int.fmod_def, Int.gcd_sub_mul_left_right, Int.gcd_comm]
theorem fmod_lt (a : Int) {b : Int} (h : b ≠ 0) : (a.fmod b).natAbs < b.natAbs := by
  have e0 := Int.emod_nonneg a h
  have e1 := Int.emod_lt a h
  rw [Int.fmod_eq_emod]
  by_cases c : 0 ≤ b ∨ b ∣ a
  · rw [if_pos c]
    omega
  · rw [if_neg c]
    have e2 : a % b ≠ 0 := fun z => c (.inr (Int.dvd_of_emod_eq_zero z))
    have : ¬ 0 ≤ b := fun z => c (.inl z)
    omega
def frT (t b : Int) : Int := if b < 0 then -lowT t b else lowT t b
def frB (t b : Int) : Int := if b < 0 then -lowB t b else lowB t b
def dvs (t b : Int) : Int := if b < 0 then -(Int.gcd t b : Int) else (Int.gcd t b : Int)
theorem gcd_ne (t : Int) {b : Int} (hb : b ≠ 0) : 0 < (Int.gcd t b : Int) := by
  have : 0 < Int.gcd t b := Int.gcd_pos_of_ne_zero_right _ hb
  omega
theorem dvs_ne (t : Int) {b : Int} (hb : b ≠ 0) : dvs t b ≠ 0 := by
  have := gcd_ne t hb
  unfold dvs
  split <;> omega
theorem bd_dvs {n : Nat} (t : Int) {b : Int} (hb : b ≠ 0) (h : Bd n b) : Bd n (dvs t b) := by
  have l := Nat.le_of_dvd (by omega : 0 < b.natAbs) (show Int.gcd t b ∣ b.natAbs from Nat.gcd_dvd_right ..)
  refine h.of_le ?_
  unfold dvs
  split <;> omega
theorem fdiv_T (t : Int) {b : Int} (hb : b ≠ 0) : t.fdiv (dvs t b) = frT t b := by
  have g := gcd_ne t hb
  have h := lowT_mul t b
  unfold dvs frT
  split
  · have e : t = (-lowT t b) * (-(Int.gcd t b : Int)) := by rw [Int.neg_mul_neg]; exact h.symm
    exact (congrArg (fun z => z.fdiv (-(Int.gcd t b : Int))) e).trans (Int.mul_fdiv_cancel _ (by omega))
  · exact (congrArg (fun z => z.fdiv (Int.gcd t b : Int)) h.symm).trans (Int.mul_fdiv_cancel _ (by omega))
theorem fdiv_B (t : Int) {b : Int} (hb : b ≠ 0) : b.fdiv (dvs t b) = frB t b := by
  have g := gcd_ne t hb
  have h := lowB_mul t b
  unfold dvs frB
  split
  · have e : b = (-lowB t b) * (-(Int.gcd t b : Int)) := by rw [Int.neg_mul_neg]; exact h.symm
    exact (congrArg (fun z => z.fdiv (-(Int.gcd t b : Int))) e).trans (Int.mul_fdiv_cancel _ (by omega))
  · exact (congrArg (fun z => z.fdiv (Int.gcd t b : Int)) h.symm).trans (Int.mul_fdiv_cancel _ (by omega))
structure FrAt (H : Hp) (p : Addr) (t b : Int) : Prop where
  at' : H p = some (.tup [.int (frT t b), .int (frB t b)])
theorem FrAt.up {H H' : Hp} {p : Addr} {t b : Int} (s : Same H H') (h : FrAt H p t b) : FrAt H' p t b := ⟨s _ _ h.at'⟩
end Lw
end
section
set_option Elab.async false
set_option linter.all false
set_option maxRecDepth 100000
set_option maxHeartbeats 4000000
namespace Lw
open PySem PySem.Spec PyProof.Rows L2
def ItK (kd : Bool) (h : Heap) (it l : Addr) (k : Nat) : Prop := match kd with
  | true => h.IsListIter it l k
  | false => h.IsTupleIter it l k
def SeK (kd : Bool) (h : Heap) (l : Addr) (xs : Array Value) : Prop := match kd with
  | true => h.IsList l xs
  | false => h.IsTuple l xs
def SqK (kd : Bool) (K : PySem.W.Frag) (H : Hp) (a : Addr) (xs : List V) : Prop := match kd with
  | true => SqL K H a xs
  | false => SqT K H a xs
section
variable {prog : Program} {w : World} {A : Around} {E : Value → Shared → Prop} {s : Shared}
structure ZAt (k1 k2 : Bool) (z TI TO i1 i2 l1 l2 : Addr) (n : Nat) (h : Heap) : Prop where
  z : IsZip h z TI TO .none
  ti : IsPair h TI (.ref i1) (.ref i2)
  to : ∃ a b, IsPair h TO a b
  a : ItK k1 h i1 l1 n
  b : ItK k2 h i2 l2 n
def itO (kd : Bool) (l : Addr) : Obj := match kd with
  | true => { cls := .type "list_iterator", data := .fields #[.ref l, .int 0 0] }
  | false => { cls := .type "tuple_iterator", data := .fields #[.ref l, .int 0 0] }
end
abbrev zK1 (k1 : Bool) (h : Heap) (l1 : Addr) : Heap := h.push (itO k1 l1)
abbrev zK2 (k1 k2 : Bool) (h : Heap) (l1 l2 : Addr) : Heap := (zK1 k1 h l1).push (itO k2 l2)
abbrev zK3 (k1 k2 : Bool) (h : Heap) (l1 l2 : Addr) : Heap := (zK2 k1 k2 h l1 l2).push { cls := .type "tuple", data := .seq #[.ref h.objs.size, .ref (zK1 k1 h l1).objs.size] }
abbrev zK4 (k1 k2 : Bool) (h : Heap) (l1 l2 : Addr) : Heap := (zK3 k1 k2 h l1 l2).push { cls := .type "tuple", data := .seq #[.none, .none] }
abbrev zK5 (k1 k2 : Bool) (h : Heap) (l1 l2 : Addr) : Heap := (zK4 k1 k2 h l1 l2).push { cls := .type "zip", data := .fields #[.none, .bool false, .bool false, .ref (zK2 k1 k2 h l1 l2).objs.size, .ref (zK3 k1 k2 h l1 l2).objs.size] }
section
variable {prog : Program} {w : World} {A : Around} {E : Value → Shared → Prop} {s : Shared}
end
section
variable {X : Cx}
theorem inv_moved {pins : List (Addr × Obj)} {σ : L2.St} {H : Hp} {s : Shared} {h' : Heap} {t' : Nat} {fp : List Addr} (I : Inv X pins σ H s) (k : ∀ b o, b ∉ fp → s.heap.get? b = some o → h'.get? b = some o) (hf : ∀ b ∈ fp, FpOk X pins H b) :
    Inv X pins σ H { s with heap := h', toks := t' } := by
  have nit : ∀ b u, H b = some u → b ∉ fp := fun b u e z => by rw [(hf b z).1] at e; cases e
  refine I.step (g' := s.gens) (d' := s.drawn) (ch := fp) (fun b hb => ?_) (fun b o _ _ hc e _ => k b o hc e) (fun b o _ _ hc e _ => ⟨o.slots, k b o hc e⟩) (fun _ _ _ _ n => n) (fun b o hc e => ⟨o, k b o hc e⟩) (fun _ _ e => e) (fun _ _ _ e => e)
    (fun b ps e => ⟨#[], by rw [e]; simp⟩) (fun m hm => ?_) (fun b u e => ?_) I.bare
  · obtain ⟨_, f1, f2, f3, f4, f5⟩ := hf b hb
    exact ⟨f3, f1, f4, f5⟩
  · obtain ⟨o, es, ep, ho, r⟩ := hm
    exact ⟨o, es, ep, k _ o (fun z => (hf _ z).2.1 rfl) ho, r⟩
  · refine (I.hok b u e).stay (fun c v hc q => k c v ?_ q) (fun _ q => q) fun _ _ q => q
    rcases hc with z | z
    · rw [z]; exact nit b u e
    · exact nit c _ z
theorem inv_zipped {pins : List (Addr × Obj)} {σ : L2.St} {H : Hp} {s : Shared} {h' : Heap} {t' : Nat} {fp : List Addr} {a : Addr} {o : HO} (I : Inv X pins σ H s) (k : ∀ b o, b ∉ fp → s.heap.get? b = some o → h'.get? b = some o) (hf : ∀ b ∈ fp, FpOk X pins H b)
    (hp : s.heap.objs.size ≤ a) (new : ObjOk X.prog X.w (upd H a o) h' a o) : Inv X pins σ (upd H a o) { s with heap := h', toks := t' } := by
  have hn := I.hok.fresh hp
  have nit : ∀ b u, H b = some u → b ∉ fp := fun b u e z => by rw [(hf b z).1] at e; cases e
  have old : ∀ b u, H b = some u → upd H a o b = some u := fun b u e => by rw [upd_ne (ne_of_none e hn)]; exact e
  refine I.step (g' := s.gens) (d' := s.drawn) (ch := fp) (fun b hb => ?_) (fun b o _ _ hc e _ => k b o hc e) (fun b o _ _ hc e _ => ⟨o.slots, k b o hc e⟩) (fun b u _ e n => ?_) (fun b o hc e => ⟨o, k b o hc e⟩) (fun b xs e => old b _ e) (fun b ob u e => old b _ e)
    (fun b ps e => ⟨#[], by rw [old b _ e]; simp⟩) (fun m hm => ?_) (fun b u e => ?_) I.bare
  · obtain ⟨_, f1, f2, f3, f4, f5⟩ := hf b hb
    exact ⟨f3, f1, f4, f5⟩
  · rw [upd_ne (Nat.ne_of_lt (Nat.lt_of_lt_of_le (Heap.lt_size e) hp))]
    exact n
  · obtain ⟨o, es, ep, ho, r⟩ := hm
    exact ⟨o, es, ep, k _ o (fun z => (hf _ z).2.1 rfl) ho, r⟩
  · by_cases hb : b = a
    · subst hb; rw [upd_same] at e; cases e; exact new
    · rw [upd_ne hb] at e
      refine (I.hok b u e).stay (fun c v hc q => k c v ?_ q) (fun c q => old c _ q) fun c xs q => old c _ q
      rcases hc with z | z
      · rw [z]; exact nit b u e
      · exact nit c _ z
theorem sq_val {kd : Bool} {pins : List (Addr × Obj)} {σ : L2.St} {H : Hp} {s : Shared} {a : Addr} {xs : List V} (I : Inv X pins σ H s) (h : SqK kd X.K H a xs) : ∃ its : List Value, Vals xs its ∧ SeK kd s.heap a its.toArray := by
  cases kd with
  | true => obtain ⟨its, r, p, _⟩ := I.list h; exact ⟨its, r, p.isList⟩
  | false => obtain ⟨its, r, p, _⟩ := I.tuple h; exact ⟨its, r, p⟩
theorem sq_inj {kd : Bool} {pins : List (Addr × Obj)} {σ : L2.St} {H : Hp} {s : Shared} {a : Addr} {xs ys : List V} (I : Inv X pins σ H s) (h : SqK kd X.K H a xs) (h' : SqK kd X.K H a ys) : xs = ys := by
  cases kd with
  | true => exact I.list_inj h h'
  | false => exact I.tuple_inj h h'
def Itz (k1 k2 : Bool) (K : PySem.W.Frag) (a b : Addr) : It :=
  ⟨fun i H => ∃ xs ys x y, SqK k1 K H a xs ∧ SqK k2 K H b ys ∧ xs[i]? = some x ∧ ys[i]? = some y,
   fun i H v H' => ∃ t x y, v = .ref t ∧ H t = none ∧ H' = upd H t (.tup [x, y]) ∧ (∀ xs, SqK k1 K H a xs → xs[i]? = some x) ∧ ∀ ys, SqK k2 K H b ys → ys[i]? = some y,
   fun i H => ∃ xs ys, SqK k1 K H a xs ∧ SqK k2 K H b ys ∧ (xs.length ≤ i ∨ ys.length ≤ i)⟩
def iZip (k1 k2 : Bool) (K : PySem.W.Frag) (ta : TA) : TI := fun σ H R => ta σ H fun vs H1 => match vs with
  | [.ref a, .ref b] => (∃ xs, SqK k1 K H1 a xs) ∧ (∃ ys, SqK k2 K H1 b ys) ∧ R (Itz k1 k2 K a b) H1
  | _ => False
end
section
variable {X : Cx}
def dCatL : R2 := fun x y H Q => match x, y with
  | .ref l, .ref b => ∃ xs zs, H l = some (.lst xs) ∧ H b = some (.lst zs) ∧ xs.length + zs.length ≤ 1000 ∧ ∀ p H', Same H H' → H' p = some (.lst (xs ++ zs)) → Q (.ref p) H'
  | _, _ => False
theorem o_catL : OpR X (binaryOp .Add) dCatL := by
  intro pins s σ H x y v u Q I rx ry q
  cases x <;> cases y <;> first
    | exact False.elim q
    | (obtain ⟨xs, zs, h1, h2, h3, q⟩ := q
       exact op_cat _ _ _ _ _ _ _ _ _ I rx ry ⟨_, _, xs, zs, rfl, rfl, h1, h2, Nat.le_trans h3 (by decide), fun p hp => q p _ (same_upd hp) upd_same⟩)
def dSlL (K : PySem.W.Frag) : V → Option Int → Option Int → Hp → VK → Prop := fun x lo hi H Q => match x with
  | .ref a => ∃ xs, SqL K H a xs ∧ ∀ p H', Same H H' → H' p = some (.lst (cutV xs lo hi)) → Q (.ref p) H'
  | _ => False
theorem sl_lst : SlR X (dSlL X.K) := by
  intro pins s σ H x v vl vu lo hi sl Q I rx hs pl pu h
  cases x <;> first
    | exact False.elim h
    | (obtain ⟨xs, h1, q⟩ := h
       exact sl_list _ _ _ _ _ _ _ _ _ _ _ _ I rx hs pl pu ⟨_, xs, rfl, h1, fun p hp => q p _ (same_upd hp) upd_same⟩)
end
def AllFq (n : Nat) (H : Hp) (vs : List V) : Prop := ∀ v ∈ vs, ∃ (p : Addr) (x : Q2), v = .ref p ∧ Fq n H p x.1 x.2
end Lw
end
section
set_option Elab.async false
set_option linter.all false
set_option maxRecDepth 100000
set_option maxHeartbeats 4000000
namespace Lw
open PySem PySem.Spec PyProof.Rows L2
section
variable {X : Cx} {pos : Pos}
def dD0 : TE := fun _ H Q => ∀ p H', Same H H' → H' p = some (.dK []) → Q (.ref p) H'
end
end Lw
end
section
set_option Elab.async false
set_option linter.all false
set_option maxRecDepth 100000
set_option maxHeartbeats 4000000
namespace Lw
open PySem PySem.Spec PyProof.Rows L2
section
variable {prog : Program} {w : World} {A : Around} {R : Result → Shared → Prop} {s : Shared}
theorem turn_eq (elt tg iter : Expr) (scope : Scope) (pos : Pos) (it acc : Value) (env : Env) :
    compTurn (.ListComp elt [⟨tg, iter, [], 0⟩] scope pos) 0 it acc env = (standAt iter.pos >>= fun _ => pyNext it >>= fun r => match r with
      | none => pure (.done .next)
      | some v => letOwnedTupleGo tg it v >>= fun _ => assign tg env v >>= fun _ => (eval elt env >>= fun x => call (.builtin "list.append") [acc, x] >>= fun _ => pure ()) >>= fun _ => again (.compLoop (.ListComp elt [⟨tg, iter, [], 0⟩] scope pos) 0 it acc env)) := rfl
theorem loop_comp {elt tg iter : Expr} {scope : Scope} {pos : Pos} {it acc : Value} {env : Env} (I : Nat → Shared → Prop)
    (turn : ∀ n s, I n s → wpAny (model prog w) A (pyNext it) (fun r s1 => (r = none ∧ R (.ok .next) s1) ∨ ∃ v, r = some v ∧ wpAny (model prog w) A (letOwnedTupleGo tg it v) (fun _ s2 => wpAny (model prog w) A (assign tg env v) (fun _ s3 =>
      wpAny (model prog w) A (eval elt env) (fun x s4 => wpAny (model prog w) A (call (.builtin "list.append") [acc, x]) (fun _ s5 => ∃ m, m < n ∧ I m s5) (fun _ _ => False) s4) (fun _ _ => False) s3) (fun _ _ => False) s2) (fun _ _ => False) s1) (fun _ _ => False) s)
    (n : Nat) (h : I n s) : codeAny (model prog w) A (.compLoop (.ListComp elt [⟨tg, iter, [], 0⟩] scope pos) 0 it acc env) R s := by
  refine codeAny_loop rfl I (fun n s hI => ?_) n h
  show wpAny _ _ ((compTurn (.ListComp elt [⟨tg, iter, [], 0⟩] scope pos) 0 it acc env).onRaise (fun x => do noteFrame x env; theTreesLotGoes x)) _ _ s
  refine wpAny_noted ?_
  rw [turn_eq]
  refine wpAny_bind (wpAny_standAt (wpAny_bind (wpAny_mono (turn n s hI) (fun r s1 h1 => ?_) fun _ _ z => z.elim)))
  rcases h1 with ⟨rfl, h1⟩ | ⟨v, rfl, h1⟩
  · exact wpAny_pure h1
  · refine wpAny_bind (wpAny_mono h1 (fun _ s2 h2 => ?_) fun _ _ z => z.elim)
    refine wpAny_bind (wpAny_mono h2 (fun _ s3 h3 => ?_) fun _ _ z => z.elim)
    refine wpAny_bind (wpAny_bind (wpAny_mono h3 (fun x s4 h4 => ?_) fun _ _ z => z.elim))
    refine wpAny_bind (wpAny_mono h4 (fun _ s5 h5 => ?_) fun _ _ z => z.elim)
    exact wpAny_pure (wpAny_pure ⟨rfl, h5⟩)
end
abbrev cxC (X : Cx) (N : List Str) (s₀ : Shared) (H₀ : Hp) (env : Env) (fp : List Addr) : Cx :=
  { X with N := N, s₀ := s₀, H₀ := H₀, env := env, outer := X.stack, ex := fp, fn := fun _ => false, pn := [], xe := fun _ _ => False }
structure Cap (X : Cx) (sc : Scope) (cl : List (Str × Addr)) (j : Nat) (y : Str) : Prop where
  nm : X.N[j]? = some y
  ko : X.env.kindOf y = some .cell
  ki : sc.names.lookup y = some .cell
  cl : cl.lookup y = X.env.cells.lookup y
def capσ (js : List Nat) (σ : L2.St) : L2.St := js.map fun j => (σ[j]?).join
@[irreducible] def CGoal (J : It) (g : TG) (te : TE) (k : Nat) (js : List Nat) (σ : L2.St) (H1 : Hp) (Q : VK) : Prop := ∀ D, H1 D = none → ∃ W : Nat → Nat → Hp → Prop, (∃ m, W 0 m (upd H1 D (.lst []))) ∧ ∀ i m H, W i m H →
  (J.stop i H ∧ Q (.ref D) H) ∨ (J.go i H ∧ ∀ x H', J.yld i H x H' → g x (List.replicate k none ++ capσ js σ) H' fun σ2 H2 => σ2.drop k = capσ js σ ∧ te σ2 H2 fun v H3 => ∃ xs, H3 D = some (.lst xs) ∧ xs.length < sizeLine ∧ ∃ m', m' < m ∧ W (i + 1) m' (upd H3 D (.lst (xs ++ [v]))))
def dComp (wi : TI) (g : TG) (te : TE) (k : Nat) (js : List Nat) : TE := fun σ H Q => wi σ H fun J H1 => CGoal J g te k js σ H1 Q
section
variable {X : Cx}
theorem comp_ok {pins : List (Addr × Obj)} {σ : L2.St} {H : Hp} {s : Shared} {N : List Str} {scope : Scope} {cl : List (Str × Addr)} {C : Addr} {fp : List Addr} (I : Inv X pins σ H s) (hk : scope.kind = .function) (hC : s.heap.objs.size ≤ C)
    (hcl : ∀ y c, cl.lookup y = some c → X.env.cells.lookup y = some c) (hhas : ∀ y, ((relabel scope X.env).names.lookup y = some .cell ∨ (relabel scope X.env).names.lookup y = some .free) → ∃ c, cl.lookup y = some c)
    (hf : ∀ b ∈ fp, FpOk X pins H b ∧ b < s.heap.objs.size) : (cxC X N s H (compEnvC scope cl C X.env) fp).Ok where
  mod := I.ok.mod
  kind := hk
  glob := I.ok.glob
  blt := I.ok.blt
  above := hC
  inj := fun x y c e1 e2 => I.ok.inj x y c (hcl x c e1) (hcl y c e2)
  has := fun x h => hhas x h
  cab := fun x c z => absurd z (by simp)
  hd := I.ok.hd
  frames := I.ok.frames
  stk := .inl rfl
  exf := fun b hb => ⟨Nat.ne_of_lt (Nat.lt_of_lt_of_le (hf b hb).2 hC), fun x c e => (hf b hb).1.2.2.2.2.1 x c (hcl x c e)⟩
  bs := I.bs
  bsz := Nat.le_trans I.ok.bsz I.sz
  noex := fun b o e hb => by
    rcases (hf b hb).1.2.2.2.1 with z | z
    · exact I.ok.noex b o e z
    · exact absurd (Nat.lt_of_lt_of_le (Heap.lt_size (I.ok.bs b o e).1) z) (Nat.lt_irrefl _)
  exfs := fun b hb hm => by
    rcases List.mem_cons.mp (I.stkSub b hm) with z | z
    · exact (hf b hb).1.2.1 z
    · exact (hf b hb).1.2.2.1 z
  funs := I.stack
  frf := I.stkFree
theorem comp_core {elt iter tg : Expr} {scope : Scope} {pos : Pos} {wi : TI} {te : TE} {g : TG} {N : List Str} {cl : List (Str × Addr)} (k : Nat) (js : List Nat) (hi : PI X tg iter wi)
    (hg : ∀ C s H fp, PG (cxC X N s H (compEnvC scope cl C X.env) fp) tg g) (he : ∀ C s H fp, PE (cxC X N s H (compEnvC scope cl C X.env) fp) elt te) (hcalm : X.calm = true)
    (hclos : closureFor scope X.env = pure cl) (hkind : scope.kind = .function) (hcell : ∀ y ∈ scope.names, y.2 ≠ .cell) (hnames : ∀ y ∈ scope.names, y.2 = .local → scope.names.lookup y.1 = some .local)
    (hcl : ∀ y c, cl.lookup y = some c → X.env.cells.lookup y = some c) (hhas : ∀ y, ((relabel scope X.env).names.lookup y = some .cell ∨ (relabel scope X.env).names.lookup y = some .free) → ∃ c, cl.lookup y = some c)
    (hlen : N.length = k + js.length) (hcap : ∀ i j, js[i]? = some j → ∃ y, N[k + i]? = some y ∧ Cap X (relabel scope X.env) cl j y)
    (hs : ∀ x, foldedSetIterable iter X.env x = pure x) {pins : List (Addr × Obj)} {s : Shared} {σ : L2.St} {H : Hp} {Q : VK} (I : Inv X pins σ H s) (h : dComp wi g te k js σ H Q) {cpos : Pos} {use : Option (Value → Sem Unit)} {Qv : Value → Shared → Prop}
    (fin : ∀ (s6 : Shared) (H5 : Hp) (D C : Addr) (m : Str → Option Value), Inv X pins σ H5 s6 → s6.heap.Ns C m → H5 C = none → X.s₀.heap.objs.size ≤ C → C ≠ X.env.locals → (∀ x c, X.env.cells.lookup x = some c → c ≠ C) → (∀ p ∈ X.pn ++ pins, p.1 ≠ C) → Q (.ref D) H5 →
      compPost (model X.prog X.w) X.A X.xe use Qv (.ref D) C (.ok .next) s6) :
    wpAny (model X.prog X.w) X.A (comprehension (.ListComp elt [⟨tg, iter, [], 0⟩] scope pos) scope X.env cpos (newList []) false (eval iter X.env) use) Qv X.xe s := by
  refine wpAny_comprehension_free (use := use) rfl hs hclos hkind hnames (thn (hi pins s σ H _ I h) fun v s1 h1 => thn h1 fun itv s2 h2 => ?_)
  obtain ⟨it, fp, tn, J, H2, rfl, I2, T, st2, f2, h2⟩ := h2
  refine wpAny_newObj_type ?_
  have hD : H2 s2.heap.objs.size = none := I2.hok.fresh (Nat.le_refl _)
  unfold CGoal at h2
  obtain ⟨W, ⟨m0, w0⟩, turn⟩ := h2 _ hD
  have I3 : Inv X pins σ (upd H2 s2.heap.objs.size (.lst [])) { s2 with heap := s2.heap.push { cls := .type "list", dict := none, data := .seq ([] : List Value).toArray } } :=
    I2.laid (t' := s2.toks) (fun b u e => Heap.get?_push_of_some _ e) (Nat.le_refl _) ⟨Nat.zero_le _, [], 0, .nil, Heap.get?_push_size _ rfl⟩
  have hlt : ∀ b ∈ fp, b < s2.heap.objs.size := fun b hb => by
    obtain ⟨o, e, _⟩ := T.obj _ _ st2 b hb
    exact Heap.lt_size e
  have f3 : ∀ b ∈ fp, FpOk X pins (upd H2 s2.heap.objs.size (.lst [])) b := fun b hb => ⟨by rw [upd_ne (Nat.ne_of_lt (hlt b hb))]; exact (f2 b hb).1, (f2 b hb).2⟩
  have st3 : tn 0 (s2.heap.push { cls := .type "list", dict := none, data := .seq ([] : List Value).toArray }) := T.keep _ _ _ st2 fun b hb o e => Heap.get?_push_of_some _ e
  have hlt3 : ∀ b ∈ fp, b < (s2.heap.push { cls := .type "list", dict := none, data := .seq ([] : List Value).toArray }).objs.size := fun b hb => Nat.lt_of_lt_of_le (hlt b hb) (by rw [Heap.size_push]; exact Nat.le_succ _)
  generalize hs3 : ({ s2 with heap := s2.heap.push { cls := .type "list", dict := none, data := .seq ([] : List Value).toArray } } : Shared) = s3 at I3
  have eh : s3.heap = s2.heap.push { cls := .type "list", dict := none, data := .seq ([] : List Value).toArray } := by rw [← hs3]
  rw [← eh] at st3 hlt3
  generalize hDD : s2.heap.objs.size = D at *
  generalize hH3 : upd H2 D (.lst []) = H3 at *
  clear hs3 eh
  refine wpAny_newFunctionEnv (s := s3) hcell (by intro y hy; simp at hy) (fun h4 n4 sb4 => ?_) hkind
  have Ok := comp_ok (N := N) (C := s3.heap.objs.size) I3 hkind (Nat.le_refl _) hcl hhas fun b hb => ⟨f3 b hb, hlt3 b hb⟩
  show codeAny _ _ (.compStart (.ListComp elt [⟨tg, iter, [], 0⟩] scope pos) 0 (.ref it) (.ref D) (compEnvC scope cl s3.heap.objs.size X.env)) _ _
  generalize hC : s3.heap.objs.size = C at *
  have old : ∀ b o, s3.heap.get? b = some o → h4.get? b = some o := fun b o e => sb4.extBut b o (by rw [← hC]; exact Nat.ne_of_lt (Heap.lt_size e)) (Heap.get?_push_of_some _ e)
  have fresh : H3 C = none := I3.hok.fresh (by rw [hC]; exact Nat.le_refl _)
  have hcapl : ∀ {i : Nat} {x : Str} {v : V}, N[i]? = some x → (List.replicate k none ++ capσ js σ)[i]? = some (some v) → ∃ u, L2.RelV v u ∧ Look (compEnvC scope cl C X.env) h4 (fun _ => none) x u := by
    intro i x v e1 e2
    by_cases hik : i < k
    · rw [List.getElem?_append_left (by simpa using hik)] at e2
      rw [List.getElem?_replicate] at e2
      simp [hik] at e2
    · rw [List.getElem?_append_right (by simpa using Nat.le_of_not_lt hik), List.length_replicate] at e2
      unfold capσ at e2
      rw [List.getElem?_map] at e2
      cases ej : js[i - k]? with
      | none =>
        rw [ej] at e2
        cases e2
      | some j =>
        rw [ej] at e2
        have e2 : (σ[j]?).join = some v := Option.some.inj e2
        obtain ⟨y, hy, cp⟩ := hcap _ _ ej
        rw [show k + (i - k) = i by omega, e1] at hy
        cases hy
        obtain ⟨m, _, hl⟩ := I3.loc
        have e3 : σ[j]? = some (some v) := by
          cases q : σ[j]? with
          | none =>
            rw [q] at e2
            cases e2
          | some o =>
            rw [q] at e2
            have : o = some v := e2
            rw [this]
        obtain ⟨u, ru, lk⟩ := hl j x v cp.nm e3 (.inr (.inl cp.ko))
        refine ⟨u, ru, ?_⟩
        rcases lk with ⟨z, _⟩ | ⟨_, c, hc, z⟩
        · rw [cp.ko] at z
          cases z
        · refine .inr ⟨.inl cp.ki, c, by rw [← hc]; exact cp.cl, ?_⟩
          obtain ⟨o, e, d⟩ := z
          exact ⟨o, old _ _ e, d⟩
  have I4 : Inv (cxC X N s3 H3 (compEnvC scope cl C X.env) fp) [] (List.replicate k none ++ capσ js σ) H3 { s3 with heap := h4, toks := s3.toks + ([] : List (Str × Value)).length } := by
    refine ⟨Ok, rfl, I3.bare, Un.kept old, ⟨_, n4, fun i x v e1 e2 e3 => ?_⟩, fun x c e => ?_, fresh, fun x c e => I3.freeC x c (hcl x c e), fun p hp => absurd hp (by simp), I3.hok.kept old, ?_⟩
    · obtain ⟨u, ru, lk⟩ := hcapl e1 e2
      refine ⟨u, ru, ?_⟩
      rcases lk with ⟨z, q⟩ | q
      · cases q
      · exact .inr q
    · obtain ⟨v, o, e1, d⟩ := I3.cell x c (hcl x c e)
      exact ⟨v, o, old _ _ e1, d⟩
    · simp [capσ, hlen]
  have fp4 : ∀ {H' : Hp}, (∀ b ∈ fp, H' b = none) → ∀ b ∈ fp, FpOk (cxC X N s3 H3 (compEnvC scope cl C X.env) fp) [] H' b := fun hn b hb =>
    ⟨hn b hb, (Ok.exf b hb).1, Ok.exfs b hb, .inl hb, fun x c e => (Ok.exf b hb).2 x c e, fun p hp => absurd hp (by simp)⟩
  have st4 : tn 0 h4 := T.keep _ _ _ st3 fun b hb o e => old b o e
  have run : ∀ s4 : Shared, s4 = { s3 with heap := h4, toks := s3.toks + ([] : List (Str × Value)).length } →
      codeAny (model X.prog X.w) X.A (.compLoop (.ListComp elt [⟨tg, iter, [], 0⟩] scope pos) 0 (.ref it) (.ref D) (compEnvC scope cl C X.env)) (compPost (model X.prog X.w) X.A X.xe use Qv (.ref D) C) s4 := by
    rintro s4 rfl
    refine loop_comp (fun n s' => ∃ i H' σ', Inv (cxC X N s3 H3 (compEnvC scope cl C X.env) fp) [] σ' H' s' ∧ (∀ j : Nat, ∀ v, (List.replicate k none ++ capσ js σ)[j]? = some (some v) → σ'[j]? = some (some v)) ∧ tn i s'.heap ∧ (∀ b ∈ fp, H' b = none) ∧ W i n H') ?_ m0
      ⟨0, H3, _, I4, fun _ _ z => z, st4, fun b hb => (f3 b hb).1, w0⟩
    rintro n s5 ⟨i, H5, σ5, I5, cap5, st5, fr5, w5⟩
    have I5' := I5.weak (σ' := List.replicate k none ++ capσ js σ) (by rw [I5.len]; simp [capσ, hlen]) cap5
    rcases turn i n H5 w5 with ⟨stop, q⟩ | ⟨go, step⟩
    · refine thn (T.done (cxC X N s3 H3 (compEnvC scope cl C X.env) fp) rfl rfl rfl hcalm i [] s5 σ5 H5 _ I5 (fp4 fr5) st5 stop) fun r s6 ⟨hr, I6⟩ => .inl ⟨hr, ?_⟩
      obtain ⟨m6, n6, _⟩ := I6.loc
      have hCf : H5 C = none := I6.free
      have u6 := I6.base
      have uC : Un (frs X.stack) fp H3 H5 s3.heap s6.heap := ⟨u6.keep, u6.slot, u6.free, u6.there, u6.tups, u6.frzs, u6.tbls⟩
      have I7 : Inv X pins σ H5 s6 := I3.call' (s' := s6) I6.os uC I6.hok I6.bare fun b hb => ⟨(f3 b hb).2.2.2.1, (f3 b hb).2.1, (f3 b hb).2.2.2.2.1, (f3 b hb).2.2.2.2.2⟩
      have lt3 : ∀ b o, s3.heap.get? b = some o → b ≠ C := fun b o e => by rw [← hC]; exact Nat.ne_of_lt (Heap.lt_size e)
      refine fin s6 H5 D C m6 I7 n6 hCf (by rw [← hC]; exact I3.sz) (by rw [← hC]; exact Nat.ne_of_gt I3.lt) (fun x c e => ?_) (fun p hp => lt3 p.1 p.2 (I3.pin p hp).1) q
      obtain ⟨v, o, e1, _⟩ := I3.cell x c e
      exact lt3 c o e1
    · refine thn (T.item (cxC X N s3 H3 (compEnvC scope cl C X.env) fp) rfl rfl rfl hcalm i [] s5 _ H5 _ I5' (fp4 fr5) st5 go) fun r s6 ⟨u, hr, h6⟩ => .inr ⟨u, hr, ?_⟩
      refine thn h6 fun _ s7 ⟨x, H7, I7, r7, y7, st7, fr7⟩ => ?_
      have I7' := I7.pinned (fp4 fr7) (T.obj _ _ st7)
      refine thn (hg C s3 H3 fp _ s7 _ H7 x u _ I7' r7 (step x H7 y7)) fun _ s8 ⟨σ8, H8, I8, d8, q8⟩ => ?_
      refine thn (he C s3 H3 fp _ s8 σ8 H8 _ I8 q8) fun vv s9 ⟨vx, H9, I9, r9, xs, hx9, hz9, m', hm', w9⟩ => ?_
      obtain ⟨z9, its, n9, rl, e9⟩ := (show ObjOk X.prog X.w H9 s9.heap D (.lst xs) from I9.hok D _ hx9)
      have app := mt_append (X := cxC X N s3 H3 (compEnvC scope cl C X.env) fp) _ s9 σ8 H9 (.ref D) [vx] (.ref D) [vv] (fun _ H' => H' = upd H9 D (.lst (xs ++ [vx]))) I9 rfl (.cons r9 .nil) ⟨D, xs, vx, rfl, rfl, hx9, hz9, rfl⟩
      refine thn app fun _ s10 ⟨_, H10, I10, _, e10⟩ => ?_
      subst e10
      refine ⟨m', hm', i + 1, _, σ8, I10.unpinned (pins := []), ?_, T.keep _ _ _ st7 fun b hb o e => (I10.pin (b, o) (List.mem_append_right _ (List.mem_append_right _ (mem_pinsAt hb e)))).1, fun b hb => ?_, w9⟩
      · intro j v e
        by_cases hjk : j < k
        · rw [List.getElem?_append_left (by simpa using hjk), List.getElem?_replicate] at e
          simp [hjk] at e
        · rw [List.getElem?_append_right (by simpa using Nat.le_of_not_lt hjk), List.length_replicate, ← d8, List.getElem?_drop] at e
          rw [show k + (j - k) = j by omega] at e
          exact e
      · obtain ⟨o, e, d⟩ := T.obj _ _ st7 b hb
        exact (I10.pin (b, o) (List.mem_append_right _ (List.mem_append_right _ (mem_pinsAt hb e)))).2.1
  exact codeAny_compStart_list (run _ rfl) (T.self X.A 0 _ _ _ st4 (run _ rfl))
theorem e_comp {elt iter tg : Expr} {scope : Scope} {pos : Pos} {wi : TI} {te : TE} {g : TG} {N : List Str} {cl : List (Str × Addr)} (k : Nat) (js : List Nat) (hi : PI X tg iter wi)
    (hg : ∀ C s H fp, PG (cxC X N s H (compEnvC scope cl C X.env) fp) tg g) (he : ∀ C s H fp, PE (cxC X N s H (compEnvC scope cl C X.env) fp) elt te) (hcalm : X.calm = true)
    (hclos : closureFor scope X.env = pure cl) (hkind : scope.kind = .function) (hcell : ∀ y ∈ scope.names, y.2 ≠ .cell) (hnames : ∀ y ∈ scope.names, y.2 = .local → scope.names.lookup y.1 = some .local)
    (hcl : ∀ y c, cl.lookup y = some c → X.env.cells.lookup y = some c) (hhas : ∀ y, ((relabel scope X.env).names.lookup y = some .cell ∨ (relabel scope X.env).names.lookup y = some .free) → ∃ c, cl.lookup y = some c)
    (hlen : N.length = k + js.length) (hcap : ∀ i j, js[i]? = some j → ∃ y, N[k + i]? = some y ∧ Cap X (relabel scope X.env) cl j y)
    (hs : ∀ x, foldedSetIterable iter X.env x = pure x := by intro _; rfl) : PE X (.ListComp elt [⟨tg, iter, [], 0⟩] scope pos) (dComp wi g te k js) := by
  intro pins s σ H Q I h
  rw [eval_ListComp]
  refine comp_core k js hi hg he hcalm hclos hkind hcell hnames hcl hhas hlen hcap hs I h fun s6 H5 D C m I6 n6 z1 z2 z3 z4 z5 q => ⟨m, n6, fun h7 sb7 => ⟨.ref D, H5, ?_, rfl, q⟩⟩
  exact I6.turned (t' := s6.toks) (fun b o hb e => (sb7.2 b hb).trans e) z1 z3.symm.symm (.inr z2) z4 z5
def CapL (X : Cx) (sc : Scope) (cl : List (Str × Addr)) : List Str → List Nat → Prop
  | y :: ys, j :: js => Cap X sc cl j y ∧ CapL X sc cl ys js
  | [], [] => True
  | _, _ => False
theorem CapL.len {sc : Scope} {cl : List (Str × Addr)} : ∀ {ys : List Str} {js : List Nat}, CapL X sc cl ys js → ys.length = js.length
  | [], [], _ => rfl
  | _ :: _, _ :: _, h => congrArg (· + 1) (CapL.len h.2)
  | [], _ :: _, h => h.elim
  | _ :: _, [], h => h.elim
theorem CapL.at {sc : Scope} {cl : List (Str × Addr)} : ∀ {ys : List Str} {js : List Nat}, CapL X sc cl ys js → ∀ (i j : Nat), js[i]? = some j → ∃ y, ys[i]? = some y ∧ Cap X sc cl j y
  | [], [], _, i, j, e => by simp at e
  | y :: ys, j :: js, h, 0, j', e => by
    cases e
    exact ⟨y, rfl, h.1⟩
  | y :: ys, j :: js, h, i + 1, j', e => CapL.at h.2 i j' (by simpa using e)
  | [], _ :: _, h, _, _, _ => h.elim
  | _ :: _, [], h, _, _, _ => h.elim
def CellL (cells : List (Str × Addr)) : List (Str × Addr) → Prop
  | [] => True
  | (y, c) :: r => cells.lookup y = some c ∧ CellL cells r
theorem CellL.at {cells : List (Str × Addr)} : ∀ {cl : List (Str × Addr)}, CellL cells cl → ∀ y c, cl.lookup y = some c → cells.lookup y = some c
  | [], _, y, c, e => by simp at e
  | (z, d) :: r, h, y, c, e => by
    rw [List.lookup_cons] at e
    cases q : y == z with
    | true =>
      rw [q] at e
      cases e
      rw [eq_of_beq q]
      exact h.1
    | false =>
      rw [q] at e
      exact CellL.at h.2 y c e
theorem lookup_has {y : Str} : ∀ {cl : List (Str × Addr)}, (cl.map (·.1)).contains y = true → ∃ c, cl.lookup y = some c
  | [], h => by simp at h
  | (z, d) :: r, h => by
    rw [List.lookup_cons]
    cases q : y == z with
    | true => exact ⟨d, rfl⟩
    | false =>
      refine lookup_has (cl := r) ?_
      rw [List.map_cons, List.contains_cons, q, Bool.false_or] at h
      exact h
theorem relabel_has {env : Env} {y : Str} : ∀ {names : List (Str × NameKind)} {k : NameKind}, (names.map fun (n, k) => if (k == NameKind.free && env.scope.kind == .function && env.kindOf n == some .cell) then (n, NameKind.cell) else (n, k)).lookup y = some k →
    (k = .cell ∨ k = .free) → ∃ z ∈ names, z.1 = y ∧ (z.2 = .free ∨ z.2 = .cell)
  | [], _, h, _ => by simp at h
  | (n, kd) :: r, k, h, hk => by
    rw [List.map_cons] at h
    by_cases hc : (kd == NameKind.free && env.scope.kind == .function && env.kindOf n == some .cell) = true
    · rw [show (match (n, kd) with | (n, k) => if (k == NameKind.free && env.scope.kind == .function && env.kindOf n == some .cell) = true then (n, NameKind.cell) else (n, k)) = (n, NameKind.cell) from if_pos hc, List.lookup_cons] at h
      cases q : y == n with
      | true =>
        rw [Bool.and_eq_true, Bool.and_eq_true] at hc
        exact ⟨(n, kd), List.mem_cons_self, (eq_of_beq q).symm, .inl (eq_of_beq hc.1.1)⟩
      | false =>
        rw [q] at h
        obtain ⟨z, hz, r1⟩ := relabel_has (names := r) h hk
        exact ⟨z, List.mem_cons_of_mem _ hz, r1⟩
    · rw [show (match (n, kd) with | (n, k) => if (k == NameKind.free && env.scope.kind == .function && env.kindOf n == some .cell) = true then (n, NameKind.cell) else (n, k)) = (n, kd) from if_neg hc, List.lookup_cons] at h
      cases q : y == n with
      | true =>
        rw [q] at h
        cases h
        exact ⟨(n, kd), List.mem_cons_self, (eq_of_beq q).symm, hk.symm⟩
      | false =>
        rw [q] at h
        obtain ⟨z, hz, r1⟩ := relabel_has (names := r) h hk
        exact ⟨z, List.mem_cons_of_mem _ hz, r1⟩
theorem e_compN {elt iter tg : Expr} {scope : Scope} {pos : Pos} {wi : TI} {te : TE} {g : TG} {cl : List (Str × Addr)} (own ys : List Str) (js : List Nat) (hclos : closureFor scope X.env = pure cl) (hi : PI X tg iter wi)
    (hg : ∀ C s H fp, PG (cxC X (own ++ ys) s H (compEnvC scope cl C X.env) fp) tg g) (he : ∀ C s H fp, PE (cxC X (own ++ ys) s H (compEnvC scope cl C X.env) fp) elt te) (hcalm : X.calm = true) (hkind : scope.kind = .function)
    (hcell : (scope.names.all fun y => y.2 != .cell) = true) (hnames : (scope.names.all fun y => y.2 != .local || scope.names.lookup y.1 == some .local) = true) (hfr : (scope.names.all fun y => y.2 != .free || (cl.map (·.1)).contains y.1) = true)
    (hcl : CellL X.env.cells cl) (hcap : CapL X (relabel scope X.env) cl ys js) (hs : ∀ x, foldedSetIterable iter X.env x = pure x := by intro _; rfl) :
    PE X (.ListComp elt [⟨tg, iter, [], 0⟩] scope pos) (dComp wi g te own.length js) := by
  rw [List.all_eq_true] at hcell hnames hfr
  have hc : ∀ y ∈ scope.names, y.2 ≠ .cell := fun y hy z => by
    have := hcell y hy
    rw [z] at this
    cases this
  refine e_comp own.length js hi hg he hcalm hclos hkind hc (fun y hy z => ?_) hcl.at (fun y h => ?_) (by rw [List.length_append, hcap.len]) (fun i j e => ?_) hs
  · have := hnames y hy
    rw [z] at this
    simpa using this
  · obtain ⟨z, hz, rfl, hk⟩ : ∃ z ∈ scope.names, z.1 = y ∧ (z.2 = .free ∨ z.2 = .cell) := by
      rcases h with h | h
      · exact relabel_has h (.inl rfl)
      · exact relabel_has h (.inr rfl)
    rcases hk with hk | hk
    · have := hfr z hz
      rw [hk] at this
      exact lookup_has (by simpa using this)
    · exact absurd hk (hc z hz)
  · obtain ⟨y, h1, h2⟩ := hcap.at i j e
    exact ⟨y, by rw [List.getElem?_append_right (Nat.le_add_right _ _), Nat.add_sub_cancel_left]; exact h1, h2⟩
end
end Lw
end
section
set_option Elab.async false
set_option linter.all false
set_option maxRecDepth 100000
set_option maxHeartbeats 4000000
namespace Lw
open PySem PySem.Spec PyProof.Rows L2
section
variable {X : Cx} {pos p2 p3 p4 : Pos} {e : Expr} {te : TE}
def dSlS : V → Option Int → Option Int → Hp → VK → Prop := fun x lo hi H Q => match x with
  | .str z => z.length ≤ sizeLine ∧ Q (.str (Txt.slice z lo hi)) H
  | _ => False
theorem sl_str : SlR X dSlS := by
  intro pins s σ H x v vl vu lo hi sl Q I rx hs pl pu h
  cases x <;> first
    | exact False.elim h
    | (obtain ⟨hz, q⟩ := h
       obtain ⟨t, rfl⟩ := rx
       refine ⟨"str", _, F.slot_str_getitem.lookup, typeIs_str _ _ _, ?_⟩
       cases pl <;> cases pu
       · exact wpAny_getItem_str_slice (l := none) (u := none) (st := none) hs rfl (post_val_or_str ⟨Nat.le_trans (Txt.slice_le _ _ _) hz, fun t' k => ⟨.str _, H, I.tok _, ⟨_, rfl⟩, q⟩⟩)
       · exact wpAny_getItem_str_slice (l := none) (u := some (_, _)) (st := none) hs rfl (post_val_or_str ⟨Nat.le_trans (Txt.slice_le _ _ _) hz, fun t' k => ⟨.str _, H, I.tok _, ⟨_, rfl⟩, q⟩⟩)
       · exact wpAny_getItem_str_slice (l := some (_, _)) (u := none) (st := none) hs rfl (post_val_or_str ⟨Nat.le_trans (Txt.slice_le _ _ _) hz, fun t' k => ⟨.str _, H, I.tok _, ⟨_, rfl⟩, q⟩⟩)
       · exact wpAny_getItem_str_slice (l := some (_, _)) (u := some (_, _)) (st := none) hs rfl (post_val_or_str ⟨Nat.le_trans (Txt.slice_le _ _ _) hz, fun t' k => ⟨.str _, H, I.tok _, ⟨_, rfl⟩, q⟩⟩))
def dAddS : R2 := fun x y H Q => match x, y with
  | .str i, .str j => i.length + j.length ≤ sizeLine ∧ Q (.str (i ++ j)) H
  | _, _ => False
theorem o_addS : OpR X (binaryOp .Add) dAddS := by
  intro pins s σ H x y v u Q I rx ry q
  cases x <;> cases y <;> first
    | exact False.elim q
    | exact op_add_str _ _ _ _ _ _ _ _ _ I rx ry ⟨_, _, rfl, rfl, q.1, q.2⟩
def dIxS : R2 := fun x y H Q => match x, y with
  | .str z, .int i => ∃ c, z.length ≤ sizeLine ∧ atI z.cps.toList i = some c ∧ Q (.str ⟨#[c]⟩) H
  | _, _ => False
theorem i_str : IxR X dIxS := by
  intro value slice pins s σ H x y v u Q I rx ry h hs
  cases x <;> cases y <;> first
    | exact False.elim h
    | (obtain ⟨c, h1, h2, q⟩ := h
       exact ix_str value slice pins s σ H _ _ v u Q I rx ry ⟨_, _, c, rfl, rfl, h1, h2, q⟩ hs)
theorem strs_of : ∀ {ys : List Str} {us : List Value}, Vals (ys.map V.str) us → StrsAre us ys
  | [], _, r => by
    cases r
    exact .nil
  | y :: ys, _, r => by
    cases r with
    | cons r1 r2 =>
      obtain ⟨t, rfl⟩ := r1
      exact .cons y t (strs_of r2)
def dJoin (K : PySem.W.Frag) : V → List V → Hp → VK → Prop := fun x xs H Q => match x, xs with
  | .str sep, [.ref p] => ∃ ys : List Str, SqL K H p (ys.map V.str) ∧ (ys.map (·.length)).sum + ys.length * sep.length ≤ 16777216 ∧ Q (.str (Txt.join sep ys)) H
  | _, _ => False
def dListOf (K : PySem.W.Frag) : List V → Hp → VK → Prop := fun xs H Q => match xs with
  | [.ref p] => ∃ ys, (SqL K H p ys ∨ SqT K H p ys) ∧ ∀ l H', Same H H' → H' l = some (.lst ys) → Q (.ref l) H'
  | _ => False
theorem c_list : CallR X (.type "list") (dListOf X.K) := by
  intro pins s σ H xs us Q I r h
  match xs, h with
  | [.ref p], ⟨ys, h1, q⟩ => exact call_list_of pins s σ H _ us Q I r ⟨p, ys, rfl, h1, fun l hl => q l _ (same_upd hl) upd_same⟩
def dTupOf (K : PySem.W.Frag) : List V → Hp → VK → Prop := fun xs H Q => match xs with
  | [.ref p] => ∃ ys, SqL K H p ys ∧ ∀ l H', Same H H' → H' l = some (.tup ys) → Q (.ref l) H'
  | _ => False
def dInS (K : PySem.W.Frag) : R2 := fun x y H Q => match y with
  | .ref p => ∃ xs, (SqL K H p xs ∨ SqT K H p xs) ∧ flatV x = true ∧ xs.all flatV = true ∧ Q (.bl (inV x xs)) H
  | _ => False
theorem o_in : OpR X (compareOp .In) (dInS X.K) := by
  intro pins s σ H x y v u Q I rx ry q
  cases y <;> first
    | exact False.elim q
    | (obtain ⟨xs, h1, h2, h3, q⟩ := q
       exact op_in_seq _ _ _ _ _ _ _ _ _ I rx ry ⟨_, xs, rfl, h1, h2, h3, q⟩)
def dRev (K : PySem.W.Frag) (te : TE) : TE := fun σ H Q => te σ H fun x H1 => match x with
  | .ref a => ∃ xs, SqL K H1 a xs ∧ ∀ p H', Same H1 H' → H' p = some (.lst xs.reverse) → Q (.ref p) H'
  | _ => False
end
end Lw
end
section
set_option Elab.async false
set_option linter.all false
set_option maxRecDepth 100000
set_option maxHeartbeats 4000000
namespace Lw
open PySem PySem.Spec PyProof.Rows L2
def co (x : Str) : List Nat := x.cps.toList
theorem co_len (x : Str) : (co x).length = x.length := by simp [co, Str.length]
theorem co_app (x y : Str) : co (x ++ y) = co x ++ co y := by
  show (x.cps ++ y.cps).toList = x.cps.toList ++ y.cps.toList
  rw [Array.toList_append]
theorem len_app (x y : Str) : (x ++ y).length = x.length + y.length := by
  rw [← co_len, co_app, List.length_append, co_len, co_len]
theorem rng_gen (a b : Nat) : sliceRange (a : Int) (b : Int) 1 = (List.range (b - a)).map (fun k => a + k) := by
  unfold sliceRange
  simp only [show ((1 : Int) > 0) = True from by simp, if_true]
  by_cases h : (a : Int) < b
  · have e3 : (((b : Int) - a + 1 - 1) / 1).toNat = b - a := by omega
    simp only [h, if_true, e3]
    refine List.map_congr_left fun k _ => ?_
    omega
  · have : b - a = 0 := by omega
    simp [h, this]
theorem clip_gen (n d : Nat) (i : Int) : max (0 : Int) (min (if i < 0 then i + (n : Int) else i) (n : Int)) = ((HT.sIx n d (some i) : Nat) : Int) := by
  show _ = (((if i < 0 then (i + (n : Int)).toNat else min i.toNat n) : Nat) : Int)
  by_cases h : i < 0
  · simp only [if_pos h]; omega
  · simp only [if_neg h]; omega
theorem idx_gen (lo hi : Option Int) (n : Nat) : Builtin.Str.strSliceIndices lo hi 1 n = (List.range (HT.sIx n n hi - HT.sIx n 0 lo)).map (fun k => HT.sIx n 0 lo + k) := by
  rw [← rng_gen]
  unfold Builtin.Str.strSliceIndices
  simp only [show ((1 : Int) > 0) = True from by simp, if_true]
  cases lo with
  | none =>
    cases hi with
    | none => rfl
    | some j =>
      show sliceRange 0 (max (0 : Int) (min (if j < 0 then j + (n : Int) else j) (n : Int))) 1 = _
      rw [clip_gen n n j]
      rfl
  | some i =>
    cases hi with
    | none =>
      show sliceRange (max (0 : Int) (min (if i < 0 then i + (n : Int) else i) (n : Int))) (n : Int) 1 = _
      rw [clip_gen n 0 i]
      rfl
    | some j =>
      show sliceRange (max (0 : Int) (min (if i < 0 then i + (n : Int) else i) (n : Int))) (max (0 : Int) (min (if j < 0 then j + (n : Int) else j) (n : Int))) 1 = _
      rw [clip_gen n 0 i, clip_gen n n j]
theorem co_slice (x : Str) (lo hi : Option Int) : co (Txt.slice x lo hi) = ((co x).drop (HT.sIx x.length 0 lo)).take (HT.sIx x.length x.length hi - HT.sIx x.length 0 lo) := by
  have ha := HT.sIx_le x.length 0 (Nat.zero_le _) lo
  have hb := HT.sIx_le x.length x.length (Nat.le_refl _) hi
  have hl := co_len x
  unfold Txt.slice
  rw [idx_gen]
  generalize HT.sIx x.length 0 lo = a at *
  generalize HT.sIx x.length x.length hi = b at *
  split
  · rename_i h
    have h2 : b - a = x.length := by simpa using h
    have a0 : a = 0 := by omega
    subst a0
    rw [List.drop_zero, List.take_of_length_le (by omega)]
  · have p := StrLaws.picks (co x) (b - a) a (by omega)
    rw [← p]
    show (List.filterMap _ _).toArray.toList = _
    rw [List.toList_toArray]
    congr 1
    funext k
    show x.cps[k]? = x.cps.toList[k]?
    rw [Array.getElem?_toList]
theorem co_to {x : Str} {j : Nat} (h : j ≤ x.length) : co (Txt.slice x none (some (j : Int))) = (co x).take j := by
  rw [co_slice, HT.sIx_none, HT.sIx_nat, Nat.min_eq_left h, List.drop_zero, Nat.sub_zero]
theorem co_from {x : Str} {i : Nat} (h : i ≤ x.length) : co (Txt.slice x (some (i : Int)) none) = (co x).drop i := by
  rw [co_slice, HT.sIx_none, HT.sIx_nat, Nat.min_eq_left h, List.take_of_length_le]
  rw [List.length_drop, co_len]
  exact Nat.le_refl _
def abc : Str := Str.ofString "abcdefghijklmnopqrstuvwxyz"
def lt (n : Int) : Nat := 97 + (n % 26).toNat
structure Nm (x : Str) : Prop where
  len1 : 1 ≤ (co x).length
  len8 : (co x).length ≤ 8
  abc : ∀ c ∈ co x, 97 ≤ c ∧ c < 123
theorem ok_of {x : Str} (h : ∀ c ∈ co x, c < 1114112) : PyData.strOk x = true := by
  unfold PyData.strOk
  rw [← Array.all_toList, List.all_eq_true]
  exact fun c hc => decide_eq_true (h c hc)
def baseL (fi : Int) : List Nat := ((List.range 8).map fun j : Nat => [lt (fi + (j : Int) * j)]).flatten
def nameA (L : List Nat) (k : Nat) : List Nat := L.take (k + 1)
def nameB (L : List Nat) (at' sz : Nat) (fi : Int) (k : Nat) : List Nat := L.take at' ++ [lt (fi + (at' : Int) * at' + (k : Int))] ++ (L.drop (at' + 1)).take (sz - (at' + 1))
end Lw
end
section
set_option Elab.async false
set_option linter.all false
set_option maxRecDepth 100000
set_option maxHeartbeats 4000000
set_option autoImplicit false
namespace Lw
open PySem PySem.Spec PyProof.Rows L2
def vB : List Value := [.type "ValueError", .type "Exception", .type "BaseException", .type "object"]
structure ExcC (K : PySem.W.Frag) (C : Addr) : Prop where
  nw : PySem.W.excIn K C vB "ValueError.__new__" = true
  ga : PySem.W.findIn K (.ref C) "__getattribute__" = some (some (.builtin "BaseException.__getattribute__"))
  gn : PySem.W.findIn K (.ref C) "__getattr__" = some none
  cl : PySem.W.findIn K (.ref C) "__class__" = some (some (.builtin "object.__class__"))
  mo : PySem.W.mroIn K C (.type "object") = some true
  mb : PySem.W.mroIn K C (.type "BaseException") = some true
theorem own_cls {K : PySem.W.Frag} {h : Heap} {mg : Str → Option Value} {x : Str} {C : Addr} {bmB : List Value} {newId : String} (X : K.In h) (b : mg x = some (.ref C)) (q : PySem.W.excIn K C bmB newId = true) : OwnCls x C bmB newId mg h := by
  refine ⟨b, ?_⟩
  unfold PySem.W.excIn at q
  split at q
  · rename_i d0 cd sl lk
    split at q
    · rename_i C' bm a0 a1 a2 a3 n a5 hm hs
      simp only [Bool.and_eq_true, beq_iff_eq, Bool.not_eq_true'] at q
      obtain ⟨⟨⟨⟨⟨e1, e2⟩, hdel⟩, ht⟩, hok⟩, hni⟩ := q
      subst e1 e2
      obtain ⟨nm, bs, mro, ns, qn, hd, sn, sub, ab, col, del⟩ := cd
      dsimp only at hm hdel hok hni
      subst hm hdel
      have e : sl = #[a0, a1, a2, a3, some (.builtin n), a5] := by
        obtain ⟨l⟩ := sl
        simp only at hs
        rw [hs]
      subst e
      have N0 : h.isNs ns = true := PySem.W.isNs_of_in X hok
      exact ⟨bm, ns, nm, qn, bs, hd, sn, sub, ab, col, d0, a0, a1, a2, a3, a5, _, X _ _ lk, .of_isNs N0, PySem.W.nsMap_none_of_in X hok hni, PySem.W.tail_of_in X ht⟩
    · cases q
  · cases q
theorem exc_lk {K : PySem.W.Frag} {C : Addr} {bmB : List Value} {newId : String} (q : PySem.W.excIn K C bmB newId = true) : ∃ dd cd sl, K.lookup C = some ⟨.type "type", dd, .cls cd, sl⟩ := by
  unfold PySem.W.excIn at q
  split at q
  · rename_i d0 cd sl lk
    exact ⟨_, _, _, lk⟩
  · cases q
def tRaise (E : XK) (cls : Value) : TS := fun _ _ H => E cls none H
section
variable {P : Program} {w : World} {K : PySem.W.Frag} {mg : Str → Option Value} {base : Heap} {N : List Str} {qual : Str} {scope : Scope} {f : Addr} {cd : Value} {A : Around} {outer : List Env} {s₀ : Shared} {H₀ : Hp} {E : XK}
theorem ps_raise {x : Str} {C : Addr} {np cpos pos p : Pos} {txt : Str} {j : Nat} (hb : mg x = some (.ref C)) (c : ExcC K C) (hg : Gl (cxOf (CXE P w) P w K mg base N qual scope f cd A outer s₀ H₀ E) x) (hd : (x == ("__debug__" : Str)) = false := by decide) :
    PS (cxOf (CXE P w) P w K mg base N qual scope f cd A outer s₀ H₀ E) (.Raise (some (.Call (.Name x np) [.Constant (.str txt) j p] [] cpos)) none pos) (tRaise E (.ref C)) := by
  intro pins s σ H D I h
  have O := own_cls (h := s.heap) I.kIn hb c.nw
  obtain ⟨tl, ns, nm, q, bs, hdct, sn, sub, ab, col, dd, k0, k1, k2, k3, k5, mN, hC, hN, hni, T⟩ := O.obj
  have FB := PySem.F.excBase_ValueError
  refine wpAny_Raise_call_subT (C := C) (nm := nm) (q := q) (N := ns) (bs := bs) (bm := tl) (hdct := hdct) (sn := sn) (sub := sub) (ab := ab) (col := col) (dd := dd) (k0 := k0) (k1 := k1) (k2 := k2) (k3 := k3) (k5 := k5)
    (mN := mN) FB (T.hasType FB.hasBase) (I.ok.hd rfl) rfl hni (ld_glob I hg hb ⟨rfl, ?_⟩ hd)
  refine Calls.evalArgs_plain ?_
  refine spliced_more (Calls.Constant_str (Calls.spliced_nil ?_))
  exact ⟨rfl, (by show 1 ≤ sizeLine; decide), hC, hN, T, fun h' e hx => raiseX (I.tok _) hx h⟩
end
def dCallX (sp : Sp) (E : XK) (t : TA) : TE := fun σ H Q => t σ H fun vs H1 => sp vs H1 Q E
section
variable {P : Program} {w : World} {K : PySem.W.Frag} {mg : Str → Option Value} {base : Heap} {N : List Str} {qual : Str} {scope : Scope} {f : Addr} {cd : Value} {A : Around} {outer : List Env} {s₀ : Shared} {H₀ : Hp} {E : XK}
theorem e_callX {x : Str} {ps : List Str} {k k' : Nat} {sp : Sp} {p pos : Pos} {e : Expr} {es : List Expr} {t : TA} (C : Cal P w K mg base x ps k sp) (hr : Room k' (cxOf (CXE P w) P w K mg base N qual scope f cd A outer s₀ H₀ E).A) (hk : k ≤ k') (hg : Gl (cxOf (CXE P w) P w K mg base N qual scope f cd A outer s₀ H₀ E) x)
    (ha : PA (cxOf (CXE P w) P w K mg base N qual scope f cd A outer s₀ H₀ E) (e :: es) t) (hdb : (x == ("__debug__" : Str)) = false := by decide)
    (he : starEach (e :: es) (cxOf (CXE P w) P w K mg base N qual scope f cd A outer s₀ H₀ E).env = (false, eval e (cxOf (CXE P w) P w K mg base N qual scope f cd A outer s₀ H₀ E).env) :: starEach es (cxOf (CXE P w) P w K mg base N qual scope f cd A outer s₀ H₀ E).env := by rfl)
    (hpl : (backTo pos (starEach es (cxOf (CXE P w) P w K mg base N qual scope f cd A outer s₀ H₀ E).env)).any (·.1) = false := by rfl) :
    PE (cxOf (CXE P w) P w K mg base N qual scope f cd A outer s₀ H₀ E) (.Call (.Name x p) (e :: es) [] pos) (dCallX sp E t) := by
  obtain ⟨f', fd, h1, h2, h3, h4, _⟩ := C.ex
  have z := pe_call (X := cxOf (CXE P w) P w K mg base N qual scope f cd A outer s₀ H₀ E) (pos := pos) (p := p) (h4.mono hk) hr hg h1 h2 h3 .nil (passX (E := E)) ha hdb he hpl
  have e1 : tCall sp [] E t = dCallX sp E t := by
    funext σ H Q
    unfold tCall dCallX
    simp only [List.append_nil]
  rw [e1] at z
  exact z
end
def ExcAt (a C : Addr) : Heap → Prop := fun h => ∃ o vs, h.get? a = some o ∧ o.cls = .ref C ∧ o.data = .fields vs
section
variable {prog : Program} {w : World} {A : Around} {E : Value → Shared → Prop} {K : PySem.W.Frag} {x C : Addr}
theorem exc_ty {M : Model} {h : Heap} (p : ExcAt x C h) : PySem.W.Looks M h (typeOf (.ref x)) (.ref C) := by
  obtain ⟨o, vs, e, c, _⟩ := p
  exact c ▸ (PySem.W.Looks.ld e).andThen .now
theorem exc_gcls {R : Result → Shared → Prop} {s : Shared} {tp : Value} (X : K.In s.heap) (p : ExcAt x C s.heap) (c : ExcC K C) (h : R (.ok (.ret (.ref C))) s) :
    codeAny (model prog w) A (.call (.builtin "getset_descriptor.__get__") ⟨[.builtin "object.__class__", .ref x, tp], []⟩) R s := by
  obtain ⟨hh, g, d, t, os⟩ := s
  have l1 := exc_ty (M := model prog w) p
  have l2 := PySem.W.looks_mroIn (M := model prog w) X c.mo
  refine codeAny_call_builtin PySem.W.KF.slot_gs.plain PySem.W.KF.entry_gs ?_
  refine PySem.W.KF.slot_gs.check _ _ _ _ _ _ _ _ PySem.W.KF.type_class (PySem.W.KF.args_gs _ _ _) ?_
  unfold Builtin.«getset_descriptor.__get__» Builtin.Getset_descriptor.descrGet
  rw [PySem.W.dga_obj]
  refine wpAny_bind (wpAny_pure ?_)
  unfold Builtin.Getset_descriptor.descrGetter Builtin.Getset_descriptor.descrCheckInstance
  unfold Builtin.Getset_descriptor.descrNameAndClass isInstance
  simp only [PySem.W.KF.owner_class]
  repeat lk
  refine ⟨Code.quiet_builtin _ (by decide +kernel), ?_⟩
  refine codeAny_builtin PySem.W.KF.entry_class ?_
  unfold Builtin.«object.__class__» shownTypeOf
  repeat lk
  exact h
theorem exc_chk {M : Model} {h : Heap} {g : Array GenState} {d : Drawn} {t : Nat} {os : OsState} {nameV : Value} {Q : Unit → Shared → Prop} (X : K.In h) (p : ExcAt x C h) (c : ExcC K C) (hq : Q () ⟨h, g, d, t, os⟩) :
    wpAny M A (checkBuiltinCall "BaseException.__getattribute__" ⟨[.ref x, nameV], []⟩) Q E ⟨h, g, d, t, os⟩ := by
  have e1 : builtinKind "BaseException.__getattribute__" = some .slot := by decide +kernel
  have e2 : splitId "BaseException.__getattribute__" = some ("BaseException", "__getattribute__") := by decide +kernel
  have l1 := exc_ty (M := M) p
  have l2 := PySem.W.looks_mroIn (M := M) X c.mb
  have l3 : PySem.W.Looks M h (isInstance (.ref x) (.type "BaseException")) true := l1.andThen l2
  have ar := F.args_bexc_ga (.ref x) nameV
  simp only [checkBuiltinCall, e1, e2]
  refine wpAny_bind (l3.at ?_)
  repeat (first | assumption | wp_step)
theorem exc_get {s : Shared} {tk : Tok} {Q : Fin → Shared → Prop} (X : K.In s.heap) (p : ExcAt x C s.heap) (c : ExcC K C) (hq : Q (.done (.ret (.ref C))) s) :
    wpAny (model prog w) A (Builtin.«object.__getattribute__» ⟨[.ref x, .str "__class__" tk], []⟩) Q E s := by
  obtain ⟨h, g, d, t, os⟩ := s
  have l1 := exc_ty (M := model prog w) p
  have l2 := PySem.W.looks_findIn (M := model prog w) X c.cl
  have f5 := F.typeOf_object_class
  have f6 := F.slot_gs_get.lookup
  have f7 := F.slot_gs_set.lookup
  unfold Builtin.«object.__getattribute__»
  repeat (first | with_reducible refine l1.at ?_ | with_reducible refine l2.at ?_ | wp_step)
  refine exc_gcls X p c ?_
  repeat (first | assumption | wp_step)
theorem exc_class {s : Shared} {Q : Option Value → Shared → Prop} (X : K.In s.heap) (p : ExcAt x C s.heap) (c : ExcC K C) (hq : Q (some (.ref C)) { s with toks := s.toks + 1 }) :
    wpAny (model prog w) A (getAttr? (.ref x) "__class__") Q E s := by
  obtain ⟨h, g, d, t, os⟩ := s
  have l1 := exc_ty (M := model prog w) p
  have l2 := PySem.W.looks_findIn (M := model prog w) X c.ga
  have l3 := PySem.W.looks_findIn (M := model prog w) X c.gn
  have b1 := PySem.F.attr_ValueError.ga.bind (.ref x)
  unfold getAttr? getAttrBy?
  unfold getAttrBy
  refine wpAny_bind (wpAny_mkText (wpAny_bind (wpAny_attempt (wpAny_holding (wpAny_bind (l1.at (wpAny_bind (l2.at ?_))))))))
  show wpAny _ _ (getAttrByItsOwn _ _ _ _ _ _) _ _ _
  unfold getAttrByItsOwn
  refine wpAny_bind (l3.at ?_)
  refine wpAny_bind (wpAny_attempt (wpAny_holding ?_))
  show wpAny _ _ (boundAndCalled _ _ _) _ _ _
  unfold boundAndCalled
  rw [b1]
  refine wpAny_bind (wpAny_pure ?_)
  refine wpAny_call (codeAny_call_builtin PySem.F.attr_ValueError.ga.plain F.entry_bexc_ga ?_)
  refine exc_chk X p c ?_
  refine exc_get (s := ⟨h, g, d, t + 1, os⟩) X p c ?_
  exact wpAny_pure (wpAny_pure hq)
theorem exc_kit (c : ExcC K C) : PySem.W.KitX K (.ref x) (.ref C) (ExcAt x C) where
  ty := fun M h _ p => exc_ty p
  it := fun M h X p => by
    obtain ⟨dd, cd, sl, lk⟩ := exc_lk c.nw
    intro A' Q' E' s' k q
    unfold isType loadHead
    exact wpAny_bind (wpAny_loadPart (k _ _ (X _ _ lk)) (wpAny_pure q))
  ne := fun h tp d' its n sl X e => by
    obtain ⟨dd, cd, sl', lk⟩ := exc_lk c.nw
    refine Bool.eq_false_iff.mpr fun q => ?_
    have e2 : C = tp := Value.ref.inj (beq_iff_eq.mp q)
    subst e2
    have z := congrArg Obj.cls (Option.some.inj ((X _ _ lk).symm.trans e))
    exact absurd (Value.type.inj z) (by decide)
  ca := fun X p q => exc_class X p c q
end
section
variable {X : Cx}
def dIsiX (K : PySem.W.Frag) : List V → Hp → VK → Prop := fun xs H Q => match xs with
  | [.ref p, .ref D] => ∃ C b, H p = some (.ext (ExcAt p C)) ∧ ExcC K C ∧ PySem.W.kitOne K (.ref C) (.ref D) = some b ∧ Q (.bl b) H
  | [.ref p, .ty T] => ∃ C b, H p = some (.ext (ExcAt p C)) ∧ ExcC K C ∧ PySem.W.kitOne K (.ref C) (.type T) = some b ∧ Q (.bl b) H
  | _ => False
theorem c_isiX : CallR X (.builtin "isinstance") (dIsiX X.K) := by
  intro pins s σ H xs us Q I r h
  match xs, h with
  | [.ref p, .ref D], ⟨C, b, e, c, k, q⟩ =>
    obtain ⟨u, v, rfl, r1, r2⟩ := vals2 r
    cases (show u = Value.ref p from r1)
    cases (show v = Value.ref D from r2)
    have o : ObjOk X.prog X.w H s.heap p (.ext (ExcAt p C)) := I.hok p _ e
    exact PySem.W.kia_one (exc_kit c) I.kIn o.1 k (fun z => nomatch z) fun tk => ⟨.bl b, H, I.tok _, rfl, q⟩
  | [.ref p, .ty T], ⟨C, b, e, c, k, q⟩ =>
    obtain ⟨u, v, rfl, r1, r2⟩ := vals2 r
    cases (show u = Value.ref p from r1)
    cases (show v = Value.type T from r2)
    have o : ObjOk X.prog X.w H s.heap p (.ext (ExcAt p C)) := I.hok p _ e
    exact PySem.W.kia_one (exc_kit c) I.kIn o.1 k (fun z => nomatch z) fun tk => ⟨.bl b, H, I.tok _, rfl, q⟩
theorem vals_refs : ∀ {ds : List Addr} {us : List Value}, Vals (ds.map V.ref) us → us = ds.map Value.ref
  | [], _, r => by cases r; rfl
  | d :: ds, _, r => by
    cases r with
    | cons r1 r2 => rw [show _ = Value.ref d from r1, vals_refs r2]; rfl
def dIsiT (K : PySem.W.Frag) : List V → Hp → VK → Prop := fun xs H Q => match xs with
  | [.ref p, .ref t] => ∃ (C : Addr) (b : Bool) (ds : List Addr), H p = some (.ext (ExcAt p C)) ∧ ExcC K C ∧ H t = some (.tup (ds.map V.ref)) ∧ PySem.W.kitAny K (.ref C) (ds.map Value.ref) = some b ∧ Q (.bl b) H
  | _ => False
theorem c_isiT : CallR X (.builtin "isinstance") (dIsiT X.K) := by
  intro pins s σ H xs us Q I r h
  match xs, h with
  | [.ref p, .ref t], ⟨C, b, ds, e, c, et, k, q⟩ =>
    obtain ⟨u, v, rfl, r1, r2⟩ := vals2 r
    cases (show u = Value.ref p from r1)
    cases (show v = Value.ref t from r2)
    have o : ObjOk X.prog X.w H s.heap p (.ext (ExcAt p C)) := I.hok p _ e
    obtain ⟨_, its, rv, ob, e1, e2, n, e3⟩ := (show ObjOk X.prog X.w H s.heap t (.tup (ds.map V.ref)) from I.hok t _ et)
    obtain ⟨oc, od, oda, osl⟩ := ob
    dsimp only at e2 e3
    subst e2 e3
    rw [vals_refs rv] at e1
    exact PySem.W.kia_tup (exc_kit c) I.kIn o.1 e1 k (fun z => nomatch z) fun tk => ⟨.bl b, H, I.tok _, rfl, q⟩
end
theorem kitN {K : PySem.W.Frag} {t : Value} : PySem.W.kitAny K t (([] : List Addr).map Value.ref) = some false := rfl
theorem kitF {K : PySem.W.Frag} {t : Value} {d : Addr} {ds : List Addr} (h : PySem.W.kitOne K t (.ref d) = some false) (r : PySem.W.kitAny K t (ds.map Value.ref) = some false) : PySem.W.kitAny K t ((d :: ds).map Value.ref) = some false := by
  rw [List.map_cons]
  unfold PySem.W.kitAny
  rw [h]
  exact r
section
variable {X : Cx} {pins : List (Addr × Obj)} {σ : L2.St} {H : Hp} {s : Shared}
theorem name_goes {M : Model} {A : Around} {E : Value → Shared → Prop} {Q : Unit → Shared → Prop} {n : Nat} {x : Str} {pos : Pos} (I : Inv X pins σ H s) (nd : X.N.Nodup) (hn : X.N[n]? = some x) (hl : X.env.scope.names.lookup x = some .local)
    (k : ∀ s', Inv X pins (σ.set n none) H s' → Q () s') : wpAny M A (do bindName X.env x .none; unbindBehindTheSuite X.env x pos) Q E s := by
  refine wpAny_bind (wpAny_bindName (store_ok I nd hn (.inl hl) (v := .non) (u := .none) rfl (fun s1 I1 => ?_) (.inr hl)))
  obtain ⟨m, hns, hloc⟩ := id I1.loc
  have hlen : n < σ.length := by rw [I.len]; exact (List.getElem?_eq_some_iff.mp hn).1
  have hm : m x = some .none := by
    obtain ⟨u, ru, lk⟩ := hloc n x .non hn (by rw [List.getElem?_set_self hlen]) (.inl hl)
    cases (show u = Value.none from ru)
    rcases lk with ⟨_, e⟩ | ⟨z, _⟩
    · exact e
    · have z' : X.env.scope.names.lookup x = some .cell ∨ X.env.scope.names.lookup x = some .free := z
      rw [hl] at z'
      rcases z' with z' | z' <;> cases z'
  have hp : (X.env.scope.kind == .class || (X.env.scope.kind == .module && X.env.locals != X.env.globals)) = false := by rw [I.ok.kind]; rfl
  have hl' : X.env.kindOf x = some .local := hl
  unfold unbindBehindTheSuite
  refine wpAny_onRaise ?_
  unfold unbindName
  refine wpAny_bind (wpAny_point (wpAny_bind ?_))
  unfold deleteName
  simp only [hl', hp]
  rw [if_neg (by decide)]
  refine wpAny_bind (wpAny_nsDel_keeps hns fun h2 v hn2 sb => ?_)
  rw [hm]
  simp only [if_true, Option.isSome_some, Bool.not_true, Bool.false_eq_true, if_false]
  refine wpAny_pure (wpAny_point (k _ ?_))
  have ne : ∀ b o, X.s₀.heap.get? b = some o → b ≠ X.env.locals := fun b o e => Nat.ne_of_lt (Nat.lt_of_lt_of_le (Heap.lt_size e) I.ok.above)
  refine ⟨I1.ok, I1.os, I1.bare, ⟨fun b o e n' hb hx => ?_, fun b o e n' hb hx => ?_, I1.base.free, fun b o e hx => ?_, I1.base.tups, I1.base.frzs, I1.base.tbls⟩, ⟨_, hn2, fun j y v' e1 e2 e3 => ?_⟩, fun y c e => ?_, I1.free, I1.freeC, fun p hp => ?_, fun b u e => ?_, ?_⟩
  · exact (sb.2 b (ne b o e)).trans (I1.base.keep b o e n' hb hx)
  · obtain ⟨sl, q⟩ := I1.base.slot b o e n' hb hx
    exact ⟨sl, (sb.2 b (ne b o e)).trans q⟩
  · obtain ⟨o', q⟩ := I1.base.there b o e hx
    exact ⟨o', (sb.2 b (ne b o e)).trans q⟩
  · have hj : j ≠ n := by
      rintro rfl
      rw [List.getElem?_set_self hlen] at e2
      cases e2
    rw [List.getElem?_set_ne (Ne.symm hj)] at e2
    obtain ⟨u', r', q⟩ := hloc j y v' e1 (by rw [List.getElem?_set_ne (Ne.symm hj)]; exact e2) e3
    refine ⟨u', r', ?_⟩
    rcases q with ⟨kk, e⟩ | ⟨kk, c, e, z⟩
    · refine .inl ⟨kk, ?_⟩
      have hy : y ≠ x := fun z => hj (nodup_ix nd e1 (z ▸ hn))
      show (if y = x then v else m y) = some u'
      rw [if_neg hy]
      exact e
    · exact .inr ⟨kk, c, e, z.sameBut sb (I1.cne y c e)⟩
  · obtain ⟨w', z⟩ := I1.cell y c e
    exact ⟨w', z.sameBut sb (I1.cne y c e)⟩
  · obtain ⟨q, q2, q3, q4⟩ := I1.pin p hp
    exact ⟨(sb.2 p.1 q3).trans q, q2, q3, q4⟩
  · refine (I1.hok b u e).stay (fun c v' hc q => (sb.2 c ?_).trans q) (fun _ q => q) fun _ _ q => q
    rintro rfl
    rcases hc with z | z
    · subst z
      rw [I1.free] at e
      cases e
    · rw [I1.free] at z
      cases z
  · have z := I1.len
    simp only [List.length_set] at z ⊢
    exact z
end
abbrev cxM (X : Cx) (v : Value) : Cx := { X with A := X.A.mark (some v), calm := false, xe := fun _ _ => False }
section
variable {X : Cx} {pins : List (Addr × Obj)} {σ : L2.St} {H : Hp} {s : Shared}
theorem inv_mark (I : Inv X pins σ H s) (v : Value) : Inv (cxM X v) pins σ H s :=
  ⟨⟨I.ok.mod, I.ok.kind, I.ok.glob, I.ok.blt, I.ok.above, I.ok.inj, I.ok.has, I.ok.cab, fun z => (nomatch z), I.ok.frames, I.ok.stk, I.ok.exf, I.ok.bs, I.ok.bsz, I.ok.noex, I.ok.exfs, I.ok.funs, I.ok.frf⟩, I.os, I.bare, I.base, I.loc, I.cell, I.free, I.freeC, I.pin, I.hok, I.len⟩
theorem inv_unmark {v : Value} (ok : X.Ok) (I : Inv (cxM X v) pins σ H s) : Inv X pins σ H s := ⟨ok, I.os, I.bare, I.base, I.loc, I.cell, I.free, I.freeC, I.pin, I.hok, I.len⟩
end
structure Cat (K : PySem.W.Frag) (D : Addr) : Prop where
  lk : ∃ dd cd sl, K.lookup D = some ⟨.type "type", dd, .cls cd, sl⟩
  mb : PySem.W.mroIn K D (.type "BaseException") = some true
theorem ExcC.cat {K : PySem.W.Frag} {C : Addr} (c : ExcC K C) : Cat K C := ⟨exc_lk c.nw, c.mb⟩
theorem exc_match {M : Model} {A : Around} {E : Value → Shared → Prop} {K : PySem.W.Frag} {a C D : Addr} {s : Shared} {Q : Bool → Shared → Prop} (X : K.In s.heap) (p : ∃ o, s.heap.get? a = some o ∧ o.cls = .ref C) (c : Cat K D)
    (hm : PySem.W.mroIn K C (.ref D) = some true) (hq : Q true s) : wpAny M A (excMatches (.ref a) (.ref D)) Q E s := by
  obtain ⟨h, g, d, t, os⟩ := s
  obtain ⟨o, e, ec⟩ := p
  obtain ⟨dd, cd, sl, lk⟩ := c.lk
  have eD := X _ _ lk
  have f := tc_notTuple
  have l1 := PySem.W.looks_mroIn (M := M) X c.mb
  have l2 := PySem.W.looks_mroIn (M := M) X hm
  unfold excMatches
  repeat (first | with_reducible refine l1.at ?_ | with_reducible refine l2.at ?_ | (with_reducible refine wpAny_loadPart_at e ?_; rw [ec]) | with_reducible refine wpAny_loadPart_at eD ?_ | wp_step)
  exact hq
def tTry (K : PySem.W.Frag) (ta : TA) (sp : Sp) (D' : Addr) (n : Nat) (tu : TS) : TS := fun D σ H => ta σ H fun vs H1 => sp vs H1 (fun _ H2 => D.nx σ H2) fun cls _ H2 => ∃ C, cls = .ref C ∧ ExcC K C ∧ PySem.W.mroIn K C (.ref D') = some true ∧
  ∀ a H3, Same H2 H3 → H3 a = some (.ext (ExcAt a C)) → tu { nx := fun σ' H' => D.nx (σ'.set n none) H', rt := D.rt, bk := fun σ' H' => D.bk (σ'.set n none) H', ct := fun σ' H' => D.ct (σ'.set n none) H' } (σ.set n (some (.ref a))) H3
section
variable {X : Cx} {pins : List (Addr × Obj)} {σ : L2.St} {H H' : Hp} {s s' : Shared}
theorem handle_ok {E : Value → Shared → Prop} {a C D' : Addr} {B : Heap} {a0 : Value} {y nm : Str} {yp hpos : Pos} {b₀ : Stmt} {suite : List Stmt} {n : Nat} {tu : TS} {D : Ends} (dx : DefCx X) (I : Inv X pins σ H s) (F : Fly X.prog X.w X.stack H s H' a (.ref C) B a0 s')
    (hy : Gl X y) (hD : X.mg y = some (.ref D')) (cD : Cat X.K D') (hm : PySem.W.mroIn X.K C (.ref D') = some true) (nd : X.N.Nodup) (hn : X.N[n]? = some nm) (hl : X.env.scope.names.lookup nm = some .local) (hu : ∀ v, PSs (cxM X v) (b₀ :: suite) tu)
    (hdb : (y == ("__debug__" : Str)) = false)
    (q : ∀ H3, Same H' H3 → H3 a = some (.ext (ExcAt a C)) → tu { nx := fun σ' H' => D.nx (σ'.set n none) H', rt := D.rt, bk := fun σ' H' => D.bk (σ'.set n none) H', ct := fun σ' H' => D.ct (σ'.set n none) H' } (σ.set n (some (.ref a))) H3) :
    wpAny (model X.prog X.w) X.A (noteFrame (.ref a) X.env) (fun _ s2 => wpAny (model X.prog X.w) X.A (setFlight (.ref a) none) (fun _ s3 =>
      wpAny (model X.prog X.w) X.A (handleBy (.ref a) X.env [.ExceptHandler (some (.Name y yp)) (some nm) (b₀ :: suite) hpos]) (SP X pins D) E s3) E s2) E s' := by
  have hfr : X.A.frames = some (X.env :: X.outer) := by rw [I.ok.frames, dx.stk]
  have hfl := F.fly
  rw [dx.stk] at hfl
  refine wpAny_looks_onW hfr dx.fr hfl fun h4 held u4 => ?_
  refine wpAny_landsW held fun h5 f5 u5 => ?_
  have I5 : Inv X pins σ H' { s' with heap := h5 } := I.call' (s' := { s' with heap := h5 }) (ch := []) F.os (F.un5 f5.1 (u4.trans u5)) (F.hok5 f5.1) F.bare fun b hb => absurd hb (by simp)
  refine wpAny_handleBy_cons (codeAny_handlers_test (ld_glob (inv_mark I5 (.ref a)) hy hD ?_ hdb)) (by intro z; cases z)
  refine exc_match I5.kIn f5.there cD hm ?_
  refine codeAny_handlers_suite_as ?_
  refine lands_againW f5 fun h6 f6 u6 => ?_
  obtain ⟨oe, ws, oe1, oe2, oe3, _⟩ := f6.first
  have up : ∀ b, b ≠ a → upd H' a (.ext (ExcAt a C)) b = H' b := fun b hb => upd_ne hb
  have sm : Same H' (upd H' a (.ext (ExcAt a C))) := fun b o e => by
    rw [up b (ne_of_none e F.free)]
    exact e
  have un0 := F.un5 f6.1 ((u4.trans u5).trans u6)
  have un6 : Un (frs X.stack) [] H (upd H' a (.ext (ExcAt a C))) s.heap h6 :=
    ⟨un0.keep, un0.slot, fun b o e n' hx => by
      have hb : b ≠ a := by
        rintro rfl
        rw [F.fresh] at e
        cases e
      rw [up b hb]
      exact un0.free b o e n' hx, un0.there, fun b xs e => sm b _ (un0.tups b xs e), fun b o u e => sm b _ (un0.frzs b o u e), fun b ps e => by
      obtain ⟨more, e1⟩ := un0.tbls b ps e
      exact ⟨more, sm b _ e1⟩⟩
  have ok0 := F.hok5 f6.1
  have ok6 : HOk X.prog X.w (upd H' a (.ext (ExcAt a C))) h6 := fun b u e => by
    by_cases hb : b = a
    · subst hb
      rw [upd_same] at e
      cases e
      refine ⟨⟨oe, ws, oe1, oe2, oe3⟩, ⟨oe, oe1⟩, fun h1 h2 ⟨o, vs, z1, z2, z3⟩ k => ⟨o, vs, k o z1, z2, z3⟩⟩
    · rw [up b hb] at e
      exact (ok0 b u e).stay (fun _ _ _ q => q) (fun c z => sm c _ z) fun c xs z => sm c _ z
  have I6 : Inv X pins σ (upd H' a (.ext (ExcAt a C))) { s' with heap := h6 } := I.call' (s' := { s' with heap := h6 }) (ch := []) F.os un6 ok6 F.bare fun b hb => absurd hb (by simp)
  refine store_ok (X := cxM X (.ref a)) (inv_mark I6 (.ref a)) nd hn (.inl hl) (v := .ref a) rfl (fun s7 I7 => ?_) (.inr hl)
  refine wpAny_mono (hu (.ref a) pins s7 _ _ _ I7 (q _ sm upd_same)) (fun fl s8 q8 => ?_) fun _ _ z => z.elim
  cases fl with
  | next =>
    obtain ⟨σ8, H8, I8, q8⟩ := q8
    exact name_goes (inv_unmark I.ok I8) nd hn hl fun s9 I9 => ⟨_, H8, I9, q8⟩
  | brk =>
    obtain ⟨σ8, H8, I8, q8⟩ := q8
    exact name_goes (inv_unmark I.ok I8) nd hn hl fun s9 I9 => ⟨_, H8, I9, q8⟩
  | cont =>
    obtain ⟨σ8, H8, I8, q8⟩ := q8
    exact name_goes (inv_unmark I.ok I8) nd hn hl fun s9 I9 => ⟨_, H8, I9, q8⟩
  | ret u =>
    obtain ⟨v, σ8, H8, I8, r8, q8⟩ := q8
    exact name_goes (inv_unmark I.ok I8) nd hn hl fun s9 I9 => ⟨v, _, H8, I9, r8, q8⟩
end
end Lw
end
section
set_option Elab.async false
set_option linter.all false
set_option maxRecDepth 100000
set_option maxHeartbeats 4000000
namespace Lw
open PySem PySem.Spec PyProof.Rows L2
section
variable {X : Cx} {a b c : Expr} {ta tb tc : TE} {pos : Pos} {tg : Expr}
def Cst (mg : Str → Option Value) (x : Str) (v : V) : Prop := ∃ u, mg x = some u ∧ RelV v u
theorem g_cst {x : Str} {v : V} (k : Cst X.mg x v) (hg : Gl X x) (hd : (x == ("__debug__" : Str)) = false := by decide) : PE X (.Name x pos) (tC v) := by
  obtain ⟨u, h1, h2⟩ := k
  exact pe_glob hg h1 h2 hd
def TupK (K : PySem.W.Frag) (a : Addr) (xs : List V) : Prop := ∀ H, SqT K H a xs
def dIxTS (K : PySem.W.Frag) : R2 := fun x y H Q => match x, y with
  | .ref p, .int i => ∃ xs v, SqT K H p xs ∧ atI xs i = some v ∧ Q v H
  | _, _ => False
def dChain (r r' : R2) (ta tb tc : TE) : TE := fun σ H Q => ta σ H fun x H1 => tb σ H1 fun y H2 => r x y H2 fun z H3 => match z with
  | .bl k => Br k (tc σ H3 fun w' H4 => r' y w' H4 Q) (Q (.bl false) H3)
  | _ => False
theorem dChain_eq (r r' : R2) (ta tb tc : TE) : dChain r r' ta tb tc = tChain r r' ta tb tc := by
  funext σ H Q
  unfold dChain tChain
  congr 1
  funext x H1
  congr 1
  funext y H2
  congr 1
  funext z H3
  apply propext
  cases z <;> simp [br_eq]
theorem t_chain {op op' : CmpOp} {r r' : R2} (ho : OpR X (compareOp op) r) (ho' : OpR X (compareOp op') r') (ha : PE X a ta) (hb : PE X b tb) (hc : PE X c tc)
    (hm : lastMarks [op, op'] [b, c] = false := by with_unfolding_all rfl) : PT X (.Compare a [op, op'] [b, c] pos) (dTest (dChain r r' ta tb tc)) := by
  rw [dTest_eq, dChain_eq]
  exact pt_chain ho ho' ha hb hc hm
def dIn1 : R2 := fun x y H Q => match x, y with
  | .str i, .str j => ∃ c, i = ⟨#[c]⟩ ∧ Q (.bl (decide (c ∈ co j))) H
  | _, _ => False
theorem o_in1 : OpR X (compareOp .In) dIn1 := by
  intro pins s σ H x y v u Q I rx ry q
  cases x <;> cases y <;> first
    | exact False.elim q
    | (obtain ⟨k, rfl, q⟩ := q
       exact op_in_str _ _ _ _ _ _ _ _ _ I rx ry ⟨_, _, rfl, rfl, by rw [StrLaws.found_one]; exact q⟩)
def Its (x : Str) : It := ⟨fun i _ => i < x.length, fun i H v H' => H' = H ∧ ∃ c, (co x)[i]? = some c ∧ v = .str ⟨#[c]⟩, fun i _ => x.length ≤ i⟩
theorem turn_strA {P : Program} {w : World} {K : PySem.W.Frag} (x : Str) (t : Tok) (it : Addr) : Turn P w K tg (Its x) [it] it (fun i h => h.IsStrIter it "str_ascii_iterator" x t i) where
  mem := by simp
  obj := fun i h st b hb => by
    have e : b = it := by simpa using hb
    subst e
    obtain ⟨o, e, _, d⟩ := st
    exact ⟨o, e, fun v z => by rw [d] at z; cases z⟩
  keep := fun i h h' st k => by
    obtain ⟨o, e, r⟩ := st
    exact ⟨o, k it (by simp) o e, r⟩
  item := by
    intro X hP hw hK hc i pins s σ H E I hf st hg
    subst hP hw hK
    have hg : i < x.cps.size := hg
    obtain ⟨f0, f1, f2, f3, f4, f5⟩ := hf it (by simp)
    refine wpAny_pyNext_ascii_item st (c := x.cps[i]) (by simp [hg]) fun h' st' sb => ?_
    have I1 : Inv X pins σ H { s with heap := h', toks := s.toks + 1 } := I.turned (fun b o hb e => (sb.2 b hb).trans e) f0 f1 f3 f4 f5
    obtain ⟨o, e, c, d⟩ := id st'
    exact ⟨_, rfl, go_of (s := { s with heap := h', toks := s.toks + 1 }) e c d (by decide) ⟨.str _, H, I1, ⟨_, rfl⟩, ⟨rfl, _, by simp [co, hg], rfl⟩, st', fun b hb => (hf b hb).1⟩⟩
  done := by
    intro X hP hw hK hc i pins s σ H E I hf st hg
    subst hP hw hK
    have hg : x.cps.size ≤ i := hg
    obtain ⟨f0, f1, f2, f3, f4, f5⟩ := hf it (by simp)
    exact wpAny_pyNext_ascii_end (I.ok.hd hc) st (by simp [hg]) fun h' eb => ⟨rfl, I.turned (t' := s.toks) (fun b o hb e => eb b o hb e) f0 f1 f3 f4 f5⟩
  self := fun _ _ _ _ _ st h => wpAny_pyIter_striter_ascii st h
theorem turn_strW {P : Program} {w : World} {K : PySem.W.Frag} (x : Str) (t : Tok) (it : Addr) : Turn P w K tg (Its x) [it] it (fun i h => h.IsStrIter it "str_iterator" x t i) where
  mem := by simp
  obj := fun i h st b hb => by
    have e : b = it := by simpa using hb
    subst e
    obtain ⟨o, e, _, d⟩ := st
    exact ⟨o, e, fun v z => by rw [d] at z; cases z⟩
  keep := fun i h h' st k => by
    obtain ⟨o, e, r⟩ := st
    exact ⟨o, k it (by simp) o e, r⟩
  item := by
    intro X hP hw hK hc i pins s σ H E I hf st hg
    subst hP hw hK
    have hg : i < x.cps.size := hg
    obtain ⟨f0, f1, f2, f3, f4, f5⟩ := hf it (by simp)
    refine wpAny_pyNext_wide_item st (c := x.cps[i]) (by simp [hg]) fun h' st' sb => ?_
    have I1 : Inv X pins σ H { s with heap := h', toks := s.toks + 1 } := I.turned (fun b o hb e => (sb.2 b hb).trans e) f0 f1 f3 f4 f5
    obtain ⟨o, e, c, d⟩ := id st'
    exact ⟨_, rfl, go_of (s := { s with heap := h', toks := s.toks + 1 }) e c d (by decide) ⟨.str _, H, I1, ⟨_, rfl⟩, ⟨rfl, _, by simp [co, hg], rfl⟩, st', fun b hb => (hf b hb).1⟩⟩
  done := by
    intro X hP hw hK hc i pins s σ H E I hf st hg
    subst hP hw hK
    have hg : x.cps.size ≤ i := hg
    obtain ⟨f0, f1, f2, f3, f4, f5⟩ := hf it (by simp)
    exact wpAny_pyNext_wide_end (I.ok.hd hc) st (by simp [hg]) fun h' eb => ⟨rfl, I.turned (t' := s.toks) (fun b o hb e => eb b o hb e) f0 f1 f3 f4 f5⟩
  self := fun _ _ _ _ _ st h => wpAny_pyIter_striter_wide st h
def iStr (tl : TE) : TI := fun σ H R => tl σ H fun x H1 => match x with
  | .str z => R (Its z) H1
  | _ => False
theorem pi_str {l : Expr} {tl : TE} (hl : PE X l tl) : PI X tg l (iStr tl) := by
  intro pins s σ H R I h
  refine thn (hl pins s σ H _ I h) fun v s1 ⟨x, H1, I1, r1, q1⟩ => ?_
  cases x <;> first
    | exact False.elim q1
    | (rename_i z
       obtain ⟨t, rfl⟩ := r1
       have fp : ∀ (o : Obj), ∀ b ∈ [s1.heap.objs.size], FpOk X pins H1 b := fun o b hb => by
         have e : b = s1.heap.objs.size := by simpa using hb
         subst e
         exact I1.fpOk (Nat.le_refl _) (I1.hok.fresh (Nat.le_refl _))
       cases ha : z.cps.all (· < 128) with
       | true =>
         refine wpAny_pyIter_ascii ha ⟨s1.heap.objs.size, [s1.heap.objs.size], _, _, H1, rfl, I1.kept (t' := s1.toks) fun b o e => Heap.get?_push_of_some _ e, turn_strA z t _, ⟨_, Heap.get?_push_size _ rfl, rfl, rfl⟩, fp default, q1⟩
       | false =>
         refine wpAny_pyIter_wide ha ⟨s1.heap.objs.size, [s1.heap.objs.size], _, _, H1, rfl, I1.kept (t' := s1.toks) fun b o e => Heap.get?_push_of_some _ e, turn_strW z t _, ⟨_, Heap.get?_push_size _ rfl, rfl, rfl⟩, fp default, q1⟩)
theorem comp_str {x : Str} {g : TG} {te : TE} {k : Nat} {js : List Nat} {σ : L2.St} {H1 : Hp} {Q : VK} (f : Nat → V) (hz : x.length ≤ 1000)
    (hs : ∀ c H2, c ∈ co x → Same H1 H2 → ∀ P : VK, P (f c) H2 → g (.str ⟨#[c]⟩) (List.replicate k none ++ capσ js σ) H2 fun σ2 H3 => σ2.drop k = capσ js σ ∧ te σ2 H3 P)
    (hq : ∀ D H', Same H1 H' → H' D = some (.lst ((co x).map f)) → Q (.ref D) H') :
    CGoal (Its x) g te k js σ H1 Q := by
  unfold CGoal
  intro D hD
  have hl := co_len x
  refine ⟨fun i m H => m = x.length - i ∧ i ≤ x.length ∧ H = upd H1 D (.lst (((co x).take i).map f)), ⟨x.length, by simp, Nat.zero_le _, rfl⟩, ?_⟩
  rintro i m H ⟨rfl, hi, rfl⟩
  by_cases hlt : i < x.length
  · refine .inr ⟨hlt, fun v H' y => ?_⟩
    obtain ⟨e1, c, hc, rfl⟩ := y
    subst e1
    refine hs c _ (List.mem_of_getElem? hc) (same_upd hD) _ ⟨_, upd_same, ?_, x.length - (i + 1), by omega, rfl, hlt, ?_⟩
    · rw [List.length_map, List.length_take]
      exact Nat.lt_of_le_of_lt (Nat.min_le_left _ _) (Nat.lt_of_lt_of_le hlt (Nat.le_trans hz (by decide)))
    · rw [upd_upd, List.take_add_one, hc, List.map_append]
      rfl
  · have e : i = x.length := by omega
    subst e
    refine .inl ⟨Nat.le_refl _, hq D _ (same_upd hD) ?_⟩
    rw [upd_same, List.take_of_length_le (by omega)]
def dStrI : List V → Hp → VK → Prop := fun xs H Q => match xs with
  | [.int i] => i.natAbs.log2 < 1920 ∧ Q (.str (toString i)) H
  | _ => False
def dAll (K : PySem.W.Frag) : List V → Hp → VK → Prop := fun xs H Q => match xs with
  | [.ref p] => ∃ bs : List Bool, SqL K H p (bs.map V.bl) ∧ Q (.bl (bs.all id)) H
  | _ => False
theorem vals_bls : ∀ {bs : List Bool} {us : List Value}, Vals (bs.map V.bl) us → us = bs.map Value.bool
  | [], _, r => by cases r; rfl
  | d :: ds, _, r => by
    cases r with
    | cons r1 r2 => rw [show _ = Value.bool d from r1, vals_bls r2]; rfl
theorem range_all : ∀ bs : List Bool, ((List.range bs.length).all fun i => bs.getD i true) = bs.all id := by
  intro bs
  rw [Bool.eq_iff_iff, List.all_eq_true, List.all_eq_true]
  constructor
  · intro h b hb
    obtain ⟨i, hi, rfl⟩ := List.getElem_of_mem hb
    have := h i (List.mem_range.mpr hi)
    rw [List.getD_eq_getElem?_getD, List.getElem?_eq_getElem hi] at this
    exact this
  · intro h i hi
    have hi := List.mem_range.mp hi
    rw [List.getD_eq_getElem?_getD, List.getElem?_eq_getElem hi]
    exact h _ (List.getElem_mem hi)
theorem c_all (hc : X.calm = true) : CallR X (.builtin "all") (dAll X.K) := by
  intro pins s σ H xs us Q I r h
  match xs, h with
  | [.ref p], ⟨bs, h1, q⟩ =>
    obtain ⟨u, rfl, r1⟩ := vals1 r
    cases (show u = Value.ref p from r1)
    obtain ⟨its, rv, pl, _⟩ := I.list h1
    have e := vals_bls rv
    subst e
    have hh := I.ok.hd hc
    have il := pl.isList
    obtain ⟨ob, eb, rb⟩ := id il
    have ne : p ≠ s.heap.objs.size := Nat.ne_of_lt (Heap.lt_size eb)
    refine call_all_walk (wpAny_pyIter_list il ?_)
    refine ⟨s.heap.objs.size, _, _, _, _, _, fun i => bs.getD i true, rfl, Walks.list (A := X.A.in1) hh s.heap.objs.size p ne (bs.map Value.bool).toArray, ⟨⟨_, Heap.get?_push_size _ rfl, rfl, rfl⟩, ⟨ob, Heap.get?_push_of_some _ eb, rb⟩⟩, fun i v s2 Q2 E2 hP hQ => ?_, fun h' tk k => ?_⟩
    · have hP : (bs.map Value.bool).toArray[i]? = some v := hP
      rw [List.getElem?_toArray, List.getElem?_map] at hP
      cases e2 : bs[i]? with
      | none =>
        rw [e2] at hP
        cases hP
      | some d =>
        rw [e2] at hP
        cases hP
        refine wpAny_truthy_bool ?_
        have : bs.getD i true = d := by rw [List.getD_eq_getElem?_getD, e2]; rfl
        rw [← this]
        exact hQ
    · refine ⟨.bl (bs.all id), H, I.kept (t' := tk) fun b o e => k b o ?_ (Heap.get?_push_of_some _ e), ?_, q⟩
      · intro z
        have z : b = s.heap.objs.size := by simpa using z
        exact Nat.lt_irrefl _ (z ▸ Heap.lt_size e)
      · show Value.bool _ = Value.bool _
        rw [List.size_toArray, List.length_map, range_all]
end
end Lw
end
set_option linter.all false
namespace Lw
open L2
def rq (t b : Int) : Rat := (t : Rat) / (b : Rat)
theorem ic_pos {b : Int} (h : 0 < b) : (0 : Rat) < (b : Rat) := Rat.intCast_pos.mpr h
theorem rq_mul {t b : Int} (h : 0 < b) : rq t b * (b : Rat) = (t : Rat) := by
  have := ic_pos h
  unfold rq
  grind
theorem rq_eq {t b t' b' : Int} (h : 0 < b) (h' : 0 < b') : rq t b = rq t' b' ↔ t * b' = t' * b := by
  have e1 := rq_mul (t := t) h
  have e2 := rq_mul (t := t') h'
  have p1 := ic_pos h
  have p2 := ic_pos h'
  constructor
  · intro e
    have : ((t * b' : Int) : Rat) = ((t' * b : Int) : Rat) := by
      rw [Rat.intCast_mul, Rat.intCast_mul, ← e1, ← e2, e]
      grind
    exact Rat.intCast_inj.mp this
  · intro e
    have e : ((t * b' : Int) : Rat) = ((t' * b : Int) : Rat) := congrArg _ e
    rw [Rat.intCast_mul, Rat.intCast_mul, ← e1, ← e2] at e
    generalize rq t b = u at *
    generalize rq t' b' = v at *
    have hc := Rat.mul_pos p1 p2
    have : (u - v) * ((b : Rat) * (b' : Rat)) = 0 := by grind
    generalize (b : Rat) * (b' : Rat) = c at *
    clear e e1 e2 p1 p2
    have z : (u - v) * c * c⁻¹ = 0 := by rw [this]; grind
    rw [Rat.mul_assoc, Rat.mul_inv_cancel c (by grind)] at z
    grind
theorem rq_lt {t b t' b' : Int} (h : 0 < b) (h' : 0 < b') : rq t b < rq t' b' ↔ t * b' < t' * b := by
  have p1 := ic_pos h
  have p2 := ic_pos h'
  unfold rq
  rw [Rat.div_lt_iff p1, show (t' : Rat) / (b' : Rat) * (b : Rat) = ((t' : Rat) * (b : Rat)) / (b' : Rat) by grind, Rat.lt_div_iff p2, ← Rat.intCast_mul, ← Rat.intCast_mul, Rat.intCast_lt_intCast]
theorem rq_low {t b : Int} (hb : 0 < b) : rq (lowT t b) (lowB t b) = rq t b := by
  rw [rq_eq (lowB_pos t hb) hb]
  have m1 := lowT_mul t b
  have m2 := lowB_mul t b
  generalize lowT t b = u at *
  generalize lowB t b = w at *
  generalize (Int.gcd t b : Int) = g at *
  subst m1 m2
  grind
theorem rq_add {t b u c : Int} (hb : 0 < b) (hc : 0 < c) : rq (t * c + u * b) (b * c) = rq t b + rq u c := by
  have p1 := ic_pos hb
  have p2 := ic_pos hc
  unfold rq
  rw [Rat.intCast_add, Rat.intCast_mul, Rat.intCast_mul, Rat.intCast_mul]
  generalize (t : Rat) = t at *
  generalize (u : Rat) = u at *
  generalize (b : Rat) = b at *
  generalize (c : Rat) = c at *
  grind
def shr (a b e : Rat) : Rat := a * e / (a * e + b)
theorem dv_pos {a b : Rat} (ha : 0 < a) (hb : 0 < b) : 0 < a / b := by
  rw [Rat.lt_div_iff hb]
  grind
end Lw
section
set_option Elab.async false
set_option linter.all false
set_option maxRecDepth 100000
set_option maxHeartbeats 4000000
set_option autoImplicit false
namespace Lw
open PySem PySem.Spec PyProof.Rows L2
section
variable {X : Cx} {pos : Pos}
def upS (x : Str) : Str := ⟨x.cps.map up1⟩
def dUpper : V → List V → Hp → VK → Prop := fun x xs H Q => match x, xs with
  | .str z, [] => z.length ≤ 1000 ∧ (∀ c ∈ co z, c < 128) ∧ Q (.str (upS z)) H
  | _, _ => False
def dListN (K : PySem.W.Frag) : List V → Hp → VK → Prop := fun xs H Q => match xs with
  | [.ref p] => ∃ ys, (SqL K H p ys ∨ SqT K H p ys) ∧ ∀ l, H l = none → Q (.ref l) (upd H l (.lst ys))
  | _ => False
end
end Lw
end
section
set_option Elab.async false
set_option linter.all false
set_option maxRecDepth 100000
set_option maxHeartbeats 4000000
set_option autoImplicit false
namespace Lw
open PySem PySem.Spec PyProof.Rows L2
section
variable {X : Cx} {pos : Pos}
structure TupD (K : PySem.W.Frag) (a : Addr) (xs : List V) : Prop where
  sq : ∀ H, SqT K H a xs
  ty : ∃ o, K.lookup a = some o ∧ o.cls = .type "tuple" ∧ o.dict = none
def dNotInS (K : PySem.W.Frag) : R2 := fun x y H Q => match y with
  | .ref p => ∃ xs, (SqL K H p xs ∨ SqT K H p xs) ∧ flatV x = true ∧ xs.all flatV = true ∧ Q (.bl (!inV x xs)) H
  | _ => False
theorem o_notin : OpR X (compareOp .NotIn) (dNotInS X.K) := by
  intro pins s σ H x y v u Q I rx ry q
  cases y <;> first
    | exact False.elim q
    | (obtain ⟨xs, h1, h2, h3, q⟩ := q
       exact op_notIn_seq _ _ _ _ _ _ _ _ _ I rx ry ⟨_, xs, rfl, h1, h2, h3, q⟩)
def dIntS : List V → Hp → VK → Prop := fun xs H Q => match xs with
  | [.str x] => ∃ n, PySem.intText? x = some n ∧ x.length ≤ 640 ∧ Q (.int n) H
  | _ => False
def dEnds : V → List V → Hp → VK → Prop := fun x xs H Q => match x, xs with
  | .str x, [.str y] => Q (.bl (Txt.endswith x y)) H
  | _, _ => False
def dSplit : V → List V → Hp → VK → Prop := fun x xs H Q => match x, xs with
  | .str x, [.str y] => (y.length == 0) = false ∧ x.length ≤ 1000 ∧ ∀ l H', Same H H' → H' l = some (.lst ((Txt.split x y).map V.str)) → Q (.ref l) H'
  | _, _ => False
def PJ (X : Cx) (es : List Expr) (t : Str → L2.St → Hp → VK → Prop) : Prop := ∀ (pins : List (Addr × Obj)) (s : Shared) (σ : L2.St) (H : Hp) (acc : Str) (Q : VK), Inv X pins σ H s → t acc σ H Q → wpAny (model X.prog X.w) X.A (joinParts acc (evalEach es X.env)) (EP X pins σ Q) X.xe s
def tJ0 : Str → L2.St → Hp → VK → Prop := fun acc _ H Q => acc.length ≤ sizeLine ∧ Q (.str acc) H
def tJS (y : Str) (t : Str → L2.St → Hp → VK → Prop) : Str → L2.St → Hp → VK → Prop := fun acc σ H Q => (acc ++ y).length ≤ sizeLine ∧ t (acc ++ y) σ H Q
def tJV (te : TE) (t : Str → L2.St → Hp → VK → Prop) : Str → L2.St → Hp → VK → Prop := fun acc σ H Q => te σ H fun x H1 => match x with
  | .str y => y.length ≤ sizeLine ∧ (acc ++ y).length ≤ sizeLine ∧ t (acc ++ y) σ H1 Q
  | .int i => i.natAbs.log2 < 1920 ∧ (acc ++ (toString i : Str)).length ≤ sizeLine ∧ t (acc ++ (toString i : Str)) σ H1 Q
  | _ => False
def dFS (t : Str → L2.St → Hp → VK → Prop) : TE := fun σ H Q => t Str.empty σ H Q
end
section
open PySem.AutoSeq1 (wpAny_loadPart')
open PySem.MeetsSeq PySem.MeetsSeq2 PySem.MeetsSeq3 PySem.SeqRoads2 PySem.SeqAt
section
variable {X : Cx} {pos : Pos}
def dTIx (K : PySem.W.Frag) : V → List V → Hp → VK → Prop := fun x xs H Q => match x, xs with
  | .ref p, [v] => ∃ (ys : List V) (j : Nat) (y : V), SqT K H p ys ∧ flatV v = true ∧ ys.all flatV = true ∧ ys[j]? = some y ∧ eqV y v = true ∧ (∀ m z, m < j → ys[m]? = some z → eqV z v = false) ∧ Q (.int (j : Int)) H
  | _, _ => False
end
end
def fg (m : Nat) : List Nat := co (Str.ofString (toString ((m : Nat) : Int)))
end Lw
end
section
set_option Elab.async false
set_option linter.all false
set_option maxRecDepth 100000
set_option maxHeartbeats 4000000
set_option autoImplicit false
namespace Lw
open PySem PySem.Spec PyProof.Rows L2
section
variable {X : Cx} {pos p2 p3 p4 : Pos}
def dIntB : List V → Hp → VK → Prop := fun xs H Q => match xs with
  | [.bl b] => Q (.int (if b then 1 else 0)) H
  | _ => False
theorem c_intB : CallR X (.type "int") dIntB := by
  intro pins s σ H xs us Q I r h
  match xs, h with
  | [.bl b], q =>
    obtain ⟨u, rfl, r1⟩ := vals1 r
    cases (show u = Value.bool b from r1)
    exact PySem.call_int_bool ⟨.int _, H, I.tok _, ⟨_, rfl⟩, q⟩
def dRevS (te : TE) : TE := fun σ H Q => te σ H fun x H1 => match x with
  | .str z => z.length ≤ sizeLine ∧ ∀ z' : Str, z'.length ≤ z.length → Q (.str z') H1
  | _ => False
def dRepl (K : PySem.W.Frag) (tw : TE) (i : Int) (y z : Str) : TE := fun σ H Q => tw σ H fun w H1 => match w with
  | .ref p => ∃ (xs : List V) (x : Str), SqL K H1 p xs ∧ atI xs i = some (.str x) ∧ x.length ≤ 1000 ∧ Q (.str (Txt.replace x y z)) H1
  | _ => False
end
end Lw
end
section
set_option Elab.async false
set_option linter.all false
set_option maxRecDepth 100000
set_option maxHeartbeats 4000000
namespace Lw
open PySem PySem.Spec PyProof.Rows L2
section
variable {X : Cx}
def tCutE (t u : TS) : TS := fun D σ H => ∃ R : L2.St → Hp → Prop, t { D with nx := R } σ H ∧ ∀ σ' H', R σ' H' → u D σ' H'
theorem ss_cutE {st : Stmt} {r : List Stmt} {t u : TS} (h1 : PS X st t) (h2 : PSs X r u) : PSs X (st :: r) (tCutE t u) := by
  intro pins s σ H D I h
  obtain ⟨R, h⟩ := h
  exact ss_cut R h1 h2 pins s σ H D I h
end
end Lw
end
section
set_option Elab.async false
set_option linter.all false
set_option maxRecDepth 100000
set_option maxHeartbeats 4000000
namespace Lw
open PySem PySem.Spec PyProof.Rows L2
def dd (l : List Str) (x : Str) : List Str := if x ∈ l then l else l ++ [x]
def lS (a b : Str) : Prop := a.cps.toList < b.cps.toList
instance : DecidableRel lS := fun a b => inferInstanceAs (Decidable (a.cps.toList < b.cps.toList))
theorem lS_irr (a : Str) : ¬ lS a a := List.lt_irrefl _
theorem lS_tr {a b c : Str} (h : lS a b) (h' : lS b c) : lS a c := List.lt_trans h h'
theorem lS_tri {a b : Str} (h : ¬ lS a b) (h' : ¬ lS b a) : a = b := by
  have e := List.le_antisymm (List.not_lt.mp h') (List.not_lt.mp h)
  cases a; cases b
  simpa using Array.toList_inj.mp e
theorem lS_as {a b : Str} (h : lS a b) : ¬ lS b a := List.lt_asymm h
abbrev Inc (l : List Str) : Prop := l.Pairwise lS
theorem inc_ext : ∀ {l m : List Str}, Inc l → Inc m → (∀ x, x ∈ l ↔ x ∈ m) → l = m
  | [], [], _, _, _ => rfl
  | [], b :: m, _, _, h => absurd ((h b).mpr (List.mem_cons_self ..)) (by simp)
  | a :: l, [], _, _, h => absurd ((h a).mp (List.mem_cons_self ..)) (by simp)
  | a :: l, b :: m, h1, h2, h => by
    have ⟨a1, a2⟩ := List.pairwise_cons.mp h1
    have ⟨b1, b2⟩ := List.pairwise_cons.mp h2
    have e : a = b := by
      rcases List.mem_cons.mp ((h a).mp (List.mem_cons_self ..)) with e | e
      · exact e
      · rcases List.mem_cons.mp ((h b).mpr (List.mem_cons_self ..)) with f | f
        · exact f.symm
        · exact absurd (b1 a e) (lS_as (a1 b f))
    subst e
    rw [inc_ext a2 b2 fun x => ⟨fun hx => ?_, fun hx => ?_⟩]
    · rcases List.mem_cons.mp ((h x).mp (List.mem_cons_of_mem _ hx)) with e | e
      · subst e
        exact absurd (a1 x hx) (lS_irr x)
      · exact e
    · rcases List.mem_cons.mp ((h x).mpr (List.mem_cons_of_mem _ hx)) with e | e
      · subst e
        exact absurd (b1 x hx) (lS_irr x)
      · exact e
def insS (x : Str) : List Str → List Str
  | [] => [x]
  | y :: l => if lS x y then x :: y :: l else if lS y x then y :: insS x l else y :: l
theorem mem_insS {x z : Str} : ∀ {l : List Str}, z ∈ insS x l ↔ z = x ∨ z ∈ l
  | [] => by simp [insS]
  | y :: l => by
    unfold insS
    split
    · simp
    · split
      · simp only [List.mem_cons, mem_insS (l := l)]
        constructor
        · rintro (h | h | h)
          · exact .inr (.inl h)
          · exact .inl h
          · exact .inr (.inr h)
        · rintro (h | h | h)
          · exact .inr (.inl h)
          · exact .inl h
          · exact .inr (.inr h)
      · rename_i h1 h2
        have e := lS_tri h1 h2
        subst e
        simp
theorem inc_insS {x : Str} : ∀ {l : List Str}, Inc l → Inc (insS x l)
  | [], _ => List.pairwise_singleton ..
  | y :: l, h => by
    have ⟨h1, h2⟩ := List.pairwise_cons.mp h
    unfold insS
    split
    · rename_i c
      exact List.pairwise_cons.mpr ⟨fun z hz => (List.mem_cons.mp hz).elim (fun e => e ▸ c) (fun e => lS_tr c (h1 z e)), h⟩
    · split
      · rename_i c
        exact List.pairwise_cons.mpr ⟨fun z hz => (mem_insS.mp hz).elim (fun e => e ▸ c) (h1 z), inc_insS h2⟩
      · exact h
def srt (l : List Str) : List Str := l.foldr insS []
theorem inc_srt : ∀ (l : List Str), Inc (srt l)
  | [] => List.Pairwise.nil
  | x :: l => inc_insS (inc_srt l)
theorem mem_srt {x : Str} : ∀ {l : List Str}, x ∈ srt l ↔ x ∈ l
  | [] => Iff.rfl
  | y :: l => by
    show x ∈ insS y (srt l) ↔ _
    rw [mem_insS, mem_srt (l := l), List.mem_cons]
theorem mem_dd {l : List Str} {x z : Str} : z ∈ dd l x ↔ z ∈ l ∨ z = x := by
  unfold dd
  split
  · rename_i h
    constructor
    · exact .inl
    · rintro (h' | rfl)
      · exact h'
      · exact h
  · simp
theorem nodup_dd {l : List Str} {x : Str} (h : l.Nodup) : (dd l x).Nodup := by
  unfold dd
  split
  · exact h
  · rename_i c
    rw [List.nodup_append]
    exact ⟨h, List.nodup_cons.mpr ⟨by simp, List.nodup_nil⟩, fun a ha b hb e => by
      rw [List.mem_singleton] at hb
      subst hb e
      exact c ha⟩
def ddn (val : Nat → Str) (i : Nat) : List Str := ((List.range i).map val).foldl dd []
theorem ddn_succ (val : Nat → Str) (i : Nat) : ddn val (i + 1) = dd (ddn val i) (val i) := by
  unfold ddn
  rw [List.range_succ, List.map_append, List.foldl_append]
  rfl
theorem ddn_nodup (val : Nat → Str) : ∀ i, (ddn val i).Nodup
  | 0 => List.nodup_nil
  | i + 1 => by
    rw [ddn_succ]
    exact nodup_dd (ddn_nodup val i)
theorem mem_ddn {val : Nat → Str} {x : Str} : ∀ {i : Nat}, x ∈ ddn val i ↔ ∃ j, j < i ∧ val j = x
  | 0 => ⟨fun h => (by cases h), fun ⟨j, h, _⟩ => absurd h (Nat.not_lt_zero _)⟩
  | i + 1 => by
    rw [ddn_succ, mem_dd, mem_ddn (i := i)]
    constructor
    · rintro (⟨j, h, e⟩ | e)
      · exact ⟨j, Nat.lt_succ_of_lt h, e⟩
      · exact ⟨i, Nat.lt_succ_self _, e.symm⟩
    · rintro ⟨j, h, e⟩
      rcases Nat.lt_succ_iff_lt_or_eq.mp h with h | rfl
      · exact .inl ⟨j, h, e⟩
      · exact .inr e.symm
theorem pairwise_inc {l : List Str} (h : l.Pairwise fun a b => ¬ lS b a) (n : l.Nodup) : Inc l := by
  induction l with
  | nil => exact List.Pairwise.nil
  | cons a l ih =>
    have ⟨h1, h2⟩ := List.pairwise_cons.mp h
    have ⟨n1, n2⟩ := List.nodup_cons.mp n
    refine List.pairwise_cons.mpr ⟨fun b hb => ?_, ih h2 n2⟩
    refine Decidable.byContradiction fun c => n1 ?_
    have e := lS_tri c (h1 b hb)
    exact e ▸ hb
theorem nd_len {α : Type} [DecidableEq α] : ∀ {l m : List α}, l.Nodup → (∀ x ∈ l, x ∈ m) → l.length ≤ m.length
  | [], m, _, _ => Nat.zero_le _
  | a :: l, m, n, h => by
    have ⟨n1, n2⟩ := List.nodup_cons.mp n
    have ha : a ∈ m := h a (List.mem_cons_self ..)
    have := nd_len (l := l) (m := m.erase a) n2 fun x hx => (List.mem_erase_of_ne (fun e : x = a => n1 (e ▸ hx))).mpr (h x (List.mem_cons_of_mem _ hx))
    rw [List.length_erase_of_mem ha] at this
    have : 0 < m.length := List.length_pos_of_mem ha
    rw [List.length_cons]
    omega
theorem inc_nodup {l : List Str} (h : Inc l) : l.Nodup := List.Pairwise.imp (S := fun a b => a ≠ b) (fun {a b} (h : lS a b) (e : a = b) => lS_irr a (e ▸ h)) h
theorem ddn_mem {names : List Str} {x : Str} : x ∈ ddn (fun i => names.getD i ⟨#[]⟩) names.length ↔ x ∈ names := by
  rw [mem_ddn]
  constructor
  · rintro ⟨j, h, rfl⟩
    rw [List.getD_eq_getElem?_getD, List.getElem?_eq_getElem h]
    exact List.getElem_mem h
  · intro h
    obtain ⟨j, hj, e⟩ := List.mem_iff_getElem.mp h
    exact ⟨j, hj, by rw [List.getD_eq_getElem?_getD, List.getElem?_eq_getElem hj]; exact e⟩
end Lw
end
section
set_option Elab.async false
set_option linter.all false
set_option maxRecDepth 100000
set_option maxHeartbeats 4000000
namespace Lw
open PySem PySem.Spec PyProof.Rows L2
def byTx (w : World) : Bool := w.params.followText "set-order"
def tx (e : Int × Value) : Str := strOf e.2
structure SetO (prog : Program) (w : World) (o : Obj) (ss : List Str) (es : Array (Int × Value)) (ep : Nat) (t : SetTable) : Prop where
  ex : o.ExactSet
  dat : o.data = .set es ep t
  el : ElemsOf (PySem.strKind prog w) es.toList
  pm : (es.toList.map tx).Perm ss
  fit : t.fits es.size = true
  bd : es.size < scanBound
  led : t.led = !byTx w
  pl : 0 < es.size → t.plain = false
def SetS (prog : Program) (w : World) (h : Heap) (a : Addr) (ss : List Str) : Prop := ∃ o es ep t, h.get? a = some o ∧ SetO prog w o ss es ep t
theorem SetO.size {prog : Program} {w : World} {o : Obj} {ss : List Str} {es : Array (Int × Value)} {ep : Nat} {t : SetTable} (S : SetO prog w o ss es ep t) : es.size = ss.length := by
  rw [← S.pm.length_eq, List.length_map, Array.length_toList]
theorem relaid_keeps {t t' : SetTable} {hs : Array Int} {n : Nat} {o : Array Nat} (h : t.relaid hs n = some (t', o)) : t'.led = t.led ∧ t'.plain = t.plain := by
  unfold SetTable.relaid SetTable.laid at h
  cases hl : SetTable.layClean (SetTable.sizeAbove n - 1) hs with
  | none =>
    rw [hl] at h
    cases h
  | some ow =>
    rw [hl] at h
    cases h
    exact ⟨rfl, rfl⟩
theorem relayAll_keeps (t : SetTable) (es : Array (Int × Value)) (n : Nat) : (relayAll t es n).2.1.led = t.led ∧ (t.plain = false → (relayAll t es n).2.1.plain = false) := by
  unfold relayAll
  split
  · rename_i t' o e
    obtain ⟨h1, h2⟩ := relaid_keeps e
    dsimp only
    split
    · exact ⟨h1, fun h => h2.trans h⟩
    · exact ⟨rfl, fun _ => rfl⟩
  · exact ⟨rfl, fun _ => rfl⟩
theorem orStandIn_led (t : SetTable) (n : Nat) : (t.orStandIn n).led = t.led := by
  unfold SetTable.orStandIn
  split <;> rfl
theorem layNew_led (t : SetTable) (es : Array (Int × Value)) (h : Int) (x : Value) : (layNew t es h x).2.1.led = t.led := by
  unfold layNew
  split
  · exact orStandIn_led _ _
  · rfl
theorem tx_of {prog : Program} {w : World} {k : Str} {e : Int × Value} (h : (PySem.strKind prog w).is k e.2 = true) : tx e = k := by
  obtain ⟨t, z⟩ := Value.isStrOf_shape h
  unfold tx
  rw [z]
  rfl
theorem storeS {prog : Program} {w : World} {h : Heap} {a : Addr} {o : Obj} {ss ss' : List Str} {es es' : Array (Int × Value)} {ep : Nat} {t t' : SetTable} (ho : h.get? a = some o) (S : SetO prog w o ss es ep t)
    (e1 : ElemsOf (PySem.strKind prog w) es'.toList) (e2 : (es'.toList.map tx).Perm ss') (e3 : t'.fits es'.size = true) (e4 : es'.size < scanBound) (e5 : t'.led = !byTx w) (e6 : t'.plain = false) :
    ∃ o', (h.update a (Obj.putSet es' t')).get? a = some o' ∧ SetO prog w o' ss' es' (ep + 1) t' := by
  have g := Heap.get?_update_self (Obj.putSet es' t') ho (by rw [putSet_of es' t' S.dat]; rfl)
  rw [putSet_of es' t' S.dat] at g
  exact ⟨_, g, ⟨S.ex, rfl, e1, e2, e3, e4, e5, fun _ => e6⟩⟩
section
variable {prog : Program} {w : World} {A : Around} {E : Value → Shared → Prop} {s : Shared}
theorem tailS {f : Bool → Sem Unit} (hf : ∀ (b : Bool) (s1 : Shared) (Q' : Unit → Shared → Prop), Q' () s1 → wpAny (model prog w) A (f b) Q' E s1) {a : Addr} {o : Obj} {ss ss' : List Str} {es es' : Array (Int × Value)} {ep : Nat} {t t' : SetTable}
    (ho : s.heap.get? a = some o) (S : SetO prog w o ss es ep t) (e1 : ElemsOf (PySem.strKind prog w) es'.toList) (e2 : (es'.toList.map tx).Perm ss') (e3 : t'.fits es'.size = true) (e4 : es'.size < scanBound) (e5 : t'.led = !byTx w)
    (e6 : t'.plain = false) {wd : Bool} {R : Option Bool → Shared → Prop} (q : ∀ g, Heap.SameBut a s.heap g → SetS prog w g a ss' → R (some true) { s with heap := g }) :
    wpAny (model prog w) A (do
      storeSet a es' t'
      if (!wd && t'.tooFull) = true then do { f (relayAll t' es' (SetTable.grown es'.size)).2.2; storeSet a (relayAll t' es' (SetTable.grown es'.size)).1 (relayAll t' es' (SetTable.grown es'.size)).2.1; pure (some true) } else pure (some true)) R E s := by
  refine wpAny_bind (wpAny_storeSet_of ho S.dat ?_ (fits_of_scanBound e4))
  obtain ⟨o1, g1, S1⟩ := storeS ho S e1 e2 e3 e4 e5 e6
  have b1 := Heap.SameBut.update s.heap a (Obj.putSet es' t')
  split
  · have r1 := relayAll_perm t' es' (SetTable.grown es'.size)
    have r2 := relayAll_fits t' es' (SetTable.grown es'.size)
    have r3 := relayAll_keeps t' es' (SetTable.grown es'.size)
    generalize relayAll t' es' (SetTable.grown es'.size) = L at r1 r2 r3 ⊢
    obtain ⟨fs, u, gv⟩ := L
    dsimp only at r1 r2 r3 ⊢
    have hz : fs.size = es'.size := by rw [← Array.length_toList, r1.length_eq, Array.length_toList]
    have hb : fs.size < scanBound := by rw [hz]; exact e4
    refine wpAny_bind (hf _ _ _ (wpAny_bind (wpAny_storeSet_of g1 S1.dat ?_ (fits_of_scanBound hb))))
    obtain ⟨o2, g2, S2⟩ := storeS g1 S1 (e1.perm r1) ((r1.map tx).trans e2) r2 hb (r3.1.trans e5) (r3.2 e6)
    exact wpAny_pure (q _ (b1.trans (Heap.SameBut.update _ a _)) ⟨o2, fs, _, u, g2, S2⟩)
  · exact wpAny_pure (q _ b1 ⟨o1, es', _, t', g1, S1⟩)
theorem addS {a : Addr} {ss : List Str} {x : Str} {tk : Tok} {Q : Bool → Shared → Prop} (hS : SetS prog w s.heap a ss) (room : ss.length + 1 < scanBound)
    (q : ∀ b g, Heap.SameBut a s.heap g → SetS prog w g a (dd ss x) → Q b { s with heap := g }) : wpAny (model prog w) A (setAddHashed a (.str x tk) ((PySem.strKind prog w).hash x)) Q E s := by
  obtain ⟨o, es, ep, t, ho, S⟩ := hS
  have key : (PySem.strKind prog w).is x (.str x tk) = true := by
    show (x == x) = true
    simp
  have scn : (Value.str x tk).scannable = true := rfl
  have hz := S.size
  unfold setAddHashed setAddHashedIn
  refine wpAny_holding (wpAny_bind (wpAny_setState_of ho S.dat S.fit ?_))
  dsimp only
  rw [byScan_of scn S.bd S.el]
  simp only [↓reduceIte]
  unfold setAddByScan
  refine wpAny_bind (wpAny_bind (wpAny_rule (wpAny_bind (wpAny_setScan_of (knd := PySem.strKind prog w) key ho S.dat S.fit S.el ?_))))
  cases hr : List.findIdx? (fun e => (PySem.strKind prog w).is x e.2) es.toList with
  | some j =>
    dsimp only
    obtain ⟨hj, hp, _⟩ := List.findIdx?_eq_some_iff_getElem.mp hr
    have hx : x ∈ ss := S.pm.mem_iff.mp (List.mem_map.mpr ⟨_, List.getElem_mem hj, tx_of hp⟩)
    refine wpAny_pure (wpAny_pure ?_)
    refine q false s.heap (Heap.SameBut.refl a s.heap) ⟨o, es, ep, t, ho, ?_⟩
    rw [show dd ss x = ss from if_pos hx]
    exact S
  | none =>
    dsimp only
    have hx : x ∉ ss := fun h => by
      obtain ⟨e, he, z⟩ := List.mem_map.mp (S.pm.mem_iff.mpr h)
      obtain ⟨⟨k, hk, _⟩, _⟩ := S.el e he
      have z' := (tx_of hk).symm.trans z
      subst z'
      have := List.findIdx?_eq_none_iff.mp hr e he
      rw [hk] at this
      cases this
    have gw : ∀ (b : Bool) (s1 : Shared) (Q' : Unit → Shared → Prop), Q' () s1 → wpAny (model prog w) A (match b with | true => rule "set.scan.the-table-gave-way" | false => pure ()) Q' E s1 := fun b s1 Q' h => by
      cases b with
      | true => exact wpAny_rule h
      | false => exact wpAny_pure h
    have r1 := layNew_perm t es ((PySem.strKind prog w).hash x) (.str x tk)
    have r2 := layNew_fits t es ((PySem.strKind prog w).hash x) (.str x tk)
    have r3 := layNew_led t es ((PySem.strKind prog w).hash x) (.str x tk)
    generalize layNew t es ((PySem.strKind prog w).hash x) (.str x tk) = L at r1 r2 r3 ⊢
    obtain ⟨fs, u, wd, gv⟩ := L
    dsimp only at r1 r2 r3 ⊢
    rw [Array.toList_push] at r1
    have f1 : ElemsOf (PySem.strKind prog w) fs.toList := (S.el.push key scn).perm r1
    have f2 : (fs.toList.map tx).Perm (dd ss x) := by
      rw [show dd ss x = ss ++ [x] from if_neg hx]
      refine (r1.map tx).trans ?_
      rw [List.map_append]
      exact S.pm.append_right _
    have fz : fs.size = es.size + 1 := by rw [← Array.length_toList, r1.length_eq, List.length_append, Array.length_toList]; rfl
    have fb : fs.size < scanBound := by rw [fz, hz]; exact room
    have fin : ∀ g, Heap.SameBut a s.heap g → SetS prog w g a (dd ss x) → wpAny (model prog w) A (pure true) Q E { s with heap := g } := fun g b h => wpAny_pure (q true g b h)
    refine wpAny_bind (gw _ _ _ ?_)
    split
    · refine wpAny_bind ?_
      rw [hashByValue_scannable 8 scn]
      refine wpAny_pure ?_
      refine tailS gw ho S f1 f2 (SetTable.fits_plain_off r2) fb (r3.trans S.led) rfl ?_
      intro g b h
      dsimp only
      exact fin g b h
    · rename_i np
      refine wpAny_bind (wpAny_pure ?_)
      simp only [↓reduceIte]
      refine tailS gw ho S f1 f2 r2 fb (r3.trans S.led) (by simpa using np) ?_
      intro g b h
      dsimp only
      exact fin g b h
theorem ddn_len (val : Nat → Str) : ∀ i, (ddn val i).length ≤ i
  | 0 => Nat.le_refl _
  | i + 1 => by
    have h := ddn_len val i
    rw [ddn_succ]
    unfold dd
    split
    · omega
    · rw [List.length_append, List.length_singleton]
      omega
theorem loopS {R : Result → Shared → Prop} {I : Addr} {fp wr : List Addr} {G : Array GenState → Array GenState → Prop} {n : Nat} {P : Nat → Value → Prop} {St : Nat → Shared → Prop} (W : WalksS prog w A.in1 I fp wr G n P St) (S : Addr) (nS : S ∉ fp)
    (val : Nat → Str) (hv : ∀ i v, P i v → ∃ t, v = .str (val i) t) (hb : n + 1 < scanBound) : ∀ (k i : Nat) (s : Shared), n - i = k → i ≤ n → St i s → SetS prog w s.heap S (ddn val i) →
      (∀ s', Moved (S :: wr) G s s' → SetS prog w s'.heap S (ddn val n) → R (.ok (.ret .none)) s') → codeAny (model prog w) A (.builtin "set.update.loop" ⟨[.ref S, .ref I], []⟩) R s := by
  have nw : S ∉ wr := fun h => nS (W.sub _ h)
  have sub : ∀ b ∈ wr, b ∈ S :: wr := fun b hb => List.mem_cons_of_mem _ hb
  have keepS : ∀ {s s' : Shared} {ss : List Str}, Moved wr G s s' → SetS prog w s.heap S ss → SetS prog w s'.heap S ss := fun m ⟨o, es, ep, t, h, z⟩ => ⟨o, es, ep, t, m.heap S _ nw h, z⟩
  intro k
  induction k with
  | zero =>
    intro i s hk hi st hS hR
    have e : i = n := by omega
    subst e
    refine codeAny_builtin PyProof.Rows.F.entry_set_update_loop ?_
    rw [Around.under_plainId PyProof.Rows.F.plain_set_update_loop _]
    show wpAny _ A.in1 (pyNext (.ref I) >>= _) _ _ s
    refine wpAny_bind (W.done s _ _ st fun s' m => wpAny_pure (hR s' (m.mono sub) (keepS m hS)))
  | succ k ih =>
    intro i s hk hi st hS hR
    have lt : i < n := by omega
    refine codeAny_builtin PyProof.Rows.F.entry_set_update_loop ?_
    rw [Around.under_plainId PyProof.Rows.F.plain_set_update_loop _]
    show wpAny _ A.in1 (pyNext (.ref I) >>= _) _ _ s
    refine wpAny_bind (W.item i s _ _ lt st fun v s' hP st' m => ?_)
    obtain ⟨t, rfl⟩ := hv i v hP
    have hS' := keepS m hS
    show wpAny _ A.in1 (holding [Value.str (val i) t] (setAdd S (.str (val i) t)) >>= _) _ _ s'
    refine wpAny_bind (wpAny_holding ?_)
    unfold setAdd
    refine wpAny_holding (wpAny_bind ((PySem.strKind prog w).pyHash (k := val i) (by show (val i == val i) = true; simp) ?_))
    have room : (ddn val i).length + 1 < scanBound := by have := ddn_len val i; omega
    refine addS (s := { s' with toks := s'.toks + 1 }) hS' room fun b g sb hS2 => ?_
    rw [← ddn_succ] at hS2
    refine wpAny_pure ⟨plainId_quiet PyProof.Rows.F.plain_set_update_loop _, ih (i + 1) _ (by omega) lt (W.frame _ s' _ _ st' (Nat.le_succ _) fun c hc o e => ?_) hS2 fun s2 m2 z2 => ?_⟩
    · rw [sb.2 c (fun h : c = S => nS (h ▸ hc))]
      exact e
    · refine hR s2 (Moved.trans W.gtrans ((m.mono sub).then_heap (Nat.le_succ _) fun c o hc e => ?_) m2) z2
      rw [sb.2 c (fun h : c = S => hc (by rw [h]; exact List.mem_cons_self))]
      exact e
def fsO (w : World) : Obj := { cls := .type "set", dict := none, data := .set #[] 0 (.fresh 0 0 (!byTx w)) }
theorem fsS (h : Heap) : SetS prog w (h.push (fsO w)) h.objs.size [] :=
  ⟨fsO w, #[], 0, _, Heap.get?_push_size _ rfl, ⟨⟨rfl, rfl, rfl⟩, rfl, fun e he => by simp at he, List.Perm.refl _, rfl, by decide, rfl, fun h => absurd h (by decide)⟩⟩
theorem new_setS (v : Value) {Q : Value → Shared → Prop} (q : Q (.ref s.heap.objs.size) { s with heap := s.heap.push (fsO w) }) : codeAny (model prog w) A (.call (.builtin "set.__new__") ⟨[.type "set", v], []⟩) (wants Q E) s := by
  refine codeAny_of_tree ?_
  show wpAny _ A.in1 (do { checkBuiltinCall "set.__new__" ⟨[.type "set", v], []⟩; again (.builtin "set.__new__" ⟨[.type "set", v], []⟩) }) _ _ s
  refine wpAny_bind (wpAny_of_eq (PySem.F.newCall_set_1 v) (wpAny_pure ⟨plainId_quiet PySem.F.plain_set_new _, codeAny_builtin PySem.F.entry_set_new ?_⟩))
  rw [Around.under_plainId PySem.F.plain_set_new _]; unfold Builtin.«set.__new__» Builtin.Frozenset.newClass
  have sub := sub_set_self; obtain ⟨hp, g, d, tk, os⟩ := s; dsimp only
  wp_walk
  refine wpAny_askSetting (wpAny_pure ?_); dsimp only; simp only [newObj]
  refine wpAny_bind (wpAny_alloc (wpAny_pure (wpAny_pure ?_)))
  exact q
theorem strs_at : ∀ {vs : List Value} {ss : List Str}, StrsAre vs ss → ∀ (i : Nat) (v : Value), vs[i]? = some v → ∃ t, v = .str (ss.getD i ⟨#[]⟩) t
  | _, _, .nil, i, v, h => by simp at h
  | _, _, .cons x t r, 0, v, h => by
    simp at h
    exact ⟨t, h.symm⟩
  | _, _, .cons x t r, i + 1, v, h => by
    simp only [List.getElem?_cons_succ] at h
    obtain ⟨t', e⟩ := strs_at r i v h
    exact ⟨t', by rw [e]; rfl⟩
theorem call_setS {l : Addr} {vs : List Value} {ss : List Str} {Q : Value → Shared → Prop} (hh : A.handled = none) (hl : s.heap.IsList l vs.toArray) (hi : StrsAre vs ss) (hb : vs.length + 1 < scanBound)
    (q : ∀ g tk, SetS prog w g s.heap.objs.size (ddn (fun i => ss.getD i ⟨#[]⟩) vs.length) → (∀ b o, s.heap.get? b = some o → g.get? b = some o) → Q (.ref s.heap.objs.size) { s with heap := g, toks := tk }) :
    wpAny (model prog w) A (call (.type "set") [.ref l]) Q E s := by
  obtain ⟨c, tl, mro⟩ := PySem.F.called_set.mro
  have made := PySem.F.called_set.made
  have sub := PySem.F.called_set.sub
  refine wpAny_call (codeAny_of_tree ?_)
  show wpAny _ _ (callAny (.type "set") _) _ _ _
  refine wpAny_pure ⟨Code.quiet_builtin _ (by decide +kernel), codeAny_builtin PySem.F.entry_type_call ?_⟩
  rw [Around.under_plain (weight_type_call_type "set" [.ref l] []) rfl]
  have z1 := PySem.F.called_set.notType
  have z2 := PySem.F.called_set.canCreate
  have z3 := PySem.F.typeCall_set_1 (.ref l)
  repeat (any_goals (first | assumption | wp_step))
  refine codeAny_mono (new_setS (.ref l) (E := E) (Q := fun v s1 => v = .ref s.heap.objs.size ∧ s1 = { s with heap := s.heap.push (fsO w) }) ⟨rfl, rfl⟩) fun r s1 hr => ?_
  match r, hr with
  | .error e, hr => exact hr
  | .ok (.ret v), hr =>
    obtain ⟨rfl, rfl⟩ := hr
    have gS : (s.heap.push (fsO w)).get? s.heap.objs.size = some (fsO w) := Heap.get?_push_size _ rfl
    have ty : Shared.TypeIs { s with heap := s.heap.push (fsO w) } (.ref s.heap.objs.size) "set" := ⟨_, gS, rfl⟩
    have z4 := PySem.F.called_set.init.lookup
    have z5 := PySem.F.called_set.init.bind (.ref s.heap.objs.size)
    repeat (any_goals (first | assumption | wp_step))
    refine codeAny_mono (codeAny_call_builtin (R := wants (fun r s2 => r = .none ∧ ∃ g tk, s2 = { s with heap := g, toks := tk } ∧ SetS prog w g s.heap.objs.size (ddn (fun i => ss.getD i ⟨#[]⟩) vs.length) ∧ ∀ b o, s.heap.get? b = some o → g.get? b = some o) E)
      PySem.F.called_set.init.plain PySem.F.entry_set_init (check_set_init_1 ty ?_)) fun r2 s2 hr2 => ?_
    · obtain ⟨ol, hol, hcl, nl, hdl⟩ := hl
      obtain ⟨oc, od, odt, osl⟩ := ol
      simp only at hcl hdl
      subst hcl hdl
      have hol1 : (s.heap.push (fsO w)).get? l = some { cls := .type "list", dict := od, data := .seq vs.toArray nl, slots := osl } := Heap.get?_push_of_some _ hol
      have gS1 : (s.heap.push (fsO w)).get? s.heap.objs.size = some { cls := .type "set", dict := none, data := .set #[] 0 (.fresh 0 0 (!byTx w)) } := gS
      have z6 := PySem.F.sub_list_set
      have z7 := PySem.F.sub_list_frozenset
      have z8 : (Value.type "list" == Value.type "dict") = false := by decide
      have hl1 : (s.heap.push (fsO w)).IsList l vs.toArray := ⟨_, hol1, rfl, nl, rfl⟩
      have lt : l < s.heap.objs.size := Heap.lt_size hol
      clear gS hol
      generalize hg : s.heap.push (fsO w) = g0 at *
      unfold Builtin.«set.__init__» noKeywords Builtin.Frozenset.updateFrom
      generalize hPI : pyIter = PI
      wp_walk
      subst hPI
      refine wpAny_pyIter_list hl1 ?_
      refine wpAny_bind (wpAny_runValue ?_)
      have sz : g0.objs.size = s.heap.objs.size + 1 := by rw [← hg]; exact Heap.size_push ..
      have neI : l ≠ g0.objs.size := by rw [sz]; exact Nat.ne_of_lt (Nat.lt_succ_of_lt lt)
      have nf : s.heap.objs.size ∉ [g0.objs.size, l] := by
        rw [sz]
        simp only [List.mem_cons, List.not_mem_nil, or_false, not_or]
        exact ⟨Nat.ne_of_lt (Nat.lt_succ_self _), Nat.ne_of_gt lt⟩
      have hval : ∀ (i : Nat) (v : Value), vs.toArray[i]? = some v → ∃ t, v = .str ((fun i => ss.getD i ⟨#[]⟩) i) t := fun i v hv => strs_at hi i v (by rw [← hv]; simp)
      refine loopS ((Walks.list (by simp [hh]) _ l neI vs.toArray).toS) s.heap.objs.size nf (fun i => ss.getD i ⟨#[]⟩) hval (by simpa using hb) (vs.toArray.size - 0) 0 _ (by omega) (Nat.zero_le _) ⟨⟨_, Heap.get?_push_size _ rfl, rfl, rfl⟩, hl1.push _⟩ ?hS0 ?hR
      case hS0 =>
        obtain ⟨o, es, ep, t, h1, h2⟩ := fsS (prog := prog) (w := w) s.heap
        rw [hg] at h1
        exact ⟨o, es, ep, t, Heap.get?_push_of_some _ h1, h2⟩
      case hR =>
        intro s' m hS'
        obtain ⟨g', gn, dr, tk, os⟩ := s'
        obtain ⟨m1, m2, m3, m4, m5⟩ := m
        dsimp only at m1 m2 m3 m4 m5
        subst m2 m3 m4
        show wpAny _ _ _ _ _ _
        refine wpAny_pure ?_
        show wpAny _ _ (ret Value.none) _ _ _
        refine wpAny_pure ⟨rfl, g', tk, rfl, ?_, fun b o e => m1 b o ?_ (Heap.get?_push_of_some _ ?_)⟩
        · simpa using hS'
        · have hb := Heap.lt_size e
          rw [sz]
          simp only [List.mem_cons, List.not_mem_nil, or_false, not_or]
          exact ⟨Nat.ne_of_lt hb, Nat.ne_of_lt (Nat.lt_succ_of_lt hb)⟩
        · rw [← hg]
          exact Heap.get?_push_of_some _ e
    · match r2, hr2 with
      | .error e, hr2 => exact hr2
      | .ok (.ret v), hr2 =>
        obtain ⟨rfl, g, tk, rfl, h1, h2⟩ := hr2
        repeat (any_goals (first | assumption | wp_step))
        exact q _ _ h1 h2
      | .ok .next, hr2 => exact hr2.elim
      | .ok .brk, hr2 => exact hr2.elim
      | .ok .cont, hr2 => exact hr2.elim
  | .ok .next, hr => exact hr.elim
  | .ok .brk, hr => exact hr.elim
  | .ok .cont, hr => exact hr.elim
end
end Lw
end
section
set_option Elab.async false
set_option linter.all false
set_option maxRecDepth 100000
set_option maxHeartbeats 4000000
namespace Lw
open PySem PySem.Spec PyProof.Rows L2
def SI (h : Heap) (I : Addr) (f : Value) (i : Nat) (a : Addr) (n ep : Nat) : Prop := ∃ o, h.get? I = some o ∧ o.cls = .type "set_iterator" ∧ o.data = .fields #[f, .int i 0, .ref a, .int n 0, .int ep 0]
section
variable {prog : Program} {w : World} {A : Around} {E : Value → Shared → Prop} {s : Shared}
theorem rising_le : ∀ {l : List Str} {p : Str}, risingS p l = true → (∀ y ∈ l, ¬ lS y p) ∧ l.Pairwise fun a b => ¬ lS b a
  | [], _, _ => ⟨fun _ h => absurd h (by simp), List.Pairwise.nil⟩
  | x :: r, p, h => by
    have h' : (!ltCps x.cps.toList p.cps.toList && risingS x r) = true := h
    rw [Bool.and_eq_true, Bool.not_eq_true', ltCps_eq] at h'
    obtain ⟨h1, h2⟩ := h'
    have n1 : ¬ lS x p := of_decide_eq_false h1
    obtain ⟨i1, i2⟩ := rising_le h2
    refine ⟨fun y hy => ?_, List.pairwise_cons.mpr ⟨i1, i2⟩⟩
    rcases List.mem_cons.mp hy with rfl | hy
    · exact n1
    · intro c
      exact i1 y hy (Decidable.byContradiction fun d => n1 (Decidable.byContradiction fun n1' => by
        by_cases e : lS p x
        · exact d (lS_tr c e)
        · have e2 := lS_tri n1' e
          subst e2
          exact d c))
theorem sorted_le {l : List Str} (h : sortedS l = true) : l.Pairwise fun a b => ¬ lS b a := by
  cases l with
  | nil => exact List.Pairwise.nil
  | cons x r =>
    obtain ⟨h1, h2⟩ := rising_le (p := x) (l := r) h
    exact List.pairwise_cons.mpr ⟨h1, h2⟩
end
section
variable {X : Cx}
theorem vals_str : ∀ {us : List Value} {ys : List Str}, StrsAre us ys → Vals (ys.map V.str) us
  | _, _, .nil => .nil
  | _, _, .cons x t r => .cons ⟨t, rfl⟩ (vals_str r)
theorem boot_set : bootBuiltins "set" = some (.type "set") := by decide +kernel
def dSSet (K : PySem.W.Frag) (te : TE) : TE := fun σ H Q => te σ H fun x H1 => match x with
  | .ref l => ∃ names : List Str, SqL K H1 l (names.map V.str) ∧ names.length ≤ 1000 ∧ (srt names).length < 64 ∧ ∀ D, H1 D = none → Q (.ref D) (upd H1 D (.lst ((srt names).map V.str)))
  | _ => False
end
end Lw
end
section
set_option Elab.async false
set_option linter.all false
set_option maxRecDepth 100000
set_option maxHeartbeats 4000000
namespace Lw
open PySem PySem.Spec PyProof.Rows L2
section
variable {prog : Program} {w : World} {A : Around} {R : Result → Shared → Prop} {s : Shared}
theorem turn_eqI (elt tg iter cd : Expr) (scope : Scope) (pos : Pos) (it acc : Value) (env : Env) :
    compTurn (.ListComp elt [⟨tg, iter, [cd], 0⟩] scope pos) 0 it acc env = (standAt iter.pos >>= fun _ => pyNext it >>= fun r => match r with
      | none => pure (.done .next)
      | some v => letOwnedTupleGo tg it v >>= fun _ => assign tg env v >>= fun _ => isTrue cd env (eval cd env) >>= fun b => if b = true then ((eval elt env >>= fun x => call (.builtin "list.append") [acc, x] >>= fun _ => pure ()) >>= fun _ => again (.compLoop (.ListComp elt [⟨tg, iter, [cd], 0⟩] scope pos) 0 it acc env)) else again (.compLoop (.ListComp elt [⟨tg, iter, [cd], 0⟩] scope pos) 0 it acc env)) := by
  unfold compTurn
  simp only [List.getElem?_cons_zero, bne_self_eq_false, Bool.false_eq_true, if_false, List.forIn_cons, List.forIn_nil, if_true]
  congr 1
  funext _
  congr 1
  funext r
  cases r with
  | none => rfl
  | some v =>
    simp only [bind_assoc, pure_bind]
    rfl
theorem loop_compI {elt tg iter cd : Expr} {scope : Scope} {pos : Pos} {it acc : Value} {env : Env} (I : Nat → Shared → Prop)
    (turn : ∀ n s, I n s → wpAny (model prog w) A (pyNext it) (fun r s1 => (r = none ∧ R (.ok .next) s1) ∨ ∃ v, r = some v ∧ wpAny (model prog w) A (letOwnedTupleGo tg it v) (fun _ s2 => wpAny (model prog w) A (assign tg env v) (fun _ s3 =>
      wpAny (model prog w) A (isTrue cd env (eval cd env)) (fun b s3 => Br b (wpAny (model prog w) A (eval elt env) (fun x s4 => wpAny (model prog w) A (call (.builtin "list.append") [acc, x]) (fun _ s5 => ∃ m, m < n ∧ I m s5) (fun _ _ => False) s4) (fun _ _ => False) s3) (∃ m, m < n ∧ I m s3)) (fun _ _ => False) s3) (fun _ _ => False) s2) (fun _ _ => False) s1) (fun _ _ => False) s)
    (n : Nat) (h : I n s) : codeAny (model prog w) A (.compLoop (.ListComp elt [⟨tg, iter, [cd], 0⟩] scope pos) 0 it acc env) R s := by
  refine codeAny_loop rfl I (fun n s hI => ?_) n h
  show wpAny _ _ ((compTurn (.ListComp elt [⟨tg, iter, [cd], 0⟩] scope pos) 0 it acc env).onRaise (fun x => do noteFrame x env; theTreesLotGoes x)) _ _ s
  refine wpAny_noted ?_
  rw [turn_eqI]
  refine wpAny_bind (wpAny_standAt (wpAny_bind (wpAny_mono (turn n s hI) (fun r s1 h1 => ?_) fun _ _ z => z.elim)))
  rcases h1 with ⟨rfl, h1⟩ | ⟨v, rfl, h1⟩
  · exact wpAny_pure h1
  · refine wpAny_bind (wpAny_mono h1 (fun _ s2 h2 => ?_) fun _ _ z => z.elim)
    refine wpAny_bind (wpAny_mono h2 (fun _ s3 h3 => ?_) fun _ _ z => z.elim)
    refine wpAny_bind (wpAny_mono h3 (fun b s3 h3 => ?_) fun _ _ z => z.elim)
    cases b with
    | true =>
      refine wpAny_bind (wpAny_bind (wpAny_mono (h3.1 rfl) (fun x s4 h4 => ?_) fun _ _ z => z.elim))
      refine wpAny_bind (wpAny_mono h4 (fun _ s5 h5 => ?_) fun _ _ z => z.elim)
      exact wpAny_pure (wpAny_pure ⟨rfl, h5⟩)
    | false => exact wpAny_pure ⟨rfl, h3.2 rfl⟩
end
@[irreducible] def CGoalI (J : It) (g : TG) (tc : TT) (te : TE) (k : Nat) (js : List Nat) (σ : L2.St) (H1 : Hp) (Q : VK) : Prop := ∀ D, H1 D = none → ∃ W : Nat → Nat → Hp → Prop, (∃ m, W 0 m (upd H1 D (.lst []))) ∧ ∀ i m H, W i m H →
  (J.stop i H ∧ Q (.ref D) H) ∨ (J.go i H ∧ ∀ x H', J.yld i H x H' → g x (List.replicate k none ++ capσ js σ) H' fun σ2 H2 => σ2.drop k = capσ js σ ∧ tc σ2 H2 fun b H3 => Br b (te σ2 H3 fun v H4 => ∃ xs, H4 D = some (.lst xs) ∧ xs.length < sizeLine ∧ ∃ m', m' < m ∧ W (i + 1) m' (upd H4 D (.lst (xs ++ [v])))) (∃ m', m' < m ∧ W (i + 1) m' H3))
def dCompI (wi : TI) (g : TG) (tc : TT) (te : TE) (k : Nat) (js : List Nat) : TE := fun σ H Q => wi σ H fun J H1 => CGoalI J g tc te k js σ H1 Q
section
variable {X : Cx}
theorem comp_coreI {elt iter tg cd : Expr} {scope : Scope} {pos : Pos} {wi : TI} {te : TE} {tc : TT} {g : TG} {N : List Str} {cl : List (Str × Addr)} (k : Nat) (js : List Nat) (hi : PI X tg iter wi)
    (hg : ∀ C s H fp, PG (cxC X N s H (compEnvC scope cl C X.env) fp) tg g) (hd : ∀ C s H fp, PT (cxC X N s H (compEnvC scope cl C X.env) fp) cd tc) (he : ∀ C s H fp, PE (cxC X N s H (compEnvC scope cl C X.env) fp) elt te) (hcalm : X.calm = true)
    (hclos : closureFor scope X.env = pure cl) (hkind : scope.kind = .function) (hcell : ∀ y ∈ scope.names, y.2 ≠ .cell) (hnames : ∀ y ∈ scope.names, y.2 = .local → scope.names.lookup y.1 = some .local)
    (hcl : ∀ y c, cl.lookup y = some c → X.env.cells.lookup y = some c) (hhas : ∀ y, ((relabel scope X.env).names.lookup y = some .cell ∨ (relabel scope X.env).names.lookup y = some .free) → ∃ c, cl.lookup y = some c)
    (hlen : N.length = k + js.length) (hcap : ∀ i j, js[i]? = some j → ∃ y, N[k + i]? = some y ∧ Cap X (relabel scope X.env) cl j y)
    (hs : ∀ x, foldedSetIterable iter X.env x = pure x) {pins : List (Addr × Obj)} {s : Shared} {σ : L2.St} {H : Hp} {Q : VK} (I : Inv X pins σ H s) (h : dCompI wi g tc te k js σ H Q) {cpos : Pos} {use : Option (Value → Sem Unit)} {Qv : Value → Shared → Prop}
    (fin : ∀ (s6 : Shared) (H5 : Hp) (D C : Addr) (m : Str → Option Value), Inv X pins σ H5 s6 → s6.heap.Ns C m → H5 C = none → X.s₀.heap.objs.size ≤ C → C ≠ X.env.locals → (∀ x c, X.env.cells.lookup x = some c → c ≠ C) → (∀ p ∈ X.pn ++ pins, p.1 ≠ C) → Q (.ref D) H5 →
      compPost (model X.prog X.w) X.A X.xe use Qv (.ref D) C (.ok .next) s6) :
    wpAny (model X.prog X.w) X.A (comprehension (.ListComp elt [⟨tg, iter, [cd], 0⟩] scope pos) scope X.env cpos (newList []) false (eval iter X.env) use) Qv X.xe s := by
  refine wpAny_comprehension_free (use := use) rfl hs hclos hkind hnames (thn (hi pins s σ H _ I h) fun v s1 h1 => thn h1 fun itv s2 h2 => ?_)
  obtain ⟨it, fp, tn, J, H2, rfl, I2, T, st2, f2, h2⟩ := h2
  refine wpAny_newObj_type ?_
  have hD : H2 s2.heap.objs.size = none := I2.hok.fresh (Nat.le_refl _)
  unfold CGoalI at h2
  obtain ⟨W, ⟨m0, w0⟩, turn⟩ := h2 _ hD
  have I3 : Inv X pins σ (upd H2 s2.heap.objs.size (.lst [])) { s2 with heap := s2.heap.push { cls := .type "list", dict := none, data := .seq ([] : List Value).toArray } } :=
    I2.laid (t' := s2.toks) (fun b u e => Heap.get?_push_of_some _ e) (Nat.le_refl _) ⟨Nat.zero_le _, [], 0, .nil, Heap.get?_push_size _ rfl⟩
  have hlt : ∀ b ∈ fp, b < s2.heap.objs.size := fun b hb => by
    obtain ⟨o, e, _⟩ := T.obj _ _ st2 b hb
    exact Heap.lt_size e
  have f3 : ∀ b ∈ fp, FpOk X pins (upd H2 s2.heap.objs.size (.lst [])) b := fun b hb => ⟨by rw [upd_ne (Nat.ne_of_lt (hlt b hb))]; exact (f2 b hb).1, (f2 b hb).2⟩
  have st3 : tn 0 (s2.heap.push { cls := .type "list", dict := none, data := .seq ([] : List Value).toArray }) := T.keep _ _ _ st2 fun b hb o e => Heap.get?_push_of_some _ e
  have hlt3 : ∀ b ∈ fp, b < (s2.heap.push { cls := .type "list", dict := none, data := .seq ([] : List Value).toArray }).objs.size := fun b hb => Nat.lt_of_lt_of_le (hlt b hb) (by rw [Heap.size_push]; exact Nat.le_succ _)
  generalize hs3 : ({ s2 with heap := s2.heap.push { cls := .type "list", dict := none, data := .seq ([] : List Value).toArray } } : Shared) = s3 at I3
  have eh : s3.heap = s2.heap.push { cls := .type "list", dict := none, data := .seq ([] : List Value).toArray } := by rw [← hs3]
  rw [← eh] at st3 hlt3
  generalize hDD : s2.heap.objs.size = D at *
  generalize hH3 : upd H2 D (.lst []) = H3 at *
  clear hs3 eh
  refine wpAny_newFunctionEnv (s := s3) hcell (by intro y hy; simp at hy) (fun h4 n4 sb4 => ?_) hkind
  have Ok := comp_ok (N := N) (C := s3.heap.objs.size) I3 hkind (Nat.le_refl _) hcl hhas fun b hb => ⟨f3 b hb, hlt3 b hb⟩
  show codeAny _ _ (.compStart (.ListComp elt [⟨tg, iter, [cd], 0⟩] scope pos) 0 (.ref it) (.ref D) (compEnvC scope cl s3.heap.objs.size X.env)) _ _
  generalize hC : s3.heap.objs.size = C at *
  have old : ∀ b o, s3.heap.get? b = some o → h4.get? b = some o := fun b o e => sb4.extBut b o (by rw [← hC]; exact Nat.ne_of_lt (Heap.lt_size e)) (Heap.get?_push_of_some _ e)
  have fresh : H3 C = none := I3.hok.fresh (by rw [hC]; exact Nat.le_refl _)
  have hcapl : ∀ {i : Nat} {x : Str} {v : V}, N[i]? = some x → (List.replicate k none ++ capσ js σ)[i]? = some (some v) → ∃ u, L2.RelV v u ∧ Look (compEnvC scope cl C X.env) h4 (fun _ => none) x u := by
    intro i x v e1 e2
    by_cases hik : i < k
    · rw [List.getElem?_append_left (by simpa using hik)] at e2
      rw [List.getElem?_replicate] at e2
      simp [hik] at e2
    · rw [List.getElem?_append_right (by simpa using Nat.le_of_not_lt hik), List.length_replicate] at e2
      unfold capσ at e2
      rw [List.getElem?_map] at e2
      cases ej : js[i - k]? with
      | none =>
        rw [ej] at e2
        cases e2
      | some j =>
        rw [ej] at e2
        have e2 : (σ[j]?).join = some v := Option.some.inj e2
        obtain ⟨y, hy, cp⟩ := hcap _ _ ej
        rw [show k + (i - k) = i by omega, e1] at hy
        cases hy
        obtain ⟨m, _, hl⟩ := I3.loc
        have e3 : σ[j]? = some (some v) := by
          cases q : σ[j]? with
          | none =>
            rw [q] at e2
            cases e2
          | some o =>
            rw [q] at e2
            have : o = some v := e2
            rw [this]
        obtain ⟨u, ru, lk⟩ := hl j x v cp.nm e3 (.inr (.inl cp.ko))
        refine ⟨u, ru, ?_⟩
        rcases lk with ⟨z, _⟩ | ⟨_, c, hc, z⟩
        · rw [cp.ko] at z
          cases z
        · refine .inr ⟨.inl cp.ki, c, by rw [← hc]; exact cp.cl, ?_⟩
          obtain ⟨o, e, d⟩ := z
          exact ⟨o, old _ _ e, d⟩
  have I4 : Inv (cxC X N s3 H3 (compEnvC scope cl C X.env) fp) [] (List.replicate k none ++ capσ js σ) H3 { s3 with heap := h4, toks := s3.toks + ([] : List (Str × Value)).length } := by
    refine ⟨Ok, rfl, I3.bare, Un.kept old, ⟨_, n4, fun i x v e1 e2 e3 => ?_⟩, fun x c e => ?_, fresh, fun x c e => I3.freeC x c (hcl x c e), fun p hp => absurd hp (by simp), I3.hok.kept old, ?_⟩
    · obtain ⟨u, ru, lk⟩ := hcapl e1 e2
      refine ⟨u, ru, ?_⟩
      rcases lk with ⟨z, q⟩ | q
      · cases q
      · exact .inr q
    · obtain ⟨v, o, e1, d⟩ := I3.cell x c (hcl x c e)
      exact ⟨v, o, old _ _ e1, d⟩
    · simp [capσ, hlen]
  have fp4 : ∀ {H' : Hp}, (∀ b ∈ fp, H' b = none) → ∀ b ∈ fp, FpOk (cxC X N s3 H3 (compEnvC scope cl C X.env) fp) [] H' b := fun hn b hb =>
    ⟨hn b hb, (Ok.exf b hb).1, Ok.exfs b hb, .inl hb, fun x c e => (Ok.exf b hb).2 x c e, fun p hp => absurd hp (by simp)⟩
  have st4 : tn 0 h4 := T.keep _ _ _ st3 fun b hb o e => old b o e
  have run : ∀ s4 : Shared, s4 = { s3 with heap := h4, toks := s3.toks + ([] : List (Str × Value)).length } →
      codeAny (model X.prog X.w) X.A (.compLoop (.ListComp elt [⟨tg, iter, [cd], 0⟩] scope pos) 0 (.ref it) (.ref D) (compEnvC scope cl C X.env)) (compPost (model X.prog X.w) X.A X.xe use Qv (.ref D) C) s4 := by
    rintro s4 rfl
    refine loop_compI (fun n s' => ∃ i H' σ', Inv (cxC X N s3 H3 (compEnvC scope cl C X.env) fp) [] σ' H' s' ∧ (∀ j : Nat, ∀ v, (List.replicate k none ++ capσ js σ)[j]? = some (some v) → σ'[j]? = some (some v)) ∧ tn i s'.heap ∧ (∀ b ∈ fp, H' b = none) ∧ W i n H') ?_ m0
      ⟨0, H3, _, I4, fun _ _ z => z, st4, fun b hb => (f3 b hb).1, w0⟩
    rintro n s5 ⟨i, H5, σ5, I5, cap5, st5, fr5, w5⟩
    have I5' := I5.weak (σ' := List.replicate k none ++ capσ js σ) (by rw [I5.len]; simp [capσ, hlen]) cap5
    rcases turn i n H5 w5 with ⟨stop, q⟩ | ⟨go, step⟩
    · refine thn (T.done (cxC X N s3 H3 (compEnvC scope cl C X.env) fp) rfl rfl rfl hcalm i [] s5 σ5 H5 _ I5 (fp4 fr5) st5 stop) fun r s6 ⟨hr, I6⟩ => .inl ⟨hr, ?_⟩
      obtain ⟨m6, n6, _⟩ := I6.loc
      have hCf : H5 C = none := I6.free
      have u6 := I6.base
      have uC : Un (frs X.stack) fp H3 H5 s3.heap s6.heap := ⟨u6.keep, u6.slot, u6.free, u6.there, u6.tups, u6.frzs, u6.tbls⟩
      have I7 : Inv X pins σ H5 s6 := I3.call' (s' := s6) I6.os uC I6.hok I6.bare fun b hb => ⟨(f3 b hb).2.2.2.1, (f3 b hb).2.1, (f3 b hb).2.2.2.2.1, (f3 b hb).2.2.2.2.2⟩
      have lt3 : ∀ b o, s3.heap.get? b = some o → b ≠ C := fun b o e => by rw [← hC]; exact Nat.ne_of_lt (Heap.lt_size e)
      refine fin s6 H5 D C m6 I7 n6 hCf (by rw [← hC]; exact I3.sz) (by rw [← hC]; exact Nat.ne_of_gt I3.lt) (fun x c e => ?_) (fun p hp => lt3 p.1 p.2 (I3.pin p hp).1) q
      obtain ⟨v, o, e1, _⟩ := I3.cell x c e
      exact lt3 c o e1
    · refine thn (T.item (cxC X N s3 H3 (compEnvC scope cl C X.env) fp) rfl rfl rfl hcalm i [] s5 _ H5 _ I5' (fp4 fr5) st5 go) fun r s6 ⟨u, hr, h6⟩ => .inr ⟨u, hr, ?_⟩
      refine thn h6 fun _ s7 ⟨x, H7, I7, r7, y7, st7, fr7⟩ => ?_
      have I7' := I7.pinned (fp4 fr7) (T.obj _ _ st7)
      refine thn (hg C s3 H3 fp _ s7 _ H7 x u _ I7' r7 (step x H7 y7)) fun _ s8 ⟨σ8, H8, I8, d8, q8⟩ => ?_
      have capk : ∀ (j : Nat) v, (List.replicate k none ++ capσ js σ)[j]? = some (some v) → σ8[j]? = some (some v) := fun j v e => by
        by_cases hjk : j < k
        · rw [List.getElem?_append_left (by simpa using hjk), List.getElem?_replicate] at e
          simp [hjk] at e
        · rw [List.getElem?_append_right (by simpa using Nat.le_of_not_lt hjk), List.length_replicate, ← d8, List.getElem?_drop] at e
          rw [show k + (j - k) = j by omega] at e
          exact e
      refine thn (hd C s3 H3 fp _ s8 σ8 H8 _ I8 q8) fun b s8' ⟨H8', I8', q8'⟩ => ⟨fun hb => ?_, fun hb => ?_⟩
      · refine thn (he C s3 H3 fp _ s8' σ8 H8' _ I8' (q8'.1 hb)) fun vv s9 ⟨vx, H9, I9, r9, xs, hx9, hz9, m', hm', w9⟩ => ?_
        obtain ⟨z9, its, n9, rl, e9⟩ := (show ObjOk X.prog X.w H9 s9.heap D (.lst xs) from I9.hok D _ hx9)
        have app := mt_append (X := cxC X N s3 H3 (compEnvC scope cl C X.env) fp) _ s9 σ8 H9 (.ref D) [vx] (.ref D) [vv] (fun _ H' => H' = upd H9 D (.lst (xs ++ [vx]))) I9 rfl (.cons r9 .nil) ⟨D, xs, vx, rfl, rfl, hx9, hz9, rfl⟩
        refine thn app fun _ s10 ⟨_, H10, I10, _, e10⟩ => ?_
        subst e10
        refine ⟨m', hm', i + 1, _, σ8, I10.unpinned (pins := []), capk, T.keep _ _ _ st7 fun b hb o e => (I10.pin (b, o) (List.mem_append_right _ (List.mem_append_right _ (mem_pinsAt hb e)))).1, fun b hb => ?_, w9⟩
        obtain ⟨o, e, d⟩ := T.obj _ _ st7 b hb
        exact (I10.pin (b, o) (List.mem_append_right _ (List.mem_append_right _ (mem_pinsAt hb e)))).2.1
      · obtain ⟨m', hm', w9⟩ := q8'.2 hb
        refine ⟨m', hm', i + 1, _, σ8, I8'.unpinned (pins := []), capk, T.keep _ _ _ st7 fun b hb o e => (I8'.pin (b, o) (List.mem_append_right _ (List.mem_append_right _ (mem_pinsAt hb e)))).1, fun b hb => ?_, w9⟩
        obtain ⟨o, e, d⟩ := T.obj _ _ st7 b hb
        exact (I8'.pin (b, o) (List.mem_append_right _ (List.mem_append_right _ (mem_pinsAt hb e)))).2.1
  exact codeAny_compStart_list (run _ rfl) (T.self X.A 0 _ _ _ st4 (run _ rfl))
theorem e_compI {elt iter tg cd : Expr} {scope : Scope} {pos : Pos} {wi : TI} {te : TE} {tc : TT} {g : TG} {N : List Str} {cl : List (Str × Addr)} (k : Nat) (js : List Nat) (hi : PI X tg iter wi)
    (hg : ∀ C s H fp, PG (cxC X N s H (compEnvC scope cl C X.env) fp) tg g) (hd : ∀ C s H fp, PT (cxC X N s H (compEnvC scope cl C X.env) fp) cd tc) (he : ∀ C s H fp, PE (cxC X N s H (compEnvC scope cl C X.env) fp) elt te) (hcalm : X.calm = true)
    (hclos : closureFor scope X.env = pure cl) (hkind : scope.kind = .function) (hcell : ∀ y ∈ scope.names, y.2 ≠ .cell) (hnames : ∀ y ∈ scope.names, y.2 = .local → scope.names.lookup y.1 = some .local)
    (hcl : ∀ y c, cl.lookup y = some c → X.env.cells.lookup y = some c) (hhas : ∀ y, ((relabel scope X.env).names.lookup y = some .cell ∨ (relabel scope X.env).names.lookup y = some .free) → ∃ c, cl.lookup y = some c)
    (hlen : N.length = k + js.length) (hcap : ∀ i j, js[i]? = some j → ∃ y, N[k + i]? = some y ∧ Cap X (relabel scope X.env) cl j y)
    (hs : ∀ x, foldedSetIterable iter X.env x = pure x := by intro _; rfl) : PE X (.ListComp elt [⟨tg, iter, [cd], 0⟩] scope pos) (dCompI wi g tc te k js) := by
  intro pins s σ H Q I h
  rw [eval_ListComp]
  refine comp_coreI k js hi hg hd he hcalm hclos hkind hcell hnames hcl hhas hlen hcap hs I h fun s6 H5 D C m I6 n6 z1 z2 z3 z4 z5 q => ⟨m, n6, fun h7 sb7 => ⟨.ref D, H5, ?_, rfl, q⟩⟩
  exact I6.turned (t' := s6.toks) (fun b o hb e => (sb7.2 b hb).trans e) z1 z3.symm.symm (.inr z2) z4 z5
theorem e_compIN {elt iter tg cd : Expr} {scope : Scope} {pos : Pos} {wi : TI} {te : TE} {tc : TT} {g : TG} {cl : List (Str × Addr)} (own ys : List Str) (js : List Nat) (hclos : closureFor scope X.env = pure cl) (hi : PI X tg iter wi)
    (hg : ∀ C s H fp, PG (cxC X (own ++ ys) s H (compEnvC scope cl C X.env) fp) tg g) (hd : ∀ C s H fp, PT (cxC X (own ++ ys) s H (compEnvC scope cl C X.env) fp) cd tc) (he : ∀ C s H fp, PE (cxC X (own ++ ys) s H (compEnvC scope cl C X.env) fp) elt te) (hcalm : X.calm = true) (hkind : scope.kind = .function)
    (hcell : (scope.names.all fun y => y.2 != .cell) = true) (hnames : (scope.names.all fun y => y.2 != .local || scope.names.lookup y.1 == some .local) = true) (hfr : (scope.names.all fun y => y.2 != .free || (cl.map (·.1)).contains y.1) = true)
    (hcl : CellL X.env.cells cl) (hcap : CapL X (relabel scope X.env) cl ys js) (hs : ∀ x, foldedSetIterable iter X.env x = pure x := by intro _; rfl) :
    PE X (.ListComp elt [⟨tg, iter, [cd], 0⟩] scope pos) (dCompI wi g tc te own.length js) := by
  rw [List.all_eq_true] at hcell hnames hfr
  have hc : ∀ y ∈ scope.names, y.2 ≠ .cell := fun y hy z => by
    have := hcell y hy
    rw [z] at this
    cases this
  refine e_compI own.length js hi hg hd he hcalm hclos hkind hc (fun y hy z => ?_) hcl.at (fun y h => ?_) (by rw [List.length_append, hcap.len]) (fun i j e => ?_) hs
  · have := hnames y hy
    rw [z] at this
    simpa using this
  · obtain ⟨z, hz, rfl, hk⟩ : ∃ z ∈ scope.names, z.1 = y ∧ (z.2 = .free ∨ z.2 = .cell) := by
      rcases h with h | h
      · exact relabel_has h (.inl rfl)
      · exact relabel_has h (.inr rfl)
    rcases hk with hk | hk
    · have := hfr z hz
      rw [hk] at this
      exact lookup_has (by simpa using this)
    · exact absurd hk (hc z hz)
  · obtain ⟨y, h1, h2⟩ := hcap.at i j e
    exact ⟨y, by rw [List.getElem?_append_right (Nat.le_add_right _ _), Nat.add_sub_cancel_left]; exact h1, h2⟩
end
end Lw
end
section
set_option Elab.async false
set_option linter.all false
set_option maxRecDepth 100000
set_option maxHeartbeats 4000000
namespace Lw
open PySem PySem.Spec PyProof.Rows L2
inductive All2 {α β : Type} (R : α → β → Prop) : List α → List β → Prop where
  | nil : All2 R [] []
  | cons {a : α} {b : β} {l : List α} {m : List β} : R a b → All2 R l m → All2 R (a :: l) (b :: m)
theorem All2.len {α β : Type} {R : α → β → Prop} : ∀ {l : List α} {m : List β}, All2 R l m → l.length = m.length
  | _, _, .nil => rfl
  | _, _, .cons _ r => by rw [List.length_cons, List.length_cons, r.len]
theorem All2.imp {α β : Type} {R S : α → β → Prop} (h : ∀ a b, R a b → S a b) : ∀ {l : List α} {m : List β}, All2 R l m → All2 S l m
  | _, _, .nil => .nil
  | _, _, .cons x r => .cons (h _ _ x) (r.imp h)
theorem All2.snoc {α β : Type} {R : α → β → Prop} {a : α} {b : β} (x : R a b) : ∀ {l : List α} {m : List β}, All2 R l m → All2 R (l ++ [a]) (m ++ [b])
  | _, _, .nil => .cons x .nil
  | _, _, .cons y r => .cons y (r.snoc x)
theorem All2.get {α β : Type} {R : α → β → Prop} : ∀ {l : List α} {m : List β}, All2 R l m → ∀ {i : Nat} {a : α}, l[i]? = some a → ∃ b, m[i]? = some b ∧ R a b
  | _, _, .nil, i, a, h => by simp at h
  | _, _, .cons x r, 0, a, h => by
    simp at h
    subst h
    exact ⟨_, rfl, x⟩
  | _, _, .cons x r, i + 1, a, h => by
    simp only [List.getElem?_cons_succ] at h ⊢
    exact r.get h
theorem All2.app {α β : Type} {R : α → β → Prop} : ∀ {l l' : List α} {m m' : List β}, All2 R l m → All2 R l' m' → All2 R (l ++ l') (m ++ m')
  | _, _, _, _, .nil, h => h
  | _, _, _, _, .cons x r, h => .cons x (r.app h)
def Kt (H H' : Hp) : Prop := ∀ p xs, H p = some (.tup xs) → H' p = some (.tup xs)
theorem Kt.trans {H H1 H2 : Hp} (a : Kt H H1) (b : Kt H1 H2) : Kt H H2 := fun p xs h => b p xs (a p xs h)
theorem kt_of {H H' : Hp} (s : Same H H') : Kt H H' := fun p xs h => s p _ h
theorem kt_upd {H : Hp} {D : Addr} {zs : List V} {o : HO} (h : H D = some (.lst zs)) : Kt H (upd H D o) := fun p xs e => by
  have ne : p ≠ D := fun z => by
    subst z
    rw [h] at e
    cases e
  rw [upd_ne ne]
  exact e
theorem same_app' {H0 H : Hp} {D : Addr} {o : HO} (s : Same H0 H) (h : H0 D = none) : Same H0 (upd H D o) := fun b u e => by
  rw [upd_ne (ne_of_none e h)]
  exact s b u e
theorem comp_abs {β : Type} {K : PySem.W.Frag} {a : Addr} {xs : List V} {ms : List β} {g : TG} {te : TE} {k : Nat} {js : List Nat} {σ : L2.St} {H1 : Hp} {Q : VK} (M : Hp → V → β → Prop) (upM : ∀ v m H H', Kt H H' → M H v m → M H' v m) (R : Hp → β → V → Prop) (up : ∀ m y H H', Kt H H' → R H m y → R H' m y)
    (hz : xs.length ≤ 1000) (hx : SqL K H1 a xs) (hm : All2 (M H1) xs ms)
    (hs : ∀ v m H2, M H2 v m → m ∈ ms → Same H1 H2 → ∀ P : VK, (∀ y H3, Same H2 H3 → R H3 m y → P y H3) → g v (List.replicate k none ++ capσ js σ) H2 fun σ2 H3 => σ2.drop k = capσ js σ ∧ te σ2 H3 P)
    (hq : ∀ D H' ys, Same H1 H' → H1 D = none → H' D = some (.lst ys) → All2 (R H') ms ys → Q (.ref D) H') : CGoal (Itl K a) g te k js σ H1 Q := by
  unfold CGoal
  intro D hD
  have hl := hm.len
  refine ⟨fun i m H => m = xs.length - i ∧ i ≤ xs.length ∧ Same H1 H ∧ ∃ ys, H D = some (.lst ys) ∧ All2 (R H) (ms.take i) ys, ⟨xs.length, by simp, Nat.zero_le _, same_upd hD, [], upd_same, .nil⟩, ?_⟩
  rintro i m H ⟨rfl, hi, sm, ys, hH, ar⟩
  have sq := sm.seq hx
  by_cases hlt : i < xs.length
  · have e : xs[i]? = some xs[i] := by simp [hlt]
    refine .inr ⟨⟨xs, _, sq, e⟩, fun x H' y => ?_⟩
    obtain ⟨e1, e2⟩ := y
    subst e1
    have hv := e2 xs sq
    obtain ⟨m, hmi, hM⟩ := hm.get hv
    refine hs x m _ (upM _ _ _ _ (kt_of sm) hM) (List.mem_of_getElem? hmi) sm _ fun y H3 s3 r3 => ⟨ys, s3 _ _ hH, ?_, xs.length - (i + 1), by omega, rfl, hlt, same_app' (sm.trans s3) hD, ys ++ [y], upd_same, ?_⟩
    · rw [← ar.len, List.length_take]
      exact Nat.lt_of_le_of_lt (Nat.min_le_left _ _) (Nat.lt_of_lt_of_le hlt (Nat.le_trans hz (by decide)))
    · have kt : Kt H3 (upd H3 D (.lst (ys ++ [y]))) := kt_upd (s3 _ _ hH)
      rw [List.take_add_one, hmi]
      exact (ar.imp fun v y r => up v y _ _ ((kt_of s3).trans kt) r).snoc (up _ _ _ _ kt r3)
  · have e : i = xs.length := by omega
    subst e
    rw [hl, List.take_length] at ar
    exact .inl ⟨⟨xs, sq, Nat.le_refl _⟩, hq D _ ys sm hD hH ar⟩
theorem comp_absI {β : Type} {K : PySem.W.Frag} {a : Addr} {xs : List V} {ms : List β} {g : TG} {tc : TT} {te : TE} {k : Nat} {js : List Nat} {σ : L2.St} {H1 : Hp} {Q : VK} (M : Hp → V → β → Prop) (upM : ∀ v m H H', Kt H H' → M H v m → M H' v m) (R : Hp → β → V → Prop) (up : ∀ m y H H', Kt H H' → R H m y → R H' m y)
    (c : β → Bool) (hz : xs.length ≤ 1000) (hx : SqL K H1 a xs) (hm : All2 (M H1) xs ms)
    (hs : ∀ v m H2, M H2 v m → m ∈ ms → Same H1 H2 → ∀ (P : VK) (P' : Hp → Prop), (c m = true → ∀ y H3, Same H2 H3 → R H3 m y → P y H3) → (c m = false → ∀ H3, Same H2 H3 → P' H3) → g v (List.replicate k none ++ capσ js σ) H2 fun σ2 H3 => σ2.drop k = capσ js σ ∧ tc σ2 H3 fun b H4 => Br b (te σ2 H4 P) (P' H4))
    (hq : ∀ D H' ys, Same H1 H' → H1 D = none → H' D = some (.lst ys) → All2 (R H') (ms.filter c) ys → Q (.ref D) H') : CGoalI (Itl K a) g tc te k js σ H1 Q := by
  unfold CGoalI
  intro D hD
  have hl := hm.len
  refine ⟨fun i m H => m = xs.length - i ∧ i ≤ xs.length ∧ Same H1 H ∧ ∃ ys, H D = some (.lst ys) ∧ All2 (R H) ((ms.take i).filter c) ys, ⟨xs.length, by simp, Nat.zero_le _, same_upd hD, [], upd_same, .nil⟩, ?_⟩
  rintro i m H ⟨rfl, hi, sm, ys, hH, ar⟩
  have sq := sm.seq hx
  by_cases hlt : i < xs.length
  · have e : xs[i]? = some xs[i] := by simp [hlt]
    refine .inr ⟨⟨xs, _, sq, e⟩, fun x H' y => ?_⟩
    obtain ⟨e1, e2⟩ := y
    subst e1
    have hv := e2 xs sq
    obtain ⟨m, hmi, hM⟩ := hm.get hv
    have yl : ys.length < sizeLine := by
      rw [← ar.len]
      refine Nat.lt_of_le_of_lt (List.length_filter_le _ _) ?_
      rw [List.length_take]
      exact Nat.lt_of_le_of_lt (Nat.min_le_left _ _) (Nat.lt_of_lt_of_le hlt (Nat.le_trans hz (by decide)))
    refine hs x m _ (upM _ _ _ _ (kt_of sm) hM) (List.mem_of_getElem? hmi) sm _ _ (fun hc y H3 s3 r3 => ⟨ys, s3 _ _ hH, yl, xs.length - (i + 1), by omega, rfl, hlt, same_app' (sm.trans s3) hD, ys ++ [y], upd_same, ?_⟩) fun hc H3 s3 => ⟨xs.length - (i + 1), by omega, rfl, hlt, sm.trans s3, ys, s3 _ _ hH, ?_⟩
    · have kt : Kt H3 (upd H3 D (.lst (ys ++ [y]))) := kt_upd (s3 _ _ hH)
      rw [List.take_add_one, hmi, List.filter_append]
      have ef : (Option.toList (some m)).filter c = [m] := by simp [hc]
      rw [ef]
      exact (ar.imp fun v y r => up v y _ _ ((kt_of s3).trans kt) r).snoc (up _ _ _ _ kt r3)
    · rw [List.take_add_one, hmi, List.filter_append]
      have ef : (Option.toList (some m)).filter c = [] := by simp [hc]
      rw [ef, List.append_nil]
      exact ar.imp fun v y r => up v y _ _ (kt_of s3) r
  · have e : i = xs.length := by omega
    subst e
    rw [hl, List.take_length] at ar
    exact .inl ⟨⟨xs, sq, Nat.le_refl _⟩, hq D _ ys sm hD hH ar⟩
structure Gm where
  d : Int
  a : Str
  b : Str
  h : Int
  s : Int
def GmAt (H : Hp) (v : V) (g : Gm) : Prop := ∃ p, v = .ref p ∧ H p = some (.tup [.int g.d, .str g.a, .str g.b, .int g.h, .int g.s])
def Bk (K : PySem.W.Frag) (H : Hp) (L : Addr) (gs : List Gm) : Prop := ∃ vs, SqL K H L vs ∧ All2 (GmAt H) vs gs ∧ gs.length ≤ 100
def trn (g : Gm) : Gm := ⟨g.d, g.b, g.a, 2 - g.h, -g.s⟩
def plr (gs : List Gm) : List Str := srt (gs.map (·.a) ++ gs.map (·.b))
def isIn (n : Str) (g : Gm) : Bool := n == g.a || n == g.b
def toldG (n : Str) (g : Gm) : Gm := if g.a = n then g else trn g
def tld (n : Str) (gs : List Gm) : List Gm := (gs.filter (isIn n)).map (toldG n)
def tkr (n : Str) (gs : List Gm) : List Str := srt (((tld n gs).filter fun g => decide (g.h < 2)).map (·.b))
section
variable {X : Cx}
def dSlN (K : PySem.W.Frag) : V → Option Int → Option Int → Hp → VK → Prop := fun x lo hi H Q => match x with
  | .ref a => ∃ xs, SqL K H a xs ∧ ∀ p, H p = none → Q (.ref p) (upd H p (.lst (cutV xs lo hi)))
  | _ => False
def dSortL (K : PySem.W.Frag) : List V → Hp → VK → Prop := fun xs H Q => match xs with
  | [.ref l] => ∃ names : List Str, SqL K H l (names.map V.str) ∧ names.length < 64 ∧ names.Nodup ∧ ∀ D, H D = none → Q (.ref D) (upd H D (.lst ((srt names).map V.str)))
  | _ => False
theorem c_sortL : CallR X (.builtin "sorted") (dSortL X.K) := by
  intro pins s σ H xs us Q I r h
  match xs, h with
  | [.ref l], ⟨names, hq, hn, nd, q⟩ =>
    obtain ⟨u, rfl, ru⟩ := r.one
    cases (show u = Value.ref l from ru)
    obtain ⟨its, rv, ⟨oL, nL, eL, cL, dL, xL⟩, hz⟩ := I.list hq
    have sa : StrsAre its names := strs_of rv
    have hl : its.length = names.length := by rw [← rv.length, List.length_map]
    refine sorted_strs (vs := its) ⟨oL, eL, cL, nL, xL⟩ sa (by omega) fun out ys s1 pm so => ?_
    have ey : ys = srt names := inc_ext (pairwise_inc (sorted_le so) (pm.nodup_iff.mpr nd)) (inc_srt _) fun x => by rw [pm.mem_iff, mem_srt]
    subst ey
    obtain ⟨n, hr⟩ := sortedAll_at s.heap its out
    have I2 := I.laid (t' := s.toks) (h' := sortedAll s.heap its out) (a := s.heap.objs.size + 1) (o := .lst ((srt names).map V.str)) (fun b u e => sortedAll_old e) (Nat.le_succ _) ⟨by rw [List.length_map, pm.length_eq]; exact Nat.le_trans (Nat.le_of_lt hn) (by decide), out.toList, n, vals_str s1, by rw [hr]⟩
    exact ⟨.ref (s.heap.objs.size + 1), _, I2, rfl, q _ (I.hok.fresh (Nat.le_succ _))⟩
end
def gd (g : Gm) : PyData := .tuple [.int g.d, .str g.a, .str g.b, .int g.h, .int g.s]
theorem eqv_shaped {d : PyData} (h : SeqAt.shaped d = true) : PyData.eqv d d = true := SeqAt.eqv_refl d (SeqAt.canLay_of_shaped h)
end Lw
end
section
set_option Elab.async false
set_option linter.all false
set_option maxRecDepth 100000
set_option maxHeartbeats 4000000
namespace Lw
open PySem PySem.Spec PyProof.Rows L2
section
variable {X : Cx}
def dSum (K : PySem.W.Frag) : List V → Hp → VK → Prop := fun xs H Q => match xs with
  | [.ref l] => ∃ ns : List Int, SqL K H l (ns.map V.int) ∧ Q (.int ns.sum) H
  | _ => False
def dLstD : List V → Hp → VK → Prop := fun xs H Q => match xs with
  | [.ref d] => ∃ (kvs : List (Key × V)) (names : List Str), H d = some (.dK kvs) ∧ kvs.map (·.1) = names.map Sum.inr ∧ ∀ p, H p = none → Q (.ref p) (upd H p (.lst (names.map V.str)))
  | _ => False
end
end Lw
end
section
set_option Elab.async false
set_option linter.all false
set_option maxRecDepth 100000
set_option maxHeartbeats 4000000
namespace Lw
open PySem PySem.Spec PyProof.Rows L2
section
variable {X : Cx}
def dMaxI (K : PySem.W.Frag) : List V → Hp → VK → Prop := fun xs H Q => match xs with
  | [.ref p] => ∃ ms : List Int, SqL K H p (ms.map V.int) ∧ 0 < ms.length ∧ ∀ M ∈ ms, (∀ y ∈ ms, y ≤ M) → Q (.int M) H
  | _ => False
theorem c_maxI (hc : X.calm = true) : CallR X (.builtin "max") (dMaxI X.K) := by
  intro pins s σ H xs us Q I r h
  match xs, h with
  | [.ref p], ⟨ms, h1, h0, q⟩ =>
    obtain ⟨u, rfl, r1⟩ := vals1 r
    cases (show u = Value.ref p from r1)
    obtain ⟨its, rv, pl, _⟩ := I.list h1
    have sa : IntsAre its ms := intsAre_of rv
    have hl : its.length = ms.length := by rw [← rv.length, List.length_map]
    obtain ⟨xs, ex⟩ := sa.allInts.items
    have il := pl.isList
    rw [ex] at il
    have nm : (numsOf its) = ms := sa.numsOf
    have nm' : numsOf (intItems xs).toList = ms := by rw [← ex]; exact nm
    rw [nums_intItems] at nm'
    have hsz : 0 < xs.size := by
      have := congrArg Array.size ex
      rw [List.size_toArray] at this
      simp only [intItems, Array.size_map] at this
      omega
    refine max_intList (I.ok.hd hc) il hsz fun v h' tk hv hk => ?_
    obtain ⟨t, rfl⟩ := intItems_at hv
    obtain ⟨h1, h2⟩ := argBest_gt (numAt xs) (xs.size - 1)
    refine ⟨.int _, H, I.kept (t' := tk) hk, ⟨t, rfl⟩, q _ ?_ fun a ha => ?_⟩
    · rw [← nm', numAt_eq]
      exact getD_mem (by rw [List.length_map, Array.length_toList]; omega)
    · rw [← nm'] at ha
      obtain ⟨j, hj, rfl⟩ := mem_getD ha
      rw [List.length_map, Array.length_toList] at hj
      rw [← numAt_eq]
      exact h2 j (by omega)
end
end Lw
end
section
set_option Elab.async false
set_option linter.all false
set_option maxRecDepth 100000
set_option maxHeartbeats 4000000
namespace Lw
open PySem PySem.Spec PyProof.Rows L2
section
variable {X : Cx}
structure EAt (e it l : Addr) (n : Nat) (h : Heap) : Prop where
  e : ∃ old, IsEnum h e it ((n : Nat) : Int) old
  a : h.IsListIter it l n
def Ite (K : PySem.W.Frag) (a : Addr) : It :=
  ⟨fun i H => ∃ xs x, SqL K H a xs ∧ xs[i]? = some x,
   fun i H v H' => ∃ t x, v = .ref t ∧ H t = none ∧ H' = upd H t (.tup [.int ((i : Nat) : Int), x]) ∧ ∀ xs, SqL K H a xs → xs[i]? = some x,
   fun i H => ∃ xs, SqL K H a xs ∧ xs.length ≤ i⟩
theorem turn_enum {P : Program} {w : World} {K : PySem.W.Frag} {es : List Expr} {x1} {pos : Pos} {e it a : Addr} (hei : e ≠ it) :
    Turn P w K (.Tuple es x1 pos) (Ite K a) [e, it] e (EAt e it a) where
  mem := by simp
  obj := fun i h Z c hc => by
    have hc : c = e ∨ c = it := by simpa using hc
    rcases hc with rfl | rfl
    · obtain ⟨old, h⟩ := Z.e
      exact ⟨_, h, fun v e => by cases e⟩
    · obtain ⟨o, e, _, d⟩ := Z.a
      exact ⟨o, e, fun v z => by rw [d] at z; cases z⟩
  keep := fun i h h' Z k => by
    obtain ⟨old, he⟩ := Z.e
    obtain ⟨o, e1, r⟩ := Z.a
    exact ⟨⟨old, k e (by simp) _ he⟩, ⟨o, k it (by simp) o e1, r⟩⟩
  item := by
    intro X hP hw hK hc i pins s σ H E I hf Z hg
    subst hP hw hK
    obtain ⟨xs, x, q1, e1⟩ := hg
    obtain ⟨us, r1, p1⟩ := sq_val (kd := true) I q1
    obtain ⟨u, hu, ru⟩ := r1.get e1
    obtain ⟨old, he⟩ := Z.e
    have hfr : H s.heap.objs.size = none := I.hok.fresh (Nat.le_refl _)
    refine wpAny_pyNext_enum_item he Z.a (show s.heap.IsList a us.toArray from p1) (x := u) (by simpa using hu) hei fun g heo hit ht hz kp => ⟨_, rfl, ?_⟩
    have elt : e < s.heap.objs.size := Heap.lt_size he
    have ilt : it < s.heap.objs.size := by obtain ⟨_, e, _⟩ := Z.a; exact Heap.lt_size e
    refine wpAny_letOwnedTupleGo_enum (s := { s with heap := g, toks := s.toks + 1 }) heo fun g' z' s' => ?_
    have kp' : ∀ c o, c ≠ e → c ≠ it → s.heap.get? c = some o → g'.get? c = some o := fun c o n1 n2 e => s'.extBut _ _ n1 (kp c o n1 n2 e)
    have a5' : g'.get? s.heap.objs.size = some { cls := .type "tuple", data := .seq #[.int i s.toks, u] } := s'.extBut _ _ (Nat.ne_of_gt elt) ht
    have I1 : Inv X pins σ (upd H s.heap.objs.size (.tup [.int i, x])) { s with heap := g', toks := s.toks + 1 } := by
      refine inv_zipped I (fp := [e, it]) (fun c o hc e => kp' c o (fun x => hc (by simp [x])) (fun x => hc (by simp [x])) e) hf (Nat.le_refl _) ?_
      exact ⟨by show 2 ≤ sizeLine; decide, [.int i s.toks, u], .cons ⟨_, rfl⟩ (.cons ru .nil), ⟨_, a5', rfl, _, rfl⟩⟩
    refine ⟨.ref s.heap.objs.size, _, I1, rfl, ⟨_, x, rfl, hfr, rfl, fun zs hz => by rw [sq_inj (kd := true) I hz q1]; exact e1⟩, ?_, ?_⟩
    · obtain ⟨o, e2, r⟩ := hit
      exact ⟨⟨_, by have := z'; simpa using this⟩, ⟨o, s'.extBut _ _ (Ne.symm hei) e2, r⟩⟩
    · intro c hc
      have hlt : c < s.heap.objs.size := by
        have hc : c = e ∨ c = it := by simpa using hc
        rcases hc with rfl | rfl
        · exact elt
        · exact ilt
      rw [upd_ne (Nat.ne_of_lt hlt)]
      exact (hf c hc).1
  done := by
    intro X hP hw hK hc i pins s σ H E I hf Z hg
    subst hP hw hK
    obtain ⟨xs, q1, e⟩ := hg
    obtain ⟨us, r1, p1⟩ := sq_val (kd := true) I q1
    have l1 := r1.length
    obtain ⟨old, he⟩ := Z.e
    have hn : us.toArray[i]? = none := by
      simp
      omega
    refine wpAny_pyNext_enum_end (I.ok.hd hc) he Z.a (show s.heap.IsList a us.toArray from p1) hn fun g kp => ⟨rfl, ?_⟩
    refine inv_moved I (fp := [it]) (fun c o hc e => kp c o (fun x => hc (by simp [x])) e) ?_
    intro c hc
    exact hf c (by simp at hc ⊢; exact .inr hc)
  self := fun _ _ _ _ _ Z h => by
    obtain ⟨old, he⟩ := Z.e
    exact wpAny_pyIter_enum he h
def iEnum (K : PySem.W.Frag) (ta : TA) : TI := fun σ H R => ta σ H fun vs H1 => match vs with
  | [.ref a] => (∃ xs, SqL K H1 a xs) ∧ R (Ite K a) H1
  | _ => False
theorem boot_enum : bootBuiltins "enumerate" = some (.type "enumerate") := by decide +kernel
theorem pi_enum {a : Expr} {ta : TA} {p pos : Pos} {es : List Expr} {x1} {tp : Pos} (hg : Gl X "enumerate") (hm : X.mg "enumerate" = none) (ha : PA X [a] ta) (hs : starEach [a] X.env = [(false, eval a X.env)] := by rfl) :
    PI X (.Tuple es x1 tp) (.Call (.Name "enumerate" p) [a] [] pos) (iEnum X.K ta) := by
  intro pins s σ H R I h
  refine Call_ (ld_blt I hg hm boot_enum (PyProof.Rows.callWith_type1 (thn (ha pos pins s σ H _ I h) fun us s1 ⟨vs, H1, I1, r1, q1⟩ => ?_) hs rfl))
  match vs, q1 with
  | [.ref l], ⟨⟨xs, hx⟩, q⟩ =>
    obtain ⟨u, rfl, e1⟩ := vals1 r1
    cases (show u = Value.ref l from e1)
    obtain ⟨us', _, p1⟩ := sq_val (kd := true) I1 hx
    refine call_enumerate_list (show s1.heap.IsList l us'.toArray from p1) fun g Z Zi hz kp => wpAny_pyIter_enum (s := { s1 with heap := g }) Z ?_
    have I2 : Inv X pins σ H1 { s1 with heap := g } := I1.kept (t' := s1.toks) kp
    refine ⟨_, [s1.heap.objs.size + 1, s1.heap.objs.size], _, _, H1, rfl, I2, turn_enum (a := l) (by show @Ne Nat _ _; omega), ⟨⟨_, Z⟩, Zi⟩, fun c hc => ?_, q⟩
    have hc : @LE.le Nat _ s1.heap.objs.size c := by
      have hc : c = s1.heap.objs.size + 1 ∨ c = s1.heap.objs.size := by simpa using hc
      rcases hc with h | h <;> rw [h] <;> first | exact Nat.le_refl _ | exact Nat.le_add_right _ _
    exact I1.fpOk hc (I1.hok.fresh hc)
theorem for_enum {K : PySem.W.Frag} {a : Addr} {xs : List V} {g : TG} {tb : TS} {D : Ends} {σ : L2.St} {H : Hp} (Pv : Nat → L2.St → Hp → Prop) (h0 : Pv 0 σ H) (hl : ∀ i σ H, Pv i σ H → SqL K H a xs)
    (hs : ∀ i x t σ H, xs[i]? = some x → H t = none → Pv i σ H → g (.ref t) σ (upd H t (.tup [.int ((i : Nat) : Int), x])) fun σ2 H2 => tb { D with nx := Pv (i + 1), ct := Pv (i + 1), bk := D.nx } σ2 H2) (hd : ∀ σ H, Pv xs.length σ H → D.nx σ H) :
    ∃ W : Nat → Nat → L2.St → Hp → Prop, (∃ m, W 0 m σ H) ∧ ∀ i m σ H, W i m σ H →
      ((Ite K a).stop i H ∧ D.nx σ H) ∨ ((Ite K a).go i H ∧ ∃ N : L2.St → Hp → Prop, (∀ σ' H', N σ' H' → ∃ m', m' < m ∧ W (i + 1) m' σ' H') ∧ ∀ x H', (Ite K a).yld i H x H' → g x σ H' fun σ2 H2 => tb { D with nx := N, ct := N, bk := D.nx } σ2 H2) := by
  refine ⟨fun i m σ H => m = xs.length - i ∧ i ≤ xs.length ∧ Pv i σ H, ⟨xs.length, by simp, Nat.zero_le _, h0⟩, ?_⟩
  rintro i m σ H ⟨rfl, hi, p⟩
  have q1 := hl i σ H p
  by_cases hlt : i < xs.length
  · have e1 : xs[i]? = some xs[i] := by simp [hlt]
    refine .inr ⟨⟨xs, _, q1, e1⟩, Pv (i + 1), fun σ' H' p' => ⟨xs.length - (i + 1), by omega, rfl, hlt, p'⟩, fun v H' y => ?_⟩
    obtain ⟨t, x, rfl, ht, rfl, y1⟩ := y
    exact hs i x t σ H (y1 xs q1) ht p
  · have e : i = xs.length := by omega
    subst e
    exact .inl ⟨⟨xs, q1, Nat.le_refl _⟩, hd σ H p⟩
end
end Lw
end
section
set_option Elab.async false
set_option linter.all false
set_option maxRecDepth 100000
set_option maxHeartbeats 4000000
namespace Lw
open PySem PySem.Spec PyProof.Rows L2
section
variable {X : Cx}
theorem inv_frz {pins : List (Addr × Obj)} {σ : L2.St} {H : Hp} {s : Shared} {a : Addr} {kvs : List (Key × V)} {o : Obj} (I : Inv X pins σ H s) (ha : H a = some (.dK kvs)) (ho : s.heap.get? a = some o) : Inv X pins σ (upd H a (.frz o (.dK kvs))) s := by
  have old : ∀ b u, H b = some u → b ≠ a → upd H a (.frz o (.dK kvs)) b = some u := fun b u e n => by rw [upd_ne n]; exact e
  refine I.step (g' := s.gens) (d' := s.drawn) (t' := s.toks) (h' := s.heap) (ch := []) (fun _ z => nomatch z) (fun b o _ _ _ e _ => e) (fun b o _ _ _ e _ => ⟨o.slots, e⟩) (fun b u _ e n => ?_) (fun b o _ e => ⟨o, e⟩) (fun b xs e => old b _ e ?_) (fun b ob u e => old b _ e ?_)
    (fun b ps e => ⟨#[], by rw [old b _ e (fun z => by rw [z, ha] at e; cases e)]; simp⟩) (fun m hm => hm) (fun b u e => ?_) I.bare
  · rw [upd_ne (fun z => by rw [z, ha] at n; cases n)]
    exact n
  · intro z
    rw [z, ha] at e
    cases e
  · intro z
    rw [z, ha] at e
    cases e
  · have ho' : ∀ b c, H b = some (.own c) → upd H a (.frz o (.dK kvs)) b = some (.own c) := fun b c e => old b _ e fun z => by rw [z, ha] at e; cases e
    have ht' : ∀ b xs, H b = some (.tup xs) → upd H a (.frz o (.dK kvs)) b = some (.tup xs) := fun b xs e => old b _ e fun z => by rw [z, ha] at e; cases e
    by_cases hb : b = a
    · subst hb
      rw [upd_same] at e
      cases e
      exact ⟨ho, (I.hok b _ ha).stay (fun c v _ q => q) (fun c q => ho' c _ q) ht'⟩
    · rw [upd_ne hb] at e
      exact (I.hok b u e).stay (fun c v _ q => q) (fun c q => ho' c _ q) ht'
def Itd (a : Addr) (o : Obj) (names : List Str) : It :=
  ⟨fun i H => (∃ kvs, H a = some (.frz o (.dK kvs)) ∧ kvs.map (·.1) = names.map Sum.inr) ∧ i < names.length,
   fun i H v H' => H' = H ∧ ∃ x, names[i]? = some x ∧ v = .str x,
   fun i H => (∃ kvs, H a = some (.frz o (.dK kvs)) ∧ kvs.map (·.1) = names.map Sum.inr) ∧ names.length ≤ i⟩
theorem turn_keys {P : Program} {w : World} {K : PySem.W.Frag} {tg : Expr} {it a : Addr} {o : Obj} {names : List Str} {es : Array DictEntry} {ep : Nat} (ho : o.data = .dict es ep) :
    Turn P w K tg (Itd a o names) [it] it (fun i h => h.IsKeyIter it a i names.length ep) where
  mem := by simp
  obj := fun i h Z c hc => by
    have hc : c = it := by simpa using hc
    subst hc
    obtain ⟨o, e, _, d⟩ := Z
    exact ⟨o, e, fun v z => by rw [d] at z; cases z⟩
  keep := fun i h h' Z k => by
    obtain ⟨o, e, r⟩ := Z
    exact ⟨o, k it (by simp) o e, r⟩
  item := by
    intro X hP hw hK hc i pins s σ H E I hf Z hg
    subst hP hw hK
    obtain ⟨⟨kvs, e, hk⟩, hi⟩ := hg
    obtain ⟨e0, z, lo, vs, rel, dd⟩ := (show ObjOk X.prog X.w H s.heap a (.frz o (.dK kvs)) from I.hok a _ e)
    have kk := rel.keys
    have kl := rel.length
    have nl : kvs.length = names.length := by
      have := congrArg List.length hk
      simpa using this
    obtain ⟨o', es', ep', r0, r1, r2, r3⟩ := dd
    rw [e0] at r0
    cases r0
    rw [ho] at r2
    cases r2
    have at' : s.heap.DictAt (mixKind X.prog X.w) a vs ep := ⟨o, es, e0, r1, ho, r3⟩
    have vl : vs.length = names.length := by omega
    have hx : vs[i]? = some (vs[i]'(by omega)) := List.getElem?_eq_getElem (by omega)
    generalize vs[i]'(by omega) = kv at hx
    obtain ⟨k, u⟩ := kv
    have h3 : (vs.map (·.1))[i]? = some k := by rw [List.getElem?_map, hx]; rfl
    rw [← kk, hk, List.getElem?_map] at h3
    have hn : names[i]? = some names[i] := List.getElem?_eq_getElem hi
    rw [hn] at h3
    cases h3
    have Z : s.heap.IsKeyIter it a i vs.length ep := by rw [vl]; exact Z
    refine wpAny_pyNext_dict_item Z at' hx fun key g hkey hit sb => ⟨_, rfl, ?_⟩
    refine letGo_keyiter (s' := { s with heap := g }) hit ?_
    have I1 : Inv X pins σ H { s with heap := g } := inv_moved I (t' := s.toks) (fp := [it]) (fun c o hc e => sb.extBut c o (fun x => hc (by simp [x])) e) hf
    rcases keyIs_shape (show keyIs (Sum.inr names[i]) key = true from hkey) with ⟨i', t, e1, _⟩ | ⟨y', t, e1, e2⟩
    · cases e1
    · cases e1
      refine ⟨.str names[i], H, I1, ⟨t, e2⟩, ⟨rfl, _, hn, rfl⟩, ?_, fun b hb => (hf b hb).1⟩
      rw [← vl]
      exact hit
  done := by
    intro X hP hw hK hc i pins s σ H E I hf Z hg
    subst hP hw hK
    obtain ⟨⟨kvs, e, hk⟩, hi⟩ := hg
    obtain ⟨e0, z, lo, vs, rel, dd⟩ := (show ObjOk X.prog X.w H s.heap a (.frz o (.dK kvs)) from I.hok a _ e)
    have kl := rel.length
    have nl : kvs.length = names.length := by
      have := congrArg List.length hk
      simpa using this
    obtain ⟨o', es', ep', r0, r1, r2, r3⟩ := dd
    rw [e0] at r0
    cases r0
    rw [ho] at r2
    cases r2
    have at' : s.heap.DictAt (mixKind X.prog X.w) a vs ep := ⟨o, es, e0, r1, ho, r3⟩
    have vl : vs.length = names.length := by omega
    have Z : s.heap.IsKeyIter it a i vs.length ep := by rw [vl]; exact Z
    refine wpAny_pyNext_dict_end (I.ok.hd hc) Z at' (List.getElem?_eq_none (by omega)) fun g kp => ⟨rfl, ?_⟩
    exact inv_moved I (t' := s.toks) (fp := [it]) (fun c o hc e => kp c o (fun x => hc (by simp [x])) e) hf
  self := fun _ _ _ _ _ Z h => wpAny_pyIter_keyiter Z h
def iKeys (te : TE) : TI := fun σ H R => te σ H fun x H1 => ∃ a kvs names, x = .ref a ∧ H1 a = some (.dK kvs) ∧ kvs.map (·.1) = names.map Sum.inr ∧ ∀ o, R (Itd a o names) (upd H1 a (.frz o (.dK kvs)))
theorem comp_keys {a : Addr} {o : Obj} {kvs : List (Key × V)} {names : List Str} {g : TG} {te : TE} {k : Nat} {js : List Nat} {σ : L2.St} {H1 : Hp} {Q : VK} (R : Hp → Str → V → Prop) (up : ∀ m y H H', Kt H H' → R H m y → R H' m y)
    (hz : names.length ≤ 1000) (hx : H1 a = some (.frz o (.dK kvs))) (hk : kvs.map (·.1) = names.map Sum.inr)
    (hs : ∀ x H2, x ∈ names → Same H1 H2 → ∀ P : VK, (∀ y H3, Same H2 H3 → R H3 x y → P y H3) → g (.str x) (List.replicate k none ++ capσ js σ) H2 fun σ2 H3 => σ2.drop k = capσ js σ ∧ te σ2 H3 P)
    (hq : ∀ D H' ys, Same H1 H' → H1 D = none → H' D = some (.lst ys) → All2 (R H') names ys → Q (.ref D) H') : CGoal (Itd a o names) g te k js σ H1 Q := by
  unfold CGoal
  intro D hD
  refine ⟨fun i m H => m = names.length - i ∧ i ≤ names.length ∧ Same H1 H ∧ ∃ ys, H D = some (.lst ys) ∧ All2 (R H) (names.take i) ys, ⟨names.length, by simp, Nat.zero_le _, same_upd hD, [], upd_same, .nil⟩, ?_⟩
  rintro i m H ⟨rfl, hi, sm, ys, hH, ar⟩
  have sq := sm _ _ hx
  by_cases hlt : i < names.length
  · refine .inr ⟨⟨⟨kvs, sq, hk⟩, hlt⟩, fun v H' y => ?_⟩
    obtain ⟨rfl, x, hxi, rfl⟩ := y
    have yl : ys.length < sizeLine := by
      rw [← ar.len, List.length_take]
      exact Nat.lt_of_le_of_lt (Nat.min_le_left _ _) (Nat.lt_of_lt_of_le hlt (Nat.le_trans hz (by decide)))
    refine hs x _ (List.mem_of_getElem? hxi) sm _ fun y H3 s3 r3 => ⟨ys, s3 _ _ hH, yl, names.length - (i + 1), by omega, rfl, hlt, same_app' (sm.trans s3) hD, ys ++ [y], upd_same, ?_⟩
    have kt : Kt H3 (upd H3 D (.lst (ys ++ [y]))) := kt_upd (s3 _ _ hH)
    rw [List.take_add_one, hxi]
    exact (ar.imp fun v y r => up v y _ _ ((kt_of s3).trans kt) r).snoc (up _ _ _ _ kt r3)
  · have e : i = names.length := by omega
    subst e
    rw [List.take_length] at ar
    exact .inl ⟨⟨⟨kvs, sq, hk⟩, Nat.le_refl _⟩, hq D _ ys sm hD hH ar⟩
theorem for_keys {a : Addr} {o : Obj} {kvs : List (Key × V)} {names : List Str} {g : TG} {tb : TS} {D : Ends} {σ : L2.St} {H : Hp} (hk : kvs.map (·.1) = names.map Sum.inr) (Pv : Nat → L2.St → Hp → Prop) (h0 : Pv 0 σ H) (hl : ∀ i σ H, Pv i σ H → H a = some (.frz o (.dK kvs)))
    (hs : ∀ i x σ H, names[i]? = some x → Pv i σ H → g (.str x) σ H fun σ2 H2 => tb { D with nx := Pv (i + 1), ct := Pv (i + 1), bk := D.nx } σ2 H2) (hd : ∀ σ H, Pv names.length σ H → D.nx σ H) :
    ∃ W : Nat → Nat → L2.St → Hp → Prop, (∃ m, W 0 m σ H) ∧ ∀ i m σ H, W i m σ H →
      ((Itd a o names).stop i H ∧ D.nx σ H) ∨ ((Itd a o names).go i H ∧ ∃ N : L2.St → Hp → Prop, (∀ σ' H', N σ' H' → ∃ m', m' < m ∧ W (i + 1) m' σ' H') ∧ ∀ x H', (Itd a o names).yld i H x H' → g x σ H' fun σ2 H2 => tb { D with nx := N, ct := N, bk := D.nx } σ2 H2) := by
  refine ⟨fun i m σ H => m = names.length - i ∧ i ≤ names.length ∧ Pv i σ H, ⟨names.length, by simp, Nat.zero_le _, h0⟩, ?_⟩
  rintro i m σ H ⟨rfl, hi, p⟩
  have q1 := hl i σ H p
  by_cases hlt : i < names.length
  · refine .inr ⟨⟨⟨kvs, q1, hk⟩, hlt⟩, Pv (i + 1), fun σ' H' p' => ⟨names.length - (i + 1), by omega, rfl, hlt, p'⟩, fun v H' y => ?_⟩
    obtain ⟨rfl, x, hxi, rfl⟩ := y
    exact hs i x σ H' hxi p
  · have e : i = names.length := by omega
    subst e
    exact .inl ⟨⟨⟨kvs, q1, hk⟩, Nat.le_refl _⟩, hd σ H p⟩
end
end Lw
end
section
set_option Elab.async false
set_option linter.all false
set_option maxRecDepth 100000
set_option maxHeartbeats 4000000
namespace Lw
open PySem PySem.Spec PyProof.Rows L2
theorem u1 {n m : Nat} (h : n + 64 < m) : n + 1 < m := by omega
structure TL (kvs : List (Key × V)) (ks : List Str) (f : Str → Int) : Prop where
  key : kvs.map (·.1) = ks.map Sum.inr
  nd : ks.Nodup
  val : ∀ x, valV kvs (Sum.inr x) = if x ∈ ks then some (.int (f x)) else none
  out : ∀ x, x ∉ ks → f x = 0
def cntG (x : Str) (gs : List Gm) : Int := ((tld x gs).length : Int)
def sumH (gs : List Gm) : Int := (gs.map (·.h)).sum
def wonX (x : Str) (gs : List Gm) : Int := sumH (tld x gs)
def ind (g : Gm) (x : Str) : Int := if x = g.b then 1 else if x = g.a then 1 else 0
def got (g : Gm) (x : Str) : Int := if x = g.b then 2 - g.h else if x = g.a then g.h else 0
def kf (gs : List Gm) : List Str := gs.foldl (fun l g => dd (dd l g.a) g.b) []
end Lw
end
section
set_option Elab.async false
set_option linter.all false
set_option maxRecDepth 100000
set_option maxHeartbeats 4000000
namespace Lw
open PySem PySem.Spec PyProof.Rows L2
section
variable {prog : Program} {w : World} {A : Around} {E : Value → Shared → Prop} {s : Shared}
theorem collectD {d : Addr} {vs : List (Key × Value)} {ep : Nat} {Q : List Value → Shared → Prop} (hh : A.handled = none) (hok : s.heap.DictAt (mixKind prog w) d vs ep) (lo : (d == sysModules) = false) (hn : vs.length ≤ sizeLine)
    (q : ∀ xs g tk, (∀ b o, s.heap.get? b = some o → g.get? b = some o) → s.heap.objs.size < g.objs.size → xs.length = vs.length → (∀ (j : Nat) v, xs[j]? = some v → ∃ k x, vs[j]? = some (k, x) ∧ (mixKind prog w).is k v = true) → Q xs { s with heap := g, toks := tk }) :
    wpAny (model prog w) A (collect (.ref d)) Q E s := by
  have la : d < s.heap.objs.size := hok.lt_size
  unfold collect
  refine wpAny_bind (wpAny_runValue (codeAny_builtin PySem.F.entry_proto_collect ?_))
  rw [Around.under_plainId PySem.F.plain_proto_collect _]
  show wpAny _ A.in1 (newList [] >>= fun l => again (.builtin "list.__iadd__" ⟨[l, .ref d], []⟩)) _ _ s
  refine wpAny_bind (wpAny_newObj_type (wpAny_pure ⟨plainId_quiet PySem.F.plain_list_iadd _, codeAny_builtin PySem.F.entry_list_iadd ?_⟩))
  rw [Around.under_plainId PySem.F.plain_list_iadd _]
  show wpAny _ A.in1 (Builtin.List.listExtendWith (.ref s.heap.objs.size) (.ref d) (.ref s.heap.objs.size)) _ _ _
  have hS : (s.heap.push { cls := .type "list", data := .seq ([] : List Value).toArray }).get? s.heap.objs.size = some { cls := .type "list", data := .seq #[] 0 } := Heap.get?_push_size _ rfl
  refine PySem.W.kdl_extend (R := wants (fun v s' => wpAny (model prog w) A (match v with | Value.ref a => (do let o ← load a; match o.data with | .seq xs _ => pure xs.toList | _ => unsupported "internal:collect") | _ => unsupported "internal:collect") Q E s') E) (s := { s with heap := s.heap.push { cls := .type "list", data := .seq ([] : List Value).toArray } }) (PySem.W.kdl_dict lo) hh (hok.push _) s.heap.objs.size (Nat.ne_of_gt la) (Nat.ne_of_gt la) (.ref s.heap.objs.size) 0 hS (fun h' tk acc c hk hS' it => ?_) hn
  show wpAny _ A (load s.heap.objs.size >>= _) _ _ _
  refine wpAny_bind (wpAny_load hS' (wpAny_pure (q acc.toList h' tk (fun b o e => hk b o (Nat.ne_of_lt (Heap.lt_size e)) (Heap.get?_push_of_some _ e)) (Heap.lt_size hS') (by rw [Array.length_toList]; exact it.1) fun j v hv => it.2 j v (by rw [← Array.getElem?_toList]; exact hv))))
theorem strs_of_get : ∀ {names : List Str} {us : List Value}, us.length = names.length → (∀ (j : Nat) v, us[j]? = some v → ∃ x t, names[j]? = some x ∧ v = Value.str x t) → StrsAre us names
  | [], [], _, _ => .nil
  | [], _ :: _, h, _ => by simp at h
  | _ :: _, [], h, _ => by simp at h
  | x :: names, u :: us, h, a => by
    obtain ⟨y, t, e1, e2⟩ := a 0 u rfl
    simp at e1
    subst e1 e2
    refine .cons _ t (strs_of_get (by simpa using h) fun j v hv => ?_)
    have := a (j + 1) v (by simpa using hv)
    simpa using this
end
section
variable {X : Cx}
def dSortD : List V → Hp → VK → Prop := fun xs H Q => match xs with
  | [.ref d] => ∃ (kvs : List (Key × V)) (names : List Str), H d = some (.dK kvs) ∧ kvs.map (·.1) = names.map Sum.inr ∧ names.length < 64 ∧ names.Nodup ∧ ∀ D, H D = none → Q (.ref D) (upd H D (.lst ((srt names).map V.str)))
  | _ => False
theorem c_sortD (hc : X.calm = true := by rfl) : CallR X (.builtin "sorted") dSortD := by
  intro pins s σ H xs us Q I r h
  match xs, h with
  | [.ref d], ⟨kvs, names, e, hk, h64, nd, q⟩ =>
    obtain ⟨u, rfl, ru⟩ := r.one
    cases (show u = Value.ref d from ru)
    obtain ⟨z, lo, vs, rel, dd⟩ := dk_of I.hok e
    have kk := rel.keys
    have kl := rel.length
    obtain ⟨o, es, ep, r1⟩ := dd
    have at' : s.heap.DictAt (mixKind X.prog X.w) d vs ep := ⟨o, es, r1⟩
    have nl : kvs.length = names.length := by
      have := congrArg List.length hk
      simpa using this
    have hh := I.ok.hd hc
    refine Calls.call_function_entry kind_sorted plain_sorted entry_sorted (args_sorted1 _) ?_
    unfold Builtin.«sorted»
    refine wpAny_bind (m := checkCount "sorted" 1 1 _) (wpAny_pure (wpAny_bind (collectD (by simp [hh]) at' lo (by omega) fun xs g tk keep lg hl hg => ?_)))
    have sa : StrsAre xs names := strs_of_get (by omega) fun j v hv => by
      obtain ⟨k, x, h1, h2⟩ := hg j v hv
      have h3 : (vs.map (·.1))[j]? = some k := by rw [List.getElem?_map, h1]; rfl
      rw [← kk, hk, List.getElem?_map] at h3
      cases hn : names[j]? with
      | none =>
        rw [hn] at h3
        cases h3
      | some y =>
        rw [hn] at h3
        cases h3
        rcases keyIs_shape (show keyIs (Sum.inr y) v = true from h2) with ⟨i, t, e1, _⟩ | ⟨y', t, e1, e2⟩
        · cases e1
        · cases e1
          exact ⟨y, t, rfl, e2⟩
    refine wpAny_bind (wpAny_newList ?_ (by omega))
    have hoL : (g.push (seqObj "list" xs.toArray 0)).get? g.objs.size = some (seqObj "list" xs.toArray 0) := Heap.get?_push_size _ rfl
    refine wpAny_bind (wpAny_holding (wpAny_call_entry slot_list_sort ⟨_, hoL, rfl⟩ entry_list_sort (list_sort_treeK strKind_oneLt hoL sa.keysOf (fun v1 v2 r e => keyKind_strs (by rw [← e]; exact sa)) (by omega) fun st' a1 a2 => ⟨_, rfl, wpAny_pure ⟨_, rfl, ?_⟩⟩) (args_list_sort _)))
    obtain ⟨ys, b1, b2, b3⟩ := sorted_out_str sa a1 a2
    obtain ⟨n, hn⟩ := sortedHeap_at (out := (arrOf st').map (·.2)) hoL
    have ey : ys = srt names := inc_ext (pairwise_inc (sorted_le b3) (b2.nodup_iff.mpr nd)) (inc_srt _) fun x => by rw [b2.mem_iff, mem_srt]
    subst ey
    have keep2 : ∀ b ob, s.heap.get? b = some ob → (sortedHeap (g.push (seqObj "list" xs.toArray 0)) g.objs.size xs ((arrOf st').map (·.2))).get? b = some ob := fun b ob e => by
      have hb := Heap.lt_size (keep b ob e)
      rw [sortedHeap_old (Nat.ne_of_lt hb) (by rw [Heap.size_push]; exact Nat.lt_succ_of_lt hb)]
      exact Heap.get?_push_of_some _ (keep b ob e)
    have I2 := I.laid (t' := tk) (h' := sortedHeap (g.push (seqObj "list" xs.toArray 0)) g.objs.size xs ((arrOf st').map (·.2))) (a := g.objs.size) (o := .lst ((srt names).map V.str)) keep2 (Nat.le_of_lt lg) ⟨by rw [List.length_map, b2.length_eq]; omega, ((arrOf st').map (·.2)).toList, n, vals_str b1, by rw [hn]⟩
    exact ⟨.ref g.objs.size, _, I2, rfl, q _ (I.hok.fresh (Nat.le_of_lt lg))⟩
end
inductive Rch (gs : List Gm) (n : Str) : Str → Prop where
  | here : Rch gs n n
  | step {x y : Str} : Rch gs n x → y ∈ tkr x gs → Rch gs n y
end Lw
end
section
set_option Elab.async false
set_option linter.all false
set_option maxRecDepth 100000
set_option maxHeartbeats 4000000
namespace Lw
open PySem PySem.Spec PyProof.Rows L2
section
variable {X : Cx} {i o : Expr} {ty td : TE} {pos : Pos}
theorem t_dnotin (hu : X.A.units + 1 < cLine) (hi : PE X i ty) (ho : PE X o td) (hm : behindInMarks .NotIn o = false) : PT X (.Compare i [.NotIn] [o] pos) (dTest (tDNotIn ty td)) := by
  rw [dTest_eqB]
  exact pt_cmp (pc_dnotin hu hi ho) hm
end
def VL (H : Hp) (R : Addr) (kvs : List (Key × V)) : Prop := ∀ kv ∈ kvs, ∃ p zs, kv.2 = V.ref p ∧ p ≠ R ∧ H p = some (.lst zs) ∧ zs.length ≤ kvs.length
structure WI (gs : List Gm) (n : Str) (H Hx : Hp) (D R : Addr) (ks rs : List Str) (kvs : List (Key × V)) : Prop where
  sm : Same H Hx
  eD : Hx D = some (.dK kvs)
  ky : kvs.map (·.1) = (ks ++ rs).map Sum.inr
  vl : VL Hx R kvs
  eR : Hx R = some (.lst (rs.map V.str))
  nd : (ks ++ rs).Nodup
  rc : ∀ x ∈ ks ++ rs, Rch gs n x
end Lw
end
section
set_option Elab.async false
set_option linter.all false
set_option maxRecDepth 100000
set_option maxHeartbeats 4000000
namespace Lw
open PySem PySem.Spec PyProof.Rows L2
section
variable {X : Cx}
def dAny (K : PySem.W.Frag) : List V → Hp → VK → Prop := fun xs H Q => match xs with
  | [.ref p] => ∃ bs : List Bool, SqL K H p (bs.map V.bl) ∧ Q (.bl (bs.any id)) H
  | _ => False
end
end Lw
end
section
set_option Elab.async false
set_option linter.all false
set_option maxRecDepth 100000
set_option maxHeartbeats 4000000
namespace Lw
open PySem PySem.Spec PyProof.Rows L2
abbrev cxD (X : Cx) (N cs : List Str) (s₀ : Shared) (H₀ : Hp) (env : Env) (fp : List Addr) : Cx :=
  { X with N := N, s₀ := s₀, H₀ := H₀, env := env, outer := X.stack, ex := fp, fn := fun x => cs.contains x, pn := [], xe := fun _ _ => False }
section
variable {M : Model} {A : Around} {E : Value → Shared → Prop} {s : Shared}
end
section
variable {X : Cx}
end
end Lw
end
set_option maxRecDepth 100000
set_option linter.all false
namespace PySem
open Sem (wp)
namespace F
end F
theorem lz_list_keys : typeLookup (.type "list") "keys" = pure none := by rw [typeLookup_type, builtinLookup_eq_fast]; kernel_rfl
theorem lz_keys_none_list {prog : Program} {w : World} {A : Around} {E : Value → Shared → Prop} {s : Shared} {a : Addr} {o : Obj} {xs : Array Value} {k : Nat} {Q : Option Value → Shared → Prop}
    (hx : s.heap.get? a = some o) (hc : o.cls = .type "list") (hdat : o.data = .seq xs k) (hd : o.dict = none) (hA : A.handled = none)
    (h : ∀ h' tk, (∀ b o, s.heap.get? b = some o → h'.get? b = some o) → Q none { s with heap := h', toks := tk }) :
    wpAny (model prog w) A (getAttr? (.ref a) "keys") Q E s := by
  obtain ⟨c, dct, dat, sl⟩ := o
  simp only at hc hdat hd
  subst hc hdat hd
  obtain ⟨hp, g, d, tk, os⟩ := s
  have hT : ∀ tk', (⟨hp, g, d, tk', os⟩ : Shared).TypeIs (.ref a) "list" := fun _ => ⟨_, hx, rfl⟩
  have f1 := sub_AttributeError
  have f3 := F.slot_list_getattribute.lookup
  have f4 := F.slot_list_getattribute.bind (.ref a)
  have f5 := am_list_getattr_none
  unfold getAttr? getAttrBy? getAttrBy
  repeat (any_goals (first | assumption | exact hT _ | ((with_reducible show wpAny _ _ (call (Value.builtin "list.__getattribute__") _ _) _ _ _); refine call_meets F.slot_list_getattribute (hT _) am_entry_list_getattribute (F.args_list_getattribute_2 _ _) (meets_getattribute_miss_list a xs k sl "keys" _ lz_list_keys (by decide +kernel) (by size_fits)) ⟨hx, hA, fun h' tk' e hx' => ?_⟩) | wp_step))
  obtain ⟨t', u', he⟩ := hx'.there
  show wpAny _ _ (getattributeRaised _ _ _ _ _ _ _) _ _ _
  unfold getattributeRaised
  repeat (any_goals (first | assumption | wp_step))
  exact h _ _ hx'.keeps
end PySem
section
set_option Elab.async false
set_option linter.all false
set_option maxRecDepth 100000
set_option maxHeartbeats 4000000
namespace Lw
open PySem PySem.Spec PyProof.Rows L2
abbrev IsZ2 (h : Heap) (z TI TO a : Addr) (b : Bool) : Prop :=
  h.get? z = some { cls := .type "zip", data := .fields #[rawInt a, .bool b, .bool false, .ref TI, .ref TO] }
section
variable {prog : Program} {w : World} {A : Around} {E : Value → Shared → Prop} {s : Shared}
theorem dz_entry : entryFor table "dict.update.loop" = some Builtin.«dict.update.loop» := entryFor_of_tree (by kernel_rfl)
section
variable {K : Type} [DecidableEq K] {knd : KeyKind prog w K}
structure Dz (knd : KeyKind prog w K) (k1 k2 : Bool) (z TI TO i1 i2 l1 l2 D : Addr) (xs ys : Array Value) (kvs : List (K × Value)) (h0 : Heap) (i : Nat) (h : Heap) : Prop where
  dd : h.DictOf knd D (kvs.take i)
  ia : ItK k1 h i1 l1 i
  ib : ItK k2 h i2 l2 i
  sx : SeK k1 h l1 xs
  sy : SeK k2 h l2 ys
  ti : IsPair h TI (.ref i1) (.ref i2)
  zz : (i = 0 ∧ IsZip h z TI TO .none ∧ ∃ u v, IsPair h TO u v) ∨ ∃ p q oa, IsZ2 h z TI TO p q ∧ h.get? p = some oa ∧ p ≠ z ∧ p ≠ i1 ∧ p ≠ i2 ∧ p ≠ D
  old : ∀ c o, c ≠ z → c ≠ TO → c ≠ i1 → c ≠ i2 → c ≠ D → h0.get? c = some o → h.get? c = some o
theorem take_stored {kvs : List (K × Value)} {i : Nat} {k : K} {v : Value} (hn : (kvs.map (·.1)).Nodup) (e : kvs[i]? = some (k, v)) : stored (kvs.take i) k v = kvs.take (i + 1) := by
  have hlt : i < kvs.length := (List.getElem?_eq_some_iff.mp e).1
  have hno : (kvs.take i).any (fun kv => kv.1 = k) = false := by
    rw [Bool.eq_false_iff]
    intro ha
    obtain ⟨kv, hm, hk⟩ := List.any_eq_true.mp ha
    obtain ⟨j, hj⟩ := List.mem_iff_getElem?.mp hm
    have hji : j < i := by
      have := (List.getElem?_eq_some_iff.mp hj).1
      rw [List.length_take] at this
      omega
    rw [List.getElem?_take_of_lt hji] at hj
    have e1 : (kvs.map (·.1))[j]? = some k := by rw [List.getElem?_map, hj]; exact congrArg some (by simpa using hk)
    have e2 : (kvs.map (·.1))[i]? = some k := by rw [List.getElem?_map, e]; rfl
    obtain ⟨b1, c1⟩ := List.getElem?_eq_some_iff.mp e1
    obtain ⟨b2, c2⟩ := List.getElem?_eq_some_iff.mp e2
    exact (List.pairwise_iff_getElem.mp hn) j i b1 b2 hji (c1.trans c2.symm)
  unfold stored
  rw [hno, List.take_add_one, e]
  rfl
end
end
def tDzip (k1 k2 : Bool) (K : PySem.W.Frag) (ta : TA) : TE := fun σ H Q => ta σ H fun vs H1 => match vs with
  | [.ref a, .ref b] => ∃ (ks : List Key) (ws : List V), SqK k1 K H1 a (ks.map kV) ∧ SqK k2 K H1 b ws ∧ ks.length ≤ ws.length ∧ ks.Nodup ∧ ks.length ≤ 1000 ∧ ∀ D H', H1 D = none → H' = upd H1 D (.dK (ks.zip ws)) → Q (.ref D) H'
  | _ => False
section
variable {X : Cx}
end
end Lw
end
section
set_option Elab.async false
set_option linter.all false
set_option maxRecDepth 100000
set_option maxHeartbeats 4000000
namespace Lw
open PySem PySem.Spec PyProof.Rows L2
section
variable {prog : Program} {w : World} {A : Around} {E : Value → Shared → Prop} {s : Shared}
variable {K : Type} [DecidableEq K] {knd : KeyKind prog w K}
theorem dp_pair {p : Addr} {x y : Value} {Q : List Value → Shared → Prop} (h : IsTup s.heap p #[x, y]) (q : Q [x, y] s) : wpAny (model prog w) A (Builtin.Dict.pairItems (.ref p)) Q E s := by
  obtain ⟨o, e, c, n, d⟩ := h
  unfold Builtin.Dict.pairItems
  refine wpAny_bind (wpAny_typeOf (T := "tuple") ⟨_, e, c⟩ ?_)
  rw [if_pos (by decide)]
  exact wpAny_bind (wpAny_seqItems e d (wpAny_pure q))
structure Dp (knd : KeyKind prog w K) (I l D : Addr) (xs : Array Value) (kvs : List (K × Value)) (h0 : Heap) (i : Nat) (h : Heap) : Prop where
  dd : h.DictOf knd D (kvs.take i)
  st : h.IsListIter I l i ∧ h.IsList l xs
  old : ∀ c o, c ≠ I → c ≠ D → h0.get? c = some o → h.get? c = some o
theorem dp_loop {I l D : Addr} {xs : Array Value} {kvs : List (K × Value)} {h0 : Heap} {R : Result → Shared → Prop} (hh : A.handled = none) (lI : l ≠ I) (lD : l ≠ D) (ID : I ≠ D)
    (hn : (kvs.map (·.1)).Nodup) (hz : kvs.length ≤ sizeLine) (hl : xs.size = kvs.length)
    (hp : ∀ (i : Nat) (k : K) (v : Value), kvs[i]? = some (k, v) → ∃ p x, xs[i]? = some (.ref p) ∧ p ≠ I ∧ p ≠ D ∧ knd.is k x = true ∧ IsTup h0 p #[x, v]) : ∀ (n i : Nat) (s : Shared), i + n = kvs.length → Dp knd I l D xs kvs h0 i s.heap →
    (∀ h' tk, h'.DictOf knd D kvs → (∀ c o, c ≠ I → c ≠ D → h0.get? c = some o → h'.get? c = some o) → R (.ok (.ret .none)) { s with heap := h', toks := tk }) →
    codeAny (model prog w) A (.builtin "dict.update.loop" ⟨[.ref D, .ref I, rawInt i, .none], []⟩) R s
  | 0, i, s, hi, S, fin => by
    refine codeAny_builtin dz_entry ?_
    have hi : i = kvs.length := by omega
    subst hi
    have W := Walks.list (prog := prog) (w := w) (A := A.in1) hh I l lI xs
    have dd : s.heap.DictOf knd D kvs := by have := S.dd; rwa [List.take_length] at this
    unfold Builtin.«dict.update.loop»
    refine wpAny_bind (W.done s _ _ (by rw [hl]; exact S.st) fun g tk k => ?_)
    refine wpAny_bind (wpAny_pure (wpAny_pure (fin g tk ?_ fun c o n1 n2 e => k c o (fun m => n1 (List.mem_singleton.mp m)) (S.old c o n1 n2 e))))
    obtain ⟨o, es, ep, ho, r⟩ := dd
    exact ⟨o, es, ep, k _ _ (fun m => ID (List.mem_singleton.mp m).symm) ho, r⟩
  | n + 1, i, s, hi, S, fin => by
    refine codeAny_builtin dz_entry ?_
    obtain ⟨⟨k, v⟩, ek⟩ : ∃ kv, kvs[i]? = some kv := ⟨kvs[i]'(by omega), List.getElem?_eq_getElem (by omega)⟩
    obtain ⟨p, x, ex, pI, pD, hk, hpr⟩ := hp i k v ek
    have W := Walks.list (prog := prog) (w := w) (A := A.in1) hh I l lI xs
    unfold Builtin.«dict.update.loop»
    refine wpAny_bind (W.item i s _ _ (by omega) S.st fun v' g tk hv st' kp => ?_)
    rw [ex] at hv
    cases hv
    have kp' : ∀ c o, c ≠ I → s.heap.get? c = some o → g.get? c = some o := fun c o n e => kp c o (fun m => n (List.mem_singleton.mp m)) e
    have gp : IsTup g p #[x, v] := by
      obtain ⟨o, ho, r⟩ := hpr
      exact ⟨o, kp' _ _ pI (S.old _ _ pI pD ho), r⟩
    have gd : g.DictOf knd D (kvs.take i) := by
      obtain ⟨o, es, ep, ho, r⟩ := S.dd
      exact ⟨o, es, ep, kp' _ _ (Ne.symm ID) ho, r⟩
    refine wpAny_bind (wpAny_holding (wpAny_bind (wpAny_tryCatch (dp_pair gp ?_))))
    refine wpAny_holding (wpAny_dictSet_pairs hk gd (fun g' gd' sb => ?_) (by rw [List.length_take]; omega))
    rw [take_stored hn ek] at gd'
    refine wpAny_pure ⟨Code.quiet_builtin _ (by decide +kernel), ?_⟩
    refine dp_loop hh lI lD ID hn hz hl hp n (i + 1) _ (by omega) ⟨gd', ?_, fun c o n1 n2 e => sb.extBut _ _ n2 (kp' _ _ n1 (S.old c o n1 n2 e))⟩ fin
    exact W.frame _ _ _ st' fun b hb o e => sb.extBut _ _ (fun c => by
      rcases List.mem_cons.mp hb with e' | hb
      · exact ID (e'.symm.trans c)
      · exact lD ((List.mem_singleton.mp hb).symm.trans c)) e
theorem dp_call {l : Addr} {xs : Array Value} {kvs : List (K × Value)} {Q : Value → Shared → Prop} (hh : A.handled = none) (hl : s.heap.IsList l xs) (hd0 : ∃ o n, s.heap.get? l = some o ∧ o.cls = .type "list" ∧ o.data = .seq xs n ∧ o.dict = none)
    (hn : (kvs.map (·.1)).Nodup) (hz : kvs.length ≤ sizeLine) (hs : xs.size = kvs.length)
    (hp : ∀ (i : Nat) (k : K) (v : Value), kvs[i]? = some (k, v) → ∃ p x, xs[i]? = some (.ref p) ∧ knd.is k x = true ∧ IsTup s.heap p #[x, v])
    (fin : ∀ h' tk, Heap.DictOf knd h' s.heap.objs.size kvs → (∀ c o, s.heap.get? c = some o → h'.get? c = some o) → Q (.ref s.heap.objs.size) { s with heap := h', toks := tk }) :
    wpAny (model prog w) A (call (.type "dict") [.ref l]) Q E s := by
  refine callType_codes (Q₁ := fun obj s₁ => obj = .ref s.heap.objs.size ∧ s₁ = { s with heap := s.heap.push { cls := .type "dict", data := .dict #[] } }) F.kt_called_dict (F.kt_typeCall_dict_1 _) F.entry_dict_init (kt_code_dict_new _ ⟨rfl, rfl⟩) ?_
  rintro obj s₁ ⟨rfl, rfl⟩
  have hnew : (s.heap.push { cls := .type "dict", data := .dict #[] }).DictOf knd s.heap.objs.size [] := Heap.DictOf.new s.heap
  refine ⟨hnew.typeIs, F.args_dict_init_2 _ _, ?_⟩
  unfold Builtin.«dict.__init__»
  refine wpAny_bind ?_
  unfold Builtin.Dict.selfAndRest
  refine wpAny_bind (wpAny_notOrdered_dict hnew.typeIs ?_)
  show wpAny _ _ (pure (s.heap.objs.size, [Value.ref l])) _ _ _
  refine wpAny_pure ?_
  show wpAny _ _ (Builtin.Dict.updateFrom "dict.__init__" s.heap.objs.size (.ref l) [] .none) _ _ _
  unfold Builtin.Dict.updateFrom
  obtain ⟨ol, nl, el, cl, dl, dcl⟩ := hd0
  have el1 := Heap.get?_push_of_some { cls := .type "dict", data := .dict #[] } el
  refine wpAny_bind (wpAny_typeOf (T := "list") ⟨_, el1, cl⟩ ?_)
  rw [if_pos (by decide)]
  refine wpAny_bind (lz_keys_none_list el1 cl dl dcl hh fun h1 tk1 kp => ?_)
  simp only [Option.isNone_none, if_true]
  refine wpAny_bind (wpAny_rule ?_)
  have hl1 : h1.IsList l xs := ⟨ol, kp _ _ el1, cl, nl, dl⟩
  refine wpAny_bind (wpAny_pyIter_list hl1 ?_)
  refine wpAny_pure ⟨Code.quiet_builtin _ (by decide +kernel), ?_⟩
  have lt : @LT.lt Nat _ l s.heap.objs.size := Heap.lt_size el
  have ltD : @LT.lt Nat _ s.heap.objs.size h1.objs.size := by
    obtain ⟨o, es, ep, ho, r⟩ := hnew
    exact Heap.lt_size (kp _ _ ho)
  have old : ∀ c o, s.heap.get? c = some o → h1.get? c = some o := fun c o e => kp c o (Heap.get?_push_of_some _ e)
  dsimp only
  refine dp_loop (knd := knd) (A := A.in1) (h0 := h1) hh (show @Ne Nat _ _ by omega) (show @Ne Nat _ _ by omega) (show @Ne Nat _ _ by omega) hn hz hs (fun i k v e => ?_) kvs.length 0 _ (by omega) ⟨?_, ⟨⟨_, Heap.get?_push_size _ rfl, rfl, rfl⟩, hl1.push _⟩, fun c o n1 n2 e => Heap.get?_push_of_some _ e⟩ fun h' tk dd k => ?_
  · obtain ⟨p, x, e1, e2, e3⟩ := hp i k v e
    obtain ⟨op, ep, rp⟩ := e3
    have lp : @LT.lt Nat _ p s.heap.objs.size := Heap.lt_size ep
    exact ⟨p, x, e1, show @Ne Nat _ _ by omega, show @Ne Nat _ _ by omega, e2, op, old _ _ ep, rp⟩
  · obtain ⟨o, es, ep, ho, r⟩ := hnew
    exact ⟨o, es, ep, Heap.get?_push_of_some _ (kp _ _ ho), r⟩
  · refine ⟨rfl, fin h' tk dd fun c o e => ?_⟩
    have lc : @LT.lt Nat _ c s.heap.objs.size := Heap.lt_size e
    exact k c o (show @Ne Nat _ _ by omega) (show @Ne Nat _ _ by omega) (old c o e)
end
section
variable {X : Cx}
def dDictL (K : PySem.W.Frag) : List V → Hp → VK → Prop := fun vs H Q => match vs with
  | [.ref a] => ∃ (xs : List V) (kvs : List (Key × V)), SqL K H a xs ∧ Paired (fun v (kv : Key × V) => ∃ p, v = V.ref p ∧ H p = some (.tup [kV kv.1, kv.2])) xs kvs ∧ (kvs.map (·.1)).Nodup ∧ kvs.length ≤ 1000 ∧ ∀ D, H D = none → Q (.ref D) (upd H D (.dK kvs))
  | _ => False
theorem dp_vals {pins : List (Addr × Obj)} {σ : L2.St} {H : Hp} {s : Shared} (I : Inv X pins σ H s) : ∀ {xs : List V} {kvs : List (Key × V)} {us : List Value}, Vals xs us → Paired (fun v (kv : Key × V) => ∃ p, v = V.ref p ∧ H p = some (.tup [kV kv.1, kv.2])) xs kvs →
    ∃ ws : List (Key × Value), KV kvs ws ∧ ∀ (i : Nat) (k : Key) (v : Value), ws[i]? = some (k, v) → ∃ p x, us[i]? = some (.ref p) ∧ (mixKind X.prog X.w).is k x = true ∧ IsTup s.heap p #[x, v]
  | _, _, _, .nil, .nil => ⟨[], .nil, fun i k v e => by simp at e⟩
  | _, _, _, .cons r t, .cons ⟨p, e, h⟩ t' => by
    subst e
    cases r
    obtain ⟨ws, h1, h2⟩ := dp_vals I t t'
    obtain ⟨its, rv, pl, _⟩ := I.tuple (SqT.of h)
    cases rv with
    | cons ra rb =>
    cases rb with
    | cons rc rd =>
    cases rd
    rename_i x0 v0
    refine ⟨(_, v0) :: ws, .cons ⟨rfl, rc⟩ h1, fun i k v e => ?_⟩
    cases i with
    | zero =>
      cases e
      exact ⟨p, x0, rfl, kV_is ra, pl⟩
    | succ i => exact h2 i k v (by simpa using e)
theorem c_dictL (hcalm : X.calm = true) : CallR X (.type "dict") (dDictL X.K) := by
  intro pins s σ H xs us Q I r h
  match xs, h with
  | [.ref a], ⟨xs, kvs, hx, hp, hn, hz, q⟩ =>
    obtain ⟨u, rfl, r1⟩ := vals1 r
    cases (show u = Value.ref a from r1)
    obtain ⟨its, rv, pl, _⟩ := I.list hx
    obtain ⟨ws, rel, hw⟩ := dp_vals I rv hp
    have l1 := rv.length
    have l2 := rel.length
    have l3 := Paired.length hp
    obtain ⟨o, n, e, c, d, dn⟩ := pl
    have kw : ws.map (·.1) = kvs.map (·.1) := by
      have : ∀ {a : List (Key × V)} {b : List (Key × Value)}, KV a b → b.map (·.1) = a.map (·.1) := fun {a b} h => by
        induction h with
        | nil => rfl
        | cons h t ih =>
          rw [List.map_cons, List.map_cons, ih, h.1]
      exact this rel
    refine dp_call (knd := mixKind X.prog X.w) (kvs := ws) (I.ok.hd hcalm) ⟨o, e, c, n, dn⟩ ⟨o, n, e, c, dn, d⟩ (by rw [kw]; exact hn) (by rw [← l2]; exact Nat.le_trans hz (by decide)) (by simp only [List.size_toArray]; omega) (fun i k v hi => ?_) fun h' tk dd kp => ?_
    · obtain ⟨p, x, h1, h2, h3⟩ := hw i k v hi
      exact ⟨p, x, by simpa using h1, h2, h3⟩
    · have hD : H s.heap.objs.size = none := I.hok.fresh (Nat.le_refl _)
      refine ⟨.ref s.heap.objs.size, _, I.laid (a := s.heap.objs.size) (o := .dK kvs) (t' := tk) kp (Nat.le_refl _) (dk_new (Nat.le_trans hz (by decide)) ?_ rel dd), rfl, q _ hD⟩
      have : @LT.lt Nat _ sysModules s.heap.objs.size := I.big
      exact beq_eq_false_iff_ne.mpr (show @Ne Nat _ _ by omega)
def dDictC : List V → Hp → VK → Prop := fun vs H Q => match vs with
  | [.ref a] => ∃ kvs, Rd H a (.dK kvs) ∧ ∀ D, H D = none → Q (.ref D) (upd H D (.dK kvs))
  | _ => False
theorem c_dictC : CallR X (.type "dict") dDictC := by
  intro pins s σ H xs us Q I r h
  match xs, h with
  | [.ref a], ⟨kvs, e, q⟩ =>
    obtain ⟨u, rfl, r1⟩ := vals1 r
    cases (show u = Value.ref a from r1)
    exact d_copyOf I e fun p s' hp I' => ⟨.ref p, _, I', rfl, q p hp⟩
def mgV (kvs more : List (Key × V)) : List (Key × V) := more.foldl (fun acc kv => putK acc kv.1 kv.2) kvs
theorem mg_rel : ∀ {more : List (Key × V)} {kvs : List (Key × V)} {ms ks : List (Key × Value)}, KV kvs ks → KV more ms → KV (mgV kvs more) (merged ks ms)
  | _, _, _, _, r, .nil => r
  | _, _, _, _, r, .cons h t => by
    obtain ⟨h1, h2⟩ := h
    rename_i a b _ _
    have := mg_rel (r.put a.1 h2) t
    obtain ⟨b1, b2⟩ := b
    cases h1
    exact this
theorem mg_len : ∀ (more kvs : List (Key × V)), (mgV kvs more).length ≤ kvs.length + more.length
  | [], kvs => Nat.le_refl _
  | m :: more, kvs => by
    have := mg_len more (putK kvs m.1 m.2)
    have l := length_putK kvs m.1 m.2
    show (mgV (putK kvs m.1 m.2) more).length ≤ _
    rw [List.length_cons]
    omega
def tDUpd (td ty : TE) : TE := fun σ H Q => td σ H fun x H1 => ∃ a, x = .ref a ∧ IsD H1 a ∧ ty σ H1 fun y H2 => ∃ b kvs more, y = .ref b ∧ a ≠ b ∧ H2 a = some (.dK kvs) ∧ Rd H2 b (.dK more) ∧ kvs.length + more.length ≤ 1000 ∧ Q .non (upd H2 a (.dK (mgV kvs more)))
theorem pe_dupd {o e : Expr} {apos cpos : Pos} {td ty : TE} (ho : PE X o td) (he : PE X e ty) (m : M1 X o "update" apos e cpos) : PE X (.Call (.Attribute o "update" apos) [e] [] cpos) (tDUpd td ty) := by
  intro pins s σ H Q I h
  refine wpAny_Call_method m.base m.few m.line PySem.F.plainAttrs_dict PySem.F.slot_dict_update PySem.F.type_dict_update (thn (ho pins s σ H _ I h) fun u s1 ⟨x, H1, I1, rx, a, ex, d, q1⟩ => ?_)
  subst ex
  obtain rfl : u = Value.ref a := rx
  obtain ⟨t1, t2, _⟩ := isD_at I1 d
  refine ⟨t1, t2, ?_⟩
  rw [m.trees]
  refine Calls.callWith_builtin rfl (Calls.evalArgs_plain (Calls.spliced_cons (thn (he pins s1 σ H1 _ I1 q1) fun iv s2 ⟨y, H2, I2, ry, b, kvs, more, ey, nab, ea, eb, hz, q2⟩ => Calls.spliced_nil ?_)))
  subst ey
  obtain rfl : iv = Value.ref b := ry
  obtain ⟨z1, hd1, ks, rel1, dd1⟩ := dk_of I2.hok ea
  obtain ⟨z2, hd2, ms, rel2, dd2⟩ := dk_rd I2.hok eb
  have l1 := rel1.length
  have l2 := rel2.length
  refine call_meetsIn PySem.F.slot_dict_update dd1.typeIs PySem.F.entry_dict_update (PySem.F.args_dict_update_2 _ _) (meets_dict_update (mixKind X.prog X.w) a b nab hd2) ⟨ks, ms, dd1, dd2, Nat.le_trans (show _ ≤ 1000 by omega) (by decide), fun h' dd' _ hs => ?_⟩
  have he' : ∃ q, h'.get? a = some q := let ⟨q, _, _, hq, _⟩ := dd'; ⟨q, hq⟩
  exact ⟨.non, _, d_write (t' := s2.toks) I2 (by rw [ea]; exact True.intro) hs he' (dk_new (Nat.le_trans (mg_len _ _) (Nat.le_trans hz (by decide))) hd1 (mg_rel rel1 rel2) dd'), rfl, q2⟩
end
end Lw
end
section
set_option Elab.async false
set_option linter.all false
set_option maxRecDepth 100000
set_option maxHeartbeats 4000000
namespace Lw
open PySem PySem.Spec PyProof.Rows L2
section
variable {X : Cx}
def iKeysF (te : TE) : TI := fun σ H R => te σ H fun x H1 => ∃ a o kvs names, x = .ref a ∧ H1 a = some (.frz o (.dK kvs)) ∧ kvs.map (·.1) = names.map Sum.inr ∧ R (Itd a o names) H1
theorem pi_keysF {tg l : Expr} {te : TE} (hl : PE X l te) : PI X tg l (iKeysF te) := by
  intro pins s σ H R I h
  refine thn (hl pins s σ H _ I h) fun v s1 ⟨x, H1, I1, r1, q1⟩ => ?_
  obtain ⟨a, o, kvs, names, e, ea, hk, q⟩ := q1
  subst e
  cases r1
  obtain ⟨e0, z, lo, vs, rel, dd⟩ := (show ObjOk X.prog X.w H1 s1.heap a (.frz o (.dK kvs)) from I1.hok a _ ea)
  have kl := rel.length
  have nl : kvs.length = names.length := by
    have := congrArg List.length hk
    simpa using this
  obtain ⟨o', es, ep, r0, r1, r2, r3⟩ := dd
  rw [e0] at r0
  cases r0
  have at' : s1.heap.DictAt (mixKind X.prog X.w) a vs ep := ⟨o, es, e0, r1, r2, r3⟩
  refine wpAny_pyIter_dict lo at' ?_
  refine ⟨s1.heap.objs.size, [s1.heap.objs.size], _, _, _, rfl, I1.kept (t' := s1.toks) fun b o e => Heap.get?_push_of_some _ e, turn_keys (a := a) (names := names) (ep := ep) r2, ⟨_, Heap.get?_push_size _ rfl, rfl, ?_⟩, fun b hb => ?_, q⟩
  · show Data.fields _ = Data.fields _
    rw [show vs.length = names.length by omega]
    rfl
  · have e : b = s1.heap.objs.size := by simpa using hb
    subst e
    exact I1.fpOk (Nat.le_refl _) (I1.hok.fresh (Nat.le_refl _))
def tFrz (t : TS) : TS := fun D σ H => ∃ a kvs, H a = some (.dK kvs) ∧ ∀ o, t D σ (upd H a (.frz o (.dK kvs)))
theorem ss_frz {r : List Stmt} {t : TS} (h : PSs X r t) : PSs X r (tFrz t) := by
  intro pins s σ H D I ⟨a, kvs, ea, q⟩
  obtain ⟨z, lo, vs, rel, dd⟩ := dk_of I.hok ea
  obtain ⟨o, es, ep, r0, r1, r2, r3⟩ := dd
  exact h pins s σ _ D (inv_frz I ea r0) (q o)
def dNiD (K : PySem.W.Frag) : R2 := fun x y H Q => ∃ (xs : List PyData) (d : PyData), Rp K H y (.list xs) ∧ Rp K H x d ∧ PyData.canLayAll0 xs = true ∧ d.canLay0 = true ∧ d.depth ≤ 8 ∧ Q (.bl (!xs.any fun y => PyData.eqv y d)) H
end
end Lw
end
section
set_option Elab.async false
set_option linter.all false
set_option maxRecDepth 100000
set_option maxHeartbeats 4000000
namespace Lw
open PySem PySem.Spec PyProof.Rows L2
section
variable {X : Cx}
theorem hits_int {A : Around} {s : Shared} {kb : List (Key × V)} {vb : List (Key × Value)} (rb : KV kb vb) : ∀ {ka : List (Key × V)} {va : List (Key × Value)}, KV ka va → (∀ p ∈ ka, ∃ i : Int, p.2 = .int i ∧ valV kb p.1 = some (.int i)) → PySem.W.KeqHits A s vb va true
  | _, _, .nil, _ => .nil
  | _, _, .cons (a := a) (b := b) h t, hp => by
    obtain ⟨k, v⟩ := a
    obtain ⟨k', u⟩ := b
    obtain ⟨h1, h2⟩ := h
    have h1 : k = k' := h1
    subst h1
    obtain ⟨i, e1, e2⟩ := hp (k, v) List.mem_cons_self
    have e1 : v = .int i := e1
    subst e1
    obtain ⟨tk, e⟩ : ∃ tk, u = .int i tk := h2
    subst e
    obtain ⟨w, hw, t2, e⟩ := RelO.some_of (v := .int i) (o := valueAt vb k) (by rw [← e2]; exact rb.val k)
    subst e
    have := PySem.W.KeqHits.hit hw (PySem.SeqAt.EqAt.int_int (A := A) (s := s) i tk i t2) (hits_int rb t fun p m => hp p (List.mem_cons_of_mem _ m))
    rwa [beq_self_eq_true] at this
def dEqK : R2 := fun x y H Q => match x, y with
  | .ref a, .ref b => ∃ ka kb, Rd H a (.dK ka) ∧ Rd H b (.dK kb) ∧ ka.length = kb.length ∧ (∀ p ∈ ka, ∃ i : Int, p.2 = .int i ∧ valV kb p.1 = some (.int i)) ∧ Q (.bl true) H
  | _, _ => False
end
end Lw
end
section
set_option Elab.async false
set_option linter.all false
set_option maxRecDepth 100000
set_option maxHeartbeats 4000000
namespace Lw
open PySem PySem.Spec PyProof.Rows L2
section
variable {X : Cx}
theorem count_in (k : Str) : ∀ ys : List Str, countIn (.str k) (ys.map PyData.str) = ((ys.count k : Nat) : Int)
  | [] => rfl
  | y :: ys => by
    show (if same (.str y) (.str k) then (1 : Int) else 0) + countIn (.str k) (ys.map PyData.str) = _
    rw [count_in k ys, List.count_cons, show same (.str y) (.str k) = (y == k) from rfl]
    split <;> simp <;> omega
def dLCt (K : PySem.W.Frag) : V → List V → Hp → VK → Prop := fun x xs H Q => match x, xs with
  | .ref p, [.str k] => ∃ ys : List Str, SqL K H p (ys.map V.str) ∧ Q (.int ((ys.count k : Nat) : Int)) H
  | _, _ => False
theorem m_lcnt : MtR X "list.count" (dLCt X.K) := by
  intro pins s σ H x xs v us Q I rx rs h
  match x, xs, h with
  | .ref p, [.str k], ⟨ys, h1, q⟩ =>
    cases rx
    obtain ⟨u, rfl, t, rfl⟩ := vals1 rs
    obtain ⟨its, rv, ⟨o, n, e, c, dd, d⟩, hz⟩ := I.list h1
    refine count_list_strs (ys := ys) ⟨o, e, c, n, d⟩ (strs_of rv) ⟨.int _, H, I.tok _, ⟨_, rfl⟩, ?_⟩
    rw [count_in]
    exact q
def dLSet (K : PySem.W.Frag) (te : TE) : TE := fun σ H Q => te σ H fun x H1 => match x with
  | .ref l => ∃ names : List Str, SqL K H1 l (names.map V.str) ∧ names.length ≤ 1000 ∧ Q (.int ((srt names).length : Nat)) H1
  | _ => False
theorem e_lset {e : Expr} {te : TE} {p p' pos pos' : Pos} (hg1 : Gl X "len") (hm1 : X.mg "len" = none) (hg2 : Gl X "set") (hm2 : X.mg "set" = none) (he : PE X e te) (hc : X.calm = true := by rfl)
    (hs : starEach [.Call (.Name "set" p') [e] [] pos'] X.env = [(false, eval (.Call (.Name "set" p') [e] [] pos') X.env)] := by rfl) (hs2 : starEach [e] X.env = [(false, eval e X.env)] := by rfl) :
    PE X (.Call (.Name "len" p) [.Call (.Name "set" p') [e] [] pos'] [] pos) (dLSet X.K te) := by
  intro pins s σ H Q I h
  refine wpAny_Call_Name_kw (ld_blt I hg1 hm1 (show bootBuiltins "len" = some (.builtin "len") by decide +kernel) ?_)
  refine PyProof.Rows.callWith_builtin1 ?_ hs rfl
  rw [hs]
  show wpAny _ _ (spliced ((false, eval (.Call (.Name "set" p') [e] [] pos') X.env) :: backTo pos (starEach [] X.env))) _ _ s
  refine Calls.spliced_cons ?_
  refine wpAny_Call_Name_kw (ld_blt I hg2 hm2 boot_set ?_)
  refine PyProof.Rows.callWith_type1 ?_ hs2 rfl
  rw [hs2]
  show wpAny _ _ (spliced ((false, eval e X.env) :: backTo pos' (starEach [] X.env))) _ _ s
  refine Calls.spliced_cons (thn (he pins s σ H _ I h) fun u s1 ⟨x, H1, I1, r1, q1⟩ => Calls.spliced_nil ?_)
  match x, q1 with
  | .ref l, ⟨names, hq, hn, q⟩ =>
    cases (show u = Value.ref l from r1)
    obtain ⟨its, rv, ⟨oL, nL, eL, cL, dL, xL⟩, hz⟩ := I1.list hq
    have sa : StrsAre its names := strs_of rv
    have hl : its.length = names.length := by rw [← rv.length, List.length_map]
    have hh : X.A.handled = none := I1.ok.hd hc
    refine call_setS hh ⟨oL, eL, cL, nL, xL⟩ sa (by rw [hl]; exact Nat.lt_of_le_of_lt (Nat.succ_le_succ hn) (by decide)) fun g tk hS keep => Calls.spliced_nil ?_
    obtain ⟨o, es, ep, t, ho, S⟩ := hS
    rw [hl] at S
    have ez : es.size = (srt names).length := by
      rw [S.size]
      have a := nd_len (ddn_nodup (fun i => names.getD i ⟨#[]⟩) names.length) fun x hx => mem_srt.mpr (ddn_mem.mp hx)
      have b := nd_len (inc_nodup (inc_srt names)) fun x hx => ddn_mem.mpr (mem_srt.mp hx)
      omega
    refine call_len_set ho S.ex S.dat S.fit ?_ ?_
    · have := S.bd
      have : scanBound < 2 ^ 62 := by decide
      omega
    · refine ⟨.int _, H1, I1.kept (t' := tk + 1 + 1) fun b o e => keep b o e, ⟨_, rfl⟩, ?_⟩
      rw [ez]
      exact q
end
end Lw
end
section
set_option Elab.async false
set_option linter.all false
set_option maxRecDepth 100000
set_option maxHeartbeats 4000000
namespace Lw
open PySem PySem.Spec PyProof.Rows L2
structure DfnN (K : PySem.W.Frag) (mg : Str → Option Value) (x : Str) (st : Stmt) (ps : List Str) : Prop where
  ex : ∃ (f : Addr) (fd : FuncData) (oc : Value) (od : Option Addr) (dV kV doc pm : Value) (an : Option Addr) (cdv ct : Value) (osl : Array (Option Value)),
    fd = PySem.W.fnOf x x (defArgs st) (defBody st) (defScope st) dV kV doc pm an cdv ct ∧ K.lookup f = some ⟨oc, od, .func fd, osl⟩ ∧ PySem.W.codeIn K cdv x = true ∧ PySem.W.keepIn K (.ref f) = true ∧ mg x = some (.ref f) ∧ Binds K fd ps [] ∧ Binds K fd ps [.none]
structure CalN (P : Program) (w : World) (K : PySem.W.Frag) (mg : Str → Option Value) (base : Heap) (x : Str) (ps : List Str) (k : Nat) (sp : Sp) : Prop where
  ex : ∃ (f : Addr) (fd : FuncData), mg x = some (.ref f) ∧ PySem.W.keepIn K (.ref f) = true ∧ Binds K fd ps [] ∧ Binds K fd ps [.none] ∧ FnOk P w K mg base (CXE P w) k f fd ps sp ∧
    ∃ (oc : Value) (od : Option Addr) (osl : Array (Option Value)), K.lookup f = some ⟨oc, od, .func fd, osl⟩
section
variable {P : Program} {w : World} {K : PySem.W.Frag} {mg : Str → Option Value} {base : Heap}
end
section
variable {X : Cx}
def dCallN (sp : Sp) (t : TA) : TE := fun σ H Q => t σ H fun vs H1 => sp (vs ++ [V.non]) H1 Q E0
end
end Lw
end
section
set_option Elab.async false
set_option linter.all false
set_option maxRecDepth 100000
set_option maxHeartbeats 4000000
namespace Lw
open PySem PySem.Spec PyProof.Rows L2
def insV (xs : List V) (k : Nat) (y : V) : List V := xs.take k ++ y :: xs.drop k
def rInsert : V → List V → Hp → VK → Prop := fun x vs H Q => ∃ l xs i y, x = .ref l ∧ vs = [.int i, y] ∧ H l = some (.lst xs) ∧ 0 ≤ i ∧ i ≤ xs.length ∧ xs.length < 1000 ∧ Q .non (upd H l (.lst (insV xs i.toNat y)))
section
variable {X : Cx}
end
structure QA (X : Cx) (es : List Expr) (t : TA) : Prop where
  pa : PA X es t
end Lw
end
section
set_option Elab.async false
set_option linter.all false
set_option maxRecDepth 100000
set_option maxHeartbeats 4000000
set_option autoImplicit false
namespace Lw
open PySem PySem.Spec PyProof.Rows L2
def tTryIf (tc : TT) (t u : TS) : TS := fun D σ H => tc σ H fun b H1 => Br b (t D σ H1) (u D σ H1)
section
variable {X : Cx} {pins : List (Addr × Obj)} {σ : L2.St} {H : Hp} {s : Shared}
def tTryA (K : PySem.W.Frag) (ta : TA) (sp : Sp) (D' : Addr) (n i : Nat) (tu : TS) : TS := fun D σ H => ta σ H fun vs H1 => sp vs H1 (fun v H2 => D.nx (σ.set i (some v)) H2) fun cls _ H2 => ∃ C, cls = .ref C ∧ ExcC K C ∧ PySem.W.mroIn K C (.ref D') = some true ∧
  ∀ a H3, Same H2 H3 → H3 a = some (.ext (ExcAt a C)) → tu { nx := fun σ' H' => D.nx (σ'.set n none) H', rt := D.rt, bk := fun σ' H' => D.bk (σ'.set n none) H', ct := fun σ' H' => D.ct (σ'.set n none) H' } (σ.set n (some (.ref a))) H3
end
end Lw
end
section
set_option Elab.async false
set_option linter.all false
set_option maxRecDepth 100000
set_option maxHeartbeats 4000000
set_option autoImplicit false
namespace Lw
open PySem PySem.Spec PyProof.Rows L2
section
variable {X : Cx} {pins : List (Addr × Obj)} {σ : L2.St} {H : Hp} {s : Shared}
theorem try_oneA {f x : Str} {ps : List Str} {k k' : Nat} {sp : Sp} {p cpos apos pos' yp hpos : Pos} {e : Expr} {es : List Expr} {t : TA} {D' : Addr} {n i : Nat} {y nm : Str} {b₀ : Stmt} {suite : List Stmt} {tu : TS} {D : Ends} {E : Value → Shared → Prop} (dx : DefCx X)
    (C : Cal X.prog X.w X.K X.mg X.base f ps k sp) (hr : Room k' X.A) (hk : k ≤ k') (hg : Gl X f) (ha : PA X.nox (e :: es) t) (hi : X.N[i]? = some x) (hx : X.env.scope.names.lookup x = some .local)
    (hy : Gl X y) (hD : X.mg y = some (.ref D')) (cD : Cat X.K D') (nd : X.N.Nodup) (hn : X.N[n]? = some nm) (hl : X.env.scope.names.lookup nm = some .local) (hu : ∀ v, PSs (cxM X v) (b₀ :: suite) tu)
    (hdb : (f == ("__debug__" : Str)) = false) (hdb2 : (y == ("__debug__" : Str)) = false) (he : starEach (e :: es) X.env = (false, eval e X.env) :: starEach es X.env) (hpl : (backTo cpos (starEach es X.env)).any (·.1) = false)
    (hs : swapsWith (.Call (.Name f p) (e :: es) [] cpos) (some (.Name x pos')) apos.line X.env = pure false) (I : Inv X pins σ H s) (h : tTryA X.K t sp D' n i tu D σ H) :
    wpAny (model X.prog X.w) X.A (execs [.Assign [.Name x pos'] (.Call (.Name f p) (e :: es) [] cpos) apos] X.env) (fun fl s1 => fl = .next ∧ ∃ σ' H2, Inv X pins σ' H2 s1 ∧ D.nx σ' H2)
      (fun ev s1 => wpAny (model X.prog X.w) X.A (noteFrame ev X.env) (fun _ s2 => wpAny (model X.prog X.w) X.A (setFlight ev none) (fun _ s3 =>
        wpAny (model X.prog X.w) X.A (handleBy ev X.env [.ExceptHandler (some (.Name y yp)) (some nm) (b₀ :: suite) hpos]) (SP X pins D) E s3) E s2) E s1) s := by
  obtain ⟨fa, fd, h1, h2, h3, h4, _⟩ := C.ex
  refine wpAny_execs_cons (wpAny_Assign_Name ?_ hs)
  refine wpAny_Call_Name_kw (ld_glob I hg h1 ?_ hdb)
  refine PySem.W.callWith_K (h₀ := X.base) I.ok.mod.kin h2 (wpAny_mono (ha cpos pins s σ H _ (I.wish _) h) (fun us s1 ⟨vs, H1, I1, r, q⟩ => ?_) fun _ _ z => z.elim) he hpl
  have I1 := I1.unwish
  refine ⟨I1.kIn, ?_⟩
  have hus : us.length = ps.length := by rw [← r.length]; exact h4.len _ _ _ _ q
  have hb := h3 s1 us I1.kIn (by rw [List.append_nil]; exact hus)
  rw [List.append_nil] at hb
  refine wpAny_call (codeAny_mono ((h4.mono hk).run X.A X.stack s1 H1 ⟨us, []⟩ us vs _ _ hr I1.env0 hb r q) fun res s' hq => ?_)
  cases res with
  | ok fl =>
    cases fl with
    | ret u =>
      obtain ⟨v, H2, I2, rv, q2⟩ := I1.after hq
      exact store_ok I2 nd hi (.inl hx) rv (fun s2 I3 => wpAny_execs_nil ⟨rfl, _, H2, I3, q2⟩) (.inr hx)
    | next => exact False.elim hq
    | brk => exact False.elim hq
    | cont => exact False.elim hq
  | error er =>
    obtain ⟨a, cls, H2, B, a0, rfl, F, C', rfl, c, hm, q2⟩ := hq
    exact handle_ok dx I1 F hy hD cD hm nd hn hl hu hdb2 fun H3 => q2 a H3
theorem ps_tryIfA {c : Expr} {tc : TT} {f f2 x : Str} {ps ps2 : List Str} {k k' k2 k2' : Nat} {sp sp2 : Sp} {ip p cpos apos xp p2 cpos2 apos2 xp2 pos yp hpos : Pos} {e e2 : Expr} {es es2 : List Expr} {t t2 : TA} {D' : Addr} {n i : Nat} {y nm : Str} {b₀ : Stmt} {suite : List Stmt} {tu : TS} (dx : DefCx X)
    (hc : PT X.nox c tc)
    (C : Cal X.prog X.w X.K X.mg X.base f ps k sp) (hr : Room k' X.A) (hk : k ≤ k') (hg : Gl X f) (ha : PA X.nox (e :: es) t)
    (C2 : Cal X.prog X.w X.K X.mg X.base f2 ps2 k2 sp2) (hr2 : Room k2' X.A) (hk2 : k2 ≤ k2') (hg2 : Gl X f2) (ha2 : PA X.nox (e2 :: es2) t2) (hi : X.N[i]? = some x) (hx : X.env.scope.names.lookup x = some .local)
    (hy : Gl X y) (hD : X.mg y = some (.ref D')) (cD : Cat X.K D') (nd : X.N.Nodup) (hn : X.N[n]? = some nm) (hl : X.env.scope.names.lookup nm = some .local) (hu : ∀ v, PSs (cxM X v) (b₀ :: suite) tu)
    (hdb : (f == ("__debug__" : Str)) = false := by decide) (hdb' : (f2 == ("__debug__" : Str)) = false := by decide) (hdb2 : (y == ("__debug__" : Str)) = false := by decide) (he : starEach (e :: es) X.env = (false, eval e X.env) :: starEach es X.env := by rfl) (hpl : (backTo cpos (starEach es X.env)).any (·.1) = false := by rfl)
    (hs : swapsWith (.Call (.Name f p) (e :: es) [] cpos) (some (.Name x xp)) apos.line X.env = pure false := by rfl)
    (he2 : starEach (e2 :: es2) X.env = (false, eval e2 X.env) :: starEach es2 X.env := by rfl) (hpl2 : (backTo cpos2 (starEach es2 X.env)).any (·.1) = false := by rfl)
    (hs2 : swapsWith (.Call (.Name f2 p2) (e2 :: es2) [] cpos2) (some (.Name x xp2)) apos2.line X.env = pure false := by rfl) :
    PS X (.Try [.If c [.Assign [.Name x xp] (.Call (.Name f p) (e :: es) [] cpos) apos] [.Assign [.Name x xp2] (.Call (.Name f2 p2) (e2 :: es2) [] cpos2) apos2] ip] [.ExceptHandler (some (.Name y yp)) (some nm) (b₀ :: suite) hpos] [] [] pos)
      (tTryIf tc (tTryA X.K t sp D' n i tu) (tTryA X.K t2 sp2 D' n i tu)) := by
  intro pins s σ H D I h
  refine wpAny_Try_except (wpAny_execs_cons (wpAny_If (wpAny_mono (hc pins s σ H _ (I.wish _) h) (fun d s1 ⟨H1, I1, q1⟩ => ?_) fun _ _ z => z.elim)))
  have I1 := I1.unwish
  cases d with
  | true =>
    refine wpAny_mono (try_oneA dx C hr hk hg ha hi hx hy hD cD nd hn hl hu hdb hdb2 he hpl hs I1 (q1.1 rfl)) (fun fl s2 ⟨e1, σ', H2, I2, q2⟩ => ?_) fun _ _ z => z
    subst e1
    exact wpAny_execs_nil (wpAny_execs_nil ⟨σ', H2, I2, q2⟩)
  | false =>
    refine wpAny_mono (try_oneA dx C2 hr2 hk2 hg2 ha2 hi hx hy hD cD nd hn hl hu hdb' hdb2 he2 hpl2 hs2 I1 (q1.2 rfl)) (fun fl s2 ⟨e1, σ', H2, I2, q2⟩ => ?_) fun _ _ z => z
    subst e1
    exact wpAny_execs_nil (wpAny_execs_nil ⟨σ', H2, I2, q2⟩)
def dNeK : R2 := fun x y H Q => match x, y with
  | .ref a, .ref b => ∃ ka kb, Rd H a (.dK ka) ∧ Rd H b (.dK kb) ∧ ka.length = kb.length ∧ (∀ p ∈ ka, ∃ i : Int, p.2 = .int i ∧ valV kb p.1 = some (.int i)) ∧ Q (.bl false) H
  | _, _ => False
theorem o_neK (hu : X.A.units + 64 < cLine) : OpR X (compareOp .NotEq) dNeK := by
  intro pins s σ H x y v u Q I rx ry q
  cases x <;> cases y <;> first
    | exact False.elim q
    | (obtain ⟨ka, kb, ea, eb, hl, hp, q⟩ := q
       obtain rfl : v = Value.ref _ := rx
       obtain rfl : u = Value.ref _ := ry
       obtain ⟨_, na, va, ra, da⟩ := dk_rd I.hok ea
       obtain ⟨_, nb, vb, rb, db⟩ := dk_rd I.hok eb
       refine PySem.W.keq_ne (r := true) na nb da db (by omega) (fun _ => hits_int rb ra hp) ⟨.bl false, H, I, ?_, q⟩
       have l1 := ra.length
       have l2 := rb.length
       have e : (va.length == vb.length) = true := by
         rw [← l1, ← l2, hl]
         exact beq_self_eq_true _
       rw [e]
       rfl)
end
end Lw
end
section
set_option Elab.async false
set_option linter.all false
set_option maxRecDepth 100000
set_option maxHeartbeats 4000000
set_option autoImplicit false
namespace Lw
open PySem PySem.Spec PyProof.Rows L2
structure RoomU (k : Nat) (A : Around) : Prop where
  dp : A.depth + 3 * k + 5 < recursionLimit
  un : A.units + 16 * k + 200 < cLine
theorem RoomU.units {k : Nat} {A : Around} (r : RoomU k A) : A.units + 64 < cLine := by have := r.un; omega
theorem RoomU.depth {k : Nat} {A : Around} (r : RoomU k A) : A.depth < recursionLimit := by have := r.dp; omega
theorem RoomU.mono {j k : Nat} {A : Around} (r : RoomU k A) (h : j ≤ k) : RoomU j A := ⟨by have := r.dp; omega, by have := r.un; omega⟩
theorem RoomU.deeper {k : Nat} {A : Around} (r : RoomU (k + 1) A) (env : Env) : RoomU k (A.deeper env) :=
  ⟨by have := r.dp; show A.depth + 1 + 3 * k + 5 < _; omega, by have := r.un; show A.units + 3 + 16 * k + 200 < _; omega⟩
def cxU (P : Program) (w : World) (K : PySem.W.Frag) (mg : Str → Option Value) (base : Heap) (N : List Str) (qual : Str) (scope : Scope) (f : Addr) (cd : Value) (A : Around) (outer : List Env) (s : Shared) (H : Hp) : Cx :=
  { cxOf (CXE P w) P w K mg base N qual scope f cd A outer s H (fun _ _ _ => False) with calm := false, xe := fun _ _ => False }
section
variable {P : Program} {w : World} {K : PySem.W.Frag} {mg : Str → Option Value} {base : Heap} {N ps : List Str} {qual : Str} {scope : Scope} {f : Addr} {cd : Value} {A : Around} {outer : List Env} {s s1 : Shared} {H : Hp} {us : List Value} {vs : List V}
theorem inv_startU (S : FnScope N ps scope) (e0 : Env0 P w K mg base A outer s H) (hl : vs.length = ps.length) (r : Vals vs us)
    (x : InCallC s s.heap.objs.size (bindL (envOfC qual scope s.heap.objs.size f cd).kindOf (ps.zip us) fun _ => none) (cellsFrom (s.heap.objs.size + 1) scope.names []) (bindC (envOfC qual scope s.heap.objs.size f cd).kindOf (ps.zip us) fun _ => none) s1) :
    Inv (cxU P w K mg base N qual scope f cd A outer s H) [] (start N vs) H s1 := by
  have e1 : Env0 P w K mg base { A with handled := none } outer s H := ⟨e0.frames, e0.mod, e0.bs, e0.bsz, e0.funs, e0.frf, e0.hok, e0.bare⟩
  have I := inv_start (CX := CXE P w) (A := { A with handled := none }) (E := fun _ _ _ => False) S rfl e1 hl r x
  obtain ⟨ok, i1, i2, i3, i4, i5, i6, i7, i8, i9, i10⟩ := I
  obtain ⟨o1, o2, o3, o4, o5, o6, o7, o8, o9, o10, o11, o12, o13, o14, o15, o16, o17, o18⟩ := ok
  exact ⟨⟨o1, o2, o3, o4, o5, o6, o7, o8, (fun c => by cases c), Around.frames_deeper e0.frames, o11, o12, o13, o14, o15, o16, o17, o18⟩, i1, i2, i3, i4, i5, i6, i7, i8, i9, i10⟩
end
structure FnU (P : Program) (w : World) (K : PySem.W.Frag) (mg : Str → Option Value) (base : Heap) (k : Nat) (f : Addr) (fd : FuncData) (ps : List Str) (sp : Sp) : Prop where
  len : ∀ vs H Q E, sp vs H Q E → vs.length = ps.length
  run : ∀ (A : Around) (outer : List Env) (s : Shared) (H : Hp) (args : Args) (us : List Value) (vs : List V) (Q : VK), RoomU k A → Env0 P w K mg base A outer s H → BindsTo s fd args (ps.zip us) → Vals vs us → sp vs H Q E0 →
    codeAny (model P w) A (.call (.ref f) args) (fun r s' => match r with | .ok (.ret u) => CE outer P w H s Q u s' | _ => False) s
structure CalU (P : Program) (w : World) (K : PySem.W.Frag) (mg : Str → Option Value) (base : Heap) (x : Str) (ps : List Str) (k : Nat) (sp : Sp) : Prop where
  ex : ∃ (f : Addr) (fd : FuncData), mg x = some (.ref f) ∧ PySem.W.keepIn K (.ref f) = true ∧ Binds K fd ps [] ∧ FnU P w K mg base k f fd ps sp
section
variable {P : Program} {w : World} {K : PySem.W.Frag} {mg : Str → Option Value} {base : Heap}
theorem Dfn.calU {x : Str} {st : Stmt} {N ps : List Str} {k : Nat} {sp : Sp} (d : Dfn K mg x st ps) (S : FnScope N ps (defScope st)) (len : ∀ vs H Q E, sp vs H Q E → vs.length = ps.length)
    (hbody : ∀ (f : Addr) (cdv : Value) (A : Around) (outer : List Env) (s : Shared) (H : Hp) (vs : List V) (Q : VK) (E : XK), RoomU k (A.deeper (envOfC x (defScope st) s.heap.objs.size f cdv)) → sp vs H Q E →
      ∃ t, PSs (cxU P w K mg base N x (defScope st) f cdv A outer s H) (defBody st) t ∧ t { nx := fun _ H' => Q .non H', rt := Q } (start N vs) H) : CalU P w K mg base x ps (k + 1) sp := by
  obtain ⟨f, fd, F, hm, hb⟩ := d.ex
  obtain ⟨oc, od, kV, doc, pm, an, cdv, ct, osl, rfl, lk, hcd⟩ := F.ex
  refine ⟨f, _, hm, F.kp, hb, len, fun A outer s H args us vs Q hr e0 hb r hsp => ?_⟩
  have hl := len _ _ _ _ hsp
  have KX : K.In s.heap := e0.mod.kin.keeps fun b o e => (e0.bs b o e).1
  have lim : s.heap.NoLimit := e0.mod.nolimit.keeps fun b o e => (e0.bs b o e).1
  have hkind : ∀ y ∈ ps.zip us, (defScope st).names.lookup y.1 = some .local ∨ ((defScope st).names.lookup y.1 = some .cell ∧ ((cellsFrom (s.heap.objs.size + 1) (defScope st).names []).lookup y.1).isSome = true) := fun ⟨n, v⟩ hy => by
    rcases S.par n (List.of_mem_zip hy).1 with q | q
    · exact .inl q
    · exact .inr ⟨q, PySem.W.cellsFrom_some _ _ _ (.inl q)⟩
  refine codeAny_call_function hr.depth (KX _ _ lk) rfl S.co S.gen rfl (PySem.W.codeRec_of KX hcd) (hb _ _ _ _ ?_)
  refine wpAny_newFunctionEnv_cells S.kind hkind fun env he s1 x => ?_
  subst he
  refine ⟨lim.keeps x.toInCall.keep, codeAny_func ?_⟩
  obtain ⟨t, ht, hq⟩ := hbody f cdv A outer s H vs Q E0 (hr.deeper _) hsp
  have I := inv_startU S e0 hl r x
  refine wpAny_mono (ht [] s1 (start N vs) H _ I hq) (fun fl s' hs => ?_) fun e s' hs => hs.elim
  cases fl with
  | ret u =>
    obtain ⟨v, σ', H', J, rv, q⟩ := hs
    exact ⟨v, H', J.os, J.bare, J.base, J.hok, rv, q⟩
  | next =>
    obtain ⟨σ', H', J, q⟩ := hs
    exact ⟨V.non, H', J.os, J.bare, J.base, J.hok, rfl, q⟩
  | brk =>
    obtain ⟨_, _, _, q⟩ := hs
    exact False.elim q
  | cont =>
    obtain ⟨_, _, _, q⟩ := hs
    exact False.elim q
end
section
variable {X : Cx}
theorem room_u {k : Nat} {A A' : Around} (r : Room k A) (h1 : A'.depth = A.depth) (h2 : A'.units = A.units) : RoomU k A' := ⟨by rw [h1]; exact r.dp, by have := r.un; omega⟩
theorem e_callU {x : Str} {ps : List Str} {k k' : Nat} {sp : Sp} {p pos : Pos} {e : Expr} {es : List Expr} {t : TA} {A : Around} (C : CalU X.prog X.w X.K X.mg X.base x ps k sp) (hr : Room k' A) (hk : k ≤ k') (hg : Gl X x)
    (ha : PA X (e :: es) t) (h1 : X.A.depth = A.depth := by rfl) (h2 : X.A.units = A.units := by rfl) (hdb : (x == ("__debug__" : Str)) = false := by decide) (he : starEach (e :: es) X.env = (false, eval e X.env) :: starEach es X.env := by rfl) (hpl : (backTo pos (starEach es X.env)).any (·.1) = false := by rfl) :
    PE X (.Call (.Name x p) (e :: es) [] pos) (dCall sp t) := by
  obtain ⟨f, fd, m1, m2, m3, F⟩ := C.ex
  intro pins s σ H Q I h
  refine wpAny_Call_Name_kw (ld_glob I hg m1 ?_ hdb)
  refine PySem.W.callWith_K (h₀ := X.base) I.ok.mod.kin m2 (thn (ha pos pins s σ H _ I h) fun us s1 ⟨vs, H1, I1, r, q⟩ => ⟨I1.kIn, ?_⟩) he hpl
  have hl : us.length = ps.length := by rw [← r.length]; exact F.len _ _ _ _ q
  have hb := m3 s1 us I1.kIn (by rw [List.append_nil]; exact hl)
  rw [List.append_nil] at hb
  refine wpAny_call (codeAny_mono (F.run X.A X.stack s1 H1 ⟨us, []⟩ us vs Q ((room_u hr h1 h2).mono hk) I1.env0 hb r q) fun res s' hq => ?_)
  cases res with
  | error e => exact False.elim hq
  | ok fl =>
    cases fl with
    | ret u => exact I1.after hq
    | next => exact False.elim hq
    | brk => exact False.elim hq
    | cont => exact False.elim hq
end
end Lw
end
set_option Elab.async false
set_option linter.all false
set_option maxRecDepth 100000
set_option maxHeartbeats 0
set_option exponentiation.threshold 5000
namespace My
open PySem PySem.Spec PyProof.Rows L2 Lw
local macro_rules | `(tactic| walk_at "hp") => `(tactic| first | assumption | (refine sm_at (by assumption) ?_; walk_at "hp") | (refine sm_sq (by assumption) ?_; walk_at "hp") | (refine Fq.up (by assumption) ?_; walk_at "hp") | (refine Pq.up (by assumption) ?_; walk_at "hp"))
def top (i : Nat) : Stmt := PySem.Challenge.pw_ladderworth_k63_names_without_worths.main.body.getD i (.Pass ⟨0, 0, 0, 0⟩)
abbrev s_is_whole : Stmt := top 14
abbrev s_fraction : Stmt := top 15
abbrev s_greatest_divisor : Stmt := top 16
abbrev s_plus : Stmt := top 17
abbrev s_minus : Stmt := top 18
abbrev s_times : Stmt := top 19
abbrev s_over : Stmt := top 20
abbrev s_is_name : Stmt := top 24
abbrev s_share : Stmt := top 26
abbrev s_odds : Stmt := top 27
abbrev s_leaves : Stmt := top 30
abbrev s_tree_shares : Stmt := top 31
abbrev s_check_worths : Stmt := top 32
abbrev s_shares_of : Stmt := top 33
abbrev s_passed : Stmt := top 34
abbrev s_win_over : Stmt := top 35
abbrev s_game_share : Stmt := top 36
abbrev s_group_shares : Stmt := top 39
abbrev s_check_group : Stmt := top 40
abbrev s_ways_to_go : Stmt := top 41
abbrev s_meetings : Stmt := top 42
abbrev s_gone_on : Stmt := top 43
abbrev s_first_place : Stmt := top 44
abbrev s_leaders : Stmt := top 45
abbrev s_l_cell_at : Stmt := top 47
abbrev s_l_names : Stmt := top 48
abbrev s_l_tree : Stmt := top 49
abbrev s_l_class : Stmt := top 50
abbrev s_l_asked : Stmt := top 51
abbrev s_l_odd_group : Stmt := top 52
abbrev s_law : Stmt := top 53
theorem gCons {S : List V → Prop} : ∀ {l : List V}, S l → ¬ S [] → ∃ v r, l = v :: r
  | [], h, n => (n h).elim
  | v :: r, _, _ => ⟨v, r, rfl⟩
theorem gNil {S : List V → Prop} : ∀ {l : List V}, S l → (∀ v r, ¬ S (v :: r)) → l = []
  | [], _, _ => rfl
  | v :: r, h, n => (n v r h).elim
theorem gRef {S : V → Prop} : ∀ {v : V}, S v → (∀ i, ¬ S (.int i)) → (∀ b, ¬ S (.bl b)) → ¬ S .non → (∀ x, ¬ S (.str x)) → (∀ x, ¬ S (.flt x)) → (∀ x, ¬ S (.byt x)) → (∀ x, ¬ S (.ty x)) → ∃ a, v = .ref a
  | .ref a, _, _, _, _, _, _, _, _ => ⟨a, rfl⟩
  | .int i, h, n, _, _, _, _, _, _ => (n i h).elim
  | .bl i, h, _, n, _, _, _, _, _ => (n i h).elim
  | .non, h, _, _, n, _, _, _, _ => (n h).elim
  | .str i, h, _, _, _, n, _, _, _ => (n i h).elim
  | .flt i, h, _, _, _, _, n, _, _ => (n i h).elim
  | .byt i, h, _, _, _, _, _, n, _ => (n i h).elim
  | .ty i, h, _, _, _, _, _, _, n => (n i h).elim
theorem gInt {S : V → Prop} : ∀ {v : V}, S v → (∀ i, ¬ S (.ref i)) → (∀ b, ¬ S (.bl b)) → ¬ S .non → (∀ x, ¬ S (.str x)) → (∀ x, ¬ S (.flt x)) → (∀ x, ¬ S (.byt x)) → (∀ x, ¬ S (.ty x)) → ∃ a, v = .int a
  | .int a, _, _, _, _, _, _, _, _ => ⟨a, rfl⟩
  | .ref i, h, n, _, _, _, _, _, _ => (n i h).elim
  | .bl i, h, _, n, _, _, _, _, _ => (n i h).elim
  | .non, h, _, _, n, _, _, _, _ => (n h).elim
  | .str i, h, _, _, _, n, _, _, _ => (n i h).elim
  | .flt i, h, _, _, _, _, n, _, _ => (n i h).elim
  | .byt i, h, _, _, _, _, _, n, _ => (n i h).elim
  | .ty i, h, _, _, _, _, _, _, n => (n i h).elim
theorem gStr {S : V → Prop} : ∀ {v : V}, S v → (∀ i, ¬ S (.ref i)) → (∀ b, ¬ S (.bl b)) → ¬ S .non → (∀ x, ¬ S (.int x)) → (∀ x, ¬ S (.flt x)) → (∀ x, ¬ S (.byt x)) → (∀ x, ¬ S (.ty x)) → ∃ a, v = .str a
  | .str a, _, _, _, _, _, _, _, _ => ⟨a, rfl⟩
  | .ref i, h, n, _, _, _, _, _, _ => (n i h).elim
  | .bl i, h, _, n, _, _, _, _, _ => (n i h).elim
  | .non, h, _, _, n, _, _, _, _ => (n h).elim
  | .int i, h, _, _, _, n, _, _, _ => (n i h).elim
  | .flt i, h, _, _, _, _, n, _, _ => (n i h).elim
  | .byt i, h, _, _, _, _, _, n, _ => (n i h).elim
  | .ty i, h, _, _, _, _, _, _, n => (n i h).elim
structure Errs (K : PySem.W.Frag) (mg : Str → Option Value) (c_LadderError c_NoBook c_NoFit c_NoGame c_NoNumber c_NoPlayer c_NoRow c_NoStretch c_NoTable c_NoTree c_NoWorth : Addr) : Prop where
  b_LadderError : mg "LadderError" = some (.ref c_LadderError)
  b_NoBook : mg "NoBook" = some (.ref c_NoBook)
  b_NoFit : mg "NoFit" = some (.ref c_NoFit)
  b_NoGame : mg "NoGame" = some (.ref c_NoGame)
  b_NoNumber : mg "NoNumber" = some (.ref c_NoNumber)
  b_NoPlayer : mg "NoPlayer" = some (.ref c_NoPlayer)
  b_NoRow : mg "NoRow" = some (.ref c_NoRow)
  b_NoStretch : mg "NoStretch" = some (.ref c_NoStretch)
  b_NoTable : mg "NoTable" = some (.ref c_NoTable)
  b_NoTree : mg "NoTree" = some (.ref c_NoTree)
  b_NoWorth : mg "NoWorth" = some (.ref c_NoWorth)
  y_NoTree : PySem.W.nsIn K mainGlobals "NoTree" = some (some (.ref c_NoTree))
  y_NoPlayer : PySem.W.nsIn K mainGlobals "NoPlayer" = some (some (.ref c_NoPlayer))
  x_LadderError : ExcC K c_LadderError
  x_NoPlayer : ExcC K c_NoPlayer
  x_NoTree : ExcC K c_NoTree
  kv_NoTree : PySem.W.kitOne K (.ref c_NoTree) (.type "ValueError") = some true
  kk_NoTree_LadderError : PySem.W.kitOne K (.ref c_NoTree) (.ref c_LadderError) = some true
  kk_NoTree_NoBook : PySem.W.kitOne K (.ref c_NoTree) (.ref c_NoBook) = some false
  kk_NoTree_NoFit : PySem.W.kitOne K (.ref c_NoTree) (.ref c_NoFit) = some false
  kk_NoTree_NoGame : PySem.W.kitOne K (.ref c_NoTree) (.ref c_NoGame) = some false
  kk_NoTree_NoNumber : PySem.W.kitOne K (.ref c_NoTree) (.ref c_NoNumber) = some false
  kk_NoTree_NoPlayer : PySem.W.kitOne K (.ref c_NoTree) (.ref c_NoPlayer) = some false
  kk_NoTree_NoRow : PySem.W.kitOne K (.ref c_NoTree) (.ref c_NoRow) = some false
  kk_NoTree_NoStretch : PySem.W.kitOne K (.ref c_NoTree) (.ref c_NoStretch) = some false
  kk_NoTree_NoTable : PySem.W.kitOne K (.ref c_NoTree) (.ref c_NoTable) = some false
  kk_NoTree_NoTree : PySem.W.kitOne K (.ref c_NoTree) (.ref c_NoTree) = some true
  kk_NoTree_NoWorth : PySem.W.kitOne K (.ref c_NoTree) (.ref c_NoWorth) = some false
  km_NoTree_LadderError : PySem.W.mroIn K c_NoTree (.ref c_LadderError) = some true
  kv_NoPlayer : PySem.W.kitOne K (.ref c_NoPlayer) (.type "ValueError") = some true
  kk_NoPlayer_LadderError : PySem.W.kitOne K (.ref c_NoPlayer) (.ref c_LadderError) = some true
  kk_NoPlayer_NoBook : PySem.W.kitOne K (.ref c_NoPlayer) (.ref c_NoBook) = some false
  kk_NoPlayer_NoFit : PySem.W.kitOne K (.ref c_NoPlayer) (.ref c_NoFit) = some false
  kk_NoPlayer_NoGame : PySem.W.kitOne K (.ref c_NoPlayer) (.ref c_NoGame) = some false
  kk_NoPlayer_NoNumber : PySem.W.kitOne K (.ref c_NoPlayer) (.ref c_NoNumber) = some false
  kk_NoPlayer_NoPlayer : PySem.W.kitOne K (.ref c_NoPlayer) (.ref c_NoPlayer) = some true
  kk_NoPlayer_NoRow : PySem.W.kitOne K (.ref c_NoPlayer) (.ref c_NoRow) = some false
  kk_NoPlayer_NoStretch : PySem.W.kitOne K (.ref c_NoPlayer) (.ref c_NoStretch) = some false
  kk_NoPlayer_NoTable : PySem.W.kitOne K (.ref c_NoPlayer) (.ref c_NoTable) = some false
  kk_NoPlayer_NoTree : PySem.W.kitOne K (.ref c_NoPlayer) (.ref c_NoTree) = some false
  kk_NoPlayer_NoWorth : PySem.W.kitOne K (.ref c_NoPlayer) (.ref c_NoWorth) = some false
  km_NoPlayer_LadderError : PySem.W.mroIn K c_NoPlayer (.ref c_LadderError) = some true
section
variable {P : Program} {w : World} {K : PySem.W.Frag} {mg : Str → Option Value} {base : Heap} {ns : List Int}
variable {c_LadderError c_NoBook c_NoFit c_NoGame c_NoNumber c_NoPlayer c_NoRow c_NoStretch c_NoTable c_NoTree c_NoWorth : Addr}
--@inv
--@thinall
theorem nb {P : Prop} {a b : Bool} (h : a = b) (n : (a == b) = false := by rfl) : P := by
  subst h
  rw [beq_self_eq_true] at n
  cases n
def wh : V → Bool
  | .int _ => true
  | _ => false
def Kd (H : Hp) : V → Prop
  | .int _ => True
  | .bl _ => True
  | .non => True
  | .str _ => True
  | .ref p => ∃ u t, H p = some u ∧ tyHO u = some t ∧ tyB t "int" = some false
  | _ => False
def ExN (K : PySem.W.Frag) (x : Str) (E : XK) (H : Hp) : Prop := ∀ C, PySem.W.nsIn K mainGlobals x = some (some (.ref C)) → E (.ref C) none H
def sp_is_whole (K : PySem.W.Frag) (ns : List Int) : Sp := fun vs H Q _ => match vs with
  | [v] => Kd H v ∧ Q (.bl (wh v)) H
  | _ => False
theorem sc_is_whole : FnScope ["thing"] ["thing"] (defScope s_is_whole) := ⟨rfl, rfl, rfl, by decide +kernel, rfl, by decide +kernel, by decide +kernel⟩
theorem ok_is_whole (d : Dfn K mg "is_whole" s_is_whole ["thing"]) (er : Errs K mg c_LadderError c_NoBook c_NoFit c_NoGame c_NoNumber c_NoPlayer c_NoRow c_NoStretch c_NoTable c_NoTree c_NoWorth) (n_isinstance : mg "isinstance" = none) (n_bool : mg "bool" = none) (n_int : mg "int" = none)   : Cal P w K mg base "is_whole" ["thing"] 1 (sp_is_whole K ns) := by
  refine d.cal (k := 0) sc_is_whole (fun vs H Q E h => ?_) (fun f cdv A outer s H vs Q E hr h => ?_)
  · match vs, h with
    | [_], _ => rfl
  · refine ⟨_, (@pss_one _ _ _ (@ps_ret _ _ _ _ (@e_and _ _ _ _ _ _ _ (@pe_callB _ _ _ _ _ _ _ _ _ c_isi (by rfl) n_isinstance (by decide +kernel) (@pa_cons _ _ _ _ _ (dv 0) (@pa_cons _ _ _ _ _ (e_ty "int" (by rfl) n_int (by decide +kernel)) pa_nil (by rfl)) (by rfl)) (by decide) (by decide) (by rfl) (by rfl)) (@pe_one _ _ _ _ _ (@e_not _ _ _ _ (@pe_callB _ _ _ _ _ _ _ _ _ c_isi (by rfl) n_isinstance (by decide +kernel) (@pa_cons _ _ _ _ _ (dv 0) (@pa_cons _ _ _ _ _ (e_ty "bool" (by rfl) n_bool (by decide +kernel)) pa_nil (by rfl)) (by rfl)) (by decide) (by decide) (by rfl) (by rfl))))))), ?_⟩
    match vs, h with
    | [.int _], ⟨_, q⟩ => exact ⟨true, rfl, fun _ => ⟨false, rfl, q⟩, fun h => absurd h (by decide)⟩
    | [.bl _], ⟨_, q⟩ => exact ⟨true, rfl, fun _ => ⟨true, rfl, q⟩, fun h => absurd h (by decide)⟩
    | [.non], ⟨_, q⟩ => exact ⟨false, rfl, fun h => absurd h (by decide), fun _ => q⟩
    | [.str _], ⟨_, q⟩ => exact ⟨false, rfl, fun h => absurd h (by decide), fun _ => q⟩
    | [.ref _], ⟨⟨u, t, h1, h2, h3⟩, q⟩ => exact ⟨u, false, t, h1, h2, h3, fun h => absurd h (by decide), fun _ => q⟩
    | [.flt _], ⟨z, _⟩ => exact z.elim
    | [.byt _], ⟨z, _⟩ => exact z.elim
    | [.ty _], ⟨z, _⟩ => exact z.elim
def Cgt (K : PySem.W.Frag) (x : Str) (H : Hp) (p : Addr) : Prop := ∃ C, PySem.W.nsIn K mainGlobals x = some (some (.ref C)) ∧ H p = some (.ext (ExcAt p C))
theorem ns_inj {K : PySem.W.Frag} {x : Str} {C D : Addr} (h : PySem.W.nsIn K mainGlobals x = some (some (.ref C))) (h' : PySem.W.nsIn K mainGlobals x = some (some (.ref D))) : C = D := by
  rw [h] at h'
  cases h'
  rfl
def SM (K : PySem.W.Frag) (x : Str) (H : Hp) (vs : List V) (n : Nat) : L2.St → Hp → Prop := fun σ H' => ∃ p, σ = vs.map some ++ some (.ref p) :: List.replicate n none ∧ Cgt K x H' p ∧ Same H H'
def btw (v : V) (lo hi : Int) : Bool := match v with
  | .int i => decide (lo ≤ i) && decide (i ≤ hi)
  | _ => false
theorem ty_str {u : HO} {t : String} (h : tyHO u = some t) : tyB t "str" = some false := by
  cases u with
  | lst _ => cases h; rfl
  | tup _ => cases h; rfl
  | dK _ => cases h; rfl
  | dT _ => cases h; rfl
  | frz o u =>
    cases u with
    | lst _ => cases h; rfl
    | _ => cases h
  | _ => cases h
def isNmS (x : Str) : Bool := decide (1 ≤ x.length) && decide (x.length ≤ 8) && (co x).all fun c => decide (c ∈ co abc)
def isNm : V → Bool
  | .str x => isNmS x
  | _ => false
theorem abc_mem {c : Nat} : c ∈ co abc ↔ 97 ≤ c ∧ c < 123 := by
  have e : co abc = (List.range 26).map fun j => 97 + j := by decide +kernel
  rw [e, List.mem_map]
  constructor
  · rintro ⟨j, hj, rfl⟩
    have := List.mem_range.mp hj
    omega
  · intro h
    exact ⟨c - 97, List.mem_range.mpr (by omega), by omega⟩
theorem _root_.Lw.Nm.is {x : Str} (h : Nm x) : isNmS x = true := by
  unfold isNmS
  have l := co_len x
  have h1 := h.len1
  have h8 := h.len8
  rw [Bool.and_eq_true, Bool.and_eq_true]
  refine ⟨⟨decide_eq_true (by omega), decide_eq_true (by omega)⟩, List.all_eq_true.mpr fun c hc => decide_eq_true (abc_mem.mpr (h.abc c hc))⟩
def sp_is_name (K : PySem.W.Frag) (ns : List Int) : Sp := fun vs H Q _ => match vs with
  | [v] => Kd H v ∧ (∀ z, v = .str z → z.length ≤ 1000) ∧ ∀ H', Same H H' → Q (.bl (isNm v)) H'
  | _ => False
theorem sc_is_name : FnScope ["thing"] ["thing"] (defScope s_is_name) := ⟨rfl, rfl, rfl, by decide +kernel, rfl, by decide +kernel, by decide +kernel⟩
theorem ok_is_name (d : Dfn K mg "is_name" s_is_name ["thing"]) (er : Errs K mg c_LadderError c_NoBook c_NoFit c_NoGame c_NoNumber c_NoPlayer c_NoRow c_NoStretch c_NoTable c_NoTree c_NoWorth) (n_all : mg "all" = none) (n_len : mg "len" = none) (n_isinstance : mg "isinstance" = none) (n_str : mg "str" = none) (v_LETTERS : Cst mg "LETTERS" (.str "abcdefghijklmnopqrstuvwxyz")) (v_LONGEST_NAME : Cst mg "LONGEST_NAME" (.int (8)))  : Cal P w K mg base "is_name" ["thing"] 1 (sp_is_name K ns) := by
  refine d.cal (k := 0) sc_is_name (fun vs H Q E h => ?_) (fun f cdv A outer s H vs Q E hr h => ?_)
  · match vs, h with
    | [_], _ => rfl
  · refine ⟨_, (@pss_cons _ _ _ _ _ (@s_if _ _ _ _ _ _ _ _ (@L2.PW.pt _ _ _ (@w_or _ _ _ _ _ _ _ (@pt_not _ _ _ _ (@t_val _ _ _ (@pe_callB _ _ _ _ _ _ _ _ _ c_isi (by rfl) n_isinstance (by decide +kernel) (@pa_cons _ _ _ _ _ (dv 0) (@pa_cons _ _ _ _ _ (e_ty "str" (by rfl) n_str (by decide +kernel)) pa_nil (by rfl)) (by rfl)) (by decide) (by decide) (by rfl) (by rfl)) (by intro _; rfl))) (@pw_or1 _ _ _ _ (@pt_not _ _ _ _ (@t_chain _ _ _ _ _ _ _ _ _ _ _ _ o_le o_le pe_int (@pe_callB _ _ _ _ _ _ _ _ _ c_len (by rfl) n_len (by decide +kernel) (@pa_cons _ _ _ _ _ (dv 0) pa_nil (by rfl)) (by decide) (by decide) (by rfl) (by rfl)) (g_cst v_LONGEST_NAME (by rfl)) (by with_unfolding_all rfl)))))) (@pss_one _ _ _ (@ps_ret _ _ _ _ pe_bl)) pss_nil) (@pss_one _ _ _ (@ps_ret _ _ _ _ (@pe_callB _ _ _ _ _ _ _ _ _ (@c_all _ rfl) (by rfl) n_all (by decide +kernel) (@pa_cons _ _ _ _ _ (@e_compN _ _ _ _ _ _ _ _ _ _ ["sign"] [] [] rfl (@pi_str _ _ _ _ (dv 0)) (fun C s H fp => (@pg_name _ _ (0) _ (show List.Nodup [("sign" : Str)] by decide +kernel) rfl (by first | exact Or.inl rfl | exact Or.inr rfl) (by first | exact .inl rfl | exact .inr rfl | assumption))) (fun C s H fp => (@pe_cmpR _ _ _ _ _ _ _ _ o_in1 (dv 0) (g_cst v_LETTERS (by rfl)) (by with_unfolding_all rfl))) rfl rfl (by decide +kernel) (by decide +kernel) (by rfl) True.intro True.intro (by intro _; rfl)) pa_nil (by rfl)) (by decide) (by decide) (by rfl) (by rfl))))), ?_⟩
    match vs, h with
    | [.int _], ⟨_, _, q⟩ => exact ⟨false, rfl, ⟨fun _ => ⟨fun _ => q _ (Same.refl _), fun h => nb h⟩, fun h => nb h⟩⟩
    | [.bl _], ⟨_, _, q⟩ => exact ⟨false, rfl, ⟨fun _ => ⟨fun _ => q _ (Same.refl _), fun h => nb h⟩, fun h => nb h⟩⟩
    | [.non], ⟨_, _, q⟩ => exact ⟨false, rfl, ⟨fun _ => ⟨fun _ => q _ (Same.refl _), fun h => nb h⟩, fun h => nb h⟩⟩
    | [.ref _], ⟨⟨u, t, h1, h2, h3⟩, _, q⟩ => exact ⟨u, false, t, h1, h2, ty_str h2, ⟨fun _ => ⟨fun _ => q _ (Same.refl _), fun h => nb h⟩, fun h => nb h⟩⟩
    | [.flt _], ⟨z, _⟩ => exact z.elim
    | [.byt _], ⟨z, _⟩ => exact z.elim
    | [.ty _], ⟨z, _⟩ => exact z.elim
    | [.str x], ⟨_, hz, q⟩ =>
      have hz := hz x rfl
      refine ⟨true, rfl, ⟨fun h => nb h, fun _ => ⟨Nat.le_trans hz (by decide), ⟨fun h1 => ⟨fun h2 => ?_, fun h2 => ?_⟩, fun h1 => ?_⟩⟩⟩⟩
      · have h2 : ¬ (x.length : Int) ≤ 8 := by simpa using h2
        have e : isNm (.str x) = false := by
          show isNmS x = false
          unfold isNmS
          rw [decide_eq_false (show ¬ x.length ≤ 8 by omega), Bool.and_false, Bool.false_and]
        have q := q _ (Same.refl _)
        rw [e] at q
        exact q
      · have h2 : (x.length : Int) ≤ 8 := by simpa using h2
        show CGoal (Its x) _ _ _ _ _ _ _
        refine comp_str (fun c => .bl (decide (c ∈ co abc))) hz (fun c H2 hc s2 P hP => ⟨rfl, c, rfl, hP⟩) fun D H2 s2 e2 => ⟨(co x).map fun c => decide (c ∈ co abc), SqL.of (by rw [e2, List.map_map]; rfl), ?_⟩
        have e : isNm (.str x) = ((co x).map fun c => decide (c ∈ co abc)).all id := by
          have h1 : (1 : Int) ≤ x.length := of_decide_eq_true h1
          show isNmS x = _
          unfold isNmS
          rw [decide_eq_true (show 1 ≤ x.length by omega), decide_eq_true (show x.length ≤ 8 by omega), List.all_map]
          rfl
        rw [← e]
        exact q H2 s2
      · refine ⟨fun _ => ?_, fun h => nb h⟩
        have e : isNm (.str x) = false := by
          have h1 : ¬ (1 : Int) ≤ x.length := of_decide_eq_false h1
          show isNmS x = false
          unfold isNmS
          rw [decide_eq_false (show ¬ 1 ≤ x.length by omega), Bool.false_and, Bool.false_and]
        have q := q _ (Same.refl _)
        rw [e] at q
        exact q
def eqS : V → V → Bool
  | .str a, .str b => decide (a = b)
  | _, _ => false
def goodG (d x y h s : V) : Bool := btw d 0 9999 && isNm x && isNm y && !eqS x y && btw h 0 2 && btw s (-1) 1
def SL (v : V) : Prop := ∀ z, v = .str z → z.length ≤ 1000
theorem none_back {H H' : Hp} {D : Addr} (s : Same H H') (h : H' D = none) : H D = none := by
  cases e : H D with
  | none => rfl
  | some o =>
    rw [s _ _ e] at h
    cases h
inductive Tr where
  | leaf (s : Str)
  | node (l r : Tr)
def TrAt (H : Hp) : Tr → V → Prop
  | .leaf s, v => v = .str s
  | .node l r, v => ∃ p a b, v = .ref p ∧ H p = some (.tup [a, b]) ∧ TrAt H l a ∧ TrAt H r b
def lv : Tr → List Str
  | .leaf s => [s]
  | .node l r => lv l ++ lv r
def sz : Tr → Nat
  | .leaf _ => 1
  | .node l r => sz l + sz r + 1
def td : Tr → PyData
  | .leaf s => .str s
  | .node l r => .tuple [td l, td r]
theorem tr_up {H H' : Hp} (k : Kt H H') : ∀ (t : Tr) (v : V), TrAt H t v → TrAt H' t v
  | .leaf _, _, h => h
  | .node l r, v, ⟨p, a, b, e, h, h1, h2⟩ => ⟨p, a, b, e, k _ _ h, tr_up k l a h1, tr_up k r b h2⟩
theorem lv_pos : ∀ t, 0 < (lv t).length
  | .leaf _ => Nat.one_pos
  | .node l r => by
    have := lv_pos l
    show 0 < (lv l ++ lv r).length
    rw [List.length_append]
    omega
theorem rp_tr {K : PySem.W.Frag} {H : Hp} : ∀ (t : Tr) (v : V), TrAt H t v → Rp K H v (td t)
  | .leaf s, v, h => by
    have h : v = .str s := h
    subst h
    exact .str s
  | .node l r, v, ⟨p, a, b, e, h, h1, h2⟩ => by
    subst e
    exact .tup (SqT.of h) (.cons (rp_tr l a h1) (.cons (rp_tr r b h2) .nil))
theorem td_depth : ∀ t, (td t).depth < (lv t).length
  | .leaf _ => Nat.one_pos
  | .node l r => by
    have a := td_depth l
    have b := td_depth r
    show max (td l).depth (max (td r).depth 0) + 1 < (lv l ++ lv r).length
    rw [List.length_append]
    omega
theorem td_lay : ∀ t, (∀ x ∈ lv t, PyData.strOk x = true) → (td t).canLay0 = true
  | .leaf s, h => h s (List.mem_singleton.mpr rfl)
  | .node l r, h => by
    show ((td l).canLay0 && ((td r).canLay0 && true)) = true
    rw [td_lay l fun x hx => h x (List.mem_append_left _ hx), td_lay r fun x hx => h x (List.mem_append_right _ hx)]
    rfl
theorem rpl_tr {K : PySem.W.Frag} {H : Hp} : ∀ {vs : List V} {ts : List Tr}, All2 (fun v t => TrAt H t v) vs ts → RpL K H vs (ts.map td)
  | _, _, .nil => .nil
  | _, _, .cons h r => .cons (rp_tr _ _ h) (rpl_tr r)
theorem sh_tr {ts : List Tr} (h : ∀ t ∈ ts, (lv t).length ≤ 8 ∧ ∀ x ∈ lv t, PyData.strOk x = true) : SeqAt.shaped (.list (ts.map td)) = true := by
  have c : PyData.canLayAll0 (ts.map td) = true ∧ PyData.depthAll (ts.map td) ≤ 8 := by
    induction ts with
    | nil => exact ⟨rfl, Nat.zero_le _⟩
    | cons t ts ih =>
      obtain ⟨i1, i2⟩ := ih fun t ht => h t (List.mem_cons_of_mem _ ht)
      obtain ⟨h1, h2⟩ := h t (List.mem_cons_self ..)
      have d := td_depth t
      refine ⟨?_, ?_⟩
      · show ((td t).canLay0 && PyData.canLayAll0 (ts.map td)) = true
        rw [td_lay t h2, i1]
        rfl
      · show max (td t).depth (PyData.depthAll (ts.map td)) ≤ 8
        omega
  unfold SeqAt.shaped
  rw [show (PyData.list (ts.map td)).canLay0 = true from c.1, show (PyData.list (ts.map td)).depth = PyData.depthAll (ts.map td) + 1 from rfl, Bool.true_and]
  have := c.2
  exact decide_eq_true (by omega)
structure TOk (t : Tr) : Prop where
  nd : (lv t).Nodup
  len : (lv t).length ≤ 8
  nm : ∀ x ∈ lv t, Nm x
theorem nm_ok {x : Str} (h : Nm x) : PyData.strOk x = true := ok_of fun c hc => by
  have := h.abc c hc
  omega
theorem TOk.left {l r : Tr} (h : TOk (.node l r)) : TOk l := by
  have nd : (lv l ++ lv r).Nodup := h.nd
  have len : (lv l ++ lv r).length ≤ 8 := h.len
  rw [List.length_append] at len
  exact ⟨(List.nodup_append.mp nd).1, by omega, fun x hx => h.nm x (List.mem_append_left _ hx)⟩
theorem TOk.right {l r : Tr} (h : TOk (.node l r)) : TOk r := by
  have nd : (lv l ++ lv r).Nodup := h.nd
  have len : (lv l ++ lv r).length ≤ 8 := h.len
  rw [List.length_append] at len
  exact ⟨(List.nodup_append.mp nd).2.1, by omega, fun x hx => h.nm x (List.mem_append_right _ hx)⟩
theorem nil_or_snoc {α : Type} (l : List α) : l = [] ∨ ∃ m a, l = m ++ [a] := by
  rcases List.eq_nil_or_concat l with h | ⟨m, a, h⟩
  · exact .inl h
  · exact .inr ⟨m, a, by rw [h, List.concat_eq_append]⟩
theorem a2_unsnoc {α β : Type} {R : α → β → Prop} : ∀ {l : List α} {m : List β} {b : β}, All2 R l (m ++ [b]) → ∃ l' a, l = l' ++ [a] ∧ All2 R l' m ∧ R a b
  | _, [], b, h => by
    cases h with
    | cons x r =>
      cases r
      exact ⟨[], _, rfl, .nil, x⟩
  | _, c :: m, b, h => by
    cases h with
    | cons x r =>
      obtain ⟨l', a, rfl, h1, h2⟩ := a2_unsnoc r
      exact ⟨_ :: l', a, rfl, .cons x h1, h2⟩
theorem eqv_nil {l : List PyData} (h : l ≠ []) : PyData.eqv (.list l) (.list []) = false := by
  cases l with
  | nil => exact absurd rfl h
  | cons x r => rfl
theorem in_strs {n : Str} {l : List Str} : inV (.str n) (l.map V.str) = decide (n ∈ l) := by
  unfold inV
  rw [List.any_map]
  by_cases h : n ∈ l
  · rw [decide_eq_true h, List.any_eq_true]
    exact ⟨n, h, by show (n == n) = true; simp⟩
  · rw [decide_eq_false h, List.any_eq_false]
    intro x hx e
    have e : (x == n) = true := e
    exact h (eq_of_beq e ▸ hx)
theorem flat_strs (l : List Str) : (l.map V.str).all flatV = true := by
  rw [List.all_map]
  exact List.all_eq_true.mpr fun _ _ => rfl
def hd (ts : List Tr) : List Str := (ts.reverse.map lv).flatten
theorem hd_snoc (ts : List Tr) (t : Tr) : hd (ts ++ [t]) = lv t ++ hd ts := by
  unfold hd
  rw [List.reverse_append]
  rfl
theorem hd_len (ts : List Tr) : ts.length ≤ (hd ts).length := by
  have h : ∀ l : List Tr, l.length ≤ ((l.map lv).flatten).length := fun l => by
    induction l with
    | nil => exact Nat.zero_le _
    | cons t l ih =>
      have p := lv_pos t
      rw [List.map_cons, List.flatten_cons, List.length_append, List.length_cons]
      omega
  have := h ts.reverse
  rw [List.length_reverse] at this
  exact this
theorem hd_mem {ts : List Tr} {t : Tr} (h : t ∈ ts) : ∀ x ∈ lv t, x ∈ hd ts := fun x hx => List.mem_flatten.mpr ⟨lv t, List.mem_map.mpr ⟨t, List.mem_reverse.mpr h, rfl⟩, hx⟩
theorem hd_len1 {ts : List Tr} {t : Tr} (h : t ∈ ts) : (lv t).length ≤ (hd ts).length := by
  obtain ⟨a, b, rfl⟩ := List.append_of_mem h
  unfold hd
  simp
  omega
def sp_leaves (K : PySem.W.Frag) (ns : List Int) : Sp := fun vs H Q _ => match vs with
  | [v] => ∃ t, (TrAt H t v ∧ TOk t) ∧ ∀ D H', Same H H' → H D = none → H' D = some (.lst ((lv t).map V.str)) → Q (.ref D) H'
  | _ => False
theorem sc_leaves : FnScope ["tree", "names", "ahead", "part"] ["tree"] (defScope s_leaves) := ⟨rfl, rfl, rfl, by decide +kernel, rfl, by decide +kernel, by decide +kernel⟩
theorem inv_leaves {vs : List V} {H : Hp} {Q : VK} {E : XK} (h : sp_leaves K ns vs H Q E) : ∃ v, vs = [v] := by
  first
  | (obtain ⟨v0, r0, rfl⟩ := gCons (S := fun l => sp_leaves K ns (l) H Q E) h id; obtain rfl := gNil (S := fun l => sp_leaves K ns (v0 :: l) H Q E) h fun _ _ => id; exact ⟨_, rfl⟩)
  | (match vs, h with
    | [v], _ => exact ⟨_, rfl⟩)
theorem ok_leaves (d : Dfn K mg "leaves" s_leaves ["tree"]) (er : Errs K mg c_LadderError c_NoBook c_NoFit c_NoGame c_NoNumber c_NoPlayer c_NoRow c_NoStretch c_NoTable c_NoTree c_NoWorth) (n_len : mg "len" = none) (n_isinstance : mg "isinstance" = none) (n_tuple : mg "tuple" = none) (v_MOST_NAMES : Cst mg "MOST_NAMES" (.int (8))) (c_is_name : Cal P w K mg base "is_name" ["thing"] 1 (sp_is_name K ns)) : Cal P w K mg base "leaves" ["tree"] 2 (sp_leaves K ns) := by
  refine d.cal (k := 1) sc_leaves (fun vs H Q E h => ?_) (fun f cdv A outer s H vs Q E hr h => ?_)
  · obtain ⟨v, rfl⟩ := inv_leaves h
    rfl
  · obtain ⟨v, rfl⟩ := inv_leaves h
    obtain ⟨t0, ⟨hT, ok⟩, k⟩ := h
    refine ⟨_, (@pss_cons _ _ _ _ _ (@ps_set _ _ (1) _ _ _ _ sc_leaves.nd rfl (by first | exact Or.inl rfl | exact Or.inr rfl) (@pe_lst _ _ _ _ pa_nil) (by rfl) (by first | exact .inl rfl | exact .inr rfl | assumption)) (@pss_cons _ _ _ _ _ (@ps_set _ _ (2) _ _ _ _ sc_leaves.nd rfl (by first | exact Or.inl rfl | exact Or.inr rfl) (@pe_lst _ _ _ _ (@pa_cons _ _ _ _ _ (dv 0) pa_nil (by rfl))) (by rfl) (by first | exact .inl rfl | exact .inr rfl | assumption)) (@pss_cons _ _ _ _ _ (@s_while _ _ _ _ _ _ PassesOwn.never (@t_cmp _ _ _ _ _ _ _ _ (@o_neD _ hr.units) (dv 2) (@pe_lst _ _ _ _ pa_nil) (@nomark _ _ (by decide) (by decide))) (@pss_cons _ _ _ _ _ (@ps_set _ _ (3) _ _ _ _ sc_leaves.nd rfl (by first | exact Or.inl rfl | exact Or.inr rfl) (@pe_bm0 _ _ _ _ _ _ _ _ _ PySem.F.plainAttrs_list PySem.F.slot_list_pop PySem.F.type_list_pop mt_pop (dv 2) (by rfl) (by rfl)) (by rfl) (by first | exact .inl rfl | exact .inr rfl | assumption)) (@pss_one _ _ _ (@s_if _ _ _ _ _ _ _ _ (@L2.PW.pt _ _ _ (@w_and _ _ _ _ _ _ _ (@t_val _ _ _ (@pe_callB _ _ _ _ _ _ _ _ _ c_isi (by rfl) n_isinstance (by decide +kernel) (@pa_cons _ _ _ _ _ (dv 3) (@pa_cons _ _ _ _ _ (e_ty "tuple" (by rfl) n_tuple (by decide +kernel)) pa_nil (by rfl)) (by rfl)) (by decide) (by decide) (by rfl) (by rfl)) (by intro _; rfl)) (@pw_and1 _ _ _ _ (@t_cmp _ _ _ _ _ _ _ _ o_eq (@pe_callB _ _ _ _ _ _ _ _ _ c_len (by rfl) n_len (by decide +kernel) (@pa_cons _ _ _ _ _ (dv 3) pa_nil (by rfl)) (by decide) (by decide) (by rfl) (by rfl)) pe_int (@nomark _ _ (by decide) (by decide)))))) (@pss_one _ _ _ (@ps_expr _ _ _ _ (@pe_bm _ _ _ _ _ _ _ _ _ _ _ _ PySem.F.plainAttrs_list PySem.F.slot_list_extend PySem.F.type_list_extend mt_extend (dv 2) (@pa_cons _ _ _ _ _ (@e_lst _ _ _ _ (@pa_cons _ _ _ _ _ (@pe_ix _ _ _ _ _ _ _ i_tup (dv 3) pe_int (fun _ _ => rfl)) (@pa_cons _ _ _ _ _ (@pe_ix _ _ _ _ _ _ _ i_tup (dv 3) pe_int (fun _ _ => rfl)) pa_nil (by rfl)) (by rfl))) pa_nil (by rfl)) (by rfl) (by rfl) (by rfl) (by rfl) (by rfl)) (by rfl))) (@pss_one _ _ _ (@s_if _ _ _ _ _ _ _ _ (@L2.PW.pt _ _ _ (@w_and _ _ _ _ _ _ _ (@t_val _ _ _ (@e_call _ _ _ _ _ _ _ _ _ _ _ c_is_name hr (by decide) (by rfl) (@pa_cons _ _ _ _ _ (dv 3) pa_nil (by rfl)) (by decide) (by rfl) (by rfl)) (by intro _; rfl)) (@w_and _ _ _ _ _ _ _ (@t_cmp _ _ _ _ _ _ _ _ (show OpR _ _ (dNotInS K) from o_notin) (dv 3) (dv 1) (by with_unfolding_all rfl)) (@pw_and1 _ _ _ _ (@t_cmp _ _ _ _ _ _ _ _ o_lt (@pe_callB _ _ _ _ _ _ _ _ _ c_len (by rfl) n_len (by decide +kernel) (@pa_cons _ _ _ _ _ (dv 1) pa_nil (by rfl)) (by decide) (by decide) (by rfl) (by rfl)) (g_cst v_MOST_NAMES (by rfl)) (@nomark _ _ (by decide) (by decide))))))) (@pss_one _ _ _ (@ps_expr _ _ _ _ (@pe_bm _ _ _ _ _ _ _ _ _ _ _ _ PySem.F.plainAttrs_list PySem.F.slot_list_append PySem.F.type_list_append mt_append (dv 1) (@pa_cons _ _ _ _ _ (dv 3) pa_nil (by rfl)) (by rfl) (by rfl) (by rfl) (by rfl) (by rfl)) (by rfl))) (@pss_one _ _ _ ps_never))))))) (@pss_one _ _ _ (@ps_ret _ _ _ _ (dv 1)))))), ?_⟩
    refine ⟨by decide, fun D hD => ⟨(by show 1 ≤ sizeLine; decide), fun A hA => ?_⟩⟩
    have s1 : Same H (upd H D (.lst [])) := same_upd hD
    have hA0 : H A = none := none_back s1 hA
    have s2 : Same H (upd (upd H D (.lst [])) A (.lst [v])) := s1.trans (same_upd hA)
    have ne : A ≠ D := fun z => by
      rw [z, upd_same] at hA
      cases hA
    have eD : upd (upd H D (.lst [])) A (.lst [v]) D = some (.lst (([] : List Str).map V.str)) := by
      rw [upd_ne (Ne.symm ne)]
      exact upd_same
    have eA : upd (upd H D (.lst [])) A (.lst [v]) A = some (.lst [v]) := upd_same
    generalize upd (upd H D (.lst [])) A (.lst [v]) = H2 at s2 eD eA
    refine ⟨fun m σ H' => ∃ (dn : List Str) (vs : List V) (ts : List Tr) (o3 : Option V), σ = [some v, some (.ref D), some (.ref A), o3] ∧ Same H H' ∧ H' D = some (.lst (dn.map V.str)) ∧ H' A = some (.lst vs) ∧ All2 (fun v t => TrAt H' t v) vs ts ∧ dn ++ hd ts = lv t0 ∧ m = (ts.map sz).sum, ⟨_, [], [v], [t0], none, rfl, s2, eD, eA, .cons (tr_up (kt_of s2) _ _ hT) .nil, by simp [hd], rfl⟩, ?_⟩
    clear s1 hA s2 eD eA
    rintro m σ H3 ⟨dn, vs, ts, o3, rfl, s3, eD, eA, a3, ht, rfl⟩
    have hl8 : dn.length + (hd ts).length ≤ 8 := by
      have := ok.len
      rw [← ht, List.length_append] at this
      exact this
    have hmem : ∀ x ∈ hd ts, x ∈ lv t0 := fun x hx => by
      rw [← ht]
      exact List.mem_append_right _ hx
    have sh : SeqAt.shaped (.list (ts.map td)) = true := sh_tr fun t h => ⟨Nat.le_trans (hd_len1 h) (by omega), fun x hx => nm_ok (ok.nm x (hmem x (hd_mem h x hx)))⟩
    refine ⟨by decide, fun P hP => ?_⟩
    have s4 : Same H3 (upd H3 P (.lst [])) := same_upd hP
    have eP : upd H3 P (.lst []) P = some (.lst []) := upd_same
    generalize upd H3 P (.lst []) = H4 at s4 eP
    have eD := s4 _ _ eD
    have eA := s4 _ _ eA
    have a4 : All2 (fun v t => TrAt H4 t v) vs ts := a3.imp fun v t r => tr_up (kt_of s4) _ _ r
    have s3 := s3.trans s4
    clear s4 a3 hP
    refine ⟨_, _, .lst (SqL.of eA) (rpl_tr a4), .lst (SqL.of eP) .nil, sh, rfl, ⟨fun h => ?_, fun h => ?_⟩⟩
    · rcases nil_or_snoc ts with rfl | ⟨ts', t, rfl⟩
      · exact absurd h (by decide)
      obtain ⟨vs', y, rfl, a', hy⟩ := a2_unsnoc a4
      have hl : vs'.length = ts'.length := a'.len
      have hl' := hd_len (ts' ++ [t])
      rw [List.length_append, List.length_singleton] at hl'
      rw [hd_snoc] at ht hmem
      refine ⟨.inl ⟨rfl, _, SqL.of eA⟩, A, _, y, rfl, rfl, eA, by simp, ?_⟩
      rw [show (vs' ++ [y]).dropLast = vs' from List.dropLast_concat]
      have kt : Kt H4 (upd H4 A (.lst vs')) := kt_upd eA
      have s5 : Same H (upd H4 A (.lst vs')) := same_app' s3 hA0
      have eD5 : upd H4 A (.lst vs') D = some (.lst (dn.map V.str)) := by rw [upd_ne (Ne.symm ne)]; exact eD
      have eA5 : upd H4 A (.lst vs') A = some (.lst vs') := upd_same
      have a5 : All2 (fun v t => TrAt (upd H4 A (.lst vs')) t v) vs' ts' := a'.imp fun v t r => tr_up kt _ _ r
      have hy := tr_up kt _ _ hy
      generalize upd H4 A (.lst vs') = H5 at s5 eD5 eA5 a5 hy
      clear kt a' eA eD eP s3 a4 h sh
      cases t with
      | leaf x =>
        have hy : y = .str x := hy
        subst hy
        have hx : x ∈ lv t0 := by
          rw [← ht]
          exact List.mem_append_right _ (List.mem_append_left _ (List.mem_singleton.mpr rfl))
        have nx := ok.nm x hx
        have nin : x ∉ dn := fun z => by
          have nd := ok.nd
          rw [← ht] at nd
          exact (List.nodup_append.mp nd).2.2 x z x (List.mem_append_left _ (List.mem_singleton.mpr rfl)) rfl
        refine ⟨false, rfl, ⟨fun h => nb h, fun _ => ⟨fun h => nb h, fun _ => ?_⟩⟩⟩
        have zx : x.length ≤ 1000 := by
          have := nx.len8
          rw [co_len] at this
          omega
        have dl : dn.length < 8 := by
          rw [hd_snoc, List.length_append] at hl8
          have := lv_pos (.leaf x)
          omega
        have iv : inV (.str x) (dn.map V.str) = false := by
          rw [in_strs]
          exact decide_eq_false nin
        refine ⟨True.intro, fun z hz => by cases hz; exact zx, fun H6 s6 => ⟨fun _ => ⟨_, .inl (SqL.of (s6 _ _ eD5)), rfl, flat_strs _, ⟨fun _ => ⟨_, .inl (SqL.of (s6 _ _ eD5)), ⟨fun _ => ?_, fun h => ?_⟩⟩, fun h => ?_⟩⟩, fun h => ?_⟩⟩
        · refine ⟨.inl ⟨rfl, _, SqL.of (s6 _ _ eD5)⟩, D, _, _, rfl, rfl, s6 _ _ eD5, ?_, (ts'.map sz).sum, ?_, dn ++ [x], vs', ts', _, rfl, same_app' (s5.trans s6) hD, ?_, ?_, ?_, ?_, rfl⟩
          · rw [List.length_map]
            exact Nat.lt_of_lt_of_le dl (by decide)
          · simp [sz]
          · rw [upd_same, List.map_append]
            rfl
          · rw [upd_ne ne]
            exact s6 _ _ eA5
          · exact a5.imp fun v t r => tr_up ((kt_of s6).trans (kt_upd (s6 _ _ eD5))) _ _ r
          · rw [List.append_assoc]
            exact ht
        · have h := of_decide_eq_false h
          rw [List.length_map] at h
          omega
        · rw [iv] at h
          exact nb h
        · have e : isNm (.str x) = true := nx.is
          rw [e] at h
          exact nb h
      | node l r =>
        obtain ⟨p, va, vb, rfl, ep, ra, rb⟩ := hy
        refine ⟨_, true, "tuple", ep, rfl, rfl, ⟨fun _ => ⟨_, .inr (SqT.of ep), ⟨fun _ => ?_, fun h => absurd h (by simp)⟩⟩, fun h => nb h⟩⟩
        refine ⟨.inl ⟨rfl, _, SqL.of eA5⟩, _, ep, _, ep, fun B H6 s6 e6 => ⟨A, B, vs', [vb, va], rfl, rfl, s6 _ _ eA5, e6, ?_, ((ts' ++ [r, l]).map sz).sum, ?_, dn, vs' ++ [vb, va], ts' ++ [r, l], _, rfl, same_app' (s5.trans s6) hA0, ?_, upd_same, ?_, ?_, rfl⟩⟩
        · show vs'.length + 2 ≤ sizeLine
          exact Nat.le_trans (show vs'.length + 2 ≤ 100 by omega) (by decide)
        · simp [sz]
          omega
        · rw [upd_ne (Ne.symm ne)]
          exact s6 _ _ eD5
        · have kt : Kt H5 (upd H6 A (.lst (vs' ++ [vb, va]))) := (kt_of s6).trans (kt_upd (s6 _ _ eA5))
          exact (a5.imp fun v t r => tr_up kt _ _ r).app (.cons (tr_up kt _ _ rb) (.cons (tr_up kt _ _ ra) .nil))
        · rw [show ts' ++ [r, l] = (ts' ++ [r]) ++ [l] by simp, hd_snoc, hd_snoc, ← List.append_assoc (lv l)]
          exact ht
    · rcases nil_or_snoc ts with rfl | ⟨ts', t, rfl⟩
      · refine k D H4 s3 hD ?_
        have e : dn = lv t0 := by simpa [hd] using ht
        rw [← e]
        exact eD
      · rw [eqv_nil (by simp)] at h
        exact nb h
def sp_l_cell_at (K : PySem.W.Frag) (ns : List Int) : Sp := fun vs H Q _ => match vs with
  | [.ref a, .int k] => SqL K H a (ns.map V.int) ∧ 0 ≤ k ∧ ∀ c : Int, Q (.int c) H
  | _ => False
theorem sc_l_cell_at : FnScope ["_law_script", "_law_k"] ["_law_script", "_law_k"] (defScope s_l_cell_at) := ⟨rfl, rfl, rfl, by decide +kernel, rfl, by decide +kernel, by decide +kernel⟩
theorem inv_l_cell_at {vs : List V} {H : Hp} {Q : VK} {E : XK} (h : sp_l_cell_at K ns vs H Q E) : ∃ a k, vs = [.ref a, .int k] := by
  first
  | (obtain ⟨v0, r0, rfl⟩ := gCons (S := fun l => sp_l_cell_at K ns (l) H Q E) h id; obtain ⟨w0, rfl⟩ := gRef (S := fun v => sp_l_cell_at K ns (v :: r0) H Q E) h (fun _ => id) (fun _ => id) id (fun _ => id) (fun _ => id) (fun _ => id) (fun _ => id); obtain ⟨v1, r1, rfl⟩ := gCons (S := fun l => sp_l_cell_at K ns (.ref w0 :: l) H Q E) h id; obtain ⟨w1, rfl⟩ := gInt (S := fun v => sp_l_cell_at K ns (.ref w0 :: v :: r1) H Q E) h (fun _ => id) (fun _ => id) id (fun _ => id) (fun _ => id) (fun _ => id) (fun _ => id); obtain rfl := gNil (S := fun l => sp_l_cell_at K ns (.ref w0 :: .int w1 :: l) H Q E) h fun _ _ => id; exact ⟨_, _, rfl⟩)
  | (match vs, h with
    | [.ref a, .int k], _ => exact ⟨_, _, rfl⟩)
theorem ok_l_cell_at (d : Dfn K mg "_law_cell_at" s_l_cell_at ["_law_script", "_law_k"]) (er : Errs K mg c_LadderError c_NoBook c_NoFit c_NoGame c_NoNumber c_NoPlayer c_NoRow c_NoStretch c_NoTable c_NoTree c_NoWorth) (n_len : mg "len" = none)   : Cal P w K mg base "_law_cell_at" ["_law_script", "_law_k"] 1 (sp_l_cell_at K ns) := by
  refine d.cal (k := 0) sc_l_cell_at (fun vs H Q E h => ?_) (fun f cdv A outer s H vs Q E hr h => ?_)
  · obtain ⟨a, k, rfl⟩ := inv_l_cell_at h
    rfl
  · obtain ⟨a, k, rfl⟩ := inv_l_cell_at h
    obtain ⟨hS, k0, q⟩ := h
    refine ⟨_, (@pss_cons _ _ _ _ _ (@s_if _ _ _ _ _ _ _ _ (@t_cmp _ _ _ _ _ _ _ _ o_lt (dv 1) (@pe_callB _ _ _ _ _ _ _ _ _ c_len (by rfl) n_len (by decide +kernel) (@pa_cons _ _ _ _ _ (dv 0) pa_nil (by rfl)) (by decide) (by decide) (by rfl) (by rfl)) (@nomark _ _ (by decide) (by decide))) (@pss_one _ _ _ (@ps_ret _ _ _ _ (@pe_ix _ _ _ _ _ _ _ i_lst (dv 0) (dv 1) (fun _ _ => rfl)))) pss_nil) (@pss_one _ _ _ (@ps_ret _ _ _ _ pe_int))), ?_⟩
    refine ⟨_, .inl hS, ⟨fun h => ?_, fun _ => q 0⟩⟩
    have h := of_decide_eq_true h
    rw [List.length_map] at h
    obtain ⟨j, rfl⟩ := Int.eq_ofNat_of_zero_le k0
    have hj : j < ns.length := by omega
    refine ⟨_, .int ns[j], hS, atI_nat ?_, q _⟩
    rw [List.getElem?_map, List.getElem?_eq_getElem hj]
    rfl
def l12 : List Nat := [98, 113, 99, 120, 100, 108, 101, 110, 104, 117, 115, 118]
def b8 : List Nat := [103, 109, 116, 97, 122, 107, 102, 119]
theorem l12_get {n : Int} (h0 : 0 ≤ n % 12) (h1 : n % 12 < 12) : ∃ c, atI (Str.cps "bqcxdlenhusv").toList (n % 12) = some c ∧ l12[(n % 12).toNat]? = some c := by
  obtain ⟨j, hj⟩ := Int.eq_ofNat_of_zero_le h0
  rw [hj] at h1 ⊢
  have e : (Str.cps "bqcxdlenhusv").toList = l12 := by decide +kernel
  have hl : j < l12.length := by show j < 12; omega
  exact ⟨l12[j], by rw [e]; exact atI_nat (List.getElem?_eq_getElem hl), by rw [Int.toNat_natCast, List.getElem?_eq_getElem hl]⟩
def n8 (n p c : Nat) : List Nat := (b8.take n).take p ++ [c] ++ (b8.take n).drop (p + 1)
theorem n8_inj {n p c d : Nat} (h : n8 n p c = n8 n p d) : c = d := by
  unfold n8 at h
  rw [List.append_assoc, List.append_assoc] at h
  have h := List.append_cancel_left h
  simpa using h
theorem n8_len {n p c : Nat} (h : p < n) (h' : n ≤ 8) : (n8 n p c).length = n := by
  have : b8.length = 8 := rfl
  unfold n8
  rw [List.length_append, List.length_append, List.length_take, List.length_take, List.length_drop, List.length_take, List.length_singleton]
  omega
theorem n8_mem {n p c : Nat} (hc : c ∈ l12) : ∀ e ∈ n8 n p c, e ∈ b8 ∨ e ∈ l12 := by
  intro e he
  unfold n8 at he
  rcases List.mem_append.mp he with he | he
  · rcases List.mem_append.mp he with he | he
    · exact .inl (List.mem_of_mem_take (List.mem_of_mem_take he))
    · exact .inr (List.mem_singleton.mp he ▸ hc)
  · exact .inl (List.mem_of_mem_take (List.mem_of_mem_drop he))
theorem n8_no {n p c : Nat} (hc : c ∈ l12) : ∀ e ∈ n8 n p c, e ≠ 112 ∧ e ≠ 121 := fun e he => by
  have hb : ∀ x ∈ b8, x ≠ 112 ∧ x ≠ 121 := by decide
  have hl : ∀ x ∈ l12, x ≠ 112 ∧ x ≠ 121 := by decide
  exact (n8_mem hc e he).elim (hb e) (hl e)
theorem n8_abc {n p c : Nat} (hc : c ∈ l12) : ∀ e ∈ n8 n p c, 97 ≤ e ∧ e < 123 := by
  have hb : ∀ x ∈ b8, 97 ≤ x ∧ x < 123 := by decide
  have hl : ∀ x ∈ l12, 97 ≤ x ∧ x < 123 := by decide
  intro e he
  unfold n8 at he
  rcases List.mem_append.mp he with he | he
  · rcases List.mem_append.mp he with he | he
    · exact hb e (List.mem_of_mem_take (List.mem_of_mem_take he))
    · exact hl e (List.mem_singleton.mp he ▸ hc)
  · exact hb e (List.mem_of_mem_take (List.mem_of_mem_drop he))
structure N8 (x : Str) : Prop where
  nm : Nm x
  no : ∀ c ∈ co x, c ≠ 112 ∧ c ≠ 121
structure NL8 (nm : List Str) : Prop where
  nd : nm.Nodup
  ok : ∀ x ∈ nm, N8 x
def sp_l_names (K : PySem.W.Frag) (ns : List Int) : Sp := fun vs H Q _ => match vs with
  | [.int c, .int m] => (0 ≤ m ∧ m ≤ 8) ∧ ∀ L (nm : List Str) H', Same H H' → H L = none → H' L = some (.lst (nm.map V.str)) → (nm.length : Int) = m → NL8 nm → Q (.ref L) H'
  | _ => False
theorem sc_l_names : FnScope ["_law_cell", "_law_many", "_law_size", "_law_base", "_law_at", "_law_names_here", "_law_k", "_law_letter"] ["_law_cell", "_law_many"] (defScope s_l_names) := ⟨rfl, rfl, rfl, by decide +kernel, rfl, by decide +kernel, by decide +kernel⟩
theorem inv_l_names {vs : List V} {H : Hp} {Q : VK} {E : XK} (h : sp_l_names K ns vs H Q E) : ∃ c m, vs = [.int c, .int m] := by
  first
  | (obtain ⟨v0, r0, rfl⟩ := gCons (S := fun l => sp_l_names K ns (l) H Q E) h id; obtain ⟨w0, rfl⟩ := gInt (S := fun v => sp_l_names K ns (v :: r0) H Q E) h (fun _ => id) (fun _ => id) id (fun _ => id) (fun _ => id) (fun _ => id) (fun _ => id); obtain ⟨v1, r1, rfl⟩ := gCons (S := fun l => sp_l_names K ns (.int w0 :: l) H Q E) h id; obtain ⟨w1, rfl⟩ := gInt (S := fun v => sp_l_names K ns (.int w0 :: v :: r1) H Q E) h (fun _ => id) (fun _ => id) id (fun _ => id) (fun _ => id) (fun _ => id) (fun _ => id); obtain rfl := gNil (S := fun l => sp_l_names K ns (.int w0 :: .int w1 :: l) H Q E) h fun _ _ => id; exact ⟨_, _, rfl⟩)
  | (match vs, h with
    | [.int c, .int m], _ => exact ⟨_, _, rfl⟩)
theorem ok_l_names (d : Dfn K mg "_law_names" s_l_names ["_law_cell", "_law_many"]) (er : Errs K mg c_LadderError c_NoBook c_NoFit c_NoGame c_NoNumber c_NoPlayer c_NoRow c_NoStretch c_NoTable c_NoTree c_NoWorth) (n_range : mg "range" = none)   : Cal P w K mg base "_law_names" ["_law_cell", "_law_many"] 1 (sp_l_names K ns) := by
  refine d.cal (k := 0) sc_l_names (fun vs H Q E h => ?_) (fun f cdv A outer s H vs Q E hr h => ?_)
  · obtain ⟨c, m, rfl⟩ := inv_l_names h
    rfl
  · obtain ⟨c, m, rfl⟩ := inv_l_names h
    obtain ⟨⟨m0, m8⟩, q⟩ := h
    refine ⟨_, (@pss_cons _ _ _ _ _ (@ps_set _ _ (2) _ _ _ _ sc_l_names.nd rfl (by first | exact Or.inl rfl | exact Or.inr rfl) (@pe_op _ _ _ _ _ _ _ _ o_add pe_int (@pe_op _ _ _ _ _ _ _ _ o_mod (dv 0) pe_int)) (by rfl) (by first | exact .inl rfl | exact .inr rfl | assumption)) (@pss_cons _ _ _ _ _ (@ps_set _ _ (3) _ _ _ _ sc_l_names.nd rfl (by first | exact Or.inl rfl | exact Or.inr rfl) (@pe_slice _ _ _ _ _ _ _ _ _ _ sl_str pe_str po_none (po_some (dv 2))) (by rfl) (by first | exact .inl rfl | exact .inr rfl | assumption)) (@pss_cons _ _ _ _ _ (@ps_set _ _ (4) _ _ _ _ sc_l_names.nd rfl (by first | exact Or.inl rfl | exact Or.inr rfl) (@pe_op _ _ _ _ _ _ _ _ o_mod (@pe_op _ _ _ _ _ _ _ _ o_div (dv 0) pe_int) (dv 2)) (by rfl) (by first | exact .inl rfl | exact .inr rfl | assumption)) (@pss_cons _ _ _ _ _ (@ps_set _ _ (5) _ _ _ _ sc_l_names.nd rfl (by first | exact Or.inl rfl | exact Or.inr rfl) (@pe_lst _ _ _ _ pa_nil) (by rfl) (by first | exact .inl rfl | exact .inr rfl | assumption)) (@pss_cons _ _ _ _ _ (@ps_for _ _ _ _ _ _ _ _ PassesOwn.never rfl (@pi_range1 _ _ _ _ _ _ (by rfl) n_range (@pa_cons _ _ _ _ _ (dv 1) pa_nil (by rfl)) (by rfl)) (@pg_name _ _ (6) _ sc_l_names.nd rfl (by first | exact Or.inl rfl | exact Or.inr rfl) (by first | exact .inl rfl | exact .inr rfl | assumption)) (@pss_cons _ _ _ _ _ (@ps_set _ _ (7) _ _ _ _ sc_l_names.nd rfl (by first | exact Or.inl rfl | exact Or.inr rfl) (@pe_ix _ _ _ _ _ _ _ i_str pe_str (@pe_op _ _ _ _ _ _ _ _ o_mod (@pe_op _ _ _ _ _ _ _ _ o_add (@pe_op _ _ _ _ _ _ _ _ o_div (dv 0) pe_int) (@pe_op _ _ _ _ _ _ _ _ o_mul pe_int (dv 6))) pe_int) (fun _ _ => rfl)) (by rfl) (by first | exact .inl rfl | exact .inr rfl | assumption)) (@pss_one _ _ _ (@ps_expr _ _ _ _ (@pe_bm _ _ _ _ _ _ _ _ _ _ _ _ PySem.F.plainAttrs_list PySem.F.slot_list_append PySem.F.type_list_append mt_append (dv 5) (@pa_cons _ _ _ _ _ (@pe_op _ _ _ _ _ _ _ _ o_addS (@pe_op _ _ _ _ _ _ _ _ o_addS (@pe_slice _ _ _ _ _ _ _ _ _ _ sl_str (dv 3) po_none (po_some (dv 4))) (dv 7)) (@pe_slice _ _ _ _ _ _ _ _ _ _ sl_str (dv 3) (po_some (pe_op o_add (dv 4) pe_int)) po_none)) pa_nil (by rfl)) (by rfl) (by rfl) (by rfl) (by rfl) (by rfl)) (by rfl)))) (by intro _; rfl)) (@pss_one _ _ _ (@ps_ret _ _ _ _ (dv 5)))))))), ?_⟩
    have d8 : (0 : Int) < 8 := by decide
    have a0 := Int.emod_nonneg c (show (8 : Int) ≠ 0 by decide)
    have a1 := Int.emod_lt_of_pos c d8
    obtain ⟨n, hn⟩ : ∃ n : Nat, c % 8 = n := ⟨(c % 8).toNat, by omega⟩
    have hn8 : n < 8 := by omega
    have lb : (Str.ofString "gmtazkfw").length = 8 := by decide +kernel
    have cb : co (Str.ofString "gmtazkfw") = b8 := by decide +kernel
    refine ⟨d8, _, rfl, by rw [lb]; decide, ⟨by decide, bd_lit rfl⟩, by omega, by decide, fun D hD => ?_⟩
    have p0 := Int.emod_nonneg (c / 32) (show 1 + c % 8 ≠ 0 by omega)
    have p1 := Int.emod_lt_of_pos (c / 32) (show 0 < 1 + c % 8 by omega)
    obtain ⟨p, hp⟩ : ∃ p : Nat, c / 32 % (1 + c % 8) = p := ⟨(c / 32 % (1 + c % 8)).toNat, by omega⟩
    have hp1 : p < n + 1 := by omega
    have hsz : (1 : Int) + c % 8 = ((n + 1 : Nat) : Int) := by omega
    have cB : co (Txt.slice (Str.ofString "gmtazkfw") none (some (1 + c % 8))) = b8.take (n + 1) := by
      rw [hsz, co_to (by rw [lb]; omega), cb]
    generalize hB : Txt.slice (Str.ofString "gmtazkfw") none (some (1 + c % 8)) = B at cB
    have lB : B.length = n + 1 := by
      rw [← co_len, cB, List.length_take]
      show min (n + 1) 8 = n + 1
      omega
    have zB : B.length ≤ sizeLine := by rw [lB]; exact Nat.le_trans (show n + 1 ≤ 8 by omega) (by decide)
    refine ⟨m, rfl, by omega, by omega, for_range (lo := 0) (n := m.toNat) (fun i σ H' => ∃ (nm : List Str) (o1 o2 : Option V), σ = [some (.int c), some (.int m), some (.int (1 + c % 8)), some (.str B), some (.int (c / 32 % (1 + c % 8))), some (.ref D), o1, o2] ∧ H' = upd H D (.lst (nm.map V.str)) ∧ nm.length = i ∧ ∀ (j : Nat) x, nm[j]? = some x → ∃ e, co x = n8 (n + 1) p e ∧ l12[((c / 256 + 5 * (j : Int)) % 12).toNat]? = some e)
      ⟨[], none, none, by rw [← hB]; rfl, rfl, rfl, fun j x h => by simp at h⟩ ?_ ?_⟩
    · rintro i σ H' hi ⟨nm, o1, o2, rfl, rfl, hl, hall⟩
      have d12 : (0 : Int) < 12 := by decide
      have w0 := Int.emod_nonneg (c / 256 + 5 * (0 + (i : Int))) (show (12 : Int) ≠ 0 by decide)
      have w1 := Int.emod_lt_of_pos (c / 256 + 5 * (0 + (i : Int))) d12
      obtain ⟨e, he, he'⟩ := l12_get w0 w1
      refine ⟨⟨by decide, bd_lit rfl⟩, .inr (.inl ⟨by decide, by decide⟩), d12, e, by decide +kernel, he, .inl ⟨rfl, _, SqL.of upd_same⟩, ?_⟩
      have c1 : co (Txt.slice B none (some (c / 32 % (1 + c % 8)))) = (b8.take (n + 1)).take p := by rw [hp, co_to (by omega), cB]
      have c2 : co (Txt.slice B (some (c / 32 % (1 + c % 8) + 1)) none) = (b8.take (n + 1)).drop (p + 1) := by
        rw [show c / 32 % (1 + c % 8) + 1 = ((p + 1 : Nat) : Int) by omega, co_from (by omega), cB]
      have bl : (b8.take (n + 1)).length ≤ 8 := List.length_take_le' _ _
      have z1 : (Txt.slice B none (some (c / 32 % (1 + c % 8)))).length ≤ 8 := by
        rw [← co_len, c1]
        exact Nat.le_trans (List.length_take_le' _ _) bl
      have z2 : (Txt.slice B (some (c / 32 % (1 + c % 8) + 1)) none).length ≤ 8 := by
        rw [← co_len, c2, List.length_drop]
        omega
      have z3 : (⟨#[e]⟩ : Str).length = 1 := rfl
      refine ⟨_, rfl, zB, Nat.le_trans (Nat.add_le_add z1 (Nat.le_of_eq z3)) (by decide), _, rfl, zB, Nat.le_trans (Nat.add_le_add (by rw [len_app, z3]; exact Nat.add_le_add_right z1 1) z2) (by decide), D, _, _, rfl, rfl, upd_same, ?_, nm ++ [Txt.slice B none (some (c / 32 % (1 + c % 8))) ++ ⟨#[e]⟩ ++ Txt.slice B (some (c / 32 % (1 + c % 8) + 1)) none], _, _, rfl, ?_, ?_, fun j x hx => ?_⟩
      · rw [List.length_map, hl]
        exact Nat.lt_of_lt_of_le (show i < 8 by omega) (by decide)
      · rw [upd_upd, List.map_append]
        rfl
      · rw [List.length_append, hl]
        rfl
      · by_cases hj : j < nm.length
        · rw [List.getElem?_append_left hj] at hx
          exact hall j x hx
        · have ej : j = i := by
            have := (List.getElem?_eq_some_iff.mp hx).1
            rw [List.length_append, List.length_singleton] at this
            omega
          subst ej
          rw [List.getElem?_append_right (by omega), hl, Nat.sub_self] at hx
          cases hx
          refine ⟨e, ?_, by rw [Int.zero_add] at he'; exact he'⟩
          rw [co_app, co_app, c1, c2]
          rfl
    · rintro σ H' ⟨nm, o1, o2, rfl, rfl, hl, hall⟩
      refine q D nm _ (same_upd hD) hD upd_same (by omega) ⟨?_, fun x hx => ?_⟩
      · refine List.pairwise_iff_getElem.mpr fun i j hi hj lt e => ?_
        obtain ⟨x, h1, h2⟩ := hall i _ (List.getElem?_eq_getElem hi)
        obtain ⟨y, h3, h4⟩ := hall j _ (List.getElem?_eq_getElem hj)
        rw [e, h3] at h1
        have exy := n8_inj h1
        subst exy
        have r0 := Int.emod_nonneg (c / 256) (show (12 : Int) ≠ 0 by decide)
        have r1 := Int.emod_lt_of_pos (c / 256) (show (0 : Int) < 12 by decide)
        obtain ⟨r, hr⟩ : ∃ r : Nat, c / 256 % 12 = r := ⟨(c / 256 % 12).toNat, by omega⟩
        have e1 : ((c / 256 + 5 * (i : Int)) % 12).toNat = (r + 5 * i) % 12 := by omega
        have e2 : ((c / 256 + 5 * (j : Int)) % 12).toNat = (r + 5 * j) % 12 := by omega
        rw [e1] at h2
        rw [e2] at h4
        have ap : ∀ r < 12, ∀ i < 8, ∀ j < 8, l12[(r + 5 * i) % 12]? = l12[(r + 5 * j) % 12]? → i = j := by decide +kernel
        have := ap r (by omega) i (by omega) j (by omega) (h2.trans h4.symm)
        omega
      · obtain ⟨j, hj, rfl⟩ := List.mem_iff_getElem.mp hx
        obtain ⟨e, h1, h2⟩ := hall j _ (List.getElem?_eq_getElem hj)
        have hl := n8_len (c := e) hp1 (by omega)
        exact ⟨⟨by rw [h1, hl]; omega, by rw [h1, hl]; omega, by rw [h1]; exact n8_abc (List.mem_of_getElem? h2)⟩, by rw [h1]; exact n8_no (List.mem_of_getElem? h2)⟩
theorem cut_take {xs : List V} {j : Nat} (h : j ≤ xs.length) : cutV xs none (some (j : Int)) = xs.take j := by
  unfold cutV
  rw [HT.sIx_none, HT.sIx_nat, Nat.min_eq_left h, List.drop_zero, Nat.sub_zero]
theorem cut_drop {xs : List V} {j : Nat} (h : j ≤ xs.length) : cutV xs (some (j : Int)) none = xs.drop j := by
  unfold cutV
  rw [HT.sIx_none, HT.sIx_nat, Nat.min_eq_left h, List.take_of_length_le]
  rw [List.length_drop]
  exact Nat.le_refl _
def spR_l_tree : Nat → PySem.W.Frag → List Int → Sp
  | 0, _, _ => fun _ _ _ _ => False
  | d + 1, K, ns => fun vs H Q _ => match vs with
    | [.ref a, .ref L, .int p] => ∃ nm : List Str, (SqL K H a (ns.map V.int) ∧ SqL K H L (nm.map V.str) ∧ 1 ≤ nm.length ∧ nm.length ≤ d + 1 ∧ 0 ≤ p) ∧ ∀ v t H', Same H H' → TrAt H' t v → lv t = nm → Q v H'
    | _ => False
def sp_l_tree (K : PySem.W.Frag) (ns : List Int) : Sp := spR_l_tree 16 K ns
theorem sc_l_tree : FnScope ["_law_script", "_law_names_here", "_law_at", "_law_cut"] ["_law_script", "_law_names_here", "_law_at"] (defScope s_l_tree) := ⟨rfl, rfl, rfl, by decide +kernel, rfl, by decide +kernel, by decide +kernel⟩
theorem okS_l_tree (d : Dfn K mg "_law_tree" s_l_tree ["_law_script", "_law_names_here", "_law_at"]) (er : Errs K mg c_LadderError c_NoBook c_NoFit c_NoGame c_NoNumber c_NoPlayer c_NoRow c_NoStretch c_NoTable c_NoTree c_NoWorth) (n_len : mg "len" = none)  (c_l_cell_at : Cal P w K mg base "_law_cell_at" ["_law_script", "_law_k"] 1 (sp_l_cell_at K ns))  (dd : Nat) (c_l_tree : Cal P w K mg base "_law_tree" ["_law_script", "_law_names_here", "_law_at"] (2 + dd) (spR_l_tree dd K ns)) : Cal P w K mg base "_law_tree" ["_law_script", "_law_names_here", "_law_at"] (2 + (dd + 1)) (spR_l_tree (dd + 1) K ns) := by
  refine d.cal (k := 2 + dd) sc_l_tree (fun vs H Q E h => ?_) (fun f cdv A outer s H vs Q E hr h => ?_)
  · match vs, h with
    | [.ref a, .ref L, .int p], _ => rfl
  · match vs, h with
    | [.ref a, .ref L, .int p], ⟨nm, ⟨hS, hL, l1, ld, p0⟩, q⟩ =>
      refine ⟨_, (@pss_cons _ _ _ _ _ (@s_if _ _ _ _ _ _ _ _ (@t_cmp _ _ _ _ _ _ _ _ o_eq (@pe_callB _ _ _ _ _ _ _ _ _ c_len (by rfl) n_len (by decide +kernel) (@pa_cons _ _ _ _ _ (dv 1) pa_nil (by rfl)) (by decide) (by decide) (by rfl) (by rfl)) pe_int (@nomark _ _ (by decide) (by decide))) (@pss_one _ _ _ (@ps_ret _ _ _ _ (@pe_ix _ _ _ _ _ _ _ i_lst (dv 1) pe_int (fun _ _ => rfl)))) pss_nil) (@pss_cons _ _ _ _ _ (@ps_set _ _ (3) _ _ _ _ sc_l_tree.nd rfl (by first | exact Or.inl rfl | exact Or.inr rfl) (@pe_op _ _ _ _ _ _ _ _ o_add pe_int (@pe_op _ _ _ _ _ _ _ _ o_mod (@e_call _ _ _ _ _ _ _ _ _ _ _ c_l_cell_at hr (by omega) (by rfl) (@pa_cons _ _ _ _ _ (dv 0) (@pa_cons _ _ _ _ _ (@pe_op _ _ _ _ _ _ _ _ o_add pe_int (dv 2)) pa_nil (by rfl)) (by rfl)) (by decide) (by rfl) (by rfl)) (@pe_op _ _ _ _ _ _ _ _ o_sub (@pe_callB _ _ _ _ _ _ _ _ _ c_len (by rfl) n_len (by decide +kernel) (@pa_cons _ _ _ _ _ (dv 1) pa_nil (by rfl)) (by decide) (by decide) (by rfl) (by rfl)) pe_int))) (by rfl) (by first | exact .inl rfl | exact .inr rfl | assumption)) (@pss_one _ _ _ (@ps_ret _ _ _ _ (@e_tup _ _ _ _ _ (@pa_cons _ _ _ _ _ (@e_call _ _ _ _ _ _ _ _ _ _ _ c_l_tree hr (by omega) (by rfl) (@pa_cons _ _ _ _ _ (dv 0) (@pa_cons _ _ _ _ _ (@pe_slice _ _ _ _ _ _ _ _ _ _ sl_lst (dv 1) po_none (po_some (dv 3))) (@pa_cons _ _ _ _ _ (@pe_op _ _ _ _ _ _ _ _ o_add (@pe_op _ _ _ _ _ _ _ _ o_mul pe_int (dv 2)) pe_int) pa_nil (by rfl)) (by rfl)) (by rfl)) (by decide) (by rfl) (by rfl)) (@pa_cons _ _ _ _ _ (@e_call _ _ _ _ _ _ _ _ _ _ _ c_l_tree hr (by omega) (by rfl) (@pa_cons _ _ _ _ _ (dv 0) (@pa_cons _ _ _ _ _ (@pe_slice _ _ _ _ _ _ _ _ _ _ sl_lst (dv 1) (po_some (dv 3)) po_none) (@pa_cons _ _ _ _ _ (@pe_op _ _ _ _ _ _ _ _ o_add (@pe_op _ _ _ _ _ _ _ _ o_mul pe_int (dv 2)) pe_int) pa_nil (by rfl)) (by rfl)) (by rfl)) (by decide) (by rfl) (by rfl)) pa_nil (by rfl)) (by rfl))))))), ?_⟩
      refine ⟨_, .inl hL, ?_⟩
      rw [List.length_map]
      refine ⟨fun h => ?_, fun h => ?_⟩
      · have h : (nm.length : Int) = 1 := of_decide_eq_true h
        match nm, h, q with
        | [x], _, q => exact ⟨_, .str x, hL, rfl, q (.str x) (.leaf x) H (Same.refl _) rfl rfl⟩
      · have h : ¬ (nm.length : Int) = 1 := of_decide_eq_false h
        cases dd with
        | zero => omega
        | succ d' =>
          refine ⟨hS, by omega, fun c => ⟨_, .inl hL, ?_⟩⟩
          rw [List.length_map]
          refine ⟨by omega, ?_⟩
          have c0 := Int.emod_nonneg c (show (nm.length : Int) - 1 ≠ 0 by omega)
          have c1 := Int.emod_lt_of_pos c (show 0 < (nm.length : Int) - 1 by omega)
          obtain ⟨j, hj⟩ : ∃ j : Nat, 1 + c % ((nm.length : Int) - 1) = j := ⟨(1 + c % ((nm.length : Int) - 1)).toNat, by omega⟩
          have hj' : j ≤ (nm.map V.str).length := by rw [List.length_map]; omega
          refine ⟨_, rfl, _, hL, fun P1 H1 s1 f1 => ⟨.inr (.inl ⟨by decide, by decide⟩), nm.take j, ⟨s1.seq hS, SqL.of ?_, ?_, ?_, by omega⟩, fun v1 t1 H2 s2 r1 z1 => ?_⟩⟩
          · rw [f1, hj, cut_take hj', List.map_take]
          · rw [List.length_take]
            omega
          · rw [List.length_take]
            omega
          refine ⟨_, rfl, _, (s1.trans s2).seq hL, fun P2 H3 s3 f2 => ⟨.inr (.inl ⟨by decide, by decide⟩), nm.drop j, ⟨(s1.trans (s2.trans s3)).seq hS, SqL.of ?_, ?_, ?_, by omega⟩, fun v2 t2 H4 s4 r2 z2 => fun T H5 s5 e5 => ?_⟩⟩
          · rw [f2, hj, cut_drop hj', List.map_drop]
          · rw [List.length_drop]
            omega
          · rw [List.length_drop]
            omega
          refine q (.ref T) (.node t1 t2) H5 (s1.trans (s2.trans (s3.trans (s4.trans s5)))) ⟨T, v1, v2, rfl, e5, tr_up (kt_of (s3.trans (s4.trans s5))) _ _ r1, tr_up (kt_of s5) _ _ r2⟩ ?_
          show lv t1 ++ lv t2 = nm
          rw [z1, z2, List.take_append_drop]
theorem okR_l_tree (d : Dfn K mg "_law_tree" s_l_tree ["_law_script", "_law_names_here", "_law_at"]) (er : Errs K mg c_LadderError c_NoBook c_NoFit c_NoGame c_NoNumber c_NoPlayer c_NoRow c_NoStretch c_NoTable c_NoTree c_NoWorth) (n_len : mg "len" = none)  (c_l_cell_at : Cal P w K mg base "_law_cell_at" ["_law_script", "_law_k"] 1 (sp_l_cell_at K ns)) :  ∀ dd : Nat, Cal P w K mg base "_law_tree" ["_law_script", "_law_names_here", "_law_at"] (2 + dd) (spR_l_tree dd K ns)
  | 0 => d.cal (k := 1) sc_l_tree (fun vs H Q E h => False.elim h) (fun f cdv A outer s H vs Q E hr h => False.elim h)
  | dd + 1 => okS_l_tree d er n_len c_l_cell_at dd (okR_l_tree d er n_len c_l_cell_at dd)
theorem ok_l_tree (d : Dfn K mg "_law_tree" s_l_tree ["_law_script", "_law_names_here", "_law_at"]) (er : Errs K mg c_LadderError c_NoBook c_NoFit c_NoGame c_NoNumber c_NoPlayer c_NoRow c_NoStretch c_NoTable c_NoTree c_NoWorth) (n_len : mg "len" = none)  (c_l_cell_at : Cal P w K mg base "_law_cell_at" ["_law_script", "_law_k"] 1 (sp_l_cell_at K ns)) : Cal P w K mg base "_law_tree" ["_law_script", "_law_names_here", "_law_at"] 18 (sp_l_tree K ns) := okR_l_tree d er n_len c_l_cell_at 16
def sp_greatest_divisor (K : PySem.W.Frag) (ns : List Int) : Sp := fun vs H Q _ => match vs with
  | [.int x, .int y] => Q (.int (Int.gcd x y : Int)) H
  | _ => False
theorem sc_greatest_divisor : FnScope ["one", "other", "rest"] ["one", "other"] (defScope s_greatest_divisor) := ⟨rfl, rfl, rfl, by decide +kernel, rfl, by decide +kernel, by decide +kernel⟩
theorem inv_greatest_divisor {vs : List V} {H : Hp} {Q : VK} {E : XK} (h : sp_greatest_divisor K ns vs H Q E) : ∃ x y, vs = [.int x, .int y] := by
  first
  | (obtain ⟨v0, r0, rfl⟩ := gCons (S := fun l => sp_greatest_divisor K ns (l) H Q E) h id; obtain ⟨w0, rfl⟩ := gInt (S := fun v => sp_greatest_divisor K ns (v :: r0) H Q E) h (fun _ => id) (fun _ => id) id (fun _ => id) (fun _ => id) (fun _ => id) (fun _ => id); obtain ⟨v1, r1, rfl⟩ := gCons (S := fun l => sp_greatest_divisor K ns (.int w0 :: l) H Q E) h id; obtain ⟨w1, rfl⟩ := gInt (S := fun v => sp_greatest_divisor K ns (.int w0 :: v :: r1) H Q E) h (fun _ => id) (fun _ => id) id (fun _ => id) (fun _ => id) (fun _ => id) (fun _ => id); obtain rfl := gNil (S := fun l => sp_greatest_divisor K ns (.int w0 :: .int w1 :: l) H Q E) h fun _ _ => id; exact ⟨_, _, rfl⟩)
  | (match vs, h with
    | [.int x, .int y], _ => exact ⟨_, _, rfl⟩)
theorem ok_greatest_divisor (d : Dfn K mg "greatest_divisor" s_greatest_divisor ["one", "other"]) (er : Errs K mg c_LadderError c_NoBook c_NoFit c_NoGame c_NoNumber c_NoPlayer c_NoRow c_NoStretch c_NoTable c_NoTree c_NoWorth) (n_abs : mg "abs" = none)   : Cal P w K mg base "greatest_divisor" ["one", "other"] 1 (sp_greatest_divisor K ns) := by
  refine d.cal (k := 0) sc_greatest_divisor (fun vs H Q E h => ?_) (fun f cdv A outer s H vs Q E hr h => ?_)
  · obtain ⟨x, y, rfl⟩ := inv_greatest_divisor h
    rfl
  · obtain ⟨x, y, rfl⟩ := inv_greatest_divisor h
    have q := h
    refine ⟨_, (@pss_cons _ _ _ _ _ (@s_while _ _ _ _ _ _ PassesOwn.never (@t_cmp _ _ _ _ _ _ _ _ o_ne (dv 1) pe_int (@nomark _ _ (by decide) (by decide))) (@pss_cons _ _ _ _ _ (@ps_set _ _ (2) _ _ _ _ sc_greatest_divisor.nd rfl (by first | exact Or.inl rfl | exact Or.inr rfl) (@pe_op _ _ _ _ _ _ _ _ o_modN (dv 0) (dv 1)) (by rfl) (by first | exact .inl rfl | exact .inr rfl | assumption)) (@pss_cons _ _ _ _ _ (@ps_set _ _ (0) _ _ _ _ sc_greatest_divisor.nd rfl (by first | exact Or.inl rfl | exact Or.inr rfl) (dv 1) (by rfl) (by first | exact .inl rfl | exact .inr rfl | assumption)) (@pss_one _ _ _ (@ps_set _ _ (1) _ _ _ _ sc_greatest_divisor.nd rfl (by first | exact Or.inl rfl | exact Or.inr rfl) (dv 2) (by rfl) (by first | exact .inl rfl | exact .inr rfl | assumption)))))) (@pss_one _ _ _ (@ps_ret _ _ _ _ (@pe_callB _ _ _ _ _ _ _ _ _ c_abs (by rfl) n_abs (by decide +kernel) (@pa_cons _ _ _ _ _ (dv 0) pa_nil (by rfl)) (by decide) (by decide) (by rfl) (by rfl))))), ?_⟩
    refine ⟨fun m σ H' => ∃ a b o, σ = [some (.int a), some (.int b), o] ∧ H' = H ∧ Int.gcd a b = Int.gcd x y ∧ m = b.natAbs, ⟨_, x, y, none, rfl, rfl, rfl, rfl⟩, ?_⟩
    rintro m σ H' ⟨a, b, o, rfl, rfl, g, rfl⟩
    refine ⟨fun h => ?_, fun h => ?_⟩
    · have hb : ¬ b = 0 := by simpa using h
      refine ⟨hb, ?_⟩
      exact ⟨(a.fmod b).natAbs, fmod_lt a hb, b, a.fmod b, _, rfl, rfl, by rw [gcd_fmod, g], rfl⟩
    · have hb : b = 0 := by simpa using h
      subst hb
      have e : (Int.gcd x y : Int) = (a.natAbs : Int) := by
        rw [← g, Int.gcd_zero_right]
      have q : Q (.int (Int.gcd x y : Int)) H' := q
      rw [e] at q
      exact q
def sp_fraction (K : PySem.W.Frag) (ns : List Int) : Sp := fun vs H Q _ => match vs with
  | [.int t, .int b] => (b ≠ 0 ∧ Bd 4000 b) ∧ ∀ p H', Same H H' → FrAt H' p t b → Q (.ref p) H'
  | _ => False
theorem sc_fraction : FnScope ["top", "bottom", "divisor"] ["top", "bottom"] (defScope s_fraction) := ⟨rfl, rfl, rfl, by decide +kernel, rfl, by decide +kernel, by decide +kernel⟩
theorem inv_fraction {vs : List V} {H : Hp} {Q : VK} {E : XK} (h : sp_fraction K ns vs H Q E) : ∃ t b, vs = [.int t, .int b] := by
  first
  | (obtain ⟨v0, r0, rfl⟩ := gCons (S := fun l => sp_fraction K ns (l) H Q E) h id; obtain ⟨w0, rfl⟩ := gInt (S := fun v => sp_fraction K ns (v :: r0) H Q E) h (fun _ => id) (fun _ => id) id (fun _ => id) (fun _ => id) (fun _ => id) (fun _ => id); obtain ⟨v1, r1, rfl⟩ := gCons (S := fun l => sp_fraction K ns (.int w0 :: l) H Q E) h id; obtain ⟨w1, rfl⟩ := gInt (S := fun v => sp_fraction K ns (.int w0 :: v :: r1) H Q E) h (fun _ => id) (fun _ => id) id (fun _ => id) (fun _ => id) (fun _ => id) (fun _ => id); obtain rfl := gNil (S := fun l => sp_fraction K ns (.int w0 :: .int w1 :: l) H Q E) h fun _ _ => id; exact ⟨_, _, rfl⟩)
  | (match vs, h with
    | [.int t, .int b], _ => exact ⟨_, _, rfl⟩)
theorem ok_fraction (d : Dfn K mg "fraction" s_fraction ["top", "bottom"]) (er : Errs K mg c_LadderError c_NoBook c_NoFit c_NoGame c_NoNumber c_NoPlayer c_NoRow c_NoStretch c_NoTable c_NoTree c_NoWorth)   (c_greatest_divisor : Cal P w K mg base "greatest_divisor" ["one", "other"] 1 (sp_greatest_divisor K ns)) (c_is_whole : Cal P w K mg base "is_whole" ["thing"] 1 (sp_is_whole K ns)) : Cal P w K mg base "fraction" ["top", "bottom"] 2 (sp_fraction K ns) := by
  refine d.cal (k := 1) sc_fraction (fun vs H Q E h => ?_) (fun f cdv A outer s H vs Q E hr h => ?_)
  · obtain ⟨t, b, rfl⟩ := inv_fraction h
    rfl
  · obtain ⟨t, b, rfl⟩ := inv_fraction h
    obtain ⟨⟨b0, b1⟩, q⟩ := h
    refine ⟨_, (@pss_cons _ _ _ _ _ (@s_if _ _ _ _ _ _ _ _ (@L2.PW.pt _ _ _ (@w_or _ _ _ _ _ _ _ (@pt_not _ _ _ _ (@t_val _ _ _ (@e_call _ _ _ _ _ _ _ _ _ _ _ c_is_whole hr (by decide) (by rfl) (@pa_cons _ _ _ _ _ (dv 0) pa_nil (by rfl)) (by decide) (by rfl) (by rfl)) (by intro _; rfl))) (@pw_or1 _ _ _ _ (@pt_not _ _ _ _ (@t_val _ _ _ (@e_call _ _ _ _ _ _ _ _ _ _ _ c_is_whole hr (by decide) (by rfl) (@pa_cons _ _ _ _ _ (dv 1) pa_nil (by rfl)) (by decide) (by rfl) (by rfl)) (by intro _; rfl)))))) (@pss_one _ _ _ ps_never) pss_nil) (@pss_cons _ _ _ _ _ (@s_if _ _ _ _ _ _ _ _ (@t_cmp _ _ _ _ _ _ _ _ o_eq (dv 1) pe_int (@nomark _ _ (by decide) (by decide))) (@pss_one _ _ _ ps_never) pss_nil) (@pss_cons _ _ _ _ _ (@ps_set _ _ (2) _ _ _ _ sc_fraction.nd rfl (by first | exact Or.inl rfl | exact Or.inr rfl) (@e_call _ _ _ _ _ _ _ _ _ _ _ c_greatest_divisor hr (by decide) (by rfl) (@pa_cons _ _ _ _ _ (dv 0) (@pa_cons _ _ _ _ _ (dv 1) pa_nil (by rfl)) (by rfl)) (by decide) (by rfl) (by rfl)) (by rfl) (by first | exact .inl rfl | exact .inr rfl | assumption)) (@pss_cons _ _ _ _ _ (@s_if _ _ _ _ _ _ _ _ (@t_cmp _ _ _ _ _ _ _ _ o_lt (dv 1) pe_int (@nomark _ _ (by decide) (by decide))) (@pss_one _ _ _ (@ps_set _ _ (2) _ _ _ _ sc_fraction.nd rfl (by first | exact Or.inl rfl | exact Or.inr rfl) (@pe_un _ _ _ _ _ _ u_neg (dv 2)) (by rfl) (by first | exact .inl rfl | exact .inr rfl | assumption))) pss_nil) (@pss_one _ _ _ (@ps_ret _ _ _ _ (@e_tup _ _ _ _ _ (@pa_cons _ _ _ _ _ (@pe_op _ _ _ _ _ _ _ _ o_divN (dv 0) (dv 2)) (@pa_cons _ _ _ _ _ (@pe_op _ _ _ _ _ _ _ _ o_divN (dv 1) (dv 2)) pa_nil (by rfl)) (by rfl))))))))), ?_⟩
    refine ⟨True.intro, ⟨fun h => nb h, fun _ => ⟨True.intro, ⟨fun h => nb h, fun _ => ?_⟩⟩⟩⟩
    refine ⟨fun h => absurd (of_decide_eq_true h) b0, fun _ => ?_⟩
    have d0 := dvs_ne t b0
    have d1 := bd_dvs t b0 b1
    have e1 := fdiv_T t b0
    have e2 := fdiv_B t b0
    refine ⟨fun h => ?_, fun h => ?_⟩
    · have h := of_decide_eq_true h
      have e : dvs t b = -(Int.gcd t b : Int) := if_pos h
      rw [e] at d0 d1 e1 e2
      refine ⟨⟨d0, d1⟩, ⟨⟨d0, d1⟩, fun p H' s z => q p H' s ⟨?_⟩⟩⟩
      dsimp only at z
      rw [e1, e2] at z
      exact z
    · have h := of_decide_eq_false h
      have e : dvs t b = (Int.gcd t b : Int) := if_neg h
      rw [e] at d0 d1 e1 e2
      refine ⟨⟨d0, d1⟩, ⟨⟨d0, d1⟩, fun p H' s z => q p H' s ⟨?_⟩⟩⟩
      dsimp only at z
      rw [e1, e2] at z
      exact z
def sp_plus (K : PySem.W.Frag) (ns : List Int) : Sp := fun vs H Q _ => match vs with
  | [.ref p, .ref q] => ∃ x y : Q2, (Fq 1000 H p x.1 x.2 ∧ Fq 1000 H q y.1 y.2) ∧ ∀ r H', Same H H' → FrAt H' r (x.1 * y.2 + y.1 * x.2) (x.2 * y.2) → Q (.ref r) H'
  | _ => False
theorem sc_plus : FnScope ["one", "other"] ["one", "other"] (defScope s_plus) := ⟨rfl, rfl, rfl, by decide +kernel, rfl, by decide +kernel, by decide +kernel⟩
theorem inv_plus {vs : List V} {H : Hp} {Q : VK} {E : XK} (h : sp_plus K ns vs H Q E) : ∃ p q, vs = [.ref p, .ref q] := by
  first
  | (obtain ⟨v0, r0, rfl⟩ := gCons (S := fun l => sp_plus K ns (l) H Q E) h id; obtain ⟨w0, rfl⟩ := gRef (S := fun v => sp_plus K ns (v :: r0) H Q E) h (fun _ => id) (fun _ => id) id (fun _ => id) (fun _ => id) (fun _ => id) (fun _ => id); obtain ⟨v1, r1, rfl⟩ := gCons (S := fun l => sp_plus K ns (.ref w0 :: l) H Q E) h id; obtain ⟨w1, rfl⟩ := gRef (S := fun v => sp_plus K ns (.ref w0 :: v :: r1) H Q E) h (fun _ => id) (fun _ => id) id (fun _ => id) (fun _ => id) (fun _ => id) (fun _ => id); obtain rfl := gNil (S := fun l => sp_plus K ns (.ref w0 :: .ref w1 :: l) H Q E) h fun _ _ => id; exact ⟨_, _, rfl⟩)
  | (match vs, h with
    | [.ref p, .ref q], _ => exact ⟨_, _, rfl⟩)
theorem ok_plus (d : Dfn K mg "plus" s_plus ["one", "other"]) (er : Errs K mg c_LadderError c_NoBook c_NoFit c_NoGame c_NoNumber c_NoPlayer c_NoRow c_NoStretch c_NoTable c_NoTree c_NoWorth)   (c_fraction : Cal P w K mg base "fraction" ["top", "bottom"] 2 (sp_fraction K ns)) : Cal P w K mg base "plus" ["one", "other"] 3 (sp_plus K ns) := by
  refine d.cal (k := 2) sc_plus (fun vs H Q E h => ?_) (fun f cdv A outer s H vs Q E hr h => ?_)
  · obtain ⟨p, q, rfl⟩ := inv_plus h
    rfl
  · obtain ⟨p, q, rfl⟩ := inv_plus h
    obtain ⟨x, y, ⟨h1, h2⟩, k⟩ := h
    refine ⟨_, (@pss_one _ _ _ (@ps_ret _ _ _ _ (@e_call _ _ _ _ _ _ _ _ _ _ _ c_fraction hr (by decide) (by rfl) (@pa_cons _ _ _ _ _ (@pe_op _ _ _ _ _ _ _ _ o_add (@pe_op _ _ _ _ _ _ _ _ o_mul (@pe_ix _ _ _ _ _ _ _ i_tup (dv 0) pe_int (fun _ _ => rfl)) (@pe_ix _ _ _ _ _ _ _ i_tup (dv 1) pe_int (fun _ _ => rfl))) (@pe_op _ _ _ _ _ _ _ _ o_mul (@pe_ix _ _ _ _ _ _ _ i_tup (dv 1) pe_int (fun _ _ => rfl)) (@pe_ix _ _ _ _ _ _ _ i_tup (dv 0) pe_int (fun _ _ => rfl)))) (@pa_cons _ _ _ _ _ (@pe_op _ _ _ _ _ _ _ _ o_mul (@pe_ix _ _ _ _ _ _ _ i_tup (dv 0) pe_int (fun _ _ => rfl)) (@pe_ix _ _ _ _ _ _ _ i_tup (dv 1) pe_int (fun _ _ => rfl))) pa_nil (by rfl)) (by rfl)) (by decide) (by rfl) (by rfl)))), ?_⟩
    exact ⟨_, h1.at', _, h2.at', cok h1.ba h2.bb (by decide) (by decide), _, h2.at', _, h1.at', cok h2.ba h1.bb (by decide) (by decide), _, h1.at', _, h2.at', cok h1.bb h2.bb (by decide) (by decide),
      ⟨Int.ne_of_gt (Int.mul_pos h1.pos h2.pos), (h1.bb.mul h2.bb).mono (by decide)⟩, k⟩
def sp_times (K : PySem.W.Frag) (ns : List Int) : Sp := fun vs H Q _ => match vs with
  | [.ref p, .ref q] => ∃ x y : Q2, (Fq 1000 H p x.1 x.2 ∧ Fq 1000 H q y.1 y.2) ∧ ∀ r H', Same H H' → FrAt H' r (x.1 * y.1) (x.2 * y.2) → Q (.ref r) H'
  | _ => False
theorem sc_times : FnScope ["one", "other"] ["one", "other"] (defScope s_times) := ⟨rfl, rfl, rfl, by decide +kernel, rfl, by decide +kernel, by decide +kernel⟩
theorem inv_times {vs : List V} {H : Hp} {Q : VK} {E : XK} (h : sp_times K ns vs H Q E) : ∃ p q, vs = [.ref p, .ref q] := by
  first
  | (obtain ⟨v0, r0, rfl⟩ := gCons (S := fun l => sp_times K ns (l) H Q E) h id; obtain ⟨w0, rfl⟩ := gRef (S := fun v => sp_times K ns (v :: r0) H Q E) h (fun _ => id) (fun _ => id) id (fun _ => id) (fun _ => id) (fun _ => id) (fun _ => id); obtain ⟨v1, r1, rfl⟩ := gCons (S := fun l => sp_times K ns (.ref w0 :: l) H Q E) h id; obtain ⟨w1, rfl⟩ := gRef (S := fun v => sp_times K ns (.ref w0 :: v :: r1) H Q E) h (fun _ => id) (fun _ => id) id (fun _ => id) (fun _ => id) (fun _ => id) (fun _ => id); obtain rfl := gNil (S := fun l => sp_times K ns (.ref w0 :: .ref w1 :: l) H Q E) h fun _ _ => id; exact ⟨_, _, rfl⟩)
  | (match vs, h with
    | [.ref p, .ref q], _ => exact ⟨_, _, rfl⟩)
theorem ok_times (d : Dfn K mg "times" s_times ["one", "other"]) (er : Errs K mg c_LadderError c_NoBook c_NoFit c_NoGame c_NoNumber c_NoPlayer c_NoRow c_NoStretch c_NoTable c_NoTree c_NoWorth)   (c_fraction : Cal P w K mg base "fraction" ["top", "bottom"] 2 (sp_fraction K ns)) : Cal P w K mg base "times" ["one", "other"] 3 (sp_times K ns) := by
  refine d.cal (k := 2) sc_times (fun vs H Q E h => ?_) (fun f cdv A outer s H vs Q E hr h => ?_)
  · obtain ⟨p, q, rfl⟩ := inv_times h
    rfl
  · obtain ⟨p, q, rfl⟩ := inv_times h
    obtain ⟨x, y, ⟨h1, h2⟩, k⟩ := h
    refine ⟨_, (@pss_one _ _ _ (@ps_ret _ _ _ _ (@e_call _ _ _ _ _ _ _ _ _ _ _ c_fraction hr (by decide) (by rfl) (@pa_cons _ _ _ _ _ (@pe_op _ _ _ _ _ _ _ _ o_mul (@pe_ix _ _ _ _ _ _ _ i_tup (dv 0) pe_int (fun _ _ => rfl)) (@pe_ix _ _ _ _ _ _ _ i_tup (dv 1) pe_int (fun _ _ => rfl))) (@pa_cons _ _ _ _ _ (@pe_op _ _ _ _ _ _ _ _ o_mul (@pe_ix _ _ _ _ _ _ _ i_tup (dv 0) pe_int (fun _ _ => rfl)) (@pe_ix _ _ _ _ _ _ _ i_tup (dv 1) pe_int (fun _ _ => rfl))) pa_nil (by rfl)) (by rfl)) (by decide) (by rfl) (by rfl)))), ?_⟩
    exact ⟨_, h1.at', _, h2.at', cok h1.ba h2.ba (by decide) (by decide), _, h1.at', _, h2.at', cok h1.bb h2.bb (by decide) (by decide),
      ⟨Int.ne_of_gt (Int.mul_pos h1.pos h2.pos), (h1.bb.mul h2.bb).mono (by decide)⟩, k⟩
def sp_minus (K : PySem.W.Frag) (ns : List Int) : Sp := fun vs H Q _ => match vs with
  | [.ref p, .ref q] => ∃ x y : Q2, (Fq 1000 H p x.1 x.2 ∧ Fq 1000 H q y.1 y.2) ∧ ∀ r H', Same H H' → FrAt H' r (x.1 * y.2 - y.1 * x.2) (x.2 * y.2) → Q (.ref r) H'
  | _ => False
theorem sc_minus : FnScope ["one", "other"] ["one", "other"] (defScope s_minus) := ⟨rfl, rfl, rfl, by decide +kernel, rfl, by decide +kernel, by decide +kernel⟩
theorem inv_minus {vs : List V} {H : Hp} {Q : VK} {E : XK} (h : sp_minus K ns vs H Q E) : ∃ p q, vs = [.ref p, .ref q] := by
  first
  | (obtain ⟨v0, r0, rfl⟩ := gCons (S := fun l => sp_minus K ns (l) H Q E) h id; obtain ⟨w0, rfl⟩ := gRef (S := fun v => sp_minus K ns (v :: r0) H Q E) h (fun _ => id) (fun _ => id) id (fun _ => id) (fun _ => id) (fun _ => id) (fun _ => id); obtain ⟨v1, r1, rfl⟩ := gCons (S := fun l => sp_minus K ns (.ref w0 :: l) H Q E) h id; obtain ⟨w1, rfl⟩ := gRef (S := fun v => sp_minus K ns (.ref w0 :: v :: r1) H Q E) h (fun _ => id) (fun _ => id) id (fun _ => id) (fun _ => id) (fun _ => id) (fun _ => id); obtain rfl := gNil (S := fun l => sp_minus K ns (.ref w0 :: .ref w1 :: l) H Q E) h fun _ _ => id; exact ⟨_, _, rfl⟩)
  | (match vs, h with
    | [.ref p, .ref q], _ => exact ⟨_, _, rfl⟩)
theorem ok_minus (d : Dfn K mg "minus" s_minus ["one", "other"]) (er : Errs K mg c_LadderError c_NoBook c_NoFit c_NoGame c_NoNumber c_NoPlayer c_NoRow c_NoStretch c_NoTable c_NoTree c_NoWorth)   (c_fraction : Cal P w K mg base "fraction" ["top", "bottom"] 2 (sp_fraction K ns)) : Cal P w K mg base "minus" ["one", "other"] 3 (sp_minus K ns) := by
  refine d.cal (k := 2) sc_minus (fun vs H Q E h => ?_) (fun f cdv A outer s H vs Q E hr h => ?_)
  · obtain ⟨p, q, rfl⟩ := inv_minus h
    rfl
  · obtain ⟨p, q, rfl⟩ := inv_minus h
    obtain ⟨x, y, ⟨h1, h2⟩, k⟩ := h
    refine ⟨_, (@pss_one _ _ _ (@ps_ret _ _ _ _ (@e_call _ _ _ _ _ _ _ _ _ _ _ c_fraction hr (by decide) (by rfl) (@pa_cons _ _ _ _ _ (@pe_op _ _ _ _ _ _ _ _ o_sub (@pe_op _ _ _ _ _ _ _ _ o_mul (@pe_ix _ _ _ _ _ _ _ i_tup (dv 0) pe_int (fun _ _ => rfl)) (@pe_ix _ _ _ _ _ _ _ i_tup (dv 1) pe_int (fun _ _ => rfl))) (@pe_op _ _ _ _ _ _ _ _ o_mul (@pe_ix _ _ _ _ _ _ _ i_tup (dv 1) pe_int (fun _ _ => rfl)) (@pe_ix _ _ _ _ _ _ _ i_tup (dv 0) pe_int (fun _ _ => rfl)))) (@pa_cons _ _ _ _ _ (@pe_op _ _ _ _ _ _ _ _ o_mul (@pe_ix _ _ _ _ _ _ _ i_tup (dv 0) pe_int (fun _ _ => rfl)) (@pe_ix _ _ _ _ _ _ _ i_tup (dv 1) pe_int (fun _ _ => rfl))) pa_nil (by rfl)) (by rfl)) (by decide) (by rfl) (by rfl)))), ?_⟩
    exact ⟨_, h1.at', _, h2.at', cok h1.ba h2.bb (by decide) (by decide), _, h2.at', _, h1.at', cok h2.ba h1.bb (by decide) (by decide), _, h1.at', _, h2.at', cok h1.bb h2.bb (by decide) (by decide),
      ⟨Int.ne_of_gt (Int.mul_pos h1.pos h2.pos), (h1.bb.mul h2.bb).mono (by decide)⟩, k⟩
def sp_over (K : PySem.W.Frag) (ns : List Int) : Sp := fun vs H Q _ => match vs with
  | [.ref p, .ref q] => ∃ x y : Q2, (Fq 1000 H p x.1 x.2 ∧ Fq 1000 H q y.1 y.2 ∧ y.1 ≠ 0) ∧ ∀ r H', Same H H' → FrAt H' r (x.1 * y.2) (x.2 * y.1) → Q (.ref r) H'
  | _ => False
theorem sc_over : FnScope ["one", "other"] ["one", "other"] (defScope s_over) := ⟨rfl, rfl, rfl, by decide +kernel, rfl, by decide +kernel, by decide +kernel⟩
theorem inv_over {vs : List V} {H : Hp} {Q : VK} {E : XK} (h : sp_over K ns vs H Q E) : ∃ p q, vs = [.ref p, .ref q] := by
  first
  | (obtain ⟨v0, r0, rfl⟩ := gCons (S := fun l => sp_over K ns (l) H Q E) h id; obtain ⟨w0, rfl⟩ := gRef (S := fun v => sp_over K ns (v :: r0) H Q E) h (fun _ => id) (fun _ => id) id (fun _ => id) (fun _ => id) (fun _ => id) (fun _ => id); obtain ⟨v1, r1, rfl⟩ := gCons (S := fun l => sp_over K ns (.ref w0 :: l) H Q E) h id; obtain ⟨w1, rfl⟩ := gRef (S := fun v => sp_over K ns (.ref w0 :: v :: r1) H Q E) h (fun _ => id) (fun _ => id) id (fun _ => id) (fun _ => id) (fun _ => id) (fun _ => id); obtain rfl := gNil (S := fun l => sp_over K ns (.ref w0 :: .ref w1 :: l) H Q E) h fun _ _ => id; exact ⟨_, _, rfl⟩)
  | (match vs, h with
    | [.ref p, .ref q], _ => exact ⟨_, _, rfl⟩)
theorem ok_over (d : Dfn K mg "over" s_over ["one", "other"]) (er : Errs K mg c_LadderError c_NoBook c_NoFit c_NoGame c_NoNumber c_NoPlayer c_NoRow c_NoStretch c_NoTable c_NoTree c_NoWorth)   (c_fraction : Cal P w K mg base "fraction" ["top", "bottom"] 2 (sp_fraction K ns)) : Cal P w K mg base "over" ["one", "other"] 3 (sp_over K ns) := by
  refine d.cal (k := 2) sc_over (fun vs H Q E h => ?_) (fun f cdv A outer s H vs Q E hr h => ?_)
  · obtain ⟨p, q, rfl⟩ := inv_over h
    rfl
  · obtain ⟨p, q, rfl⟩ := inv_over h
    obtain ⟨x, y, ⟨h1, h2, h3⟩, k⟩ := h
    refine ⟨_, (@pss_one _ _ _ (@ps_ret _ _ _ _ (@e_call _ _ _ _ _ _ _ _ _ _ _ c_fraction hr (by decide) (by rfl) (@pa_cons _ _ _ _ _ (@pe_op _ _ _ _ _ _ _ _ o_mul (@pe_ix _ _ _ _ _ _ _ i_tup (dv 0) pe_int (fun _ _ => rfl)) (@pe_ix _ _ _ _ _ _ _ i_tup (dv 1) pe_int (fun _ _ => rfl))) (@pa_cons _ _ _ _ _ (@pe_op _ _ _ _ _ _ _ _ o_mul (@pe_ix _ _ _ _ _ _ _ i_tup (dv 0) pe_int (fun _ _ => rfl)) (@pe_ix _ _ _ _ _ _ _ i_tup (dv 1) pe_int (fun _ _ => rfl))) pa_nil (by rfl)) (by rfl)) (by decide) (by rfl) (by rfl)))), ?_⟩
    exact ⟨_, h1.at', _, h2.at', cok h1.ba h2.bb (by decide) (by decide), _, h1.at', _, h2.at', cok h1.bb h2.ba (by decide) (by decide),
      ⟨Int.mul_ne_zero (Int.ne_of_gt h1.pos) h3, (h1.bb.mul h2.ba).mono (by decide)⟩, k⟩
def odA (x y z : Q2) (s : Int) : Int := if s = 0 then x.1 * y.2 else if s = 1 then x.1 * y.2 * z.1 else x.1 * y.2 * z.2
def odB (x y z : Q2) (s : Int) : Int := if s = 0 then y.1 * x.2 else if s = 1 then y.1 * x.2 * z.2 else y.1 * x.2 * z.1
theorem odA_pos {x y z : Q2} {s : Int} (h1 : 0 < x.1) (h2 : 0 < y.2) (h3 : 0 < z.1) (h4 : 0 < z.2) : 0 < odA x y z s := by
  unfold odA
  have := Int.mul_pos h1 h2
  split
  · assumption
  · split
    · exact Int.mul_pos this h3
    · exact Int.mul_pos this h4
theorem odB_pos {x y z : Q2} {s : Int} (h1 : 0 < y.1) (h2 : 0 < x.2) (h3 : 0 < z.1) (h4 : 0 < z.2) : 0 < odB x y z s := by
  unfold odB
  have := Int.mul_pos h1 h2
  split
  · assumption
  · split
    · exact Int.mul_pos this h4
    · exact Int.mul_pos this h3
theorem odA_bd {n : Nat} {x y z : Q2} {s : Int} (h1 : Bd n x.1) (h2 : Bd n y.2) (h3 : Bd n z.1) (h4 : Bd n z.2) : Bd (n + n + n) (odA x y z s) := by
  unfold odA
  split
  · exact (h1.mul h2).mono (by omega)
  · split
    · exact (h1.mul h2).mul h3
    · exact (h1.mul h2).mul h4
theorem odB_bd {n : Nat} {x y z : Q2} {s : Int} (h1 : Bd n y.1) (h2 : Bd n x.2) (h3 : Bd n z.1) (h4 : Bd n z.2) : Bd (n + n + n) (odB x y z s) := by
  unfold odB
  split
  · exact (h1.mul h2).mono (by omega)
  · split
    · exact (h1.mul h2).mul h4
    · exact (h1.mul h2).mul h3
def sp_odds (K : PySem.W.Frag) (ns : List Int) : Sp := fun vs H Q _ => match vs with
  | [.ref p, .ref q, .int s, .ref e] => ∃ x y z : Q2, (Fq 1200 H p x.1 x.2 ∧ Fq 1200 H q y.1 y.2 ∧ Fq 1200 H e z.1 z.2) ∧ ∀ r H', Same H H' → H' r = some (.tup [.int (odA x y z s), .int (odB x y z s)]) → Q (.ref r) H'
  | [.ref p, .ref q, .int s, .non] => ∃ x y : Q2, (Fq 1200 H p x.1 x.2 ∧ Fq 1200 H q y.1 y.2) ∧ ∀ r H', Same H H' → H' r = some (.tup [.int (odA x y (1, 1) s), .int (odB x y (1, 1) s)]) → Q (.ref r) H'
  | _ => False
theorem sc_odds : FnScope ["worth", "other", "side", "edge", "mine", "theirs"] ["worth", "other", "side", "edge"] (defScope s_odds) := ⟨rfl, rfl, rfl, by decide +kernel, rfl, by decide +kernel, by decide +kernel⟩
theorem ok_odds (d : Dfn K mg "odds" s_odds ["worth", "other", "side", "edge"]) (er : Errs K mg c_LadderError c_NoBook c_NoFit c_NoGame c_NoNumber c_NoPlayer c_NoRow c_NoStretch c_NoTable c_NoTree c_NoWorth)    : Cal P w K mg base "odds" ["worth", "other", "side", "edge"] 1 (sp_odds K ns) := by
  refine d.cal (k := 0) sc_odds (fun vs H Q E h => ?_) (fun f cdv A outer s H vs Q E hr h => ?_)
  · match vs, h with
    | [.ref _, .ref _, .int _, .ref _], _ => rfl
    | [.ref _, .ref _, .int _, .non], _ => rfl
  · refine ⟨_, (@pss_cons _ _ _ _ _ (@ps_set _ _ (4) _ _ _ _ sc_odds.nd rfl (by first | exact Or.inl rfl | exact Or.inr rfl) (@pe_op _ _ _ _ _ _ _ _ o_mul (@pe_ix _ _ _ _ _ _ _ i_tup (dv 0) pe_int (fun _ _ => rfl)) (@pe_ix _ _ _ _ _ _ _ i_tup (dv 1) pe_int (fun _ _ => rfl))) (by rfl) (by first | exact .inl rfl | exact .inr rfl | assumption)) (@pss_cons _ _ _ _ _ (@ps_set _ _ (5) _ _ _ _ sc_odds.nd rfl (by first | exact Or.inl rfl | exact Or.inr rfl) (@pe_op _ _ _ _ _ _ _ _ o_mul (@pe_ix _ _ _ _ _ _ _ i_tup (dv 1) pe_int (fun _ _ => rfl)) (@pe_ix _ _ _ _ _ _ _ i_tup (dv 0) pe_int (fun _ _ => rfl))) (by rfl) (by first | exact .inl rfl | exact .inr rfl | assumption)) (@pss_cons _ _ _ _ _ (@s_if _ _ _ _ _ _ _ _ (@L2.PW.pt _ _ _ (@w_or _ _ _ _ _ _ _ (@t_cmp _ _ _ _ _ _ _ _ o_eq (dv 2) pe_int (@nomark _ _ (by decide) (by decide))) (@pw_or1 _ _ _ _ (@t_isN _ _ _ _ _ _ (dv 3))))) (@pss_one _ _ _ (@ps_ret _ _ _ _ (@e_tup _ _ _ _ _ (@pa_cons _ _ _ _ _ (dv 4) (@pa_cons _ _ _ _ _ (dv 5) pa_nil (by rfl)) (by rfl))))) pss_nil) (@pss_cons _ _ _ _ _ (@s_if _ _ _ _ _ _ _ _ (@t_cmp _ _ _ _ _ _ _ _ o_eq (dv 2) pe_int (@nomark _ _ (by decide) (by decide))) (@pss_one _ _ _ (@ps_ret _ _ _ _ (@e_tup _ _ _ _ _ (@pa_cons _ _ _ _ _ (@pe_op _ _ _ _ _ _ _ _ o_mul (dv 4) (@pe_ix _ _ _ _ _ _ _ i_tup (dv 3) pe_int (fun _ _ => rfl))) (@pa_cons _ _ _ _ _ (@pe_op _ _ _ _ _ _ _ _ o_mul (dv 5) (@pe_ix _ _ _ _ _ _ _ i_tup (dv 3) pe_int (fun _ _ => rfl))) pa_nil (by rfl)) (by rfl))))) pss_nil) (@pss_one _ _ _ (@ps_ret _ _ _ _ (@e_tup _ _ _ _ _ (@pa_cons _ _ _ _ _ (@pe_op _ _ _ _ _ _ _ _ o_mul (dv 4) (@pe_ix _ _ _ _ _ _ _ i_tup (dv 3) pe_int (fun _ _ => rfl))) (@pa_cons _ _ _ _ _ (@pe_op _ _ _ _ _ _ _ _ o_mul (dv 5) (@pe_ix _ _ _ _ _ _ _ i_tup (dv 3) pe_int (fun _ _ => rfl))) pa_nil (by rfl)) (by rfl))))))))), ?_⟩
    match vs, h with
    | [.ref p, .ref q, .int sd, .ref e], ⟨x, y, z, ⟨h1, h2, h3⟩, k⟩ =>
      refine ⟨_, h1.at', _, h2.at', cok h1.ba h2.bb (by decide) (by decide), _, h2.at', _, h1.at', cok h2.ba h1.bb (by decide) (by decide), ?_⟩
      have m1 : Bd 2400 (x.1 * y.2) := h1.ba.mul h2.bb
      have m2 : Bd 2400 (y.1 * x.2) := h2.ba.mul h1.bb
      refine ⟨fun h => ⟨fun _ r H' s e => k r H' s ?_, fun h => absurd h (by decide)⟩, fun h => ⟨fun h => absurd h (by simp), fun _ => ⟨fun h' => ?_, fun h' => ?_⟩⟩⟩
      · have hs : sd = 0 := of_decide_eq_true h
        simpa [odA, odB, hs] using e
      · have hs : ¬ sd = 0 := of_decide_eq_false h
        have hs' : sd = 1 := of_decide_eq_true h'
        refine ⟨_, h3.at', cok m1 h3.ba (by decide) (by decide), _, h3.at', cok m2 h3.bb (by decide) (by decide), fun r H' s e => k r H' s ?_⟩
        simpa [odA, odB, hs'] using e
      · have hs : ¬ sd = 0 := of_decide_eq_false h
        have hs' : ¬ sd = 1 := of_decide_eq_false h'
        refine ⟨_, h3.at', cok m1 h3.bb (by decide) (by decide), _, h3.at', cok m2 h3.ba (by decide) (by decide), fun r H' s e => k r H' s ?_⟩
        simpa [odA, odB, hs, hs'] using e
    | [.ref p, .ref q, .int sd, .non], ⟨x, y, ⟨h1, h2⟩, k⟩ =>
      refine ⟨_, h1.at', _, h2.at', cok h1.ba h2.bb (by decide) (by decide), _, h2.at', _, h1.at', cok h2.ba h1.bb (by decide) (by decide), ?_⟩
      have fin : ∀ r H', Same H H' → H' r = some (.tup [.int (x.1 * y.2), .int (y.1 * x.2)]) → Q (.ref r) H' := fun r H' s e => k r H' s (by simpa [odA, odB] using e)
      exact ⟨fun _ => ⟨fun _ => fin, fun h => absurd h (by decide)⟩, fun _ => ⟨fun _ => fin, fun h => absurd h (by simp)⟩⟩
def sp_share (K : PySem.W.Frag) (ns : List Int) : Sp := fun vs H Q _ => match vs with
  | [.ref p, .ref q, .int s, .non] => ∃ x y : Q2, (Fq 1000 H p x.1 x.2 ∧ Fq 1000 H q y.1 y.2 ∧ 0 < x.1 ∧ 0 < y.1) ∧ ∀ r H', Same H H' → FrAt H' r (odA x y (1, 1) s) (odA x y (1, 1) s + odB x y (1, 1) s) → Q (.ref r) H'
  | _ => False
theorem sc_share : FnScope ["worth", "other", "side", "edge", "pair"] ["worth", "other", "side", "edge"] (defScope s_share) := ⟨rfl, rfl, rfl, by decide +kernel, rfl, by decide +kernel, by decide +kernel⟩
theorem inv_share {vs : List V} {H : Hp} {Q : VK} {E : XK} (h : sp_share K ns vs H Q E) : ∃ p q s, vs = [.ref p, .ref q, .int s, .non] := by
  match vs, h with
    | [.ref p, .ref q, .int s, .non], _ => exact ⟨_, _, _, rfl⟩
theorem ok_share (d : Dfn K mg "share" s_share ["worth", "other", "side", "edge"]) (er : Errs K mg c_LadderError c_NoBook c_NoFit c_NoGame c_NoNumber c_NoPlayer c_NoRow c_NoStretch c_NoTable c_NoTree c_NoWorth)   (c_fraction : Cal P w K mg base "fraction" ["top", "bottom"] 2 (sp_fraction K ns)) (c_odds : Cal P w K mg base "odds" ["worth", "other", "side", "edge"] 1 (sp_odds K ns)) : Cal P w K mg base "share" ["worth", "other", "side", "edge"] 3 (sp_share K ns) := by
  refine d.cal (k := 2) sc_share (fun vs H Q E h => ?_) (fun f cdv A outer s H vs Q E hr h => ?_)
  · obtain ⟨p, q, s, rfl⟩ := inv_share h
    rfl
  · obtain ⟨p, q, s, rfl⟩ := inv_share h
    obtain ⟨x, y, ⟨h1, h2, x0, y0⟩, k⟩ := h
    refine ⟨_, (@pss_cons _ _ _ _ _ (@ps_set _ _ (4) _ _ _ _ sc_share.nd rfl (by first | exact Or.inl rfl | exact Or.inr rfl) (@e_call _ _ _ _ _ _ _ _ _ _ _ c_odds hr (by decide) (by rfl) (@pa_cons _ _ _ _ _ (dv 0) (@pa_cons _ _ _ _ _ (dv 1) (@pa_cons _ _ _ _ _ (dv 2) (@pa_cons _ _ _ _ _ (dv 3) pa_nil (by rfl)) (by rfl)) (by rfl)) (by rfl)) (by decide) (by rfl) (by rfl)) (by rfl) (by first | exact .inl rfl | exact .inr rfl | assumption)) (@pss_one _ _ _ (@ps_ret _ _ _ _ (@e_call _ _ _ _ _ _ _ _ _ _ _ c_fraction hr (by decide) (by rfl) (@pa_cons _ _ _ _ _ (@pe_ix _ _ _ _ _ _ _ i_tup (dv 4) pe_int (fun _ _ => rfl)) (@pa_cons _ _ _ _ _ (@pe_op _ _ _ _ _ _ _ _ o_add (@pe_ix _ _ _ _ _ _ _ i_tup (dv 4) pe_int (fun _ _ => rfl)) (@pe_ix _ _ _ _ _ _ _ i_tup (dv 4) pe_int (fun _ _ => rfl))) pa_nil (by rfl)) (by rfl)) (by decide) (by rfl) (by rfl))))), ?_⟩
    refine ⟨x, y, ⟨h1.mono (by decide), h2.mono (by decide)⟩, fun r H1 s1 e1 => ?_⟩
    have p1 := odA_pos (x := x) (y := y) (z := (1, 1)) (s := s) x0 h2.pos (by decide) (by decide)
    have p2 := odB_pos (x := x) (y := y) (z := (1, 1)) (s := s) y0 h1.pos (by decide) (by decide)
    have b1 := odA_bd (n := 1000) (x := x) (y := y) (z := (1, 1)) (s := s) h1.ba h2.bb (bd_lit rfl) (bd_lit rfl)
    have b2 := odB_bd (n := 1000) (x := x) (y := y) (z := (1, 1)) (s := s) h2.ba h1.bb (bd_lit rfl) (bd_lit rfl)
    exact ⟨_, e1, _, e1, _, e1, ⟨by omega, (b1.add b2).mono (by decide)⟩, fun p H2 s2 f2 => k p H2 (s1.trans s2) f2⟩
theorem low_scale {g a b : Int} (hg : 0 < g) : lowT (a * g) (b * g) = lowT a b ∧ lowB (a * g) (b * g) = lowB a b := by
  have e : (Int.gcd (a * g) (b * g) : Int) = (Int.gcd a b : Int) * g := by
    rw [Int.gcd_mul_right]
    have : (g.natAbs : Int) = g := Int.natAbs_of_nonneg (Int.le_of_lt hg)
    rw [Int.natCast_mul, this]
  unfold lowT lowB
  rw [e]
  exact ⟨Int.mul_ediv_mul_of_pos_left _ _ hg, Int.mul_ediv_mul_of_pos_left _ _ hg⟩
theorem low_same {t b t' b' : Int} (hb : 0 < b) (hb' : 0 < b') (h : t * b' = t' * b) : lowT t b = lowT t' b' ∧ lowB t b = lowB t' b' := by
  have e1 := low_scale (a := t) (b := b) hb'
  have e2 := low_scale (a := t') (b := b') hb
  rw [h, show b * b' = b' * b from Int.mul_comm ..] at e1
  exact ⟨e1.1.symm.trans e2.1, e1.2.symm.trans e2.2⟩
theorem lowT_pos {t b : Int} (ht : 0 < t) : 0 < lowT t b := by
  have h := lowT_mul t b
  have g : 0 < (Int.gcd t b : Int) := by
    have : 0 < Int.gcd t b := Int.gcd_pos_of_ne_zero_left _ (by omega)
    omega
  refine Int.lt_of_not_ge fun c => ?_
  have := Int.mul_nonpos_of_nonpos_of_nonneg c (Int.le_of_lt g)
  omega
def kvV (names : List Str) (f : Str → V) : List (Key × V) := names.map fun y => ((Sum.inr y : Key), f y)
theorem kvV_keys {names : List Str} {f : Str → V} : (kvV names f).map (·.1) = names.map Sum.inr := by
  unfold kvV
  rw [List.map_map]
  rfl
theorem kvV_val {names : List Str} {f : Str → V} {y : Str} (h : y ∈ names) : valV (kvV names f) (Sum.inr y) = some (f y) := by
  induction names with
  | nil => simp at h
  | cons n names ih =>
    show valV (((Sum.inr n : Key), f n) :: kvV names f) (Sum.inr y) = _
    by_cases e : n = y
    · subst e
      exact valV_pos rfl
    · rw [valV_neg fun z => e (Sum.inr.inj z)]
      exact ih ((List.mem_cons.mp h).resolve_left fun z => e z.symm)
theorem kvV_none {names : List Str} {f : Str → V} {y : Str} (h : y ∉ names) : valV (kvV names f) (Sum.inr y) = none := by
  induction names with
  | nil => rfl
  | cons n names ih =>
    show valV (((Sum.inr n : Key), f n) :: kvV names f) (Sum.inr y) = _
    rw [valV_neg fun z => h (List.mem_cons.mpr (.inl (Sum.inr.inj z).symm))]
    exact ih fun z => h (List.mem_cons_of_mem _ z)
theorem kvV_put {names : List Str} {f : Str → V} {x : Str} {r : V} (h : x ∈ names) : putK (kvV names f) (Sum.inr x) r = kvV names fun y => if y = x then r else f y := by
  unfold putK
  rw [if_pos (by rw [valV_any, kvV_val h]; rfl)]
  unfold kvV
  rw [List.map_map]
  refine List.map_congr_left fun y _ => ?_
  show (if (Sum.inr y : Key) = Sum.inr x then ((Sum.inr y : Key), r) else (Sum.inr y, f y)) = (Sum.inr y, if y = x then r else f y)
  by_cases e : y = x
  · rw [if_pos (congrArg Sum.inr e), if_pos e]
  · rw [if_neg fun z => e (Sum.inr.inj z), if_neg e]
theorem kvV_new {names : List Str} {f : Str → V} {x : Str} {r : V} (h : x ∉ names) : putK (kvV names f) (Sum.inr x) r = kvV (names ++ [x]) fun y => if y = x then r else f y := by
  unfold putK
  rw [if_neg (by rw [valV_any, kvV_none h]; decide)]
  unfold kvV
  rw [List.map_append]
  congr 1
  · refine List.map_congr_left fun y hy => ?_
    have ne : ¬ y = x := fun e => h (by rw [← e]; exact hy)
    show (Sum.inr y, f y) = (Sum.inr y, if y = x then r else f y)
    rw [if_neg ne]
  · simp
def sR (f : Str → Rat) : List Str → Rat
  | [] => 0
  | x :: l => f x + sR f l
theorem sR_app {f : Str → Rat} : ∀ {l m : List Str}, sR f (l ++ m) = sR f l + sR f m
  | [], m => by
    show sR f m = 0 + _
    grind
  | x :: l, m => by
    show f x + sR f (l ++ m) = f x + sR f l + _
    rw [sR_app]
    grind
theorem sR_cong {f g : Str → Rat} : ∀ {l : List Str}, (∀ x ∈ l, f x = g x) → sR f l = sR g l
  | [], _ => rfl
  | x :: l, h => by
    show f x + sR f l = g x + sR g l
    rw [h x List.mem_cons_self, sR_cong fun y hy => h y (List.mem_cons_of_mem _ hy)]
theorem sR_mul {f : Str → Rat} {c : Rat} : ∀ {l : List Str}, sR (fun x => c * f x) l = c * sR f l
  | [] => by
    show (0 : Rat) = c * 0
    grind
  | x :: l => by
    show c * f x + sR (fun x => c * f x) l = c * (f x + sR f l)
    rw [sR_mul]
    grind
theorem sR_add {f g : Str → Rat} : ∀ {l : List Str}, sR (fun x => f x + g x) l = sR f l + sR g l
  | [] => by
    show (0 : Rat) = 0 + 0
    grind
  | x :: l => by
    show f x + g x + sR (fun x => f x + g x) l = f x + sR f l + (g x + sR g l)
    rw [sR_add]
    grind
theorem sR_zero : ∀ {l : List Str}, sR (fun _ => 0) l = 0
  | [] => rfl
  | x :: l => by
    show (0 : Rat) + sR (fun _ => 0) l = 0
    rw [sR_zero]
    grind
theorem sR_swap {f : Str → Str → Rat} : ∀ {l m : List Str}, sR (fun x => sR (fun y => f x y) m) l = sR (fun y => sR (fun x => f x y) l) m
  | [], m => by
    show (0 : Rat) = _
    exact sR_zero.symm
  | x :: l, m => by
    show sR (fun y => f x y) m + sR (fun x => sR (fun y => f x y) m) l = sR (fun y => f x y + sR (fun x => f x y) l) m
    rw [sR_swap, sR_add]
theorem sR_nn {f : Str → Rat} : ∀ {l : List Str}, (∀ x ∈ l, 0 ≤ f x) → 0 ≤ sR f l
  | [], _ => by
    show (0 : Rat) ≤ 0
    grind
  | x :: l, h => by
    have a := h x List.mem_cons_self
    have b := sR_nn fun y hy => h y (List.mem_cons_of_mem _ hy)
    show 0 ≤ f x + sR f l
    grind
theorem sR_le {f g : Str → Rat} : ∀ {l : List Str}, (∀ x ∈ l, f x ≤ g x) → sR f l ≤ sR g l
  | [], _ => by
    show (0 : Rat) ≤ 0
    grind
  | x :: l, h => by
    have a := h x List.mem_cons_self
    have b := sR_le fun y hy => h y (List.mem_cons_of_mem _ hy)
    show f x + sR f l ≤ g x + sR g l
    grind
def g2 (w : Str → Int) (x y : Str) : Rat := (w x : Rat) / ((w x : Rat) + (w y : Rat))
def sh (w : Str → Int) : Tr → Str → Rat
  | .leaf _, _ => 1
  | .node a b, x => if x ∈ lv a then sh w a x * sR (fun o => sh w b o * g2 w x o) (lv b) else sh w b x * sR (fun o => sh w a o * g2 w x o) (lv a)
def Wk (w : Str → Int) (l : List Str) : Prop := ∀ x ∈ l, 1 ≤ w x ∧ w x ≤ 999
theorem g2_pos {w : Str → Int} {x y : Str} (hx : 1 ≤ w x) (hy : 1 ≤ w y) : 0 < g2 w x y ∧ g2 w x y < 1 ∧ g2 w x y + g2 w y x = 1 := by
  have a : (0 : Rat) < (w x : Rat) := ic_pos (by omega)
  have b : (0 : Rat) < (w y : Rat) := ic_pos (by omega)
  have c : (w x : Rat) + (w y : Rat) ≠ 0 := by grind
  have p : 0 < g2 w x y := dv_pos a (by grind)
  have q : 0 < g2 w y x := dv_pos b (by grind)
  have s : g2 w x y + g2 w y x = 1 := by
    unfold g2
    grind
  exact ⟨p, by grind, s⟩
theorem sh_pos {w : Str → Int} : ∀ {t : Tr}, Wk w (lv t) → ∀ x ∈ lv t, 0 < sh w t x
  | .leaf _, _, _, _ => by
    show (0 : Rat) < 1
    grind
  | .node a b, h, x, hx => by
    have ha : Wk w (lv a) := fun y hy => h y (List.mem_append_left _ hy)
    have hb : Wk w (lv b) := fun y hy => h y (List.mem_append_right _ hy)
    have sp : ∀ {t : Tr} {x : Str}, Wk w (lv t) → (∀ y ∈ lv t, 0 < sh w t y) → 1 ≤ w x → 0 < sR (fun o => sh w t o * g2 w x o) (lv t) := fun {t x} ht hs hx => by
      have pp : ∀ {l : List Str}, l ≠ [] → (∀ y ∈ l, 0 < sh w t y * g2 w x y) → 0 < sR (fun o => sh w t o * g2 w x o) l := fun {l} ne hl => by
        cases l with
        | nil => exact absurd rfl ne
        | cons z l =>
          have a := hl z List.mem_cons_self
          have b := sR_nn (f := fun o => sh w t o * g2 w x o) (l := l) fun y hy => by
            have := hl y (List.mem_cons_of_mem _ hy)
            grind
          show 0 < sh w t z * g2 w x z + sR (fun o => sh w t o * g2 w x o) l
          grind
      exact pp (fun e => by have := lv_pos t; rw [e] at this; simp at this) fun y hy => Rat.mul_pos (hs y hy) (g2_pos hx (ht y hy).1).1
    have wx := (h x hx).1
    unfold sh
    by_cases c : x ∈ lv a
    · rw [if_pos c]
      exact Rat.mul_pos (sh_pos ha x c) (sp hb (fun y hy => sh_pos hb y hy) wx)
    · rw [if_neg c]
      exact Rat.mul_pos (sh_pos hb x ((List.mem_append.mp hx).resolve_left c)) (sp ha (fun y hy => sh_pos ha y hy) wx)
theorem sh_one {w : Str → Int} : ∀ {t : Tr}, (lv t).Nodup → Wk w (lv t) → sR (sh w t) (lv t) = 1
  | .leaf s, _, _ => by
    show (1 : Rat) + 0 = 1
    grind
  | .node a b, nd, h => by
    have nd : (lv a ++ lv b).Nodup := nd
    obtain ⟨na, nb, nab⟩ := List.nodup_append.mp nd
    have ha : Wk w (lv a) := fun y hy => h y (List.mem_append_left _ hy)
    have hb : Wk w (lv b) := fun y hy => h y (List.mem_append_right _ hy)
    have ia := sh_one na ha
    have ib := sh_one nb hb
    show sR (sh w (.node a b)) (lv a ++ lv b) = 1
    rw [sR_app]
    have e1 : sR (sh w (.node a b)) (lv a) = sR (fun x => sR (fun o => sh w a x * (sh w b o * g2 w x o)) (lv b)) (lv a) := sR_cong fun x hx => by
      rw [sR_mul]
      exact if_pos hx
    have e2 : sR (sh w (.node a b)) (lv b) = sR (fun x => sR (fun o => sh w a o * (sh w b x * g2 w x o)) (lv a)) (lv b) := sR_cong fun x hx => by
      have e : sh w (.node a b) x = sh w b x * sR (fun o => sh w a o * g2 w x o) (lv a) := if_neg fun c => nab x c x hx rfl
      rw [e, ← sR_mul]
      exact sR_cong fun o _ => by grind
    rw [e1, e2, ← sR_swap (f := fun o x => sh w a o * (sh w b x * g2 w x o)), ← sR_add]
    have e3 : sR (fun x => sR (fun o => sh w a x * (sh w b o * g2 w x o)) (lv b) + sR (fun y => sh w a x * (sh w b y * g2 w y x)) (lv b)) (lv a) = sR (fun x => sh w a x * 1) (lv a) := sR_cong fun x hx => by
      rw [← sR_add]
      have e4 : sR (fun y => sh w a x * (sh w b y * g2 w x y) + sh w a x * (sh w b y * g2 w y x)) (lv b) = sR (fun y => sh w a x * sh w b y) (lv b) := sR_cong fun y hy => by
        have := (g2_pos (ha x hx).1 (hb y hy).1).2.2
        grind
      rw [e4, sR_mul, ib]
    rw [e3]
    have e5 : sR (fun x => sh w a x * 1) (lv a) = sR (sh w a) (lv a) := sR_cong fun x _ => by grind
    rw [e5, ia]
def pr (f : Str → Int) : List Str → Int
  | [] => 1
  | x :: l => f x * pr f l
theorem pr_pos {f : Str → Int} : ∀ {l : List Str}, (∀ x ∈ l, 0 < f x) → 0 < pr f l
  | [], _ => by
    show (0 : Int) < 1
    decide
  | x :: l, h => Int.mul_pos (h x List.mem_cons_self) (pr_pos fun y hy => h y (List.mem_cons_of_mem _ hy))
theorem pr_split {f : Str → Int} {x : Str} : ∀ {l : List Str}, (∀ x ∈ l, 0 < f x) → x ∈ l → ∃ r, pr f l = f x * r ∧ 0 < r
  | y :: l, h, hx => by
    have hl : ∀ z ∈ l, 0 < f z := fun z hz => h z (List.mem_cons_of_mem _ hz)
    by_cases e : x = y
    · subst e
      exact ⟨pr f l, rfl, pr_pos hl⟩
    · obtain ⟨r, h1, h2⟩ := pr_split hl ((List.mem_cons.mp hx).resolve_left e)
      refine ⟨f y * r, ?_, Int.mul_pos (h y List.mem_cons_self) h2⟩
      show f y * pr f l = _
      rw [h1]
      grind
theorem pr_bd {f : Str → Int} {c : Nat} : ∀ {l : List Str}, (∀ x ∈ l, Bd c (f x)) → Bd (c * l.length + 1) (pr f l)
  | [], _ => (bd_lit rfl : Bd 1 1).mono (by omega)
  | x :: l, h => by
    have := (h x List.mem_cons_self).mul (pr_bd fun y hy => h y (List.mem_cons_of_mem _ hy))
    refine Bd.mono this ?_
    rw [List.length_cons, Nat.mul_add, Nat.mul_one]
    omega
theorem rq_up {k N r : Int} (hN : 0 < N) (hr : 0 < r) : rq (k * r) (N * r) = rq k N := (rq_eq (Int.mul_pos hN hr) hN).mpr (by grind)
theorem den_sum {w : Str → Int} {x : Str} {N : Int} {f : Str → Rat} (hN : 0 < N) (hx : 1 ≤ w x) : ∀ {l : List Str}, (∀ o ∈ l, 1 ≤ w o) → (∀ o ∈ l, ∃ k : Int, f o = rq k N) →
    ∃ k : Int, sR (fun o => f o * g2 w x o) l = rq k (N * pr (fun o => w x + w o) l)
  | [], _, _ => ⟨0, by
    show (0 : Rat) = (((0 : Int) : Rat)) / _
    simp
    grind⟩
  | o :: l, hw, h => by
    obtain ⟨k, hk⟩ := den_sum (f := f) hN hx (fun o ho => hw o (List.mem_cons_of_mem _ ho)) fun o ho => h o (List.mem_cons_of_mem _ ho)
    obtain ⟨j, hj⟩ := h o List.mem_cons_self
    have po : 0 < w x + w o := by
      have := hw o List.mem_cons_self
      omega
    have pp : 0 < pr (fun o => w x + w o) l := pr_pos fun y hy => by
      have := hw y (List.mem_cons_of_mem _ hy)
      omega
    refine ⟨j * w x * pr (fun o => w x + w o) l + k * (w x + w o), ?_⟩
    show f o * g2 w x o + sR (fun o => f o * g2 w x o) l = rq _ (N * ((w x + w o) * pr (fun o => w x + w o) l))
    rw [hk, hj]
    generalize pr (fun o => w x + w o) l = P at *
    have e1 : rq j N * g2 w x o = rq (j * w x) (N * (w x + w o)) := by
      unfold rq g2
      rw [Rat.intCast_mul, Rat.intCast_mul, Rat.intCast_add]
      have a : (N : Rat) ≠ 0 := by have := ic_pos hN; grind
      have b : (w x : Rat) + (w o : Rat) ≠ 0 := by have := ic_pos po; rw [Rat.intCast_add] at this; grind
      grind
    rw [e1, ← rq_up (k := j * w x) (r := P) (Int.mul_pos hN po) pp, ← rq_up (k := k) (r := w x + w o) (Int.mul_pos hN pp) po]
    have e2 : N * P * (w x + w o) = N * (w x + w o) * P := by grind
    rw [e2]
    have e3 : N * ((w x + w o) * P) = N * (w x + w o) * P := by grind
    rw [e3]
    unfold rq
    rw [Rat.intCast_add]
    grind
def prs : Tr → Nat
  | .leaf _ => 0
  | .node a b => prs a + prs b + (lv a).length * (lv b).length
theorem prs_eq : ∀ t, 2 * prs t + (lv t).length = (lv t).length * (lv t).length
  | .leaf _ => rfl
  | .node a b => by
    have ia := prs_eq a
    have ib := prs_eq b
    show 2 * (prs a + prs b + (lv a).length * (lv b).length) + (lv a ++ lv b).length = (lv a ++ lv b).length * (lv a ++ lv b).length
    rw [List.length_append]
    generalize (lv a).length = m at *
    generalize (lv b).length = n at *
    grind
theorem prs_le {t : Tr} (h : (lv t).length ≤ 8) : prs t ≤ 28 := by
  have e := prs_eq t
  generalize (lv t).length = n at *
  have : n * n ≤ 8 * 8 ∧ (n ≤ 7 → n * n ≤ 7 * 7) ∧ (n ≤ 6 → n * n ≤ 6 * 6) := ⟨Nat.mul_le_mul h h, fun h => Nat.mul_le_mul h h, fun h => Nat.mul_le_mul h h⟩
  by_cases h7 : n ≤ 7
  · have := this.2.1 h7
    omega
  · have : n = 8 := by omega
    subst this
    omega
theorem pr_one : ∀ {l : List Str}, pr (fun _ => 1) l = 1
  | [] => rfl
  | x :: l => by
    show 1 * pr (fun _ => 1) l = 1
    rw [pr_one]
    rfl
theorem pr_mul {f g : Str → Int} : ∀ {l : List Str}, pr (fun x => f x * g x) l = pr f l * pr g l
  | [] => rfl
  | x :: l => by
    show f x * g x * pr (fun x => f x * g x) l = f x * pr f l * (g x * pr g l)
    rw [pr_mul]
    grind
theorem pr_cong {f g : Str → Int} : ∀ {l : List Str}, (∀ x ∈ l, f x = g x) → pr f l = pr g l
  | [], _ => rfl
  | x :: l, h => by
    show f x * pr f l = g x * pr g l
    rw [h x List.mem_cons_self, pr_cong fun y hy => h y (List.mem_cons_of_mem _ hy)]
theorem pr_swap {f : Str → Str → Int} : ∀ {l m : List Str}, pr (fun x => pr (fun y => f x y) m) l = pr (fun y => pr (fun x => f x y) l) m
  | [], m => by
    show (1 : Int) = _
    exact pr_one.symm
  | x :: l, m => by
    show pr (fun y => f x y) m * pr (fun x => pr (fun y => f x y) m) l = pr (fun y => f x y * pr (fun x => f x y) l) m
    rw [pr_swap, pr_mul]
theorem rq_times {j k A B : Int} (hA : 0 < A) (hB : 0 < B) : rq j A * rq k B = rq (j * k) (A * B) := by
  unfold rq
  rw [Rat.intCast_mul, Rat.intCast_mul]
  have a : (A : Rat) ≠ 0 := by have := ic_pos hA; grind
  have b : (B : Rat) ≠ 0 := by have := ic_pos hB; grind
  grind
theorem sh_den {w : Str → Int} : ∀ {t : Tr}, (lv t).Nodup → Wk w (lv t) → ∃ N : Int, 0 < N ∧ Bd (13 * prs t + (lv t).length) N ∧ ∀ x ∈ lv t, ∃ k : Int, sh w t x = rq k N
  | .leaf s, _, _ => ⟨1, by decide, (bd_lit rfl : Bd 1 1).mono (by show 1 ≤ 13 * 0 + 1; decide), fun x _ => ⟨1, by
    show (1 : Rat) = ((1 : Int) : Rat) / ((1 : Int) : Rat)
    simp
    grind⟩⟩
  | .node a b, nd, h => by
    have nd : (lv a ++ lv b).Nodup := nd
    obtain ⟨na, nb, nab⟩ := List.nodup_append.mp nd
    have ha : Wk w (lv a) := fun y hy => h y (List.mem_append_left _ hy)
    have hb : Wk w (lv b) := fun y hy => h y (List.mem_append_right _ hy)
    obtain ⟨A, pA, bA, hA⟩ := sh_den na ha
    obtain ⟨B, pB, bB, hB⟩ := sh_den nb hb
    have pos2 : ∀ x ∈ lv a, ∀ o ∈ lv b, 0 < w x + w o := fun x hx o ho => by
      have := (ha x hx).1
      have := (hb o ho).1
      omega
    have pin : ∀ x ∈ lv a, 0 < pr (fun o => w x + w o) (lv b) := fun x hx => pr_pos fun o ho => pos2 x hx o ho
    have pin' : ∀ o ∈ lv b, 0 < pr (fun x => w x + w o) (lv a) := fun o ho => pr_pos fun x hx => pos2 x hx o ho
    have pP : 0 < pr (fun x => pr (fun o => w x + w o) (lv b)) (lv a) := pr_pos pin
    have bP : Bd ((11 * (lv b).length + 1) * (lv a).length + 1) (pr (fun x => pr (fun o => w x + w o) (lv b)) (lv a)) := pr_bd fun x hx => pr_bd fun o ho => by
      have := ha x hx
      have := hb o ho
      exact bd_of (b := 1998) (by omega) (by omega) (bd_lit rfl)
    refine ⟨A * B * pr (fun x => pr (fun o => w x + w o) (lv b)) (lv a), Int.mul_pos (Int.mul_pos pA pB) pP, ((bA.mul bB).mul bP).mono ?_, fun x hx => ?_⟩
    · have la := lv_pos a
      have lb := lv_pos b
      show _ ≤ 13 * (prs a + prs b + (lv a).length * (lv b).length) + (lv a ++ lv b).length
      rw [List.length_append]
      generalize (lv a).length = m at *
      generalize (lv b).length = n at *
      have h1 : m ≤ m * n := Nat.le_mul_of_pos_right _ lb
      have e : (11 * n + 1) * m = 11 * (m * n) + m := by grind
      rw [e]
      omega
    · by_cases c : x ∈ lv a
      · obtain ⟨ka, e1⟩ := hA x c
        obtain ⟨K, e2⟩ := den_sum (w := w) (x := x) (f := sh w b) pB (ha x c).1 (fun o ho => (hb o ho).1) hB
        obtain ⟨r, e3, pr'⟩ := pr_split pin c
        refine ⟨ka * K * r, ?_⟩
        have e : sh w (.node a b) x = sh w a x * sR (fun o => sh w b o * g2 w x o) (lv b) := if_pos c
        rw [e, e1, e2, rq_times pA (Int.mul_pos pB (pin x c)), e3, ← rq_up (r := r) (Int.mul_pos pA (Int.mul_pos pB (pin x c))) pr']
        congr 1
        grind
      · have cb : x ∈ lv b := (List.mem_append.mp hx).resolve_left c
        obtain ⟨kb, e1⟩ := hB x cb
        obtain ⟨K, e2⟩ := den_sum (w := w) (x := x) (f := sh w a) pA (hb x cb).1 (fun o ho => (ha o ho).1) hA
        rw [pr_swap (f := fun x o => w x + w o)] at pP ⊢
        obtain ⟨r, e3, pr'⟩ := pr_split pin' cb
        have e4 : pr (fun o => w x + w o) (lv a) = pr (fun o => w o + w x) (lv a) := pr_cong fun o _ => Int.add_comm ..
        rw [e4] at e2
        refine ⟨kb * K * r, ?_⟩
        have e : sh w (.node a b) x = sh w b x * sR (fun o => sh w a o * g2 w x o) (lv a) := if_neg c
        rw [e, e1, e2, rq_times pB (Int.mul_pos pA (pin' x cb)), e3, ← rq_up (r := r) (Int.mul_pos pB (Int.mul_pos pA (pin' x cb))) pr']
        congr 1
        grind
def LQ (q : Q2) (r : Rat) : Prop := ∃ T B, 0 < B ∧ q = (lowT T B, lowB T B) ∧ rq T B = r
theorem lq_bd {q : Q2} {r : Rat} {n : Nat} {N k : Int} (h : LQ q r) (h0 : 0 ≤ r) (h1 : r ≤ 1) (hN : 0 < N) (bN : Bd n N) (e : r = rq k N) : (0 < q.2 ∧ 0 ≤ q.1) ∧ Bd n q.1 ∧ Bd n q.2 := by
  obtain ⟨T, B, pB, rfl, hr⟩ := h
  rw [e] at hr
  have c := (rq_eq pB hN).mp hr
  have ls := (low_same pB hN c).2
  have p2 : 0 < lowB T B := lowB_pos T pB
  have b2 : Bd n (lowB T B) := by rw [ls]; exact bd_lowB bN
  have er : rq (lowT T B) (lowB T B) = r := by rw [rq_low pB, hr, e]
  have m := rq_mul (t := lowT T B) p2
  rw [er] at m
  have pq : (0 : Rat) < (lowB T B : Rat) := ic_pos p2
  have t0 : (0 : Rat) ≤ (lowT T B : Rat) := by
    rw [← m]
    exact Rat.mul_nonneg h0 (Rat.le_of_lt pq)
  have t1 : (lowT T B : Rat) ≤ (lowB T B : Rat) := by
    rw [← m]
    have := Rat.mul_le_mul_of_nonneg_right h1 (Rat.le_of_lt pq)
    grind
  have i0 : 0 ≤ lowT T B := Rat.intCast_nonneg.mp t0
  have i1 : lowT T B ≤ lowB T B := Rat.intCast_le_intCast.mp t1
  exact ⟨⟨p2, i0⟩, b2.of_le (by show (lowT T B).natAbs ≤ (lowB T B).natAbs; omega), b2⟩
theorem fr_low' {t b : Int} (hb : 0 < b) : frT t b = lowT t b ∧ frB t b = lowB t b := by
  unfold frT frB
  rw [if_neg (by omega), if_neg (by omega)]
  exact ⟨rfl, rfl⟩
theorem fr_lq {H : Hp} {p : Addr} {t b : Int} (hb : 0 < b) (h : FrAt H p t b) : ∃ q : Q2, H p = some (.tup [.int q.1, .int q.2]) ∧ LQ q (rq t b) ∧ q = (lowT t b, lowB t b) := by
  obtain ⟨e1, e2⟩ := fr_low' (t := t) hb
  exact ⟨(lowT t b, lowB t b), by rw [h.at', e1, e2], ⟨t, b, hb, rfl, rfl⟩, rfl⟩
theorem lq_rq {q : Q2} {r : Rat} (h : LQ q r) : rq q.1 q.2 = r := by
  obtain ⟨T, B, pB, rfl, hr⟩ := h
  rw [← hr]
  exact rq_low pB
theorem rq_zero' : rq 0 1 = 0 := by
  show ((0 : Int) : Rat) / ((1 : Int) : Rat) = 0
  simp
  grind
def FQ (H : Hp) (p : Addr) (r : Rat) : Prop := ∃ q : Q2, H p = some (.tup [.int q.1, .int q.2]) ∧ LQ q r ∧ (0 < q.2 ∧ 0 ≤ q.1) ∧ Bd 400 q.1 ∧ Bd 400 q.2
theorem fq_up' {H H' : Hp} (k : Kt H H') {p : Addr} {r : Rat} (h : FQ H p r) : FQ H' p r := by
  obtain ⟨q, e, r⟩ := h
  exact ⟨q, k _ _ e, r⟩
def WA (H : Hp) (W : Addr) (l : List Str) (w : Str → Int) : Prop := (∃ kvs, Rd H W (.dK kvs) ∧ ∀ x ∈ l, valV kvs (Sum.inr x) = some (.int (w x))) ∧ Wk w l
theorem rd_up' {H H' : Hp} {a : Addr} {u : HO} (s : Same H H') (h : Rd H a u) : Rd H' a u := by
  rcases h with h | ⟨o, h⟩
  · exact .inl (s _ _ h)
  · exact .inr ⟨o, s _ _ h⟩
theorem WA.up {H H' : Hp} {W : Addr} {l : List Str} {w : Str → Int} (s : Same H H') (h : WA H W l w) : WA H' W l w := by
  obtain ⟨⟨kvs, e, a⟩, k⟩ := h
  exact ⟨⟨kvs, rd_up' s e, a⟩, k⟩
theorem WA.sub {H : Hp} {W : Addr} {l m : List Str} {w : Str → Int} (h : WA H W l w) (hs : ∀ x ∈ m, x ∈ l) : WA H W m w := by
  obtain ⟨⟨kvs, e, a⟩, k⟩ := h
  exact ⟨⟨kvs, e, fun x hx => a x (hs x hx)⟩, fun x hx => k x (hs x hx)⟩
theorem dget_r' {H : Hp} {a : Addr} {kvs : List (Key × V)} {k : Key} (e : Rd H a (.dK kvs)) : DGet H a (kV k) (valV kvs k) := .inl ⟨kvs, k, e, rfl, rfl⟩
theorem WA.get {H : Hp} {W : Addr} {l : List Str} {w : Str → Int} {x : Str} (h : WA H W l w) (hx : x ∈ l) : DGet H W (.str x) (some (.int (w x))) := by
  obtain ⟨⟨kvs, e, a⟩, k⟩ := h
  have := dget_r' (k := Sum.inr x) e
  rw [a x hx] at this
  exact this
def sp_game_share (K : PySem.W.Frag) (ns : List Int) : Sp := fun vs H Q _ => match vs with
  | [.str x, .str y, .ref W] => ∃ w, WA H W [x, y] w ∧ ∀ p (q : Q2) H', Same H H' → H' p = some (.tup [.int q.1, .int q.2]) → LQ q (g2 w x y) → (0 < q.2 ∧ 0 < q.1) → Bd 12 q.1 → Bd 12 q.2 → Q (.ref p) H'
  | _ => False
theorem sc_game_share : FnScope ["one", "other", "worths"] ["one", "other", "worths"] (defScope s_game_share) := ⟨rfl, rfl, rfl, by decide +kernel, rfl, by decide +kernel, by decide +kernel⟩
theorem inv_game_share {vs : List V} {H : Hp} {Q : VK} {E : XK} (h : sp_game_share K ns vs H Q E) : ∃ x y W, vs = [.str x, .str y, .ref W] := by
  first
  | (obtain ⟨v0, r0, rfl⟩ := gCons (S := fun l => sp_game_share K ns (l) H Q E) h id; obtain ⟨w0, rfl⟩ := gStr (S := fun v => sp_game_share K ns (v :: r0) H Q E) h (fun _ => id) (fun _ => id) id (fun _ => id) (fun _ => id) (fun _ => id) (fun _ => id); obtain ⟨v1, r1, rfl⟩ := gCons (S := fun l => sp_game_share K ns (.str w0 :: l) H Q E) h id; obtain ⟨w1, rfl⟩ := gStr (S := fun v => sp_game_share K ns (.str w0 :: v :: r1) H Q E) h (fun _ => id) (fun _ => id) id (fun _ => id) (fun _ => id) (fun _ => id) (fun _ => id); obtain ⟨v2, r2, rfl⟩ := gCons (S := fun l => sp_game_share K ns (.str w0 :: .str w1 :: l) H Q E) h id; obtain ⟨w2, rfl⟩ := gRef (S := fun v => sp_game_share K ns (.str w0 :: .str w1 :: v :: r2) H Q E) h (fun _ => id) (fun _ => id) id (fun _ => id) (fun _ => id) (fun _ => id) (fun _ => id); obtain rfl := gNil (S := fun l => sp_game_share K ns (.str w0 :: .str w1 :: .ref w2 :: l) H Q E) h fun _ _ => id; exact ⟨_, _, _, rfl⟩)
  | (match vs, h with
    | [.str x, .str y, .ref W], _ => exact ⟨_, _, _, rfl⟩)
theorem ok_game_share (d : Dfn K mg "game_share" s_game_share ["one", "other", "worths"]) (er : Errs K mg c_LadderError c_NoBook c_NoFit c_NoGame c_NoNumber c_NoPlayer c_NoRow c_NoStretch c_NoTable c_NoTree c_NoWorth)   (c_share : Cal P w K mg base "share" ["worth", "other", "side", "edge"] 3 (sp_share K ns)) : Cal P w K mg base "game_share" ["one", "other", "worths"] 4 (sp_game_share K ns) := by
  refine d.cal (k := 3) sc_game_share (fun vs H Q E h => ?_) (fun f cdv A outer s H vs Q E hr h => ?_)
  · obtain ⟨x, y, W, rfl⟩ := inv_game_share h
    rfl
  · obtain ⟨x, y, W, rfl⟩ := inv_game_share h
    obtain ⟨w, hW, k⟩ := h
    refine ⟨_, (@pss_one _ _ _ (@ps_ret _ _ _ _ (@e_call _ _ _ _ _ _ _ _ _ _ _ c_share hr (by decide) (by rfl) (@pa_cons _ _ _ _ _ (@e_tup _ _ _ _ _ (@pa_cons _ _ _ _ _ (@pe_dget _ _ _ _ _ _ (@u1 _ _ hr.units) (dv 2) (dv 0) (fun _ _ => rfl)) (@pa_cons _ _ _ _ _ pe_int pa_nil (by rfl)) (by rfl))) (@pa_cons _ _ _ _ _ (@e_tup _ _ _ _ _ (@pa_cons _ _ _ _ _ (@pe_dget _ _ _ _ _ _ (@u1 _ _ hr.units) (dv 2) (dv 1) (fun _ _ => rfl)) (@pa_cons _ _ _ _ _ pe_int pa_nil (by rfl)) (by rfl))) (@pa_cons _ _ _ _ _ pe_int (@pa_cons _ _ _ _ _ pe_non pa_nil (by rfl)) (by rfl)) (by rfl)) (by rfl)) (by decide) (by rfl) (by rfl)))), ?_⟩
    have wx := hW.2 x (by simp)
    have wy := hW.2 y (by simp)
    refine ⟨W, _, rfl, hW.get (by simp), fun P1 H1 s1 e1 => ⟨W, _, rfl, (hW.up s1).get (by simp), fun P2 H2 s2 e2 => ?_⟩⟩
    have bx : Bd 11 (w x) := bd_of (b := 999) (by omega) (by omega) (bd_lit rfl)
    have by' : Bd 11 (w y) := bd_of (b := 999) (by omega) (by omega) (bd_lit rfl)
    refine ⟨(w x, 1), (w y, 1), ⟨⟨s2 _ _ e1, (by show (0 : Int) < 1; decide), bx.mono (by decide), bd_lit rfl⟩, ⟨e2, (by show (0 : Int) < 1; decide), by'.mono (by decide), bd_lit rfl⟩, (by show 0 < w x; omega), (by show 0 < w y; omega)⟩, fun r H3 s3 f3 => ?_⟩
    have eA : odA (w x, 1) (w y, 1) (1, 1) 0 = w x := by simp [odA]
    have eB : odB (w x, 1) (w y, 1) (1, 1) 0 = w y := by simp [odB]
    rw [eA, eB] at f3
    obtain ⟨q, e, hq, eq⟩ := fr_lq (by omega) f3
    have hr : rq (w x) (w x + w y) = g2 w x y := by
      unfold rq g2
      rw [Rat.intCast_add]
    rw [hr] at hq
    refine k r q H3 (s1.trans (s2.trans s3)) e hq ?_ ?_ ?_
    · rw [eq]
      exact ⟨lowB_pos _ (by omega), lowT_pos (by omega)⟩
    · rw [eq]
      exact bd_lowT (bx.mono (by decide))
    · rw [eq]
      exact bd_lowB ((bx.add by').mono (by decide))
def sp_win_over (K : PySem.W.Frag) (ns : List Int) : Sp := fun vs H Q _ => match vs with
  | [.str x, .ref O, .ref W] => ∃ (l : List Str) (w : Str → Int) (F : Str → Rat) (f : Str → V) (o : Obj) (N : Int), (H O = some (.frz o (.dK (kvV l f))) ∧ (∀ y ∈ l, ∃ p, f y = .ref p ∧ FQ H p (F y)) ∧ WA H W (x :: l) w ∧ l.length ≤ 8) ∧ (0 < N ∧ Bd 300 N ∧ (∀ y ∈ l, ∃ k : Int, F y = rq k N) ∧ (∀ y ∈ l, 0 ≤ F y) ∧ sR F l ≤ 1) ∧ ∀ p H', Same H H' → FQ H' p (sR (fun y => F y * g2 w x y) l) → Q (.ref p) H'
  | _ => False
theorem sc_win_over : FnScope ["name", "others", "worths", "whole", "other"] ["name", "others", "worths"] (defScope s_win_over) := ⟨rfl, rfl, rfl, by decide +kernel, rfl, by decide +kernel, by decide +kernel⟩
theorem inv_win_over {vs : List V} {H : Hp} {Q : VK} {E : XK} (h : sp_win_over K ns vs H Q E) : ∃ x O W, vs = [.str x, .ref O, .ref W] := by
  first
  | (obtain ⟨v0, r0, rfl⟩ := gCons (S := fun l => sp_win_over K ns (l) H Q E) h id; obtain ⟨w0, rfl⟩ := gStr (S := fun v => sp_win_over K ns (v :: r0) H Q E) h (fun _ => id) (fun _ => id) id (fun _ => id) (fun _ => id) (fun _ => id) (fun _ => id); obtain ⟨v1, r1, rfl⟩ := gCons (S := fun l => sp_win_over K ns (.str w0 :: l) H Q E) h id; obtain ⟨w1, rfl⟩ := gRef (S := fun v => sp_win_over K ns (.str w0 :: v :: r1) H Q E) h (fun _ => id) (fun _ => id) id (fun _ => id) (fun _ => id) (fun _ => id) (fun _ => id); obtain ⟨v2, r2, rfl⟩ := gCons (S := fun l => sp_win_over K ns (.str w0 :: .ref w1 :: l) H Q E) h id; obtain ⟨w2, rfl⟩ := gRef (S := fun v => sp_win_over K ns (.str w0 :: .ref w1 :: v :: r2) H Q E) h (fun _ => id) (fun _ => id) id (fun _ => id) (fun _ => id) (fun _ => id) (fun _ => id); obtain rfl := gNil (S := fun l => sp_win_over K ns (.str w0 :: .ref w1 :: .ref w2 :: l) H Q E) h fun _ _ => id; exact ⟨_, _, _, rfl⟩)
  | (match vs, h with
    | [.str x, .ref O, .ref W], _ => exact ⟨_, _, _, rfl⟩)
theorem ok_win_over (d : Dfn K mg "win_over" s_win_over ["name", "others", "worths"]) (er : Errs K mg c_LadderError c_NoBook c_NoFit c_NoGame c_NoNumber c_NoPlayer c_NoRow c_NoStretch c_NoTable c_NoTree c_NoWorth)   (c_plus : Cal P w K mg base "plus" ["one", "other"] 3 (sp_plus K ns)) (c_times : Cal P w K mg base "times" ["one", "other"] 3 (sp_times K ns)) (c_game_share : Cal P w K mg base "game_share" ["one", "other", "worths"] 4 (sp_game_share K ns)) : Cal P w K mg base "win_over" ["name", "others", "worths"] 5 (sp_win_over K ns) := by
  refine d.cal (k := 4) sc_win_over (fun vs H Q E h => ?_) (fun f cdv A outer s H vs Q E hr h => ?_)
  · obtain ⟨x, O, W, rfl⟩ := inv_win_over h
    rfl
  · obtain ⟨x, O, W, rfl⟩ := inv_win_over h
    obtain ⟨l, w, F, f, o, N, ⟨hO, hf, hW, l8⟩, ⟨pN, bN, hN, F0, F1⟩, k⟩ := h
    refine ⟨_, (@pss_cons _ _ _ _ _ (@ps_set _ _ (3) _ _ _ _ sc_win_over.nd rfl (by first | exact Or.inl rfl | exact Or.inr rfl) (@e_tup _ _ _ _ _ (@pa_cons _ _ _ _ _ pe_int (@pa_cons _ _ _ _ _ pe_int pa_nil (by rfl)) (by rfl))) (by rfl) (by first | exact .inl rfl | exact .inr rfl | assumption)) (@pss_cons _ _ _ _ _ (@ps_for _ _ _ _ _ _ _ _ PassesOwn.never rfl (@pi_keysF _ _ _ _ (dv 1)) (@pg_name _ _ (4) _ sc_win_over.nd rfl (by first | exact Or.inl rfl | exact Or.inr rfl) (by first | exact .inl rfl | exact .inr rfl | assumption)) (@pss_one _ _ _ (@ps_set _ _ (3) _ _ _ _ sc_win_over.nd rfl (by first | exact Or.inl rfl | exact Or.inr rfl) (@e_call _ _ _ _ _ _ _ _ _ _ _ c_plus hr (by decide) (by rfl) (@pa_cons _ _ _ _ _ (dv 3) (@pa_cons _ _ _ _ _ (@e_call _ _ _ _ _ _ _ _ _ _ _ c_times hr (by decide) (by rfl) (@pa_cons _ _ _ _ _ (@pe_dget _ _ _ _ _ _ (@u1 _ _ hr.units) (dv 1) (dv 4) (fun _ _ => rfl)) (@pa_cons _ _ _ _ _ (@e_call _ _ _ _ _ _ _ _ _ _ _ c_game_share hr (by decide) (by rfl) (@pa_cons _ _ _ _ _ (dv 0) (@pa_cons _ _ _ _ _ (dv 4) (@pa_cons _ _ _ _ _ (dv 2) pa_nil (by rfl)) (by rfl)) (by rfl)) (by decide) (by rfl) (by rfl)) pa_nil (by rfl)) (by rfl)) (by decide) (by rfl) (by rfl)) pa_nil (by rfl)) (by rfl)) (by decide) (by rfl) (by rfl)) (by rfl) (by first | exact .inl rfl | exact .inr rfl | assumption))) (by intro _; rfl)) (@pss_one _ _ _ (@ps_ret _ _ _ _ (dv 3))))), ?_⟩
    have wx := (hW.2 x List.mem_cons_self).1
    have wl : ∀ y ∈ l, 1 ≤ w y := fun y hy => (hW.2 y (List.mem_cons_of_mem _ hy)).1
    refine fun P0 H0 s0 e0 => ?_
    have le1 : ∀ m : List Str, (∀ y ∈ m, y ∈ l) → sR (fun y => F y * g2 w x y) m ≤ sR F m ∧ 0 ≤ sR (fun y => F y * g2 w x y) m := fun m hm => by
      refine ⟨sR_le fun y hy => ?_, sR_nn fun y hy => ?_⟩
      · have a := F0 y (hm y hy)
        have b := (g2_pos wx (wl y (hm y hy))).2.1
        have := Rat.mul_le_mul_of_nonneg_left (Rat.le_of_lt b) a
        grind
      · exact Rat.mul_nonneg (F0 y (hm y hy)) (Rat.le_of_lt (g2_pos wx (wl y (hm y hy))).1)
    have kt0 := kt_of s0
    refine ⟨O, o, _, l, rfl, s0 _ _ hO, kvV_keys, ?_⟩
    refine for_keys kvV_keys (fun i σ H' => ∃ (p : Addr) (o4 : Option V), σ = [some (.str x), some (.ref O), some (.ref W), some (.ref p), o4] ∧ Same H H' ∧ FQ H' p (sR (fun y => F y * g2 w x y) (l.take i))) ⟨P0, none, rfl, s0, (0, 1), e0, ⟨0, 1, by decide, by decide, rq_zero'⟩, ⟨by decide, by decide⟩, bd_lit rfl, bd_lit rfl⟩ (fun i σ H' ⟨p, o4, _, s1, _⟩ => s1 _ _ hO) ?_ ?_
    · rintro i y σ H1 hy ⟨p, o4, rfl, s1, q1, eq1, lq1, ⟨pq1, pq1'⟩, bq1, bq1'⟩
      have my := List.mem_of_getElem? hy
      obtain ⟨py, ey, qy, eqy, lqy, ⟨pqy, pqy'⟩, bqy, bqy'⟩ := hf y my
      have rO : Rd H1 O (.dK (kvV l f)) := .inr ⟨o, s1 _ _ hO⟩
      have gy : DGet H1 O (.str y) (some (.ref py)) := by
        have := dget_r' (k := Sum.inr y) rO
        rw [kvV_val my, ey] at this
        exact this
      have eqy := s1 _ _ eqy
      refine ⟨O, _, rfl, gy, w, (hW.up s1).sub (fun z hz => ?_), fun ps qs H2 s2 es ls ⟨pss, pss'⟩ bs bs' => ?_⟩
      · rcases List.mem_cons.mp hz with rfl | hz
        · exact List.mem_cons_self
        · rw [List.mem_singleton.mp hz]
          exact List.mem_cons_of_mem _ my
      refine ⟨qy, qs, ⟨⟨s2 _ _ eqy, pqy, bqy.mono (by decide), bqy'.mono (by decide)⟩, ⟨es, pss, bs.mono (by decide), bs'.mono (by decide)⟩⟩, fun pt H3 s3 ft => ?_⟩
      have pb : 0 < qy.2 * qs.2 := Int.mul_pos pqy pss
      obtain ⟨qt, et, lt, eqt⟩ := fr_lq pb ft
      have bt : Bd 412 qt.1 := by rw [eqt]; exact bd_lowT (bqy.mul bs)
      have bt' : Bd 412 qt.2 := by rw [eqt]; exact bd_lowB (bqy'.mul bs')
      have pt' : 0 < qt.2 := by rw [eqt]; exact lowB_pos _ pb
      have vt : rq (qy.1 * qs.1) (qy.2 * qs.2) = F y * g2 w x y := by
        rw [← rq_times pqy pss, lq_rq lqy, lq_rq ls]
      rw [vt] at lt
      refine ⟨q1, qt, ⟨⟨(s2.trans s3) _ _ eq1, pq1, bq1.mono (by decide), bq1'.mono (by decide)⟩, ⟨et, pt', bt.mono (by decide), bt'.mono (by decide)⟩⟩, fun pw H4 s4 fw => ?_⟩
      obtain ⟨qw, ew, lw, _⟩ := fr_lq (Int.mul_pos pq1 pt') fw
      rw [rq_add pq1 pt', lq_rq lq1, lq_rq lt] at lw
      have tk : l.take (i + 1) = l.take i ++ [y] := by rw [List.take_add_one, hy]; rfl
      have es : sR (fun y => F y * g2 w x y) (l.take (i + 1)) = sR (fun y => F y * g2 w x y) (l.take i) + F y * g2 w x y := by
        rw [tk, sR_app]
        show _ + (F y * g2 w x y + 0) = _
        grind
      rw [← es] at lw
      have sub : ∀ z ∈ l.take (i + 1), z ∈ l := fun z hz => List.mem_of_mem_take hz
      obtain ⟨a1, a2⟩ := le1 _ sub
      have a3 : sR F (l.take (i + 1)) ≤ sR F l := by
        have e : sR F l = sR F (l.take (i + 1)) + sR F (l.drop (i + 1)) := by rw [← sR_app, List.take_append_drop]
        have := sR_nn (f := F) (l := l.drop (i + 1)) fun z hz => F0 z (List.mem_of_mem_drop hz)
        rw [e]
        grind
      obtain ⟨kk, ek⟩ := den_sum (w := w) (x := x) (f := F) pN wx (l := l.take (i + 1)) (fun z hz => wl z (sub z hz)) fun z hz => hN z (sub z hz)
      have pp : 0 < pr (fun o => w x + w o) (l.take (i + 1)) := pr_pos fun z hz => by
        have := wl z (sub z hz)
        omega
      have bp : Bd (11 * (l.take (i + 1)).length + 1) (pr (fun o => w x + w o) (l.take (i + 1))) := pr_bd fun z hz => by
        have := hW.2 x List.mem_cons_self
        have := hW.2 z (List.mem_cons_of_mem _ (sub z hz))
        exact bd_of (b := 1998) (by omega) (by omega) (bd_lit rfl)
      have ll : (l.take (i + 1)).length ≤ 8 := by rw [List.length_take]; omega
      obtain ⟨c1, c2, c3⟩ := lq_bd lw a2 (by grind) (Int.mul_pos pN pp) ((bN.mul bp).mono (show _ ≤ 400 by omega)) ek
      exact ⟨pw, _, rfl, s1.trans (s2.trans (s3.trans s4)), qw, ew, lw, c1, c2, c3⟩
    rintro σ H1 ⟨p, o4, rfl, s1, q1⟩
    rw [List.take_length] at q1
    exact k p H1 s1 q1
def NP (G : Str → Rat) (H : Hp) (x : Str) (y : V) : Prop := ∃ p pq, y = .ref p ∧ H p = some (.tup [.str x, .ref pq]) ∧ FQ H pq (G x)
theorem np_up {G : Str → Rat} (x : Str) (y : V) (H H' : Hp) (k : Kt H H') (h : NP G H x y) : NP G H' x y := by
  obtain ⟨p, pq, e, h1, h2⟩ := h
  exact ⟨p, pq, e, k _ _ h1, fq_up' k h2⟩
theorem np_fun {G : Str → Rat} {H : Hp} : ∀ {l : List Str} {ys : List V}, All2 (NP G H) l ys → l.Nodup → ∃ f : Str → V, Paired (fun v (kv : Key × V) => ∃ p, v = V.ref p ∧ H p = some (.tup [kV kv.1, kv.2])) ys (kvV l f) ∧ ∀ x ∈ l, ∃ p, f x = .ref p ∧ FQ H p (G x)
  | _, _, .nil, _ => ⟨fun _ => .non, .nil, fun x h => by simp at h⟩
  | _, _, .cons (a := x) (l := l) ⟨p, pq, e, h1, h2⟩ t, nd => by
    obtain ⟨nx, nl⟩ := List.nodup_cons.mp nd
    obtain ⟨f, hp, hf⟩ := np_fun t nl
    refine ⟨fun z => if z = x then .ref pq else f z, ?_, fun z hz => ?_⟩
    · have e2 : kvV l (fun z => if z = x then .ref pq else f z) = kvV l f := by
        unfold kvV
        refine List.map_congr_left fun z hz => ?_
        have ne : ¬ z = x := fun c => nx (by rw [← c]; exact hz)
        show (Sum.inr z, if z = x then V.ref pq else f z) = (Sum.inr z, f z)
        rw [if_neg ne]
      have e3 : kvV (x :: l) (fun z => if z = x then .ref pq else f z) = (Sum.inr x, .ref pq) :: kvV l f := by
        rw [← e2]
        show (Sum.inr x, if x = x then V.ref pq else f x) :: _ = _
        rw [if_pos rfl]
        rfl
      rw [e3]
      exact .cons ⟨p, e, h1⟩ hp
    · by_cases c : z = x
      · subst c
        exact ⟨pq, if_pos rfl, h2⟩
      · obtain ⟨p', h3, h4⟩ := hf z ((List.mem_cons.mp hz).resolve_left c)
        exact ⟨p', (if_neg c).trans h3, h4⟩
def sp_passed (K : PySem.W.Frag) (ns : List Int) : Sp := fun vs H Q _ => match vs with
  | [.ref A, .ref B, .ref W] => ∃ (la lb : List Str) (w : Str → Int) (FA FB : Str → Rat) (fa fb : Str → V) (oa ob : Obj) (N R : Int), (H A = some (.frz oa (.dK (kvV la fa))) ∧ H B = some (.frz ob (.dK (kvV lb fb))) ∧ (∀ y ∈ la, ∃ p, fa y = .ref p ∧ FQ H p (FA y)) ∧ (∀ y ∈ lb, ∃ p, fb y = .ref p ∧ FQ H p (FB y)) ∧ WA H W (la ++ lb) w ∧ la.length ≤ 8 ∧ lb.length ≤ 8 ∧ la.Nodup) ∧
    (0 < N ∧ Bd 300 N ∧ (∀ y ∈ lb, ∃ k : Int, FB y = rq k N) ∧ (∀ y ∈ lb, 0 ≤ FB y) ∧ sR FB lb ≤ 1) ∧ (0 < R ∧ Bd 400 R ∧ ∀ y ∈ la, 0 ≤ FA y * sR (fun o => FB o * g2 w y o) lb ∧ FA y * sR (fun o => FB o * g2 w y o) lb ≤ 1 ∧ ∃ k : Int, FA y * sR (fun o => FB o * g2 w y o) lb = rq k R) ∧
    ∀ D f H', Same H H' → H D = none → H' D = some (.dK (kvV la f)) → (∀ y ∈ la, ∃ p, f y = .ref p ∧ FQ H' p (FA y * sR (fun o => FB o * g2 w y o) lb)) → Q (.ref D) H'
  | _ => False
theorem sc_passed : FnScope ["own", "others", "worths"] ["own", "others", "worths"] (defScope s_passed) := ⟨rfl, rfl, rfl, by decide +kernel, rfl, by decide +kernel, by decide +kernel⟩
theorem inv_passed {vs : List V} {H : Hp} {Q : VK} {E : XK} (h : sp_passed K ns vs H Q E) : ∃ A B W, vs = [.ref A, .ref B, .ref W] := by
  first
  | (obtain ⟨v0, r0, rfl⟩ := gCons (S := fun l => sp_passed K ns (l) H Q E) h id; obtain ⟨w0, rfl⟩ := gRef (S := fun v => sp_passed K ns (v :: r0) H Q E) h (fun _ => id) (fun _ => id) id (fun _ => id) (fun _ => id) (fun _ => id) (fun _ => id); obtain ⟨v1, r1, rfl⟩ := gCons (S := fun l => sp_passed K ns (.ref w0 :: l) H Q E) h id; obtain ⟨w1, rfl⟩ := gRef (S := fun v => sp_passed K ns (.ref w0 :: v :: r1) H Q E) h (fun _ => id) (fun _ => id) id (fun _ => id) (fun _ => id) (fun _ => id) (fun _ => id); obtain ⟨v2, r2, rfl⟩ := gCons (S := fun l => sp_passed K ns (.ref w0 :: .ref w1 :: l) H Q E) h id; obtain ⟨w2, rfl⟩ := gRef (S := fun v => sp_passed K ns (.ref w0 :: .ref w1 :: v :: r2) H Q E) h (fun _ => id) (fun _ => id) id (fun _ => id) (fun _ => id) (fun _ => id) (fun _ => id); obtain rfl := gNil (S := fun l => sp_passed K ns (.ref w0 :: .ref w1 :: .ref w2 :: l) H Q E) h fun _ _ => id; exact ⟨_, _, _, rfl⟩)
  | (match vs, h with
    | [.ref A, .ref B, .ref W], _ => exact ⟨_, _, _, rfl⟩)
theorem ok_passed (d : Dfn K mg "passed" s_passed ["own", "others", "worths"]) (er : Errs K mg c_LadderError c_NoBook c_NoFit c_NoGame c_NoNumber c_NoPlayer c_NoRow c_NoStretch c_NoTable c_NoTree c_NoWorth) (n_dict : mg "dict" = none)  (c_times : Cal P w K mg base "times" ["one", "other"] 3 (sp_times K ns)) (c_win_over : Cal P w K mg base "win_over" ["name", "others", "worths"] 5 (sp_win_over K ns)) : Cal P w K mg base "passed" ["own", "others", "worths"] 6 (sp_passed K ns) := by
  refine d.cal (k := 5) sc_passed (fun vs H Q E h => ?_) (fun f cdv A outer s H vs Q E hr h => ?_)
  · obtain ⟨A, B, W, rfl⟩ := inv_passed h
    rfl
  · obtain ⟨A, B, W, rfl⟩ := inv_passed h
    obtain ⟨la, lb, w, FA, FB, fa, fb, oa, ob, N, R, ⟨hA, hB, ha, hb, hW, l8, l8', nda⟩, ⟨pN, bN, dN, F0, F1⟩, ⟨pR, bR, hR⟩, k⟩ := h
    refine ⟨_, (@pss_one _ _ _ (@ps_ret _ _ _ _ (@pe_callTy _ _ _ _ _ _ _ _ _ (@c_dictL _ rfl) (by rfl) n_dict (by decide +kernel) (@pa_cons _ _ _ _ _ (@e_compN _ _ _ _ _ _ _ _ _ _ ["name"] ["own", "others", "worths"] [0, 1, 2] rfl (@pi_keysF _ _ _ _ (dv 0)) (fun C s H fp => (@pg_name _ _ (0) _ (show List.Nodup [("name" : Str), ("own" : Str), ("others" : Str), ("worths" : Str)] by decide +kernel) rfl (by first | exact Or.inl rfl | exact Or.inr rfl) (by first | exact .inl rfl | exact .inr rfl | assumption))) (fun C s H fp => (@e_tup _ _ _ _ _ (@pa_cons _ _ _ _ _ (dv 0) (@pa_cons _ _ _ _ _ (@e_call _ _ _ _ _ _ _ _ _ _ _ c_times hr (by decide) (by rfl) (@pa_cons _ _ _ _ _ (@pe_dget _ _ _ _ _ _ (@u1 _ _ hr.units) (dv 1) (dv 0) (fun _ _ => rfl)) (@pa_cons _ _ _ _ _ (@e_call _ _ _ _ _ _ _ _ _ _ _ c_win_over hr (by decide) (by rfl) (@pa_cons _ _ _ _ _ (dv 0) (@pa_cons _ _ _ _ _ (dv 2) (@pa_cons _ _ _ _ _ (dv 3) pa_nil (by rfl)) (by rfl)) (by rfl)) (by decide) (by rfl) (by rfl)) pa_nil (by rfl)) (by rfl)) (by decide) (by rfl) (by rfl)) pa_nil (by rfl)) (by rfl)))) rfl rfl (by decide +kernel) (by decide +kernel) (by rfl) ⟨rfl, ⟨rfl, ⟨rfl, True.intro⟩⟩⟩ ⟨⟨rfl, rfl, rfl, rfl⟩, ⟨⟨rfl, rfl, rfl, rfl⟩, ⟨⟨rfl, rfl, rfl, rfl⟩, True.intro⟩⟩⟩ (by intro _; rfl)) pa_nil (by rfl)) (by decide) (by decide) (by rfl) (by rfl)))), ?_⟩
    refine ⟨A, oa, _, la, rfl, hA, kvV_keys, ?_⟩
    refine comp_keys (NP fun y => FA y * sR (fun o => FB o * g2 w y o) lb) np_up (by omega) hA kvV_keys ?_ ?_
    · intro x H2 hx s2 P hP
      obtain ⟨px, ex, qx, eqx, lqx, ⟨pqx, pqx'⟩, bqx, bqx'⟩ := ha x hx
      have rA : Rd H2 A (.dK (kvV la fa)) := .inr ⟨oa, s2 _ _ hA⟩
      have gx : DGet H2 A (.str x) (some (.ref px)) := by
        have := dget_r' (k := Sum.inr x) rA
        rw [kvV_val hx, ex] at this
        exact this
      refine ⟨rfl, A, _, rfl, gx, lb, w, FB, fb, ob, N, ⟨s2 _ _ hB, fun y hy => ?_, (hW.up s2).sub fun z hz => ?_, l8'⟩, ⟨pN, bN, dN, F0, F1⟩, fun pw H3 s3 ⟨qw, ew, lw, ⟨pqw, pqw'⟩, bqw, bqw'⟩ => ?_⟩
      · obtain ⟨p, h1, h2⟩ := hb y hy
        exact ⟨p, h1, fq_up' (kt_of s2) h2⟩
      · rcases List.mem_cons.mp hz with rfl | hz
        · exact List.mem_append_left _ hx
        · exact List.mem_append_right _ hz
      refine ⟨qx, qw, ⟨⟨(s2.trans s3) _ _ eqx, pqx, bqx.mono (by decide), bqx'.mono (by decide)⟩, ⟨ew, pqw, bqw.mono (by decide), bqw'.mono (by decide)⟩⟩, fun pt H4 s4 ft => ?_⟩
      obtain ⟨qt, et, lt, _⟩ := fr_lq (Int.mul_pos pqx pqw) ft
      rw [← rq_times pqx pqw, lq_rq lqx, lq_rq lw] at lt
      obtain ⟨r0, r1, kk, ek⟩ := hR x hx
      obtain ⟨c1, c2, c3⟩ := lq_bd lt r0 r1 pR bR ek
      refine fun T H5 s5 e5 => hP _ _ (s3.trans (s4.trans s5)) ⟨T, pt, rfl, e5, qt, s5 _ _ et, lt, c1, c2, c3⟩
    intro D0 H2 ys s2 _ e2 a2
    obtain ⟨f, hp, hf⟩ := np_fun a2 nda
    have kl : (kvV la f).length = la.length := by unfold kvV; rw [List.length_map]
    refine ⟨ys, kvV la f, SqL.of e2, hp, ?_, by rw [kl]; omega, fun D hD => ?_⟩
    · rw [kvV_keys]
      exact List.pairwise_map.mpr (List.Pairwise.imp (fun n e => n (Sum.inr.inj e)) nda)
    have s3 : Same H2 (upd H2 D (.dK (kvV la f))) := same_upd hD
    refine k D f _ (s2.trans s3) (none_back s2 hD) upd_same fun y hy => ?_
    obtain ⟨p, h1, h2⟩ := hf y hy
    exact ⟨p, h1, fq_up' (kt_of s3) h2⟩
theorem sR_one {f : Str → Rat} {x : Str} : ∀ {l : List Str}, (∀ y ∈ l, 0 ≤ f y) → x ∈ l → f x ≤ sR f l
  | y :: l, h, hx => by
    have a := h y List.mem_cons_self
    have b := sR_nn fun z hz => h z (List.mem_cons_of_mem _ hz)
    show f x ≤ f y + sR f l
    rcases List.mem_cons.mp hx with rfl | hx
    · grind
    · have := sR_one (fun z hz => h z (List.mem_cons_of_mem _ hz)) hx
      grind
theorem sh_le {w : Str → Int} {t : Tr} (nd : (lv t).Nodup) (h : Wk w (lv t)) {x : Str} (hx : x ∈ lv t) : 0 ≤ sh w t x ∧ sh w t x ≤ 1 := by
  have p := fun y hy => Rat.le_of_lt (sh_pos h y hy)
  refine ⟨p x hx, ?_⟩
  rw [← sh_one nd h]
  exact sR_one p hx
theorem sh_sum {w : Str → Int} {t : Tr} (nd : (lv t).Nodup) (h : Wk w (lv t)) : sR (sh w t) (lv t) ≤ 1 := by
  rw [sh_one nd h]
  exact Rat.le_refl
theorem prs_lt {t : Tr} (h : (lv t).length ≤ 7) : 13 * prs t + (lv t).length ≤ 300 := by
  have e := prs_eq t
  generalize (lv t).length = n at *
  have : n * n ≤ 7 * 7 := Nat.mul_le_mul h h
  have e7 : n ≤ 6 → n * n ≤ 6 * 6 := fun h => Nat.mul_le_mul h h
  by_cases h6 : n ≤ 6
  · have := e7 h6
    omega
  · have : n = 7 := by omega
    subst this
    omega
theorem mg_kv {f1 f2 : Str → V} : ∀ {lb la : List Str}, (la ++ lb).Nodup → mgV (kvV la f1) (kvV lb f2) = kvV (la ++ lb) fun y => if y ∈ la then f1 y else f2 y
  | [], la, _ => by
    show kvV la f1 = _
    rw [List.append_nil]
    unfold kvV
    refine List.map_congr_left fun z hz => ?_
    show _ = (Sum.inr z, if z ∈ la then f1 z else f2 z)
    rw [if_pos hz]
  | b :: lb, la, nd => by
    have nb : b ∉ la := fun c => (List.nodup_append.mp nd).2.2 b c b List.mem_cons_self rfl
    show mgV (putK (kvV la f1) (Sum.inr b) (f2 b)) (kvV lb f2) = _
    rw [kvV_new nb]
    have nd' : ((la ++ [b]) ++ lb).Nodup := by rw [List.append_assoc]; exact nd
    rw [mg_kv nd', List.append_assoc]
    show kvV (la ++ b :: lb) _ = kvV (la ++ b :: lb) _
    unfold kvV
    refine List.map_congr_left fun z hz => ?_
    show (Sum.inr z, if z ∈ la ++ [b] then (if z = b then f2 b else f1 z) else f2 z) = (Sum.inr z, if z ∈ la then f1 z else f2 z)
    by_cases c1 : z ∈ la
    · have ne : ¬ z = b := fun c => nb (by rw [← c]; exact c1)
      rw [if_pos (List.mem_append_left _ c1), if_neg ne, if_pos c1]
    · by_cases c2 : z = b
      · rw [if_pos (by rw [c2]; simp), if_pos c2, if_neg c1, c2]
      · have n3 : ¬ z ∈ la ++ [b] := fun h => by
          rcases List.mem_append.mp h with h | h
          · exact c1 h
          · exact c2 (List.mem_singleton.mp h)
        rw [if_neg n3, if_neg c1]
theorem a2_strs64 : ∀ (l : List Str), All2 (fun v m => v = V.str m) (l.map V.str) l
  | [] => .nil
  | _ :: l => .cons rfl (a2_strs64 l)
def spR_shares_of : Nat → PySem.W.Frag → List Int → Sp
  | 0, _, _ => fun _ _ _ _ => False
  | d + 1, K, ns => fun vs H Q _ => match vs with
    | [v, .ref W] => ∃ (t : Tr) (w : Str → Int), (TrAt H t v ∧ TOk t ∧ WA H W (lv t) w ∧ (lv t).length ≤ d + 1) ∧ ∀ D f H', Same H H' → H D = none → H' D = some (.dK (kvV (lv t) f)) → (∀ x ∈ lv t, ∃ p, f x = .ref p ∧ FQ H' p (sh w t x)) → Q (.ref D) H'
    | _ => False
def sp_shares_of (K : PySem.W.Frag) (ns : List Int) : Sp := spR_shares_of 8 K ns
theorem sc_shares_of : FnScope ["tree", "worths", "left", "right", "shares"] ["tree", "worths"] (defScope s_shares_of) := ⟨rfl, rfl, rfl, by decide +kernel, rfl, by decide +kernel, by decide +kernel⟩
theorem okS_shares_of (d : Dfn K mg "shares_of" s_shares_of ["tree", "worths"]) (er : Errs K mg c_LadderError c_NoBook c_NoFit c_NoGame c_NoNumber c_NoPlayer c_NoRow c_NoStretch c_NoTable c_NoTree c_NoWorth) (n_isinstance : mg "isinstance" = none) (n_str : mg "str" = none)  (c_passed : Cal P w K mg base "passed" ["own", "others", "worths"] 6 (sp_passed K ns))  (dd : Nat) (c_shares_of : Cal P w K mg base "shares_of" ["tree", "worths"] (7 + dd) (spR_shares_of dd K ns)) : Cal P w K mg base "shares_of" ["tree", "worths"] (7 + (dd + 1)) (spR_shares_of (dd + 1) K ns) := by
  refine d.cal (k := 7 + dd) sc_shares_of (fun vs H Q E h => ?_) (fun f cdv A outer s H vs Q E hr h => ?_)
  · match vs, h with
    | [v, .ref W], _ => rfl
  · match vs, h with
    | [v, .ref W], ⟨t, w, ⟨hT, ok, hW, ld⟩, k⟩ =>
      refine ⟨_, (@pss_cons _ _ _ _ _ (@s_if _ _ _ _ _ _ _ _ (@t_val _ _ _ (@pe_callB _ _ _ _ _ _ _ _ _ c_isi (by rfl) n_isinstance (by decide +kernel) (@pa_cons _ _ _ _ _ (dv 0) (@pa_cons _ _ _ _ _ (e_ty "str" (by rfl) n_str (by decide +kernel)) pa_nil (by rfl)) (by rfl)) (by decide) (by decide) (by rfl) (by rfl)) (by intro _; rfl)) (@pss_one _ _ _ (@ps_ret _ _ _ _ (@pe_disp _ _ _ _ _ (@pps_cons _ _ _ _ _ _ _ _ _ (dv 0) (@e_tup _ _ _ _ _ (@pa_cons _ _ _ _ _ pe_int (@pa_cons _ _ _ _ _ pe_int pa_nil (by rfl)) (by rfl))) pps_nil) rfl rfl (by simp) (by decide)))) pss_nil) (@pss_cons _ _ _ _ _ (@ps_set _ _ (2) _ _ _ _ sc_shares_of.nd rfl (by first | exact Or.inl rfl | exact Or.inr rfl) (@e_call _ _ _ _ _ _ _ _ _ _ _ c_shares_of hr (by omega) (by rfl) (@pa_cons _ _ _ _ _ (@pe_ix _ _ _ _ _ _ _ i_tup (dv 0) pe_int (fun _ _ => rfl)) (@pa_cons _ _ _ _ _ (dv 1) pa_nil (by rfl)) (by rfl)) (by decide) (by rfl) (by rfl)) (by rfl) (by first | exact .inl rfl | exact .inr rfl | assumption)) (@pss_cons _ _ _ _ _ (@ps_set _ _ (3) _ _ _ _ sc_shares_of.nd rfl (by first | exact Or.inl rfl | exact Or.inr rfl) (@e_call _ _ _ _ _ _ _ _ _ _ _ c_shares_of hr (by omega) (by rfl) (@pa_cons _ _ _ _ _ (@pe_ix _ _ _ _ _ _ _ i_tup (dv 0) pe_int (fun _ _ => rfl)) (@pa_cons _ _ _ _ _ (dv 1) pa_nil (by rfl)) (by rfl)) (by decide) (by rfl) (by rfl)) (by rfl) (by first | exact .inl rfl | exact .inr rfl | assumption)) (@ss_frz _ _ _ (@ss_frz _ _ _ (@pss_cons _ _ _ _ _ (@ps_set _ _ (4) _ _ _ _ sc_shares_of.nd rfl (by first | exact Or.inl rfl | exact Or.inr rfl) (@e_call _ _ _ _ _ _ _ _ _ _ _ c_passed hr (by omega) (by rfl) (@pa_cons _ _ _ _ _ (dv 2) (@pa_cons _ _ _ _ _ (dv 3) (@pa_cons _ _ _ _ _ (dv 1) pa_nil (by rfl)) (by rfl)) (by rfl)) (by decide) (by rfl) (by rfl)) (by rfl) (by first | exact .inl rfl | exact .inr rfl | assumption)) (@pss_cons _ _ _ _ _ (@ps_expr _ _ _ _ (@pe_dupd _ _ _ _ _ _ _ (dv 4) (@e_call _ _ _ _ _ _ _ _ _ _ _ c_passed hr (by omega) (by rfl) (@pa_cons _ _ _ _ _ (dv 3) (@pa_cons _ _ _ _ _ (dv 2) (@pa_cons _ _ _ _ _ (dv 1) pa_nil (by rfl)) (by rfl)) (by rfl)) (by decide) (by rfl) (by rfl)) ⟨by rfl, by rfl, by rfl, by rfl⟩) (by rfl)) (@pss_one _ _ _ (@ps_ret _ _ _ _ (dv 4)))))))))), ?_⟩
      cases t with
      | leaf s =>
        have hT : v = .str s := hT
        subst hT
        refine ⟨true, rfl, ⟨fun _ => ?_, fun h => nb h⟩⟩
        refine fun p0 hp0 => fun T H2 s2 e2 => ⟨s2 _ _ upd_same, [(Sum.inr s, .ref T)], rfl, (by show 1 ≤ 15; decide), ?_⟩
        have sp : Same H (upd H p0 (.dK [])) := same_upd hp0
        have ep : H2 p0 = some (.dK []) := s2 _ _ upd_same
        have k5 : Kt H2 (upd H2 p0 (.dK (kvV [s] fun _ => .ref T))) := fun q xs e => by
          have q1 : q ≠ p0 := fun c => by
            rw [c, ep] at e
            cases e
          rw [upd_ne q1]
          exact e
        refine k p0 (fun _ => .ref T) (upd H2 p0 (.dK (kvV [s] fun _ => .ref T))) (same_app' (sp.trans s2) hp0) hp0 upd_same fun x hx => ⟨T, rfl, (1, 1), k5 _ _ e2, ⟨1, 1, by decide, by decide, ?_⟩, ⟨by decide, by decide⟩, bd_lit rfl, bd_lit rfl⟩
        show ((1 : Int) : Rat) / ((1 : Int) : Rat) = 1
        simp
        grind
      | node l r =>
        obtain ⟨p, a, b, rfl, ep, ra, rb⟩ := hT
        have hl := lv_pos l
        have hr' := lv_pos r
        have ld : (lv l ++ lv r).length ≤ dd + 1 := ld
        have l8 : (lv l ++ lv r).length ≤ 8 := ok.len
        rw [List.length_append] at ld l8
        have nd : (lv l ++ lv r).Nodup := ok.nd
        have hW : WA H W (lv l ++ lv r) w := hW
        cases dd with
        | zero => omega
        | succ d' =>
          refine ⟨_, false, "tuple", ep, rfl, rfl, ⟨fun h => nb h, fun _ => ?_⟩⟩
          refine ⟨_, ep, l, w, ⟨ra, ok.left, hW.sub fun z hz => List.mem_append_left _ hz, by omega⟩, fun D1 f1 H1 s1 n1 e1 a1 => ?_⟩
          refine ⟨_, s1 _ _ ep, r, w, ⟨tr_up (kt_of s1) _ _ rb, ok.right, (hW.up s1).sub fun z hz => List.mem_append_right _ hz, by omega⟩, fun D2 f2 H2 s2 n2 e2 a2 => ?_⟩
          have n20 := none_back s1 n2
          have e1' := s2 _ _ e1
          have ne12 : D1 ≠ D2 := fun c => by rw [c, n2] at e1; cases e1
          refine ⟨D1, _, e1', fun o1 => ⟨D2, _, by rw [upd_ne (Ne.symm ne12)]; exact e2, fun o2 => ?_⟩⟩
          have sB : Same H (upd (upd H2 D1 (.frz o1 (.dK (kvV (lv l) f1)))) D2 (.frz o2 (.dK (kvV (lv r) f2)))) := same_app' (same_app' (s1.trans s2) n1) n20
          have kB : Kt H2 (upd (upd H2 D1 (.frz o1 (.dK (kvV (lv l) f1)))) D2 (.frz o2 (.dK (kvV (lv r) f2)))) := fun q xs e => by
            have q2 : q ≠ D2 := fun c => by
              rw [c, e2] at e
              cases e
            have q1 : q ≠ D1 := fun c => by
              rw [c, e1'] at e
              cases e
            rw [upd_ne q2, upd_ne q1]
            exact e
          have b1 : upd (upd H2 D1 (.frz o1 (.dK (kvV (lv l) f1)))) D2 (.frz o2 (.dK (kvV (lv r) f2))) D1 = some (.frz o1 (.dK (kvV (lv l) f1))) := by rw [upd_ne ne12, upd_same]
          have b2 : upd (upd H2 D1 (.frz o1 (.dK (kvV (lv l) f1)))) D2 (.frz o2 (.dK (kvV (lv r) f2))) D2 = some (.frz o2 (.dK (kvV (lv r) f2))) := upd_same
          have c1 : ∀ x ∈ lv l, ∃ p, f1 x = .ref p ∧ FQ (upd (upd H2 D1 (.frz o1 (.dK (kvV (lv l) f1)))) D2 (.frz o2 (.dK (kvV (lv r) f2)))) p (sh w l x) := fun x hx => by
            obtain ⟨p, h1, h2⟩ := a1 x hx
            exact ⟨p, h1, fq_up' kB (fq_up' (kt_of s2) h2)⟩
          have c2 : ∀ x ∈ lv r, ∃ p, f2 x = .ref p ∧ FQ (upd (upd H2 D1 (.frz o1 (.dK (kvV (lv l) f1)))) D2 (.frz o2 (.dK (kvV (lv r) f2)))) p (sh w r x) := fun x hx => by
            obtain ⟨p, h1, h2⟩ := a2 x hx
            exact ⟨p, h1, fq_up' kB h2⟩
          generalize upd (upd H2 D1 (.frz o1 (.dK (kvV (lv l) f1)))) D2 (.frz o2 (.dK (kvV (lv r) f2))) = B at sB b1 b2 c1 c2
          clear kB a1 a2 e1 e1' e2 s1 s2 n2
          obtain ⟨na, nb', nab⟩ := List.nodup_append.mp nd
          have wl : Wk w (lv l) := fun y hy => hW.2 y (List.mem_append_left _ hy)
          have wr : Wk w (lv r) := fun y hy => hW.2 y (List.mem_append_right _ hy)
          obtain ⟨Nl, pl, bl, dl⟩ := sh_den na wl
          obtain ⟨Nr, pr', br, dr⟩ := sh_den nb' wr
          obtain ⟨Nt, pt, bt, dt⟩ := sh_den (t := .node l r) nd hW.2
          have bl := bl.mono (prs_lt (t := l) (by omega))
          have br := br.mono (prs_lt (t := r) (by omega))
          have bt : Bd 400 Nt := bt.mono (by
            have := prs_le (t := .node l r) ok.len
            have := ok.len
            omega)
          have vl : ∀ y ∈ lv l, sh w l y * sR (fun o => sh w r o * g2 w y o) (lv r) = sh w (.node l r) y := fun y hy => (if_pos hy).symm
          have vr : ∀ y ∈ lv r, sh w r y * sR (fun o => sh w l o * g2 w y o) (lv l) = sh w (.node l r) y := fun y hy => (if_neg fun c => nab y c y hy rfl).symm
          have tl : ∀ y ∈ lv l, y ∈ lv (.node l r) := fun y hy => List.mem_append_left _ hy
          have tr' : ∀ y ∈ lv r, y ∈ lv (.node l r) := fun y hy => List.mem_append_right _ hy
          refine ⟨lv l, lv r, w, sh w l, sh w r, f1, f2, o1, o2, Nr, Nt, ⟨b1, b2, c1, c2, hW.up sB, by omega, by omega, na⟩, ⟨pr', br, dr, fun y hy => (sh_le nb' wr hy).1, sh_sum nb' wr⟩, ⟨pt, bt, fun y hy => ?_⟩, fun D3 f3 H3 s3 n3 e3 a3 => ?_⟩
          · rw [vl y hy]
            exact ⟨(sh_le (t := .node l r) nd hW.2 (tl y hy)).1, (sh_le (t := .node l r) nd hW.2 (tl y hy)).2, dt y (tl y hy)⟩
          have k3 := kt_of s3
          have hW' : WA H3 W (lv r ++ lv l) w := (hW.up (sB.trans s3)).sub fun z hz => by
            rcases List.mem_append.mp hz with h | h
            · exact List.mem_append_right _ h
            · exact List.mem_append_left _ h
          refine ⟨D3, rfl, .inl ⟨_, .inl e3⟩, lv r, lv l, w, sh w r, sh w l, f2, f1, o2, o1, Nl, Nt, ⟨s3 _ _ b2, s3 _ _ b1, fun x hx => ?_, fun x hx => ?_, hW', by omega, by omega, nb'⟩, ⟨pl, bl, dl, fun y hy => (sh_le na wl hy).1, sh_sum na wl⟩, ⟨pt, bt, fun y hy => ?_⟩, fun D4 f4 H4 s4 n4 e4 a4 => ?_⟩
          · obtain ⟨p, h1, h2⟩ := c2 x hx
            exact ⟨p, h1, fq_up' k3 h2⟩
          · obtain ⟨p, h1, h2⟩ := c1 x hx
            exact ⟨p, h1, fq_up' k3 h2⟩
          · rw [vr y hy]
            exact ⟨(sh_le (t := .node l r) nd hW.2 (tr' y hy)).1, (sh_le (t := .node l r) nd hW.2 (tr' y hy)).2, dt y (tr' y hy)⟩
          have ne34 : D3 ≠ D4 := fun c => by rw [c, n4] at e3; cases e3
          have lk : ∀ (m : List Str) (g : Str → V), (kvV m g).length = m.length := fun m g => by unfold kvV; rw [List.length_map]
          have e3' := s4 _ _ e3
          refine ⟨D4, _, _, rfl, ne34, e3', .inl e4, by rw [lk, lk]; omega, ?_⟩
          rw [mg_kv nd]
          have k5 : Kt H4 (upd H4 D3 (.dK (kvV (lv l ++ lv r) fun y => if y ∈ lv l then f3 y else f4 y))) := fun q xs e => by
            rw [upd_ne fun c => by rw [c, e3'] at e; cases e]
            exact e
          refine k D3 (fun y => if y ∈ lv l then f3 y else f4 y) _ (same_app' (sB.trans (s3.trans s4)) (none_back sB n3)) (none_back sB n3) upd_same fun y hy => ?_
          by_cases c : y ∈ lv l
          · obtain ⟨p, h1, h2⟩ := a3 y c
            refine ⟨p, (if_pos c).trans h1, ?_⟩
            rw [← vl y c]
            exact fq_up' k5 (fq_up' (kt_of s4) h2)
          · have cr : y ∈ lv r := (List.mem_append.mp hy).resolve_left c
            obtain ⟨p, h1, h2⟩ := a4 y cr
            refine ⟨p, (if_neg c).trans h1, ?_⟩
            rw [← vr y cr]
            exact fq_up' k5 h2
theorem okR_shares_of (d : Dfn K mg "shares_of" s_shares_of ["tree", "worths"]) (er : Errs K mg c_LadderError c_NoBook c_NoFit c_NoGame c_NoNumber c_NoPlayer c_NoRow c_NoStretch c_NoTable c_NoTree c_NoWorth) (n_isinstance : mg "isinstance" = none) (n_str : mg "str" = none)  (c_passed : Cal P w K mg base "passed" ["own", "others", "worths"] 6 (sp_passed K ns)) :  ∀ dd : Nat, Cal P w K mg base "shares_of" ["tree", "worths"] (7 + dd) (spR_shares_of dd K ns)
  | 0 => d.cal (k := 6) sc_shares_of (fun vs H Q E h => False.elim h) (fun f cdv A outer s H vs Q E hr h => False.elim h)
  | dd + 1 => okS_shares_of d er n_isinstance n_str c_passed dd (okR_shares_of d er n_isinstance n_str c_passed dd)
theorem ok_shares_of (d : Dfn K mg "shares_of" s_shares_of ["tree", "worths"]) (er : Errs K mg c_LadderError c_NoBook c_NoFit c_NoGame c_NoNumber c_NoPlayer c_NoRow c_NoStretch c_NoTable c_NoTree c_NoWorth) (n_isinstance : mg "isinstance" = none) (n_str : mg "str" = none)  (c_passed : Cal P w K mg base "passed" ["own", "others", "worths"] 6 (sp_passed K ns)) : Cal P w K mg base "shares_of" ["tree", "worths"] 15 (sp_shares_of K ns) := okR_shares_of d er n_isinstance n_str c_passed 8
abbrev Gs := List (Str × Str)
def bmp (c : Str → Nat) (x : Str) : Str → Nat := fun z => if z = x then c z + 1 else c z
def cnt (l : List Str) : Str → Nat := fun x => l.count x
theorem cnt_snoc (l : List Str) (x : Str) : cnt (l ++ [x]) = bmp (cnt l) x := by
  funext z
  unfold cnt bmp
  rw [List.count_append, List.count_singleton]
  by_cases h : z = x
  · simp [h]
  · have : (x == z) = false := by simpa using fun c => h c.symm
    simp [h, this]
abbrev Wy := List Str × Rat
def gon (w : Str → Int) (x y : Str) (m : Wy) : Wy := (m.1 ++ [x], m.2 * g2 w x y)
def stepW (w : Str → Int) (g : Str × Str) (ms : List Wy) : List Wy := ms.map (gon w g.1 g.2) ++ ms.map (gon w g.2 g.1)
def wys (w : Str → Int) : Gs → List Wy → List Wy
  | [], ms => ms
  | g :: gs, ms => wys w gs (stepW w g ms)
theorem wys_snoc {w : Str → Int} {g : Str × Str} : ∀ {gs : Gs} {ms : List Wy}, wys w (gs ++ [g]) ms = stepW w g (wys w gs ms)
  | [], _ => rfl
  | _ :: gs, ms => wys_snoc (gs := gs)
def Ev (w : Str → Int) : Gs → ((Str → Nat) → Rat) → (Str → Nat) → Rat
  | [], f, c => f c
  | g :: gs, f, c => g2 w g.1 g.2 * Ev w gs f (bmp c g.1) + g2 w g.2 g.1 * Ev w gs f (bmp c g.2)
def sW (f : (Str → Nat) → Rat) : List Wy → Rat
  | [] => 0
  | m :: ms => m.2 * f (cnt m.1) + sW f ms
theorem sW_app {f : (Str → Nat) → Rat} : ∀ {l m : List Wy}, sW f (l ++ m) = sW f l + sW f m
  | [], m => by
    show sW f m = 0 + _
    grind
  | x :: l, m => by
    show x.2 * f (cnt x.1) + sW f (l ++ m) = x.2 * f (cnt x.1) + sW f l + _
    rw [sW_app]
    grind
theorem sW_step {w : Str → Int} {f : (Str → Nat) → Rat} {g : Str × Str} : ∀ {ms : List Wy}, sW f (stepW w g ms) = sW (fun c => g2 w g.1 g.2 * f (bmp c g.1) + g2 w g.2 g.1 * f (bmp c g.2)) ms
  | [] => by
    show (0 : Rat) = 0
    rfl
  | m :: ms => by
    have ih := sW_step (w := w) (f := f) (g := g) (ms := ms)
    unfold stepW at ih ⊢
    rw [sW_app] at ih ⊢
    show m.2 * g2 w g.1 g.2 * f (cnt (m.1 ++ [g.1])) + sW f (ms.map (gon w g.1 g.2)) + (m.2 * g2 w g.2 g.1 * f (cnt (m.1 ++ [g.2])) + sW f (ms.map (gon w g.2 g.1))) = m.2 * (g2 w g.1 g.2 * f (bmp (cnt m.1) g.1) + g2 w g.2 g.1 * f (bmp (cnt m.1) g.2)) + _
    rw [← ih, cnt_snoc, cnt_snoc]
    grind
theorem sW_wys {w : Str → Int} {f : (Str → Nat) → Rat} : ∀ {gs : Gs} {ms : List Wy}, sW f (wys w gs ms) = sW (Ev w gs f) ms
  | [], _ => rfl
  | g :: gs, ms => by
    show sW f (wys w gs (stepW w g ms)) = _
    rw [sW_wys (gs := gs), sW_step]
    rfl
def Gk (w : Str → Int) (gs : Gs) : Prop := ∀ g ∈ gs, (1 ≤ w g.1 ∧ w g.1 ≤ 999) ∧ (1 ≤ w g.2 ∧ w g.2 ≤ 999)
theorem Gk.tl {w : Str → Int} {g : Str × Str} {gs : Gs} (h : Gk w (g :: gs)) : Gk w gs := fun x hx => h x (List.mem_cons_of_mem _ hx)
def pg (w : Str → Int) : Gs → Int
  | [] => 1
  | g :: gs => (w g.1 + w g.2) * pg w gs
theorem pg_pos {w : Str → Int} : ∀ {gs : Gs}, Gk w gs → 0 < pg w gs
  | [], _ => by
    show (0 : Int) < 1
    decide
  | g :: gs, h => by
    have := h g List.mem_cons_self
    exact Int.mul_pos (by omega) (pg_pos h.tl)
theorem pg_bd {w : Str → Int} : ∀ {gs : Gs}, Gk w gs → Bd (11 * gs.length + 1) (pg w gs)
  | [], _ => (bd_lit rfl : Bd 1 1).mono (by omega)
  | g :: gs, h => by
    have hg := h g List.mem_cons_self
    have b : Bd 11 (w g.1 + w g.2) := bd_of (b := 1998) (by omega) (by omega) (bd_lit rfl)
    refine (b.mul (pg_bd h.tl)).mono ?_
    rw [List.length_cons]
    omega
theorem pg_snoc {w : Str → Int} {g : Str × Str} : ∀ {gs : Gs}, pg w (gs ++ [g]) = pg w gs * (w g.1 + w g.2)
  | [] => by
    show (w g.1 + w g.2) * 1 = 1 * _
    omega
  | x :: gs => by
    show (w x.1 + w x.2) * pg w (gs ++ [g]) = (w x.1 + w x.2) * pg w gs * _
    rw [pg_snoc]
    grind
theorem g2_rq {w : Str → Int} {x y : Str} : g2 w x y = rq (w x) (w x + w y) := by
  unfold rq g2
  rw [Rat.intCast_add]
theorem rq_add1 {j k N : Int} : rq (j + k) N = rq j N + rq k N := by
  unfold rq
  rw [Rat.intCast_add]
  grind
def EvI (w : Str → Int) : Gs → ((Str → Nat) → Int) → (Str → Nat) → Int
  | [], f, c => f c
  | g :: gs, f, c => w g.1 * EvI w gs f (bmp c g.1) + w g.2 * EvI w gs f (bmp c g.2)
def lead (nm : List Str) (c : Str → Nat) : List Str := nm.filter fun x => nm.all fun y => decide (c y ≤ c x)
def FI (nm : List Str) (x : Str) (c : Str → Nat) : Int := if x ∈ lead nm c then 12 / ((lead nm c).length : Int) else 0
def FR (nm : List Str) (x : Str) (c : Str → Nat) : Rat := if x ∈ lead nm c then rq 1 ((lead nm c).length : Int) else 0
theorem lead_len {nm : List Str} {c : Str → Nat} : (lead nm c).length ≤ nm.length := List.length_filter_le _ _
theorem rq_zero66 {D : Int} : rq 0 D = 0 := by
  show ((0 : Int) : Rat) / (D : Rat) = 0
  simp
  grind
theorem FI_FR {nm : List Str} (h4 : nm.length ≤ 4) {x : Str} (c : Str → Nat) : FR nm x c = rq (FI nm x c) 12 := by
  have ll := lead_len (nm := nm) (c := c)
  unfold FR FI
  by_cases h : x ∈ lead nm c
  · rw [if_pos h, if_pos h]
    have l1 : 0 < (lead nm c).length := List.length_pos_of_mem h
    generalize (lead nm c).length = n at *
    have : n = 1 ∨ n = 2 ∨ n = 3 ∨ n = 4 := by omega
    rcases this with rfl | rfl | rfl | rfl <;> exact (rq_eq (by decide) (by decide)).mpr (by decide)
  · rw [if_neg h, if_neg h, rq_zero66]
theorem FI_bd {nm : List Str} (h4 : nm.length ≤ 4) {x : Str} (c : Str → Nat) : 0 ≤ FI nm x c ∧ FI nm x c ≤ 12 := by
  have ll := lead_len (nm := nm) (c := c)
  unfold FI
  split
  · rename_i h
    have l1 : 0 < (lead nm c).length := List.length_pos_of_mem h
    generalize (lead nm c).length = n at *
    have : n = 1 ∨ n = 2 ∨ n = 3 ∨ n = 4 := by omega
    rcases this with rfl | rfl | rfl | rfl <;> decide
  · decide
def mts : List Str → Gs
  | [] => []
  | x :: l => l.map (fun y => (x, y)) ++ mts l
def gsh (w : Str → Int) (nm : List Str) (x : Str) : Rat := Ev w (mts nm) (FR nm x) fun _ => 0
theorem mts_gk {w : Str → Int} : ∀ {nm : List Str}, Wk w nm → Gk w (mts nm)
  | [], _ => fun g hg => by simp [mts] at hg
  | x :: l, h => fun g hg => by
    rcases List.mem_append.mp hg with hg | hg
    · obtain ⟨y, hy, rfl⟩ := List.mem_map.mp hg
      exact ⟨h x List.mem_cons_self, h y (List.mem_cons_of_mem _ hy)⟩
    · exact mts_gk (fun y hy => h y (List.mem_cons_of_mem _ hy)) g hg
theorem mts_len {nm : List Str} (h : nm.length ≤ 4) : (mts nm).length ≤ 6 := by
  match nm, h with
  | [], _ => simp [mts]
  | [_], _ => simp [mts]
  | [_, _], _ => simp [mts]
  | [_, _, _], _ => simp [mts]
  | [_, _, _, _], _ => simp [mts]
  | _ :: _ :: _ :: _ :: _ :: _, h => simp at h
structure WyOk (w : Str → Int) (gs : Gs) (m : Wy) : Prop where
  nn : 0 < m.2
  den : ∃ k : Int, m.2 = rq k (pg w gs)
theorem wyok_step {w : Str → Int} {gs : Gs} {g : Str × Str} (hk : Gk w (gs ++ [g])) {ms : List Wy} (h : ∀ m ∈ ms, WyOk w gs m) : ∀ m ∈ stepW w g ms, WyOk w (gs ++ [g]) m := by
  have hg := hk g (by simp)
  have p : 0 < pg w gs := pg_pos fun x hx => hk x (List.mem_append_left _ hx)
  intro m hm
  rcases List.mem_append.mp hm with hm | hm
  · obtain ⟨m, h1, rfl⟩ := List.mem_map.mp hm
    obtain ⟨a, k, b⟩ := h m h1
    refine ⟨Rat.mul_pos a (g2_pos hg.1.1 hg.2.1).1, k * w g.1, ?_⟩
    show m.2 * g2 w g.1 g.2 = _
    rw [b, g2_rq, rq_times p (by omega), pg_snoc]
  · obtain ⟨m, h1, rfl⟩ := List.mem_map.mp hm
    obtain ⟨a, k, b⟩ := h m h1
    refine ⟨Rat.mul_pos a (g2_pos hg.2.1 hg.1.1).1, k * w g.2, ?_⟩
    show m.2 * g2 w g.2 g.1 = _
    rw [b, g2_rq, rq_times p (by omega), pg_snoc, Int.add_comm (w g.2)]
theorem sW_nn {f : (Str → Nat) → Rat} (hf : ∀ c, 0 ≤ f c) : ∀ {ms : List Wy}, (∀ m ∈ ms, 0 < m.2) → 0 ≤ sW f ms
  | [], _ => by
    show (0 : Rat) ≤ 0
    grind
  | m :: ms, h => by
    have a := Rat.mul_nonneg (Rat.le_of_lt (h m List.mem_cons_self)) (hf (cnt m.1))
    have b := sW_nn hf fun y hy => h y (List.mem_cons_of_mem _ hy)
    show 0 ≤ m.2 * f (cnt m.1) + sW f ms
    grind
theorem sW_le {f g : (Str → Nat) → Rat} (hf : ∀ c, f c ≤ g c) : ∀ {ms : List Wy}, (∀ m ∈ ms, 0 < m.2) → sW f ms ≤ sW g ms
  | [], _ => by
    show (0 : Rat) ≤ 0
    grind
  | m :: ms, h => by
    have a := Rat.mul_le_mul_of_nonneg_left (hf (cnt m.1)) (Rat.le_of_lt (h m List.mem_cons_self))
    have b := sW_le hf fun y hy => h y (List.mem_cons_of_mem _ hy)
    show m.2 * f (cnt m.1) + sW f ms ≤ m.2 * g (cnt m.1) + sW g ms
    grind
theorem sW_den {w : Str → Int} {gs : Gs} {f : (Str → Nat) → Rat} {fI : (Str → Nat) → Int} {D : Int} (hD : 0 < D) (hp : 0 < pg w gs) (hf : ∀ c, f c = rq (fI c) D) : ∀ {ms : List Wy}, (∀ m ∈ ms, WyOk w gs m) → ∃ k : Int, sW f ms = rq k (D * pg w gs)
  | [], _ => ⟨0, rq_zero66.symm⟩
  | m :: ms, h => by
    obtain ⟨k, hk⟩ := sW_den hD hp hf fun y hy => h y (List.mem_cons_of_mem _ hy)
    obtain ⟨_, j, hj⟩ := h m List.mem_cons_self
    refine ⟨fI (cnt m.1) * j + k, ?_⟩
    show m.2 * f (cnt m.1) + sW f ms = _
    rw [hk, hj, hf, rq_add1, ← rq_times hD hp]
    grind
theorem ev_one {w : Str → Int} : ∀ {gs : Gs} {c : Str → Nat}, Gk w gs → Ev w gs (fun _ => 1) c = 1
  | [], c, _ => rfl
  | g :: gs, c, h => by
    have hg := h g List.mem_cons_self
    show g2 w g.1 g.2 * Ev w gs (fun _ => 1) (bmp c g.1) + g2 w g.2 g.1 * Ev w gs (fun _ => 1) (bmp c g.2) = 1
    rw [ev_one h.tl, ev_one h.tl]
    have := (g2_pos hg.1.1 hg.2.1).2.2
    grind
theorem rq_le {a b D : Int} (hD : 0 < D) (h : a ≤ b) : rq a D ≤ rq b D := by
  refine Rat.not_lt.mp fun c => ?_
  have := (rq_lt hD hD).mp c
  have := Int.mul_le_mul_of_nonneg_right h (Int.le_of_lt hD)
  omega
theorem FR_bd {nm : List Str} (h4 : nm.length ≤ 4) {x : Str} (c : Str → Nat) : 0 ≤ FR nm x c ∧ FR nm x c ≤ 1 := by
  obtain ⟨a, b⟩ := FI_bd h4 (x := x) c
  rw [FI_FR h4]
  have e : rq 12 12 = 1 := by
    show ((12 : Int) : Rat) / ((12 : Int) : Rat) = 1
    simp
    grind
  generalize FI nm x c = i at *
  refine ⟨?_, ?_⟩
  · have := rq_le (a := 0) (b := i) (D := 12) (by decide) a
    rwa [rq_zero66] at this
  · have := rq_le (a := i) (b := 12) (D := 12) (by decide) b
    rwa [e] at this
theorem srt_len {nm : List Str} (nd : nm.Nodup) : (srt nm).length = nm.length := by
  have a := nd_len nd fun x hx => mem_srt.mpr hx
  have b := nd_len (inc_nodup (inc_srt nm)) fun x hx => mem_srt.mp hx
  omega
structure NL (nm : List Str) : Prop where
  nd : nm.Nodup
  ok : ∀ x ∈ nm, Nm x
def dCatN : R2 := fun x y H Q => match x, y with
  | .ref l, .ref b => ∃ xs zs, H l = some (.lst xs) ∧ H b = some (.lst zs) ∧ xs.length + zs.length ≤ 1000 ∧ ∀ p, H p = none → Q (.ref p) (upd H p (.lst (xs ++ zs)))
  | _, _ => False
theorem o_catN {X : Cx} : OpR X (binaryOp .Add) dCatN := by
  intro pins s σ H x y v u Q I rx ry q
  cases x <;> cases y <;> first
    | exact False.elim q
    | (obtain ⟨xs, zs, h1, h2, h3, q⟩ := q
       exact op_cat _ _ _ _ _ _ _ _ _ I rx ry ⟨_, _, xs, zs, rfl, rfl, h1, h2, Nat.le_trans h3 (by decide), q⟩)
theorem all2_fn {α : Type} {f : α → V} : ∀ {l : List α} {ys : List V}, All2 (fun m y => y = f m) l ys → ys = l.map f
  | _, _, .nil => rfl
  | _, _, .cons h t => by rw [h, all2_fn t]; rfl
def PrAt (H : Hp) (g : Str × Str) (v : V) : Prop := ∃ p, v = .ref p ∧ H p = some (.tup [.str g.1, .str g.2])
theorem prat_up (g : Str × Str) (v : V) (H H' : Hp) (k : Kt H H') (h : PrAt H g v) : PrAt H' g v := by
  obtain ⟨p, e, h⟩ := h
  exact ⟨p, e, k _ _ h⟩
theorem all2_app {α β : Type} {R : α → β → Prop} : ∀ {l l' : List α} {m m' : List β}, All2 R l m → All2 R l' m' → All2 R (l ++ l') (m ++ m')
  | _, _, _, _, .nil, h => h
  | _, _, _, _, .cons h t, h' => .cons h (all2_app t h')
theorem all2_map {α β γ : Type} {f : α → γ} {R : γ → β → Prop} : ∀ {l : List α} {m : List β}, All2 (fun a b => R (f a) b) l m → All2 R (l.map f) m
  | _, _, .nil => .nil
  | _, _, .cons h t => .cons h (all2_map t)
def sp_meetings (K : PySem.W.Frag) (ns : List Int) : Sp := fun vs H Q _ => match vs with
  | [.ref L] => ∃ nm : List Str, (SqL K H L (nm.map V.str) ∧ nm.length ≤ 4) ∧ ∀ D vs H', Same H H' → H D = none → H' D = some (.lst vs) → All2 (PrAt H') (mts nm) vs → Q (.ref D) H'
  | _ => False
theorem sc_meetings : FnScope ["names", "pairs", "at", "one"] ["names"] (defScope s_meetings) := ⟨rfl, rfl, rfl, by decide +kernel, rfl, by decide +kernel, by decide +kernel⟩
theorem inv_meetings {vs : List V} {H : Hp} {Q : VK} {E : XK} (h : sp_meetings K ns vs H Q E) : ∃ L, vs = [.ref L] := by
  first
  | (obtain ⟨v0, r0, rfl⟩ := gCons (S := fun l => sp_meetings K ns (l) H Q E) h id; obtain ⟨w0, rfl⟩ := gRef (S := fun v => sp_meetings K ns (v :: r0) H Q E) h (fun _ => id) (fun _ => id) id (fun _ => id) (fun _ => id) (fun _ => id) (fun _ => id); obtain rfl := gNil (S := fun l => sp_meetings K ns (.ref w0 :: l) H Q E) h fun _ _ => id; exact ⟨_, rfl⟩)
  | (match vs, h with
    | [.ref L], _ => exact ⟨_, rfl⟩)
theorem ok_meetings (d : Dfn K mg "meetings" s_meetings ["names"]) (er : Errs K mg c_LadderError c_NoBook c_NoFit c_NoGame c_NoNumber c_NoPlayer c_NoRow c_NoStretch c_NoTable c_NoTree c_NoWorth) (n_enumerate : mg "enumerate" = none)   : Cal P w K mg base "meetings" ["names"] 1 (sp_meetings K ns) := by
  refine d.cal (k := 0) sc_meetings (fun vs H Q E h => ?_) (fun f cdv A outer s H vs Q E hr h => ?_)
  · obtain ⟨L, rfl⟩ := inv_meetings h
    rfl
  · obtain ⟨L, rfl⟩ := inv_meetings h
    obtain ⟨nm, ⟨hL, l4⟩, k⟩ := h
    refine ⟨_, (@pss_cons _ _ _ _ _ (@ps_set _ _ (1) _ _ _ _ sc_meetings.nd rfl (by first | exact Or.inl rfl | exact Or.inr rfl) (@pe_lst _ _ _ _ pa_nil) (by rfl) (by first | exact .inl rfl | exact .inr rfl | assumption)) (@pss_cons _ _ _ _ _ (@ps_for _ _ _ _ _ _ _ _ PassesOwn.never rfl (@pi_enum _ _ _ _ _ _ _ _ (by rfl) n_enumerate (@pa_cons _ _ _ _ _ (dv 0) pa_nil (by rfl)) (by rfl)) (@pg_tup _ _ _ _ _ _ rfl (@pgs_cons _ _ _ _ _ (@pg_name _ _ (2) _ sc_meetings.nd rfl (by first | exact Or.inl rfl | exact Or.inr rfl) (by first | exact .inl rfl | exact .inr rfl | assumption)) (@pgs_cons _ _ _ _ _ (@pg_name _ _ (3) _ sc_meetings.nd rfl (by first | exact Or.inl rfl | exact Or.inr rfl) (by first | exact .inl rfl | exact .inr rfl | assumption)) pgs_nil (by rfl)) (by rfl)) (by rfl) (by rfl)) (@pss_one _ _ _ (@ps_expr _ _ _ _ (@pe_bm _ _ _ _ _ _ _ _ _ _ _ _ PySem.F.plainAttrs_list PySem.F.slot_list_extend PySem.F.type_list_extend mt_extend (dv 1) (@pa_cons _ _ _ _ _ (@e_compN _ _ _ _ _ _ _ _ _ _ ["other"] ["one"] [3] rfl (@pi_list _ _ _ _ (@pe_slice _ _ _ _ _ _ _ _ _ _ sl_lst (dv 0) (po_some (pe_op o_add (dv 2) pe_int)) po_none)) (fun C s H fp => (@pg_name _ _ (0) _ (show List.Nodup [("other" : Str), ("one" : Str)] by decide +kernel) rfl (by first | exact Or.inl rfl | exact Or.inr rfl) (by first | exact .inl rfl | exact .inr rfl | assumption))) (fun C s H fp => (@e_tup _ _ _ _ _ (@pa_cons _ _ _ _ _ (dv 1) (@pa_cons _ _ _ _ _ (dv 0) pa_nil (by rfl)) (by rfl)))) rfl rfl (by decide +kernel) (by decide +kernel) (by rfl) ⟨rfl, True.intro⟩ ⟨⟨rfl, rfl, rfl, rfl⟩, True.intro⟩ (by intro _; rfl)) pa_nil (by rfl)) (by rfl) (by rfl) (by rfl) (by rfl) (by rfl)) (by rfl))) (by intro _; rfl)) (@pss_one _ _ _ (@ps_ret _ _ _ _ (dv 1))))), ?_⟩
    refine ⟨by decide, fun D hD => ?_⟩
    have s0 : Same H (upd H D (.lst [])) := same_upd hD
    have e0 : upd H D (.lst []) D = some (.lst []) := upd_same
    generalize upd H D (.lst []) = H0 at s0 e0
    refine ⟨⟨_, s0.seq hL⟩, for_enum (K := K) (a := L) (xs := nm.map V.str) (fun i σ Hy => ∃ (o2 o3 : Option V) (gs : Gs) (vs : List V), σ = [some (.ref L), some (.ref D), o2, o3] ∧ Same H Hy ∧ Hy D = some (.lst vs) ∧ All2 (PrAt Hy) gs vs ∧ gs ++ mts (nm.drop i) = mts nm) ⟨_, _, [], [], rfl, s0, e0, .nil, rfl⟩ (fun i σ Hy ⟨_, _, _, _, _, s, _⟩ => s.seq hL) ?_ ?_⟩
    · rintro i v t σ Hy hv ht ⟨o2, o3, gs, vs, rfl, s1, e1, a1, eg⟩
      rw [List.getElem?_map] at hv
      obtain ⟨x, hx, rfl⟩ := Option.map_eq_some_iff.mp hv
      have hi : i < nm.length := (List.getElem?_eq_some_iff.mp hx).1
      have st : Same Hy (upd Hy t (.tup [.int (i : Int), .str x])) := same_upd ht
      refine ⟨t, _, rfl, SqT.of upd_same, rfl, _, _, rfl, _, _, rfl, rfl, ?_⟩
      generalize upd Hy t (.tup [.int (i : Int), .str x]) = H1 at st
      have ec : cutV (nm.map V.str) (some ((i : Int) + 1)) none = (nm.drop (i + 1)).map V.str := by
        rw [show (i : Int) + 1 = ((i + 1 : Nat) : Int) by omega, cut_drop (by rw [List.length_map]; omega), List.map_drop]
      refine ⟨.inl ⟨rfl, _, SqL.of (st _ _ e1)⟩, _, rfl, _, (s1.trans st).seq hL, fun C H2 s2 e2 => ?_⟩
      rw [ec] at e2
      refine ⟨C, rfl, ⟨_, SqL.of e2⟩, comp_abs (fun _ v (x : Str) => v = V.str x) (fun _ _ _ _ _ h => h) (fun H y v => PrAt H (x, y) v) (fun y v H H' k h => prat_up (x, y) v H H' k h) (by rw [List.length_map, List.length_drop]; omega) (SqL.of e2) (a2_strs64 _) ?_ ?_⟩
      · intro v y H3 hM hy s3 P hP
        subst hM
        exact ⟨rfl, fun T H4 s4 e4 => hP _ _ s4 ⟨T, rfl, e4⟩⟩
      intro C2 H3 ys s3 _ e3 a3
      have s13 := s2.trans s3
      have e1' := (st.trans s13) _ _ e1
      have kt : Kt H3 (upd H3 D (.lst (vs ++ ys))) := kt_upd e1'
      have l1 := a1.len
      have l3 := a3.len
      have lm : gs.length ≤ 6 := by
        have := congrArg List.length eg
        rw [List.length_append] at this
        have := mts_len l4
        omega
      rw [List.length_drop] at l3
      refine ⟨D, C2, vs, ys, rfl, rfl, e1', e3, Nat.le_trans (show _ ≤ 20 by omega) (by decide), _, _, gs ++ (nm.drop (i + 1)).map (fun y => (x, y)), vs ++ ys, rfl, same_app' (s1.trans (st.trans s13)) hD, upd_same, ?_, ?_⟩
      · refine all2_app (a1.imp fun g v r => prat_up g v _ _ ((kt_of (st.trans s13)).trans kt) r) ?_
        exact all2_map (a3.imp fun y v r => prat_up (x, y) v _ _ kt r)
      · rw [← eg, List.append_assoc]
        have : nm.drop i = x :: nm.drop (i + 1) := by
          rw [List.drop_eq_getElem_cons hi]
          congr 1
          exact (List.getElem?_eq_some_iff.mp hx).2
        rw [this]
        rfl
    · rintro σ Hy ⟨o2, o3, gs, vs, rfl, s1, e1, a1, eg⟩
      rw [List.length_map, List.drop_length] at eg
      rw [show gs = mts nm by rw [← eg]; exact (List.append_nil _).symm] at a1
      exact k D vs Hy s1 hD e1 a1
def sp_gone_on (K : PySem.W.Frag) (ns : List Int) : Sp := fun vs H Q _ => match vs with
  | [.ref p, .str x, .ref q] => ∃ (l : List Str) (pl pq : Addr) (qa qb : Q2), (H p = some (.tup [.ref pl, .ref pq]) ∧ H pl = some (.lst (l.map V.str)) ∧ l.length ≤ 8 ∧ Fq 1000 H pq qa.1 qa.2 ∧ Fq 1000 H q qb.1 qb.2) ∧ ∀ T pl' r H', Same H H' → H pl' = none → H' T = some (.tup [.ref pl', .ref r]) → H' pl' = some (.lst ((l ++ [x]).map V.str)) → FrAt H' r (qa.1 * qb.1) (qa.2 * qb.2) → Q (.ref T) H'
  | _ => False
theorem sc_gone_on : FnScope ["way", "winner", "likely"] ["way", "winner", "likely"] (defScope s_gone_on) := ⟨rfl, rfl, rfl, by decide +kernel, rfl, by decide +kernel, by decide +kernel⟩
theorem inv_gone_on {vs : List V} {H : Hp} {Q : VK} {E : XK} (h : sp_gone_on K ns vs H Q E) : ∃ p x q, vs = [.ref p, .str x, .ref q] := by
  first
  | (obtain ⟨v0, r0, rfl⟩ := gCons (S := fun l => sp_gone_on K ns (l) H Q E) h id; obtain ⟨w0, rfl⟩ := gRef (S := fun v => sp_gone_on K ns (v :: r0) H Q E) h (fun _ => id) (fun _ => id) id (fun _ => id) (fun _ => id) (fun _ => id) (fun _ => id); obtain ⟨v1, r1, rfl⟩ := gCons (S := fun l => sp_gone_on K ns (.ref w0 :: l) H Q E) h id; obtain ⟨w1, rfl⟩ := gStr (S := fun v => sp_gone_on K ns (.ref w0 :: v :: r1) H Q E) h (fun _ => id) (fun _ => id) id (fun _ => id) (fun _ => id) (fun _ => id) (fun _ => id); obtain ⟨v2, r2, rfl⟩ := gCons (S := fun l => sp_gone_on K ns (.ref w0 :: .str w1 :: l) H Q E) h id; obtain ⟨w2, rfl⟩ := gRef (S := fun v => sp_gone_on K ns (.ref w0 :: .str w1 :: v :: r2) H Q E) h (fun _ => id) (fun _ => id) id (fun _ => id) (fun _ => id) (fun _ => id) (fun _ => id); obtain rfl := gNil (S := fun l => sp_gone_on K ns (.ref w0 :: .str w1 :: .ref w2 :: l) H Q E) h fun _ _ => id; exact ⟨_, _, _, rfl⟩)
  | (match vs, h with
    | [.ref p, .str x, .ref q], _ => exact ⟨_, _, _, rfl⟩)
theorem ok_gone_on (d : Dfn K mg "gone_on" s_gone_on ["way", "winner", "likely"]) (er : Errs K mg c_LadderError c_NoBook c_NoFit c_NoGame c_NoNumber c_NoPlayer c_NoRow c_NoStretch c_NoTable c_NoTree c_NoWorth)   (c_times : Cal P w K mg base "times" ["one", "other"] 3 (sp_times K ns)) : Cal P w K mg base "gone_on" ["way", "winner", "likely"] 4 (sp_gone_on K ns) := by
  refine d.cal (k := 3) sc_gone_on (fun vs H Q E h => ?_) (fun f cdv A outer s H vs Q E hr h => ?_)
  · obtain ⟨p, x, q, rfl⟩ := inv_gone_on h
    rfl
  · obtain ⟨p, x, q, rfl⟩ := inv_gone_on h
    obtain ⟨l, pl, pq, qa, qb, ⟨hp, hl, l8, fa, fb⟩, k⟩ := h
    refine ⟨_, (@pss_one _ _ _ (@ps_ret _ _ _ _ (@e_tup _ _ _ _ _ (@pa_cons _ _ _ _ _ (@pe_op _ _ _ _ _ _ _ _ o_catN (@pe_ix _ _ _ _ _ _ _ i_tup (dv 0) pe_int (fun _ _ => rfl)) (@e_lst _ _ _ _ (@pa_cons _ _ _ _ _ (dv 1) pa_nil (by rfl)))) (@pa_cons _ _ _ _ _ (@e_call _ _ _ _ _ _ _ _ _ _ _ c_times hr (by decide) (by rfl) (@pa_cons _ _ _ _ _ (@pe_ix _ _ _ _ _ _ _ i_tup (dv 0) pe_int (fun _ _ => rfl)) (@pa_cons _ _ _ _ _ (dv 2) pa_nil (by rfl)) (by rfl)) (by decide) (by rfl) (by rfl)) pa_nil (by rfl)) (by rfl))))), ?_⟩
    refine ⟨_, hp, fun P1 H1 s1 e1 => ⟨_, _, s1 _ _ hl, e1, by rw [List.length_map]; show l.length + 1 ≤ _; omega, fun P2 h2 => ?_⟩⟩
    have s2 : Same H1 (upd H1 P2 (.lst (l.map V.str ++ [.str x]))) := same_upd h2
    have e2 : upd H1 P2 (.lst (l.map V.str ++ [.str x])) P2 = some (.lst ((l ++ [x]).map V.str)) := by rw [upd_same, List.map_append]; rfl
    generalize upd H1 P2 (.lst (l.map V.str ++ [.str x])) = H2 at s2 e2
    have s12 := s1.trans s2
    refine ⟨_, s12 _ _ hp, qa, qb, ⟨fa.up s12, fb.up s12⟩, fun r H3 s3 f3 => fun T H4 s4 e4 => k T P2 r H4 (s12.trans (s3.trans s4)) (none_back s1 h2) e4 ((s3.trans s4) _ _ e2) (f3.up s4)⟩
def sp_leaders (K : PySem.W.Frag) (ns : List Int) : Sp := fun vs H Q _ => match vs with
  | [.ref L, .ref W] => ∃ (nm l : List Str), (SqL K H L (nm.map V.str) ∧ SqL K H W (l.map V.str) ∧ 1 ≤ nm.length ∧ nm.length ≤ 4) ∧ ∀ D H', Same H H' → H' D = some (.lst ((lead nm (cnt l)).map V.str)) → Q (.ref D) H'
  | _ => False
theorem sc_leaders : FnScope ["names", "winners", "most"] ["names", "winners"] (defScope s_leaders) := ⟨rfl, rfl, rfl, by decide +kernel, rfl, by decide +kernel, by decide +kernel⟩
theorem inv_leaders {vs : List V} {H : Hp} {Q : VK} {E : XK} (h : sp_leaders K ns vs H Q E) : ∃ L W, vs = [.ref L, .ref W] := by
  first
  | (obtain ⟨v0, r0, rfl⟩ := gCons (S := fun l => sp_leaders K ns (l) H Q E) h id; obtain ⟨w0, rfl⟩ := gRef (S := fun v => sp_leaders K ns (v :: r0) H Q E) h (fun _ => id) (fun _ => id) id (fun _ => id) (fun _ => id) (fun _ => id) (fun _ => id); obtain ⟨v1, r1, rfl⟩ := gCons (S := fun l => sp_leaders K ns (.ref w0 :: l) H Q E) h id; obtain ⟨w1, rfl⟩ := gRef (S := fun v => sp_leaders K ns (.ref w0 :: v :: r1) H Q E) h (fun _ => id) (fun _ => id) id (fun _ => id) (fun _ => id) (fun _ => id) (fun _ => id); obtain rfl := gNil (S := fun l => sp_leaders K ns (.ref w0 :: .ref w1 :: l) H Q E) h fun _ _ => id; exact ⟨_, _, rfl⟩)
  | (match vs, h with
    | [.ref L, .ref W], _ => exact ⟨_, _, rfl⟩)
theorem ok_leaders (d : Dfn K mg "leaders" s_leaders ["names", "winners"]) (er : Errs K mg c_LadderError c_NoBook c_NoFit c_NoGame c_NoNumber c_NoPlayer c_NoRow c_NoStretch c_NoTable c_NoTree c_NoWorth) (n_max : mg "max" = none)   : Cal P w K mg base "leaders" ["names", "winners"] 1 (sp_leaders K ns) := by
  refine d.cal (k := 0) sc_leaders (fun vs H Q E h => ?_) (fun f cdv A outer s H vs Q E hr h => ?_)
  · obtain ⟨L, W, rfl⟩ := inv_leaders h
    rfl
  · obtain ⟨L, W, rfl⟩ := inv_leaders h
    obtain ⟨nm, l, ⟨hL, hW, l1, l4⟩, k⟩ := h
    refine ⟨_, (@pss_cons _ _ _ _ _ (@ps_set _ _ (2) _ _ _ _ sc_leaders.nd rfl (by first | exact Or.inl rfl | exact Or.inr rfl) (@pe_callB _ _ _ _ _ _ _ _ _ (@c_maxI _ rfl) (by rfl) n_max (by decide +kernel) (@pa_cons _ _ _ _ _ (@e_compN _ _ _ _ _ _ _ _ _ _ ["name"] ["winners"] [1] rfl (@pi_list _ _ _ _ (dv 0)) (fun C s H fp => (@pg_name _ _ (0) _ (show List.Nodup [("name" : Str), ("winners" : Str)] by decide +kernel) rfl (by first | exact Or.inl rfl | exact Or.inr rfl) (by first | exact .inl rfl | exact .inr rfl | assumption))) (fun C s H fp => (show PE _ _ (tBM K "list" (dLCt K) _ _) from (pe_bm PySem.F.plainAttrs_list PySem.F.slot_list_count PySem.F.type_list_count m_lcnt (dv 1) (pa_cons (dv 0) pa_nil)))) rfl rfl (by decide +kernel) (by decide +kernel) (by rfl) ⟨rfl, True.intro⟩ ⟨⟨rfl, rfl, rfl, rfl⟩, True.intro⟩ (by intro _; rfl)) pa_nil (by rfl)) (by decide) (by decide) (by rfl) (by rfl)) (by rfl) (by first | exact .inl rfl | exact .inr rfl | assumption)) (@pss_one _ _ _ (@ps_ret _ _ _ _ (@e_compIN _ _ _ _ _ _ _ _ _ _ _ _ ["name"] ["most", "winners"] [2, 1] rfl (@pi_list _ _ _ _ (dv 0)) (fun C s H fp => (@pg_name _ _ (0) _ (show List.Nodup [("name" : Str), ("most" : Str), ("winners" : Str)] by decide +kernel) rfl (by first | exact Or.inl rfl | exact Or.inr rfl) (by first | exact .inl rfl | exact .inr rfl | assumption))) (fun C s H fp => (@t_cmp _ _ _ _ _ _ _ _ o_eq (show PE _ _ (tBM K "list" (dLCt K) _ _) from (pe_bm PySem.F.plainAttrs_list PySem.F.slot_list_count PySem.F.type_list_count m_lcnt (dv 2) (pa_cons (dv 0) pa_nil))) (dv 1) (@nomark _ _ (by decide) (by decide)))) (fun C s H fp => (dv 0)) rfl rfl (by decide +kernel) (by decide +kernel) (by rfl) ⟨rfl, ⟨rfl, True.intro⟩⟩ ⟨⟨rfl, rfl, rfl, rfl⟩, ⟨⟨rfl, rfl, rfl, rfl⟩, True.intro⟩⟩ (by intro _; rfl))))), ?_⟩
    refine ⟨L, rfl, ⟨_, hL⟩, ?_⟩
    refine comp_abs (fun _ v (x : Str) => v = V.str x) (fun _ _ _ _ _ h => h) (fun _ x y => y = V.int ((l.count x : Nat) : Int)) (fun _ _ _ _ _ h => h) (by rw [List.length_map]; omega) hL (a2_strs64 _) ?_ ?_
    · intro v x H2 hM hx s2 P hP
      subst hM
      exact ⟨rfl, .inl ⟨rfl, _, s2.seq hW⟩, l, s2.seq hW, hP _ _ (Same.refl _) rfl⟩
    intro D1 H1 ys s1 _ e1 a1
    rw [all2_fn (f := fun x => V.int ((l.count x : Nat) : Int)) a1] at e1
    refine ⟨nm.map fun x => ((l.count x : Nat) : Int), SqL.of (by rw [e1, List.map_map]; rfl), by rw [List.length_map]; omega, fun M hM hle => ?_⟩
    refine ⟨L, rfl, ⟨_, s1.seq hL⟩, ?_⟩
    refine comp_absI (fun _ v (x : Str) => v = V.str x) (fun _ _ _ _ _ h => h) (fun _ x y => y = V.str x) (fun _ _ _ _ _ h => h) (fun x => nm.all fun y => decide (cnt l y ≤ cnt l x)) (by rw [List.length_map]; omega) (s1.seq hL) (a2_strs64 _) ?_ ?_
    · intro v x H2 hM2 hx s2 P P' hP hP'
      subst hM2
      refine ⟨rfl, .inl ⟨rfl, _, (s1.trans s2).seq hW⟩, l, (s1.trans s2).seq hW, ?_⟩
      have ec : decide (((l.count x : Nat) : Int) = M) = nm.all fun y => decide (cnt l y ≤ cnt l x) := by
        obtain ⟨z, hz, ez⟩ := List.mem_map.mp hM
        have hx' := hle _ (List.mem_map.mpr ⟨x, hx, rfl⟩)
        by_cases c : ((l.count x : Nat) : Int) = M
        · rw [decide_eq_true c]
          refine (List.all_eq_true.mpr fun y hy => decide_eq_true ?_).symm
          have := hle _ (List.mem_map.mpr ⟨y, hy, rfl⟩)
          show l.count y ≤ l.count x
          omega
        · rw [decide_eq_false c]
          refine (List.all_eq_false.mpr ⟨z, hz, ?_⟩).symm
          have : ¬ l.count z ≤ l.count x := by omega
          exact fun e => this (of_decide_eq_true e)
      refine ⟨fun h => hP (by rw [← ec]; exact h) _ _ (Same.refl _) rfl, fun h => hP' (by rw [← ec]; exact h) _ (Same.refl _)⟩
    intro D2 H2 zs s2 _ e2 a2
    rw [all2_fn (f := V.str) a2] at e2
    exact k D2 H2 (s1.trans s2) e2
def WyA (Ok : Addr → Prop) (H : Hp) (i : Nat) (m : Wy) (v : V) : Prop := ∃ (p pl pq : Addr) (q : Q2), v = .ref p ∧ (Ok p ∧ Ok pl ∧ Ok pq) ∧ H p = some (.tup [.ref pl, .ref pq]) ∧ H pl = some (.lst (m.1.map V.str)) ∧ H pq = some (.tup [.int q.1, .int q.2]) ∧ LQ q m.2 ∧ (0 < q.2 ∧ 0 < q.1) ∧ Bd (12 * i + 1) q.1 ∧ Bd (12 * i + 1) q.2 ∧ m.1.length = i
theorem WyA.up {Ok : Addr → Prop} {H H' : Hp} {i : Nat} {m : Wy} {v : V} (s : Same H H') (h : WyA Ok H i m v) : WyA Ok H' i m v := by
  obtain ⟨p, pl, pq, q, e, o, h1, h2, h3, r⟩ := h
  exact ⟨p, pl, pq, q, e, o, s _ _ h1, s _ _ h2, s _ _ h3, r⟩
theorem WyA.any {Ok : Addr → Prop} {H : Hp} {i : Nat} {m : Wy} {v : V} (h : WyA Ok H i m v) : WyA (fun _ => True) H i m v := by
  obtain ⟨p, pl, pq, q, e, o, r⟩ := h
  exact ⟨p, pl, pq, q, e, ⟨True.intro, True.intro, True.intro⟩, r⟩
theorem WyA.put {D : Addr} {H : Hp} {o : HO} {i : Nat} {m : Wy} {v : V} (h : WyA (· ≠ D) H i m v) : WyA (· ≠ D) (upd H D o) i m v := by
  obtain ⟨p, pl, pq, q, e, ⟨o1, o2, o3⟩, h1, h2, h3, r⟩ := h
  exact ⟨p, pl, pq, q, e, ⟨o1, o2, o3⟩, by rw [upd_ne o1]; exact h1, by rw [upd_ne o2]; exact h2, by rw [upd_ne o3]; exact h3, r⟩
theorem wy_gone {w : Str → Int} {x y : Str} {D : Addr} {H : Hp} {i : Nat} {m : Wy} {T pl r : Addr} {qa qb : Q2} (hD : ∃ zs, H D = some (.lst zs)) (ne : pl ≠ D) (eT : H T = some (.tup [.ref pl, .ref r])) (ep : H pl = some (.lst ((m.1 ++ [x]).map V.str))) (f : FrAt H r (qa.1 * qb.1) (qa.2 * qb.2))
    (la : LQ qa m.2) (pa : 0 < qa.2 ∧ 0 < qa.1) (ba : Bd (12 * i + 1) qa.1) (ba' : Bd (12 * i + 1) qa.2) (li : m.1.length = i) (lb : LQ qb (g2 w x y)) (pb : 0 < qb.2 ∧ 0 < qb.1) (bb : Bd 12 qb.1) (bb' : Bd 12 qb.2) : WyA (· ≠ D) H (i + 1) (gon w x y m) (.ref T) := by
  obtain ⟨zs, hD⟩ := hD
  have pos : 0 < qa.2 * qb.2 := Int.mul_pos pa.1 pb.1
  obtain ⟨q, e, l, eq⟩ := fr_lq pos f
  rw [← rq_times pa.1 pb.1, lq_rq la, lq_rq lb] at l
  refine ⟨T, pl, r, q, rfl, ⟨fun c => ?_, ne, fun c => ?_⟩, eT, ep, e, l, ?_, ?_, ?_, ?_⟩
  · rw [c, hD] at eT
    cases eT
  · rw [c, hD] at e
    cases e
  · rw [eq]
    exact ⟨lowB_pos _ pos, lowT_pos (Int.mul_pos pa.2 pb.2)⟩
  · rw [eq]
    exact (bd_lowT (ba.mul bb)).mono (by omega)
  · rw [eq]
    exact (bd_lowB (ba'.mul bb')).mono (by omega)
  · show (m.1 ++ [x]).length = i + 1
    rw [List.length_append, li]
    rfl
theorem wys_len {w : Str → Int} : ∀ {gs : Gs} {ms : List Wy}, (wys w gs ms).length = 2 ^ gs.length * ms.length
  | [], ms => by simp [wys]
  | g :: gs, ms => by
    show (wys w gs (stepW w g ms)).length = _
    rw [wys_len (gs := gs)]
    unfold stepW
    rw [List.length_append, List.length_map, List.length_map, List.length_cons, Nat.pow_succ]
    grind
def wy0 : List Wy := [([], 1)]
theorem rq_oneB {q : Q2} {r : Rat} (h : LQ q r) (hq : 0 < q.2) : rq (1 * q.2 - q.1 * 1) (1 * q.2) = 1 - r := by
  have := lq_rq h
  rw [← this]
  unfold rq
  rw [Int.one_mul, Int.mul_one, Rat.intCast_sub]
  have a : (q.2 : Rat) ≠ 0 := by have := ic_pos hq; grind
  grind
theorem comp_absD66 {β : Type} {K : PySem.W.Frag} {a : Addr} {xs : List V} {ms : List β} {g : TG} {te : TE} {k : Nat} {js : List Nat} {σ : L2.St} {H1 : Hp} {Q : VK} (M : V → β → Prop) (R : Addr → Hp → β → V → Prop) (upS : ∀ D m y H H', Same H H' → R D H m y → R D H' m y) (upD : ∀ D m y H o, R D H m y → R D (upd H D o) m y)
    (hz : xs.length ≤ 1000) (hx : SqL K H1 a xs) (hm : All2 M xs ms)
    (hs : ∀ D v m H2, (∃ zs, H2 D = some (.lst zs)) → M v m → m ∈ ms → Same H1 H2 → ∀ P : VK, (∀ y H3, Same H2 H3 → R D H3 m y → P y H3) → g v (List.replicate k none ++ capσ js σ) H2 fun σ2 H3 => σ2.drop k = capσ js σ ∧ te σ2 H3 P)
    (hq : ∀ D H' ys, Same H1 H' → H1 D = none → H' D = some (.lst ys) → All2 (R D H') ms ys → Q (.ref D) H') : CGoal (Itl K a) g te k js σ H1 Q := by
  unfold CGoal
  intro D hD
  have hl := hm.len
  refine ⟨fun i m H => m = xs.length - i ∧ i ≤ xs.length ∧ Same H1 H ∧ ∃ ys, H D = some (.lst ys) ∧ All2 (R D H) (ms.take i) ys, ⟨xs.length, by simp, Nat.zero_le _, same_upd hD, [], upd_same, .nil⟩, ?_⟩
  rintro i m H ⟨rfl, hi, sm, ys, hH, ar⟩
  have sq := sm.seq hx
  by_cases hlt : i < xs.length
  · have e : xs[i]? = some xs[i] := by simp [hlt]
    refine .inr ⟨⟨xs, _, sq, e⟩, fun x H' y => ?_⟩
    obtain ⟨e1, e2⟩ := y
    subst e1
    have hv := e2 xs sq
    obtain ⟨m, hmi, hM⟩ := hm.get hv
    refine hs D x m _ ⟨ys, hH⟩ hM (List.mem_of_getElem? hmi) sm _ fun y H3 s3 r3 => ⟨ys, s3 _ _ hH, ?_, xs.length - (i + 1), by omega, rfl, hlt, same_app' (sm.trans s3) hD, ys ++ [y], upd_same, ?_⟩
    · rw [← ar.len, List.length_take]
      exact Nat.lt_of_le_of_lt (Nat.min_le_left _ _) (Nat.lt_of_lt_of_le hlt (Nat.le_trans hz (by decide)))
    · rw [List.take_add_one, hmi]
      exact (ar.imp fun v y r => upD D v y _ _ (upS D v y _ _ s3 r)).snoc (upD D m y _ _ r3)
  · have e : i = xs.length := by omega
    subst e
    rw [hl, List.take_length] at ar
    exact .inl ⟨⟨xs, sq, Nat.le_refl _⟩, hq D _ ys sm hD hH ar⟩
theorem a2_at66 {α β : Type} {R : α → β → Prop} : ∀ {l : List α} {m : List β} {i : Nat} {b : β}, All2 R l m → m[i]? = some b → ∃ a, l[i]? = some a ∧ R a b
  | _, _, 0, _, .cons h _, e => ⟨_, rfl, by cases e; exact h⟩
  | _, _, i + 1, _, .cons _ r, e => by
    obtain ⟨a, h1, h2⟩ := a2_at66 (i := i) r (by simpa using e)
    exact ⟨a, by simpa using h1, h2⟩
theorem a2_flip66 {α β : Type} {R : α → β → Prop} : ∀ {l : List α} {m : List β}, All2 R l m → All2 (fun b a => R a b) m l
  | _, _, .nil => .nil
  | _, _, .cons h t => .cons h (a2_flip66 t)
theorem mts_mem : ∀ {nm : List Str} {g : Str × Str}, g ∈ mts nm → g.1 ∈ nm ∧ g.2 ∈ nm
  | x :: l, g, h => by
    rcases List.mem_append.mp h with h | h
    · obtain ⟨y, hy, rfl⟩ := List.mem_map.mp h
      exact ⟨List.mem_cons_self, List.mem_cons_of_mem _ hy⟩
    · obtain ⟨a, b⟩ := mts_mem h
      exact ⟨List.mem_cons_of_mem _ a, List.mem_cons_of_mem _ b⟩
theorem rq_one66 : rq 1 1 = 1 := by
  show ((1 : Int) : Rat) / ((1 : Int) : Rat) = 1
  simp
  grind
def sp_ways_to_go (K : PySem.W.Frag) (ns : List Int) : Sp := fun vs H Q _ => match vs with
  | [.ref L, .ref W] => ∃ (nm : List Str) (w : Str → Int), (SqL K H L (nm.map V.str) ∧ nm.length ≤ 4 ∧ WA H W nm w) ∧ ∀ D vs H', Same H H' → H' D = some (.lst vs) → All2 (WyA (fun _ => True) H' (mts nm).length) (wys w (mts nm) wy0) vs → Q (.ref D) H'
  | _ => False
theorem sc_ways_to_go : FnScope ["names", "worths", "ways", "one", "other", "mine", "theirs"] ["names", "worths"] (defScope s_ways_to_go) := ⟨rfl, rfl, rfl, by decide +kernel, rfl, by decide +kernel, by decide +kernel⟩
theorem inv_ways_to_go {vs : List V} {H : Hp} {Q : VK} {E : XK} (h : sp_ways_to_go K ns vs H Q E) : ∃ L W, vs = [.ref L, .ref W] := by
  first
  | (obtain ⟨v0, r0, rfl⟩ := gCons (S := fun l => sp_ways_to_go K ns (l) H Q E) h id; obtain ⟨w0, rfl⟩ := gRef (S := fun v => sp_ways_to_go K ns (v :: r0) H Q E) h (fun _ => id) (fun _ => id) id (fun _ => id) (fun _ => id) (fun _ => id) (fun _ => id); obtain ⟨v1, r1, rfl⟩ := gCons (S := fun l => sp_ways_to_go K ns (.ref w0 :: l) H Q E) h id; obtain ⟨w1, rfl⟩ := gRef (S := fun v => sp_ways_to_go K ns (.ref w0 :: v :: r1) H Q E) h (fun _ => id) (fun _ => id) id (fun _ => id) (fun _ => id) (fun _ => id) (fun _ => id); obtain rfl := gNil (S := fun l => sp_ways_to_go K ns (.ref w0 :: .ref w1 :: l) H Q E) h fun _ _ => id; exact ⟨_, _, rfl⟩)
  | (match vs, h with
    | [.ref L, .ref W], _ => exact ⟨_, _, rfl⟩)
theorem ok_ways_to_go (d : Dfn K mg "ways_to_go" s_ways_to_go ["names", "worths"]) (er : Errs K mg c_LadderError c_NoBook c_NoFit c_NoGame c_NoNumber c_NoPlayer c_NoRow c_NoStretch c_NoTable c_NoTree c_NoWorth)   (c_meetings : Cal P w K mg base "meetings" ["names"] 1 (sp_meetings K ns)) (c_gone_on : Cal P w K mg base "gone_on" ["way", "winner", "likely"] 4 (sp_gone_on K ns)) (c_minus : Cal P w K mg base "minus" ["one", "other"] 3 (sp_minus K ns)) (c_game_share : Cal P w K mg base "game_share" ["one", "other", "worths"] 4 (sp_game_share K ns)) : Cal P w K mg base "ways_to_go" ["names", "worths"] 5 (sp_ways_to_go K ns) := by
  refine d.cal (k := 4) sc_ways_to_go (fun vs H Q E h => ?_) (fun f cdv A outer s H vs Q E hr h => ?_)
  · obtain ⟨L, W, rfl⟩ := inv_ways_to_go h
    rfl
  · obtain ⟨L, W, rfl⟩ := inv_ways_to_go h
    obtain ⟨nm, w, ⟨hL, l4, hW⟩, k⟩ := h
    refine ⟨_, (@pss_cons _ _ _ _ _ (@ps_set _ _ (2) _ _ _ _ sc_ways_to_go.nd rfl (by first | exact Or.inl rfl | exact Or.inr rfl) (@e_lst _ _ _ _ (@pa_cons _ _ _ _ _ (@e_tup _ _ _ _ _ (@pa_cons _ _ _ _ _ (@pe_lst _ _ _ _ pa_nil) (@pa_cons _ _ _ _ _ (@e_tup _ _ _ _ _ (@pa_cons _ _ _ _ _ pe_int (@pa_cons _ _ _ _ _ pe_int pa_nil (by rfl)) (by rfl))) pa_nil (by rfl)) (by rfl))) pa_nil (by rfl))) (by rfl) (by first | exact .inl rfl | exact .inr rfl | assumption)) (@pss_cons _ _ _ _ _ (@ps_for _ _ _ _ _ _ _ _ PassesOwn.never rfl (@pi_list _ _ _ _ (@e_call _ _ _ _ _ _ _ _ _ _ _ c_meetings hr (by decide) (by rfl) (@pa_cons _ _ _ _ _ (dv 0) pa_nil (by rfl)) (by decide) (by rfl) (by rfl))) (@pg_tup _ _ _ _ _ _ rfl (@pgs_cons _ _ _ _ _ (@pg_name _ _ (3) _ sc_ways_to_go.nd rfl (by first | exact Or.inl rfl | exact Or.inr rfl) (by first | exact .inl rfl | exact .inr rfl | assumption)) (@pgs_cons _ _ _ _ _ (@pg_name _ _ (4) _ sc_ways_to_go.nd rfl (by first | exact Or.inl rfl | exact Or.inr rfl) (by first | exact .inl rfl | exact .inr rfl | assumption)) pgs_nil (by rfl)) (by rfl)) (by rfl) (by rfl)) (@pss_cons _ _ _ _ _ (@ps_set _ _ (5) _ _ _ _ sc_ways_to_go.nd rfl (by first | exact Or.inl rfl | exact Or.inr rfl) (@e_call _ _ _ _ _ _ _ _ _ _ _ c_game_share hr (by decide) (by rfl) (@pa_cons _ _ _ _ _ (dv 3) (@pa_cons _ _ _ _ _ (dv 4) (@pa_cons _ _ _ _ _ (dv 1) pa_nil (by rfl)) (by rfl)) (by rfl)) (by decide) (by rfl) (by rfl)) (by rfl) (by first | exact .inl rfl | exact .inr rfl | assumption)) (@pss_cons _ _ _ _ _ (@ps_set _ _ (6) _ _ _ _ sc_ways_to_go.nd rfl (by first | exact Or.inl rfl | exact Or.inr rfl) (@e_call _ _ _ _ _ _ _ _ _ _ _ c_minus hr (by decide) (by rfl) (@pa_cons _ _ _ _ _ (@e_tup _ _ _ _ _ (@pa_cons _ _ _ _ _ pe_int (@pa_cons _ _ _ _ _ pe_int pa_nil (by rfl)) (by rfl))) (@pa_cons _ _ _ _ _ (dv 5) pa_nil (by rfl)) (by rfl)) (by decide) (by rfl) (by rfl)) (by rfl) (by first | exact .inl rfl | exact .inr rfl | assumption)) (@pss_one _ _ _ (@ps_set _ _ (2) _ _ _ _ sc_ways_to_go.nd rfl (by first | exact Or.inl rfl | exact Or.inr rfl) (@pe_op _ _ _ _ _ _ _ _ o_catL (@e_compN _ _ _ _ _ _ _ _ _ _ ["way"] ["one", "mine"] [3, 5] rfl (@pi_list _ _ _ _ (dv 2)) (fun C s H fp => (@pg_name _ _ (0) _ (show List.Nodup [("way" : Str), ("one" : Str), ("mine" : Str)] by decide +kernel) rfl (by first | exact Or.inl rfl | exact Or.inr rfl) (by first | exact .inl rfl | exact .inr rfl | assumption))) (fun C s H fp => (@e_call _ _ _ _ _ _ _ _ _ _ _ c_gone_on hr (by decide) (by rfl) (@pa_cons _ _ _ _ _ (dv 0) (@pa_cons _ _ _ _ _ (dv 1) (@pa_cons _ _ _ _ _ (dv 2) pa_nil (by rfl)) (by rfl)) (by rfl)) (by decide) (by rfl) (by rfl))) rfl rfl (by decide +kernel) (by decide +kernel) (by rfl) ⟨rfl, ⟨rfl, True.intro⟩⟩ ⟨⟨rfl, rfl, rfl, rfl⟩, ⟨⟨rfl, rfl, rfl, rfl⟩, True.intro⟩⟩ (by intro _; rfl)) (@e_compN _ _ _ _ _ _ _ _ _ _ ["way"] ["other", "theirs"] [4, 6] rfl (@pi_list _ _ _ _ (dv 2)) (fun C s H fp => (@pg_name _ _ (0) _ (show List.Nodup [("way" : Str), ("other" : Str), ("theirs" : Str)] by decide +kernel) rfl (by first | exact Or.inl rfl | exact Or.inr rfl) (by first | exact .inl rfl | exact .inr rfl | assumption))) (fun C s H fp => (@e_call _ _ _ _ _ _ _ _ _ _ _ c_gone_on hr (by decide) (by rfl) (@pa_cons _ _ _ _ _ (dv 0) (@pa_cons _ _ _ _ _ (dv 1) (@pa_cons _ _ _ _ _ (dv 2) pa_nil (by rfl)) (by rfl)) (by rfl)) (by decide) (by rfl) (by rfl))) rfl rfl (by decide +kernel) (by decide +kernel) (by rfl) ⟨rfl, ⟨rfl, True.intro⟩⟩ ⟨⟨rfl, rfl, rfl, rfl⟩, ⟨⟨rfl, rfl, rfl, rfl⟩, True.intro⟩⟩ (by intro _; rfl))) (by rfl) (by first | exact .inl rfl | exact .inr rfl | assumption))))) (by intro _; rfl)) (@pss_one _ _ _ (@ps_ret _ _ _ _ (dv 2))))), ?_⟩
    refine ⟨by decide, fun P0 h0 => fun P1 H1 s1 e1 => fun P2 H2 s2 e2 => fun P3 H3 s3 e3 => ?_⟩
    have s0 : Same H (upd H P0 (.lst [])) := same_upd h0
    have e0 := (s1.trans (s2.trans s3)) _ _ (show upd H P0 (.lst []) P0 = some (.lst []) from upd_same)
    have e1 := (s2.trans s3) _ _ e1
    have e2 := s3 _ _ e2
    have sA := s0.trans (s1.trans (s2.trans s3))
    clear s0 s1 s2 s3
    have a0 : All2 (WyA (fun _ => True) H3 0) wy0 [.ref P2] := .cons ⟨P2, P0, P1, (1, 1), rfl, ⟨True.intro, True.intro, True.intro⟩, e2, e0, e1, ⟨1, 1, by decide, by decide, by
      show ((1 : Int) : Rat) / ((1 : Int) : Rat) = 1
      simp
      grind⟩, ⟨by decide, by decide⟩, bd_lit rfl, bd_lit rfl, rfl⟩ .nil
    clear e0 e1 e2
    refine ⟨nm, ⟨sA.seq hL, l4⟩, fun M vs H4 s4 _ e4 a4 => ?_⟩
    have s04 := sA.trans s4
    have ml := mts_len l4
    refine ⟨M, rfl, ⟨_, SqL.of e4⟩, for_list (K := K) (a := M) (xs := vs) (fun i σ H' => ∃ (Wl : Addr) (us : List V) (o3 o4 o5 o6 : Option V), σ = [some (.ref L), some (.ref W), some (.ref Wl), o3, o4, o5, o6] ∧ Same H4 H' ∧ H' Wl = some (.lst us) ∧ All2 (WyA (fun _ => True) H' i) (wys w ((mts nm).take i) wy0) us) ⟨P3, _, _, _, _, _, rfl, Same.refl _, s4 _ _ e3, a0.imp fun m v r => r.up s4⟩ (fun i σ H' _ ⟨_, _, _, _, _, _, _, s, _⟩ => SqL.of (s _ _ e4)) ?_ ?_⟩
    · rintro i v σ H5 hv ⟨Wl, us, o3, o4, o5, o6, rfl, s5, e5, a5⟩
      obtain ⟨⟨x, y⟩, hg, pv, rfl, epv⟩ := a2_at66 a4 hv
      have li : i < (mts nm).length := (List.getElem?_eq_some_iff.mp hg).1
      have gk := mts_gk hW.2 (x, y) (List.mem_of_getElem? hg)
      obtain ⟨mx, my⟩ := mts_mem (List.mem_of_getElem? hg)
      have tk : (mts nm).take (i + 1) = (mts nm).take i ++ [(x, y)] := by rw [List.take_add_one, hg]; rfl
      have ll := a5.len
      rw [wys_len, List.length_take, Nat.min_eq_left (by omega)] at ll
      have l32 : us.length ≤ 32 := by
        have : 2 ^ i ≤ 2 ^ 5 := Nat.pow_le_pow_right (by decide) (by omega)
        have e1 : wy0.length = 1 := rfl
        rw [e1, Nat.mul_one] at ll
        omega
      refine ⟨pv, _, rfl, SqT.of (s5 _ _ epv), rfl, _, _, rfl, _, _, rfl, rfl, ?_⟩
      refine ⟨w, (hW.up (s04.trans s5)).sub (fun z hz => ?_), fun pm q H6 s6 eq lq ⟨p2, p1⟩ b1 b2 => ?_⟩
      · rcases List.mem_cons.mp hz with rfl | hz
        · exact mx
        · rw [List.mem_singleton.mp hz]
          exact my
      refine fun P4 H7 s7 e7 => ⟨(1, 1), q, ⟨⟨e7, by decide, bd_lit rfl, bd_lit rfl⟩, ⟨s7 _ _ eq, p2, b1.mono (by decide), b2.mono (by decide)⟩⟩, fun pt H8 s8 f8 => ?_⟩
      obtain ⟨q', eq', lq', eqq⟩ := fr_lq (by show 0 < 1 * q.2; omega) f8
      have gp := g2_pos gk.1.1 gk.2.1
      rw [rq_oneB lq p2, show 1 - g2 w x y = g2 w y x by grind] at lq'
      have lt : q.1 < q.2 := by
        have h1 := lq_rq lq
        have h2 : rq q.1 q.2 < rq 1 1 := by
          rw [h1, rq_one66]
          exact gp.2.1
        have := (rq_lt p2 (by decide)).mp h2
        omega
      have p' : 0 < q'.2 ∧ 0 < q'.1 := by
        rw [eqq]
        exact ⟨lowB_pos _ (by show 0 < 1 * q.2; omega), lowT_pos (by show 0 < 1 * q.2 - q.1 * 1; omega)⟩
      have b1' : Bd 12 q'.1 := by
        rw [eqq]
        exact bd_lowT (b2.of_le (by show (1 * q.2 - q.1 * 1).natAbs ≤ q.2.natAbs; omega))
      have b2' : Bd 12 q'.2 := by
        rw [eqq]
        exact bd_lowB (by show Bd 12 (1 * q.2); rw [Int.one_mul]; exact b2)
      have s58 := s6.trans (s7.trans s8)
      have eq := (s7.trans s8) _ _ eq
      have e58 := s58 _ _ e5
      have a8 : All2 (WyA (fun _ => True) H8 i) (wys w ((mts nm).take i) wy0) us := a5.imp fun m v r => r.up s58
      clear f8 eqq e7 s6 s7 s8 a5 e5
      refine ⟨Wl, rfl, ⟨_, SqL.of e58⟩, ?_⟩
      refine comp_absD66 (fun v m => WyA (fun _ => True) H8 i m v) (fun D H m v => WyA (· ≠ D) H (i + 1) (gon w x y m) v) (fun D m v H H' s r => r.up s) (fun D m v H o r => r.put) (by omega) (SqL.of e58) (a2_flip66 a8) ?_ ?_
      · intro D v m H9 hD hM hm s9 P hP
        obtain ⟨p, pl, pq, qa, rfl, _, h1, h2, h3, la, pa, ba, ba', lm⟩ := hM
        refine ⟨rfl, m.1, pl, pq, qa, q, ⟨s9 _ _ h1, s9 _ _ h2, by omega, ⟨s9 _ _ h3, pa.1, ba.mono (by omega), ba'.mono (by omega)⟩, ⟨s9 _ _ eq, p2, b1.mono (by decide), b2.mono (by decide)⟩⟩, fun T pl' r H10 s10 n10 eT ep f10 => ?_⟩
        obtain ⟨zs, hD⟩ := hD
        refine hP _ _ s10 (wy_gone ⟨zs, s10 _ _ hD⟩ (fun c => ?_) eT ep f10 la pa ba ba' lm lq ⟨p2, p1⟩ b1 b2)
        rw [c, hD] at n10
        cases n10
      intro D9 H9 ys s9 _ e9 a9
      refine ⟨Wl, rfl, ⟨_, SqL.of (s9 _ _ e58)⟩, ?_⟩
      refine comp_absD66 (fun v m => WyA (fun _ => True) H8 i m v) (fun D H m v => WyA (· ≠ D) H (i + 1) (gon w y x m) v) (fun D m v H H' s r => r.up s) (fun D m v H o r => r.put) (by omega) (SqL.of (s9 _ _ e58)) (a2_flip66 a8) ?_ ?_
      · intro D v m H10 hD hM hm s10 P hP
        have s10 := s9.trans s10
        obtain ⟨p, pl, pq, qa, rfl, _, h1, h2, h3, la, pa, ba, ba', lm⟩ := hM
        refine ⟨rfl, m.1, pl, pq, qa, q', ⟨s10 _ _ h1, s10 _ _ h2, by omega, ⟨s10 _ _ h3, pa.1, ba.mono (by omega), ba'.mono (by omega)⟩, ⟨s10 _ _ eq', p'.1, b1'.mono (by decide), b2'.mono (by decide)⟩⟩, fun T pl' r H11 s11 n11 eT ep f11 => ?_⟩
        obtain ⟨zs, hD⟩ := hD
        refine hP _ _ s11 (wy_gone ⟨zs, s11 _ _ hD⟩ (fun c => ?_) eT ep f11 la pa ba ba' lm lq' p' b1' b2')
        rw [c, hD] at n11
        cases n11
      intro D10 H10 zs s10 _ e10 a10
      have ly := a9.len
      have lz := a10.len
      have ll' := a8.len
      refine ⟨_, _, s10 _ _ e9, e10, by omega, fun D11 H11 s11 e11 => ⟨D11, _, _, _, _, _, rfl, s5.trans (s58.trans (s9.trans (s10.trans s11))), e11, ?_⟩⟩
      rw [tk, wys_snoc]
      exact all2_app (all2_map (a9.imp fun m v r => (WyA.any r).up (s10.trans s11))) (all2_map (a10.imp fun m v r => (WyA.any r).up s11))
    · rintro σ H5 ⟨Wl, us, o3, o4, o5, o6, rfl, s5, e5, a5⟩
      have lv := a4.len
      rw [← lv, List.take_length] at a5
      exact k Wl us H5 (s04.trans s5) e5 a5
theorem wys_ok {w : Str → Int} {gs : Gs} (h : Gk w gs) : ∀ m ∈ wys w gs wy0, WyOk w gs m := by
  have : ∀ (gs' pre : Gs) (ms : List Wy), Gk w (pre ++ gs') → (∀ m ∈ ms, WyOk w pre m) → ∀ m ∈ wys w gs' ms, WyOk w (pre ++ gs') m := by
    intro gs'
    induction gs' with
    | nil =>
      intro pre ms _ hm m h
      rw [List.append_nil]
      exact hm m h
    | cons g gs' ih =>
      intro pre ms hk hm m h
      have e : pre ++ g :: gs' = (pre ++ [g]) ++ gs' := by simp
      rw [e] at hk ⊢
      exact ih (pre ++ [g]) (stepW w g ms) hk (wyok_step (fun x hx => hk x (List.mem_append_left _ hx)) hm) m h
  refine this gs [] wy0 h fun m hm => ?_
  rw [List.mem_singleton.mp hm]
  exact ⟨by show (0 : Rat) < 1; grind, 1, rq_one66.symm⟩
def sp_first_place (K : PySem.W.Frag) (ns : List Int) : Sp := fun vs H Q _ => match vs with
  | [.str x, .ref L, .ref Wl] => ∃ (nm : List Str) (w : Str → Int) (vs : List V), (SqL K H L (nm.map V.str) ∧ 1 ≤ nm.length ∧ nm.length ≤ 4 ∧ SqL K H Wl vs ∧ All2 (WyA (fun _ => True) H (mts nm).length) (wys w (mts nm) wy0) vs ∧ Wk w nm) ∧ ∀ p H', Same H H' → FQ H' p (gsh w nm x) → Q (.ref p) H'
  | _ => False
theorem sc_first_place : FnScope ["name", "names", "ways", "whole", "winners", "likely", "leading"] ["name", "names", "ways"] (defScope s_first_place) := ⟨rfl, rfl, rfl, by decide +kernel, rfl, by decide +kernel, by decide +kernel⟩
theorem inv_first_place {vs : List V} {H : Hp} {Q : VK} {E : XK} (h : sp_first_place K ns vs H Q E) : ∃ x L Wl, vs = [.str x, .ref L, .ref Wl] := by
  first
  | (obtain ⟨v0, r0, rfl⟩ := gCons (S := fun l => sp_first_place K ns (l) H Q E) h id; obtain ⟨w0, rfl⟩ := gStr (S := fun v => sp_first_place K ns (v :: r0) H Q E) h (fun _ => id) (fun _ => id) id (fun _ => id) (fun _ => id) (fun _ => id) (fun _ => id); obtain ⟨v1, r1, rfl⟩ := gCons (S := fun l => sp_first_place K ns (.str w0 :: l) H Q E) h id; obtain ⟨w1, rfl⟩ := gRef (S := fun v => sp_first_place K ns (.str w0 :: v :: r1) H Q E) h (fun _ => id) (fun _ => id) id (fun _ => id) (fun _ => id) (fun _ => id) (fun _ => id); obtain ⟨v2, r2, rfl⟩ := gCons (S := fun l => sp_first_place K ns (.str w0 :: .ref w1 :: l) H Q E) h id; obtain ⟨w2, rfl⟩ := gRef (S := fun v => sp_first_place K ns (.str w0 :: .ref w1 :: v :: r2) H Q E) h (fun _ => id) (fun _ => id) id (fun _ => id) (fun _ => id) (fun _ => id) (fun _ => id); obtain rfl := gNil (S := fun l => sp_first_place K ns (.str w0 :: .ref w1 :: .ref w2 :: l) H Q E) h fun _ _ => id; exact ⟨_, _, _, rfl⟩)
  | (match vs, h with
    | [.str x, .ref L, .ref Wl], _ => exact ⟨_, _, _, rfl⟩)
theorem ok_first_place (d : Dfn K mg "first_place" s_first_place ["name", "names", "ways"]) (er : Errs K mg c_LadderError c_NoBook c_NoFit c_NoGame c_NoNumber c_NoPlayer c_NoRow c_NoStretch c_NoTable c_NoTree c_NoWorth) (n_len : mg "len" = none)  (c_plus : Cal P w K mg base "plus" ["one", "other"] 3 (sp_plus K ns)) (c_over : Cal P w K mg base "over" ["one", "other"] 3 (sp_over K ns)) (c_leaders : Cal P w K mg base "leaders" ["names", "winners"] 1 (sp_leaders K ns)) : Cal P w K mg base "first_place" ["name", "names", "ways"] 4 (sp_first_place K ns) := by
  refine d.cal (k := 3) sc_first_place (fun vs H Q E h => ?_) (fun f cdv A outer s H vs Q E hr h => ?_)
  · obtain ⟨x, L, Wl, rfl⟩ := inv_first_place h
    rfl
  · obtain ⟨x, L, Wl, rfl⟩ := inv_first_place h
    obtain ⟨nm, w, vs, ⟨hL, l1, l4, hV, aV, hw⟩, k⟩ := h
    refine ⟨_, (@pss_cons _ _ _ _ _ (@ps_set _ _ (3) _ _ _ _ sc_first_place.nd rfl (by first | exact Or.inl rfl | exact Or.inr rfl) (@e_tup _ _ _ _ _ (@pa_cons _ _ _ _ _ pe_int (@pa_cons _ _ _ _ _ pe_int pa_nil (by rfl)) (by rfl))) (by rfl) (by first | exact .inl rfl | exact .inr rfl | assumption)) (@pss_cons _ _ _ _ _ (@ps_for _ _ _ _ _ _ _ _ PassesOwn.never rfl (@pi_list _ _ _ _ (dv 2)) (@pg_tup _ _ _ _ _ _ rfl (@pgs_cons _ _ _ _ _ (@pg_name _ _ (4) _ sc_first_place.nd rfl (by first | exact Or.inl rfl | exact Or.inr rfl) (by first | exact .inl rfl | exact .inr rfl | assumption)) (@pgs_cons _ _ _ _ _ (@pg_name _ _ (5) _ sc_first_place.nd rfl (by first | exact Or.inl rfl | exact Or.inr rfl) (by first | exact .inl rfl | exact .inr rfl | assumption)) pgs_nil (by rfl)) (by rfl)) (by rfl) (by rfl)) (@pss_cons _ _ _ _ _ (@ps_set _ _ (6) _ _ _ _ sc_first_place.nd rfl (by first | exact Or.inl rfl | exact Or.inr rfl) (@e_call _ _ _ _ _ _ _ _ _ _ _ c_leaders hr (by decide) (by rfl) (@pa_cons _ _ _ _ _ (dv 1) (@pa_cons _ _ _ _ _ (dv 4) pa_nil (by rfl)) (by rfl)) (by decide) (by rfl) (by rfl)) (by rfl) (by first | exact .inl rfl | exact .inr rfl | assumption)) (@pss_one _ _ _ (@s_if _ _ _ _ _ _ _ _ (@t_cmp _ _ _ _ _ _ _ _ o_in (dv 0) (dv 6) (by with_unfolding_all rfl)) (@pss_one _ _ _ (@ps_set _ _ (3) _ _ _ _ sc_first_place.nd rfl (by first | exact Or.inl rfl | exact Or.inr rfl) (@e_call _ _ _ _ _ _ _ _ _ _ _ c_plus hr (by decide) (by rfl) (@pa_cons _ _ _ _ _ (dv 3) (@pa_cons _ _ _ _ _ (@e_call _ _ _ _ _ _ _ _ _ _ _ c_over hr (by decide) (by rfl) (@pa_cons _ _ _ _ _ (dv 5) (@pa_cons _ _ _ _ _ (@e_tup _ _ _ _ _ (@pa_cons _ _ _ _ _ (@pe_callB _ _ _ _ _ _ _ _ _ c_len (by rfl) n_len (by decide +kernel) (@pa_cons _ _ _ _ _ (dv 6) pa_nil (by rfl)) (by decide) (by decide) (by rfl) (by rfl)) (@pa_cons _ _ _ _ _ pe_int pa_nil (by rfl)) (by rfl))) pa_nil (by rfl)) (by rfl)) (by decide) (by rfl) (by rfl)) pa_nil (by rfl)) (by rfl)) (by decide) (by rfl) (by rfl)) (by rfl) (by first | exact .inl rfl | exact .inr rfl | assumption))) pss_nil))) (by intro _; rfl)) (@pss_one _ _ _ (@ps_ret _ _ _ _ (dv 3))))), ?_⟩
    refine fun P0 H0 s0 e0 => ?_
    have ml := mts_len l4
    have gk := mts_gk hw
    have wk : ∀ m ∈ wys w (mts nm) wy0, WyOk w (mts nm) m := wys_ok gk
    have pp := pg_pos gk
    obtain ⟨ms, ems⟩ : ∃ ms, ms = wys w (mts nm) wy0 := ⟨_, rfl⟩
    rw [← ems] at aV wk
    have tot : sW (FR nm x) ms = gsh w nm x := by
      rw [ems, sW_wys]
      show 1 * Ev w (mts nm) (FR nm x) (cnt []) + 0 = Ev w (mts nm) (FR nm x) fun _ => 0
      rw [show cnt [] = fun _ => 0 from rfl]
      grind
    have one : sW (fun _ => 1) ms = 1 := by
      rw [ems, sW_wys]
      show 1 * Ev w (mts nm) (fun _ => 1) (cnt []) + 0 = 1
      rw [ev_one gk]
      grind
    have part : ∀ i, 0 ≤ sW (FR nm x) (ms.take i) ∧ sW (FR nm x) (ms.take i) ≤ 1 ∧ ∃ kk : Int, sW (FR nm x) (ms.take i) = rq kk (12 * pg w (mts nm)) := fun i => by
      have pt : ∀ m ∈ ms.take i, 0 < m.2 := fun m hm => (wk m (List.mem_of_mem_take hm)).nn
      have pd : ∀ m ∈ ms.drop i, 0 < m.2 := fun m hm => (wk m (List.mem_of_mem_drop hm)).nn
      refine ⟨sW_nn (fun c => (FR_bd l4 c).1) pt, ?_, sW_den (by decide) pp (FI_FR l4) fun m hm => wk m (List.mem_of_mem_take hm)⟩
      have a := sW_le (g := fun _ => 1) (fun c => (FR_bd l4 (x := x) c).2) pt
      have b := sW_nn (f := fun _ => 1) (fun c => by grind) pd
      have c : sW (fun _ => 1) ms = sW (fun _ => 1) (ms.take i) + sW (fun _ => 1) (ms.drop i) := by rw [← sW_app, List.take_append_drop]
      grind
    have bN : Bd 400 (12 * pg w (mts nm)) := ((show Bd 4 12 from bd_lit rfl).mul (pg_bd gk)).mono (by omega)
    refine ⟨Wl, rfl, ⟨_, s0.seq hV⟩, for_list (K := K) (a := Wl) (xs := vs) (fun i σ H' => ∃ (p : Addr) (o4 o5 o6 : Option V), σ = [some (.str x), some (.ref L), some (.ref Wl), some (.ref p), o4, o5, o6] ∧ Same H H' ∧ FQ H' p (sW (FR nm x) (ms.take i))) ⟨P0, _, _, _, rfl, s0, (0, 1), e0, ⟨0, 1, by decide, by decide, rq_zero'⟩, ⟨by decide, by decide⟩, bd_lit rfl, bd_lit rfl⟩ (fun i σ H' _ ⟨_, _, _, _, _, s, _⟩ => s.seq hV) ?_ ?_⟩
    · rintro i v σ H1 hv ⟨p, o4, o5, o6, rfl, s1, q1, eq1, lq1, ⟨pq1, pq1'⟩, bq1, bq1'⟩
      obtain ⟨m, hm, pv, pl, pq, q, rfl, _, h1, h2, h3, lq, ⟨p2, p1⟩, b1, b2, lm⟩ := a2_at66 aV hv
      have tk : ms.take (i + 1) = ms.take i ++ [m] := by rw [List.take_add_one, hm]; rfl
      have es : sW (FR nm x) (ms.take (i + 1)) = sW (FR nm x) (ms.take i) + m.2 * FR nm x (cnt m.1) := by
        rw [tk, sW_app]
        show _ + (m.2 * FR nm x (cnt m.1) + 0) = _
        grind
      refine ⟨pv, _, rfl, SqT.of (s1 _ _ h1), rfl, _, _, rfl, _, _, rfl, rfl, ?_⟩
      refine ⟨nm, m.1, ⟨s1.seq hL, SqL.of (s1 _ _ h2), l1, l4⟩, fun D H2 s2 e2 => ?_⟩
      refine ⟨_, .inl (SqL.of e2), rfl, flat_strs _, ?_⟩
      rw [in_strs]
      refine ⟨fun h => ?_, fun h => ?_⟩
      · have hx : x ∈ lead nm (cnt m.1) := of_decide_eq_true h
        have l0 : 0 < (lead nm (cnt m.1)).length := List.length_pos_of_mem hx
        have ll := lead_len (nm := nm) (c := cnt m.1)
        have fr : FR nm x (cnt m.1) = rq 1 ((lead nm (cnt m.1)).length : Int) := if_pos hx
        refine ⟨_, .inl (SqL.of e2), ?_⟩
        rw [List.length_map]
        refine fun P4 H3 s3 e3 => ⟨q, (((lead nm (cnt m.1)).length : Int), 1), ⟨⟨(s1.trans (s2.trans s3)) _ _ h3, p2, b1.mono (by omega), b2.mono (by omega)⟩, ⟨e3, (by show (0 : Int) < 1; decide), bd_of (b := 10) (by show -_ ≤ ((lead nm (cnt m.1)).length : Int); omega) (by show ((lead nm (cnt m.1)).length : Int) ≤ _; omega) (bd_lit rfl), bd_lit rfl⟩, (by show ((lead nm (cnt m.1)).length : Int) ≠ 0; omega)⟩, fun po H4 s4 f4 => ?_⟩
        have pb : 0 < q.2 * ((lead nm (cnt m.1)).length : Int) := Int.mul_pos p2 (by omega)
        obtain ⟨qo, eo, lo, eqo⟩ := fr_lq pb f4
        have vo : rq (q.1 * 1) (q.2 * ((lead nm (cnt m.1)).length : Int)) = m.2 * FR nm x (cnt m.1) := by
          rw [← rq_times p2 (by omega), lq_rq lq, fr]
        rw [vo] at lo
        have po' : 0 < qo.2 := by rw [eqo]; exact lowB_pos _ pb
        have bl : Bd 4 ((lead nm (cnt m.1)).length : Int) := bd_of (b := 10) (by omega) (by omega) (bd_lit rfl)
        have bo : Bd 1000 qo.1 := by rw [eqo]; exact (bd_lowT (b1.mul (bd_lit rfl : Bd 1 1))).mono (by omega)
        have bo' : Bd 1000 qo.2 := by rw [eqo]; exact (bd_lowB (b2.mul bl)).mono (by omega)
        refine ⟨q1, qo, ⟨⟨(s2.trans (s3.trans s4)) _ _ eq1, pq1, bq1.mono (by decide), bq1'.mono (by decide)⟩, ⟨eo, po', bo, bo'⟩⟩, fun pw H5 s5 fw => ?_⟩
        obtain ⟨qw, ew, lw, _⟩ := fr_lq (Int.mul_pos pq1 po') fw
        rw [rq_add pq1 po', lq_rq lq1, lq_rq lo, ← es] at lw
        obtain ⟨c1, c2, kk, ck⟩ := part (i + 1)
        obtain ⟨d1, d2, d3⟩ := lq_bd lw c1 c2 (Int.mul_pos (by decide) pp) bN ck
        exact ⟨pw, _, _, _, rfl, s1.trans (s2.trans (s3.trans (s4.trans s5))), qw, ew, lw, d1, d2, d3⟩
      · have hx : x ∉ lead nm (cnt m.1) := of_decide_eq_false h
        have fr : FR nm x (cnt m.1) = 0 := if_neg hx
        have e' : sW (FR nm x) (ms.take (i + 1)) = sW (FR nm x) (ms.take i) := by
          rw [es, fr]
          grind
        refine ⟨p, _, _, _, rfl, s1.trans s2, ?_⟩
        rw [e']
        exact ⟨q1, s2 _ _ eq1, lq1, ⟨pq1, pq1'⟩, bq1, bq1'⟩
    · rintro σ H1 ⟨p, o4, o5, o6, rfl, s1, f1⟩
      have lv := aV.len
      rw [← lv, List.take_length, tot] at f1
      exact k p H1 s1 f1
theorem valV_has {kvs : List (Key × V)} {k : Key} : valV kvs k = none ∨ ∃ v, valV kvs k = some v := by
  cases e : valV kvs k with
  | none => exact .inl rfl
  | some v => exact .inr ⟨v, rfl⟩
def sp_check_worths (K : PySem.W.Frag) (ns : List Int) : Sp := fun vs H Q E => match vs with
  | [.ref L, .ref W] => ∃ (l : List Str) (kvs : List (Key × V)), (SqL K H L (l.map V.str) ∧ Rd H W (.dK kvs)) ∧ ((∀ x ∈ l, ∃ v, valV kvs (Sum.inr x) = some v) → Q .non H) ∧ ((∃ x ∈ l, valV kvs (Sum.inr x) = none) → ExN K "NoPlayer" E H)
  | _ => False
theorem sc_check_worths : FnScope ["names", "worths", "name"] ["names", "worths"] (defScope s_check_worths) := ⟨rfl, rfl, rfl, by decide +kernel, rfl, by decide +kernel, by decide +kernel⟩
theorem inv_check_worths {vs : List V} {H : Hp} {Q : VK} {E : XK} (h : sp_check_worths K ns vs H Q E) : ∃ L W, vs = [.ref L, .ref W] := by
  first
  | (obtain ⟨v0, r0, rfl⟩ := gCons (S := fun l => sp_check_worths K ns (l) H Q E) h id; obtain ⟨w0, rfl⟩ := gRef (S := fun v => sp_check_worths K ns (v :: r0) H Q E) h (fun _ => id) (fun _ => id) id (fun _ => id) (fun _ => id) (fun _ => id) (fun _ => id); obtain ⟨v1, r1, rfl⟩ := gCons (S := fun l => sp_check_worths K ns (.ref w0 :: l) H Q E) h id; obtain ⟨w1, rfl⟩ := gRef (S := fun v => sp_check_worths K ns (.ref w0 :: v :: r1) H Q E) h (fun _ => id) (fun _ => id) id (fun _ => id) (fun _ => id) (fun _ => id) (fun _ => id); obtain rfl := gNil (S := fun l => sp_check_worths K ns (.ref w0 :: .ref w1 :: l) H Q E) h fun _ _ => id; exact ⟨_, _, rfl⟩)
  | (match vs, h with
    | [.ref L, .ref W], _ => exact ⟨_, _, rfl⟩)
theorem ok_check_worths (d : Dfn K mg "check_worths" s_check_worths ["names", "worths"]) (er : Errs K mg c_LadderError c_NoBook c_NoFit c_NoGame c_NoNumber c_NoPlayer c_NoRow c_NoStretch c_NoTable c_NoTree c_NoWorth)    : Cal P w K mg base "check_worths" ["names", "worths"] 1 (sp_check_worths K ns) := by
  refine d.calX (k := 0) sc_check_worths (fun vs H Q E h => ?_) (fun f cdv A outer s H vs Q E hr h => ?_)
  · obtain ⟨L, W, rfl⟩ := inv_check_worths h
    rfl
  · obtain ⟨L, W, rfl⟩ := inv_check_worths h
    obtain ⟨l, kvs, ⟨hL, hW⟩, k1, k2⟩ := h
    refine ⟨_, (@pss_one _ _ _ (@ps_for _ _ _ _ _ _ _ _ PassesOwn.leaving rfl (@pi_list _ _ _ _ (dv 0)) (@pg_name _ _ (2) _ sc_check_worths.nd rfl (by first | exact Or.inl rfl | exact Or.inr rfl) (by first | exact .inl rfl | exact .inr rfl | assumption)) (@pss_one _ _ _ (@s_if _ _ _ _ _ _ _ _ (@t_dnotin _ _ _ _ _ _ (@u1 _ _ hr.units) (dv 2) (dv 1) (by with_unfolding_all rfl)) (@pss_one _ _ _ (@ps_raise _ _ _ _ _ _ _ _ _ _ _ _ _ _ _ _ _ _ _ _ _ _ _ er.b_NoPlayer er.x_NoPlayer (by rfl) (by decide))) pss_nil)) (by intro _; rfl))), ?_⟩
    refine ⟨L, rfl, ⟨_, hL⟩, for_list (K := K) (a := L) (xs := l.map V.str) (fun i σ H' => ∃ o2 : Option V, σ = [some (.ref L), some (.ref W), o2] ∧ H' = H ∧ ∀ j x, j < i → l[j]? = some x → ∃ v, valV kvs (Sum.inr x) = some v) ⟨none, rfl, rfl, fun j x h => absurd h (Nat.not_lt_zero _)⟩ (fun i σ H' _ ⟨_, _, e, _⟩ => by rw [e]; exact hL) ?_ ?_⟩
    · rintro i v σ H' hv ⟨o2, rfl, eH, al⟩
      rw [eH]
      clear eH H'
      rw [List.getElem?_map] at hv
      obtain ⟨x, hx, rfl⟩ := Option.map_eq_some_iff.mp hv
      refine ⟨W, _, rfl, dget_r' (k := Sum.inr x) hW, ?_⟩
      rcases valV_has (kvs := kvs) (k := Sum.inr x) with e | ⟨v, e⟩
      · rw [e]
        exact ⟨fun _ => k2 ⟨x, List.mem_of_getElem? hx, e⟩ _ er.y_NoPlayer, fun h => nb h⟩
      · rw [e]
        refine ⟨fun h => nb h, fun _ => ⟨_, rfl, rfl, fun j y hj hy => ?_⟩⟩
        by_cases c : j = i
        · subst c
          rw [hx] at hy
          cases hy
          exact ⟨v, e⟩
        · exact al j y (by omega) hy
    · rintro σ H' ⟨o2, rfl, rfl, al⟩
      refine k1 fun x hx => ?_
      obtain ⟨j, hj, e⟩ := List.getElem_of_mem hx
      exact al j x (by rw [List.length_map]; exact hj) (by rw [List.getElem?_eq_getElem hj, e])
def kvI (nm : List Str) (w : Str → Int) : List (Key × V) := kvV nm fun x => .int (w x)
theorem kvI_no {nm : List Str} {w : Str → Int} {x : Str} (h : x ∉ nm) : valV (kvI nm w) (Sum.inr x) = none := by
  unfold kvI kvV
  induction nm with
  | nil => rfl
  | cons y nm ih =>
    rw [List.map_cons, valV_neg fun e => h (by
      have : y = x := Sum.inr.inj e
      rw [this]
      exact List.mem_cons_self)]
    exact ih fun c => h (List.mem_cons_of_mem _ c)
theorem kvI_wa {H : Hp} {D : Addr} {nm l : List Str} {w : Str → Int} (e : Rd H D (.dK (kvI nm w))) (h : Wk w nm) (s : ∀ x ∈ l, x ∈ nm) : WA H D l w := ⟨⟨_, e, fun x hx => kvV_val (s x hx)⟩, fun x hx => h x (s x hx)⟩
def sp_tree_shares (K : PySem.W.Frag) (ns : List Int) : Sp := fun vs H Q E => match vs with
  | [v, .ref W] => ∃ (t : Tr) (l : List Str) (w : Str → Int), (TrAt H t v ∧ TOk t ∧ Rd H W (.dK (kvI l w)) ∧ Wk w l) ∧ ((∀ x ∈ lv t, x ∈ l) → ∀ L ys H', Same H H' → H L = none → H' L = some (.lst ys) → Q (.ref L) H') ∧ ((∃ x ∈ lv t, x ∉ l) → ∀ H', Same H H' → ExN K "NoPlayer" E H')
  | _ => False
theorem sc_tree_shares : FnScope ["tree", "worths", "shares"] ["tree", "worths"] (defScope s_tree_shares) := ⟨rfl, rfl, rfl, by decide +kernel, rfl, by decide +kernel, by decide +kernel⟩
theorem inv_tree_shares {vs : List V} {H : Hp} {Q : VK} {E : XK} (h : sp_tree_shares K ns vs H Q E) : ∃ v W, vs = [v, .ref W] := by
  first
  | (obtain ⟨v0, r0, rfl⟩ := gCons (S := fun l => sp_tree_shares K ns (l) H Q E) h id; obtain ⟨v1, r1, rfl⟩ := gCons (S := fun l => sp_tree_shares K ns (v0 :: l) H Q E) h id; obtain ⟨w1, rfl⟩ := gRef (S := fun v => sp_tree_shares K ns (v0 :: v :: r1) H Q E) h (fun _ => id) (fun _ => id) id (fun _ => id) (fun _ => id) (fun _ => id) (fun _ => id); obtain rfl := gNil (S := fun l => sp_tree_shares K ns (v0 :: .ref w1 :: l) H Q E) h fun _ _ => id; exact ⟨_, _, rfl⟩)
  | (match vs, h with
    | [v, .ref W], _ => exact ⟨_, _, rfl⟩)
theorem ok_tree_shares (d : Dfn K mg "tree_shares" s_tree_shares ["tree", "worths"]) (er : Errs K mg c_LadderError c_NoBook c_NoFit c_NoGame c_NoNumber c_NoPlayer c_NoRow c_NoStretch c_NoTable c_NoTree c_NoWorth) (n_sorted : mg "sorted" = none)  (c_shares_of : Cal P w K mg base "shares_of" ["tree", "worths"] 15 (sp_shares_of K ns)) (c_check_worths : Cal P w K mg base "check_worths" ["names", "worths"] 1 (sp_check_worths K ns)) (c_leaves : Cal P w K mg base "leaves" ["tree"] 2 (sp_leaves K ns)) : Cal P w K mg base "tree_shares" ["tree", "worths"] 16 (sp_tree_shares K ns) := by
  refine d.calX (k := 15) sc_tree_shares (fun vs H Q E h => ?_) (fun f cdv A outer s H vs Q E hr h => ?_)
  · obtain ⟨v, W, rfl⟩ := inv_tree_shares h
    rfl
  · obtain ⟨v, W, rfl⟩ := inv_tree_shares h
    obtain ⟨t, l, w, ⟨hT, ok, hW, hk⟩, k1, k2⟩ := h
    refine ⟨_, (@pss_cons _ _ _ _ _ (@ps_expr _ _ _ _ (@e_callX _ _ _ _ _ _ _ _ _ _ _ _ _ _ _ _ _ _ _ _ _ _ _ _ _ c_check_worths hr (by decide) (by rfl) (@pa_cons _ _ _ _ _ (@e_call _ _ _ _ _ _ _ _ _ _ _ c_leaves hr (by decide) (by rfl) (@pa_cons _ _ _ _ _ (dv 0) pa_nil (by rfl)) (by decide) (by rfl) (by rfl)) (@pa_cons _ _ _ _ _ (dv 1) pa_nil (by rfl)) (by rfl)) (by decide) (by rfl) (by rfl)) (by rfl)) (@pss_cons _ _ _ _ _ (@ps_set _ _ (2) _ _ _ _ sc_tree_shares.nd rfl (by first | exact Or.inl rfl | exact Or.inr rfl) (@e_call _ _ _ _ _ _ _ _ _ _ _ c_shares_of hr (by decide) (by rfl) (@pa_cons _ _ _ _ _ (dv 0) (@pa_cons _ _ _ _ _ (dv 1) pa_nil (by rfl)) (by rfl)) (by decide) (by rfl) (by rfl)) (by rfl) (by first | exact .inl rfl | exact .inr rfl | assumption)) (@pss_one _ _ _ (@ps_ret _ _ _ _ (@e_compN _ _ _ _ _ _ _ _ _ _ ["name"] ["shares"] [2] rfl (@pi_list _ _ _ _ (@pe_callB _ _ _ _ _ _ _ _ _ c_sortD (by rfl) n_sorted (by decide +kernel) (@pa_cons _ _ _ _ _ (dv 2) pa_nil (by rfl)) (by decide) (by decide) (by rfl) (by rfl))) (fun C s H fp => (@pg_name _ _ (0) _ (show List.Nodup [("name" : Str), ("shares" : Str)] by decide +kernel) rfl (by first | exact Or.inl rfl | exact Or.inr rfl) (by first | exact .inl rfl | exact .inr rfl | assumption))) (fun C s H fp => (@e_tup _ _ _ _ _ (@pa_cons _ _ _ _ _ (dv 0) (@pa_cons _ _ _ _ _ (@pe_dget _ _ _ _ _ _ (@u1 _ _ hr.units) (dv 1) (dv 0) (fun _ _ => rfl)) pa_nil (by rfl)) (by rfl)))) rfl rfl (by decide +kernel) (by decide +kernel) (by rfl) ⟨rfl, True.intro⟩ ⟨⟨rfl, rfl, rfl, rfl⟩, True.intro⟩ (by intro _; rfl)))))), ?_⟩
    refine ⟨t, ⟨hT, ok⟩, fun D H1 s1 n1 e1 => ⟨lv t, kvI l w, ⟨SqL.of e1, rd_up' s1 hW⟩, fun al => ?_, fun ⟨x, hx, e⟩ => k2 ⟨x, hx, fun c => by rw [kvI, kvV_val c] at e; cases e⟩ H1 s1⟩⟩
    have sub : ∀ x ∈ lv t, x ∈ l := fun x hx => Classical.byContradiction fun c => by
      obtain ⟨v, e⟩ := al x hx
      rw [kvI_no c] at e
      cases e
    have hW' : WA H W (lv t) w := kvI_wa hW hk sub
    have k := k1 sub
    have hW := hW'
    clear hW' k1 k2 al
    refine ⟨t, w, ⟨tr_up (kt_of s1) _ _ hT, ok, hW.up s1, ok.len⟩, fun D2 f H2 s2 n2 e2 a2 => ?_⟩
    have l8 := ok.len
    refine ⟨kvV (lv t) f, lv t, e2, kvV_keys, by omega, ok.nd, fun L0 hL0 => ?_⟩
    have s3 : Same H2 (upd H2 L0 (.lst ((srt (lv t)).map V.str))) := same_upd hL0
    have e3 : upd H2 L0 (.lst ((srt (lv t)).map V.str)) L0 = some (.lst ((srt (lv t)).map V.str)) := upd_same
    generalize upd H2 L0 (.lst ((srt (lv t)).map V.str)) = H3 at s3 e3
    have sl : (srt (lv t)).length ≤ 8 := Nat.le_trans (nd_len (inc_nodup (inc_srt _)) fun x hx => mem_srt.mp hx) l8
    refine ⟨L0, rfl, ⟨_, SqL.of e3⟩, comp_abs (fun _ v (x : Str) => v = V.str x) (fun _ _ _ _ _ h => h) (NP (sh w t)) np_up (by rw [List.length_map]; omega) (SqL.of e3) (a2_strs64 _) ?_ ?_⟩
    · intro v x H4 hM hx s4 P hP
      subst hM
      have hx := mem_srt.mp hx
      obtain ⟨p, h1, h2⟩ := a2 x hx
      have s34 := s3.trans s4
      have gx : DGet H4 D2 (.str x) (some (.ref p)) := by
        have := dget_r' (k := Sum.inr x) (.inl (s34 _ _ e2))
        rw [kvV_val hx, h1] at this
        exact this
      exact ⟨rfl, D2, _, rfl, gx, fun T H5 s5 e5 => hP _ _ s5 ⟨T, p, rfl, e5, fq_up' (kt_of (s34.trans s5)) h2⟩⟩
    intro L H4 ys s4 n4 e4 a4
    exact k L ys H4 (s1.trans (s2.trans (s3.trans s4))) (none_back (s1.trans (s2.trans s3)) n4) e4
def KdT (H : Hp) : V → Prop
  | .int _ => True
  | .bl _ => True
  | .non => True
  | .str _ => True
  | .ref p => ∃ xs, H p = some (.tup xs)
  | _ => False
theorem KdT.kd {H : Hp} : ∀ {v : V}, KdT H v → Kd H v
  | .int _, _ => True.intro
  | .bl _, _ => True.intro
  | .non, _ => True.intro
  | .str _, _ => True.intro
  | .ref _, ⟨_, h⟩ => ⟨_, _, h, rfl, rfl⟩
  | .flt _, h => h
  | .byt _, h => h
  | .ty _, h => h
theorem KdT.kt {H H' : Hp} (k : Kt H H') : ∀ {v : V}, KdT H v → KdT H' v
  | .int _, _ => True.intro
  | .bl _, _ => True.intro
  | .non, _ => True.intro
  | .str _, _ => True.intro
  | .ref _, ⟨_, h⟩ => ⟨_, k _ _ h⟩
  | .flt _, h => h
  | .byt _, h => h
  | .ty _, h => h
def BadG (H : Hp) (vs : List V) : Prop := vs.length ≤ 12 ∧ (∀ v ∈ vs, KdT H v ∧ ∀ z, v = .str z → z.length ≤ 1000) ∧ (vs.length = 0 ∨ 4 < vs.length ∨ (∃ v ∈ vs, isNm v = false) ∨ ∃ nm : List Str, vs = nm.map V.str ∧ ¬ nm.Nodup)
theorem BadG.up {H H' : Hp} {vs : List V} (s : Same H H') (h : BadG H vs) : BadG H' vs := ⟨h.1, fun v hv => ⟨(h.2.1 v hv).1.kt (kt_of s), (h.2.1 v hv).2⟩, h.2.2⟩
theorem nm_strs : ∀ {vs : List V}, (∀ v ∈ vs, isNm v = true) → ∃ nm : List Str, vs = nm.map V.str
  | [], _ => ⟨[], rfl⟩
  | v :: vs, h => by
    obtain ⟨nm, rfl⟩ := nm_strs fun v hv => h v (List.mem_cons_of_mem _ hv)
    have := h v List.mem_cons_self
    cases v with
    | str x => exact ⟨x :: nm, rfl⟩
    | _ => cases this
theorem all2_self {P : V → Prop} : ∀ {l : List V}, (∀ v ∈ l, P v) → All2 (fun v m => v = m ∧ P v) l l
  | [], _ => .nil
  | v :: l, h => .cons ⟨rfl, h v List.mem_cons_self⟩ (all2_self fun v hv => h v (List.mem_cons_of_mem _ hv))
theorem all2_nm : ∀ {l ys : List V}, All2 (fun m y => y = V.bl (isNm m)) l ys → ys = (l.map isNm).map V.bl
  | _, _, .nil => rfl
  | _, _, .cons e r => by rw [e, all2_nm r]; rfl
theorem dup_less : ∀ {nm : List Str}, ¬ nm.Nodup → ∃ m : List Str, m.length + 1 = nm.length ∧ ∀ y ∈ nm, y ∈ m
  | [], h => absurd List.nodup_nil h
  | x :: r, h => by
    by_cases c : x ∈ r
    · refine ⟨r, rfl, fun y hy => ?_⟩
      rcases List.mem_cons.mp hy with rfl | hy
      · exact c
      · exact hy
    · obtain ⟨m, h1, h2⟩ := dup_less (nm := r) fun n => h (List.nodup_cons.mpr ⟨c, n⟩)
      refine ⟨x :: m, by rw [List.length_cons, List.length_cons, h1], fun y hy => ?_⟩
      rcases List.mem_cons.mp hy with rfl | hy
      · exact List.mem_cons_self
      · exact List.mem_cons_of_mem _ (h2 y hy)
theorem srt_lt {nm : List Str} (h : ¬ nm.Nodup) : (srt nm).length ≠ nm.length := fun e => by
  obtain ⟨m, h1, h2⟩ := dup_less h
  have := nd_len (inc_nodup (inc_srt nm)) fun y hy => h2 y (mem_srt.mp hy)
  omega
def sp_check_group (K : PySem.W.Frag) (ns : List Int) : Sp := fun vs H Q E => match vs with
  | [.ref L] => (∃ nm : List Str, (H L = some (.lst (nm.map V.str)) ∧ 1 ≤ nm.length ∧ nm.length ≤ 4 ∧ NL nm) ∧ ∀ H', Same H H' → Q .non H') ∨ ∃ vs, (H L = some (.lst vs) ∧ BadG H vs) ∧ ∀ H', Same H H' → ExN K "NoTree" E H'
  | _ => False
theorem sc_check_group : FnScope ["names"] ["names"] (defScope s_check_group) := ⟨rfl, rfl, rfl, by decide +kernel, rfl, by decide +kernel, by decide +kernel⟩
theorem inv_check_group {vs : List V} {H : Hp} {Q : VK} {E : XK} (h : sp_check_group K ns vs H Q E) : ∃ L, vs = [.ref L] := by
  first
  | (obtain ⟨v0, r0, rfl⟩ := gCons (S := fun l => sp_check_group K ns (l) H Q E) h id; obtain ⟨w0, rfl⟩ := gRef (S := fun v => sp_check_group K ns (v :: r0) H Q E) h (fun _ => id) (fun _ => id) id (fun _ => id) (fun _ => id) (fun _ => id) (fun _ => id); obtain rfl := gNil (S := fun l => sp_check_group K ns (.ref w0 :: l) H Q E) h fun _ _ => id; exact ⟨_, rfl⟩)
  | (match vs, h with
    | [.ref L], _ => exact ⟨_, rfl⟩)
theorem ok_check_group (d : Dfn K mg "check_group" s_check_group ["names"]) (er : Errs K mg c_LadderError c_NoBook c_NoFit c_NoGame c_NoNumber c_NoPlayer c_NoRow c_NoStretch c_NoTable c_NoTree c_NoWorth) (n_len : mg "len" = none) (n_set : mg "set" = none) (n_all : mg "all" = none) (n_isinstance : mg "isinstance" = none) (n_list : mg "list" = none) (v_MOST_IN_GROUP : Cst mg "MOST_IN_GROUP" (.int (4))) (c_is_name : Cal P w K mg base "is_name" ["thing"] 1 (sp_is_name K ns)) : Cal P w K mg base "check_group" ["names"] 2 (sp_check_group K ns) := by
  refine d.calX (k := 1) sc_check_group (fun vs H Q E h => ?_) (fun f cdv A outer s H vs Q E hr h => ?_)
  · obtain ⟨L, rfl⟩ := inv_check_group h
    rfl
  · obtain ⟨L, rfl⟩ := inv_check_group h
    have hh := h
    refine ⟨_, (@pss_cons _ _ _ _ _ (@s_if _ _ _ _ _ _ _ _ (@L2.PW.pt _ _ _ (@w_or _ _ _ _ _ _ _ (@pt_not _ _ _ _ (@t_val _ _ _ (@pe_callB _ _ _ _ _ _ _ _ _ c_isi (by rfl) n_isinstance (by decide +kernel) (@pa_cons _ _ _ _ _ (dv 0) (@pa_cons _ _ _ _ _ (e_ty "list" (by rfl) n_list (by decide +kernel)) pa_nil (by rfl)) (by rfl)) (by decide) (by decide) (by rfl) (by rfl)) (by intro _; rfl))) (@pw_or1 _ _ _ _ (@pt_not _ _ _ _ (@t_chain _ _ _ _ _ _ _ _ _ _ _ _ o_le o_le pe_int (@pe_callB _ _ _ _ _ _ _ _ _ c_len (by rfl) n_len (by decide +kernel) (@pa_cons _ _ _ _ _ (dv 0) pa_nil (by rfl)) (by decide) (by decide) (by rfl) (by rfl)) (g_cst v_MOST_IN_GROUP (by rfl)) (by with_unfolding_all rfl)))))) (@pss_one _ _ _ (@ps_raise _ _ _ _ _ _ _ _ _ _ _ _ _ _ _ _ _ _ _ _ _ _ _ er.b_NoTree er.x_NoTree (by rfl) (by decide))) pss_nil) (@pss_cons _ _ _ _ _ (@s_if _ _ _ _ _ _ _ _ (@pt_not _ _ _ _ (@t_val _ _ _ (@pe_callB _ _ _ _ _ _ _ _ _ (@c_all _ rfl) (by rfl) n_all (by decide +kernel) (@pa_cons _ _ _ _ _ (@e_compN _ _ _ _ _ _ _ _ _ _ ["name"] [] [] rfl (@pi_list _ _ _ _ (dv 0)) (fun C s H fp => (@pg_name _ _ (0) _ (show List.Nodup [("name" : Str)] by decide +kernel) rfl (by first | exact Or.inl rfl | exact Or.inr rfl) (by first | exact .inl rfl | exact .inr rfl | assumption))) (fun C s H fp => (@e_call _ _ _ _ _ _ _ _ _ _ _ c_is_name hr (by decide) (by rfl) (@pa_cons _ _ _ _ _ (dv 0) pa_nil (by rfl)) (by decide) (by rfl) (by rfl))) rfl rfl (by decide +kernel) (by decide +kernel) (by rfl) True.intro True.intro (by intro _; rfl)) pa_nil (by rfl)) (by decide) (by decide) (by rfl) (by rfl)) (by intro _; rfl))) (@pss_one _ _ _ (@ps_raise _ _ _ _ _ _ _ _ _ _ _ _ _ _ _ _ _ _ _ _ _ _ _ er.b_NoTree er.x_NoTree (by rfl) (by decide))) pss_nil) (@pss_one _ _ _ (@s_if _ _ _ _ _ _ _ _ (@t_cmp _ _ _ _ _ _ _ _ o_ne (@e_lset _ _ _ _ _ _ _ (by rfl) n_len (by rfl) n_set (dv 0) (by rfl) (by rfl) (by rfl)) (@pe_callB _ _ _ _ _ _ _ _ _ c_len (by rfl) n_len (by decide +kernel) (@pa_cons _ _ _ _ _ (dv 0) pa_nil (by rfl)) (by decide) (by decide) (by rfl) (by rfl)) (@nomark _ _ (by decide) (by decide))) (@pss_one _ _ _ (@ps_raise _ _ _ _ _ _ _ _ _ _ _ _ _ _ _ _ _ _ _ _ _ _ _ er.b_NoTree er.x_NoTree (by rfl) (by decide))) pss_nil)))), ?_⟩
    obtain ⟨vs, hL, kd, lim, good, bad⟩ : ∃ vs, H L = some (.lst vs) ∧ (∀ v ∈ vs, KdT H v ∧ ∀ z, v = .str z → z.length ≤ 1000) ∧ vs.length ≤ 12 ∧ ((1 ≤ vs.length ∧ vs.length ≤ 4) → (∀ v ∈ vs, isNm v = true) → ∀ nm : List Str, vs = nm.map V.str → nm.Nodup → ∀ H', Same H H' → Q .non H') ∧ ((vs.length = 0 ∨ 4 < vs.length ∨ (∃ v ∈ vs, isNm v = false) ∨ ∃ nm : List Str, vs = nm.map V.str ∧ ¬ nm.Nodup) → ∀ H', Same H H' → ExN K "NoTree" E H') := by
      rcases hh with ⟨nm, ⟨hL, l1, l4, ok⟩, k⟩ | ⟨vs, ⟨hL, b1, b2, b3⟩, k⟩
      · refine ⟨nm.map V.str, hL, fun v hv => ?_, by rw [List.length_map]; omega, fun _ _ _ _ _ => k, fun b => ?_⟩
        · obtain ⟨x, hx, rfl⟩ := List.mem_map.mp hv
          refine ⟨True.intro, fun z e => ?_⟩
          cases e
          have := (ok.ok x hx).len8
          rw [co_len] at this
          omega
        · exfalso
          rw [List.length_map] at b
          rcases b with b | b | ⟨v, hv, b⟩ | ⟨nm', e, b⟩
          · omega
          · omega
          · obtain ⟨x, hx, rfl⟩ := List.mem_map.mp hv
            have : isNm (.str x) = true := (ok.ok x hx).is
            rw [this] at b
            cases b
          · have : nm = nm' := List.map_inj_right (fun x y e => V.str.inj e) |>.mp e
            exact b (this ▸ ok.nd)
      · refine ⟨vs, hL, b2, b1, fun l al nm e nd => ?_, fun _ => k⟩
        exfalso
        rcases b3 with b | b | ⟨v, hv, b⟩ | ⟨nm', e', b⟩
        · omega
        · omega
        · rw [al v hv] at b
          cases b
        · have : nm = nm' := List.map_inj_right (fun x y e => V.str.inj e) |>.mp (e.symm.trans e')
          exact b (this ▸ nd)
    refine ⟨_, true, "list", hL, rfl, rfl, ⟨fun h => nb h, fun _ => ?_⟩⟩
    refine ⟨_, .inl (SqL.of hL), ?_⟩
    refine ⟨fun h1 => ⟨fun h2 => ?_, fun h2 => ?_⟩, fun h1 => ?_⟩
    · have h2 : ¬ (vs.length : Int) ≤ 4 := by simpa using h2
      exact bad (.inr (.inl (by omega))) H (Same.refl _) _ er.y_NoTree
    rotate_left
    · have h1 : ¬ (1 : Int) ≤ vs.length := of_decide_eq_false h1
      exact ⟨fun _ => bad (.inl (by omega)) H (Same.refl _) _ er.y_NoTree, fun h => nb h⟩
    have h1 : (1 : Int) ≤ vs.length := of_decide_eq_true h1
    have h2 : (vs.length : Int) ≤ 4 := by simpa using h2
    refine ⟨L, rfl, ⟨_, SqL.of hL⟩, comp_abs (fun H v m => v = m ∧ KdT H v ∧ ∀ z, v = .str z → z.length ≤ 1000) (fun v m H H' kt h => ⟨h.1, h.2.1.kt kt, h.2.2⟩) (fun _ m y => y = V.bl (isNm m)) (fun _ _ _ _ _ h => h) (by omega) (SqL.of hL) (all2_self kd) ?_ ?_⟩
    · intro v x H2 hM hx s2 P hP
      obtain ⟨rfl, m1, m2⟩ := hM
      exact ⟨rfl, m1.kd, m2, fun H3 s3 => hP _ _ s3 rfl⟩
    intro D1 H1 ys s1 _ e1 a1
    rw [all2_nm a1] at e1
    refine ⟨vs.map isNm, SqL.of e1, ?_⟩
    by_cases al : ∀ v ∈ vs, isNm v = true
    rotate_left
    · have e : (vs.map isNm).all id = false := by
        cases c : (vs.map isNm).all id with
        | false => rfl
        | true =>
          exact absurd (fun v hv => List.all_eq_true.mp c (isNm v) (List.mem_map.mpr ⟨v, hv, rfl⟩)) al
      rw [e]
      have ex : ∃ v ∈ vs, isNm v = false := Classical.byContradiction fun c => al fun v hv => by
        cases q : isNm v with
        | true => rfl
        | false => exact absurd ⟨v, hv, q⟩ c
      exact ⟨fun _ => bad (.inr (.inr (.inl ex))) H1 s1 _ er.y_NoTree, fun h => nb h⟩
    have e : (vs.map isNm).all id = true := List.all_eq_true.mpr fun b hb => by
      obtain ⟨v, hv, rfl⟩ := List.mem_map.mp hb
      exact al v hv
    rw [e]
    obtain ⟨nm, rfl⟩ := nm_strs al
    rw [List.length_map] at h1 h2 good bad
    refine ⟨fun h => nb h, fun _ => ⟨nm, s1.seq (SqL.of hL), by omega, _, .inl (s1.seq (SqL.of hL)), ?_⟩⟩
    rw [List.length_map]
    by_cases nd : nm.Nodup
    · rw [srt_len nd]
      refine ⟨fun h => ?_, fun _ => good (by omega) al nm rfl nd H1 s1⟩
      simp at h
    · refine ⟨fun _ => bad (.inr (.inr (.inr ⟨nm, rfl, nd⟩))) H1 s1 _ er.y_NoTree, fun h => ?_⟩
      have := srt_lt nd
      simp at h
      omega
def sp_group_shares (K : PySem.W.Frag) (ns : List Int) : Sp := fun vs H Q E => match vs with
  | [.ref L, .ref W] => (∃ (nm l : List Str) (w : Str → Int), (H L = some (.lst (nm.map V.str)) ∧ 1 ≤ nm.length ∧ nm.length ≤ 4 ∧ NL nm ∧ Rd H W (.dK (kvI l w)) ∧ Wk w l) ∧ ((∀ x ∈ nm, x ∈ l) → ∀ D ys H', Same H H' → H D = none → H' D = some (.lst ys) → Q (.ref D) H') ∧ ((∃ x ∈ nm, x ∉ l) → ∀ H', Same H H' → ExN K "NoPlayer" E H')) ∨ ∃ vs, (H L = some (.lst vs) ∧ BadG H vs) ∧ ∀ H', Same H H' → ExN K "NoTree" E H'
  | _ => False
theorem sc_group_shares : FnScope ["names", "worths", "ways"] ["names", "worths"] (defScope s_group_shares) := ⟨rfl, rfl, rfl, by decide +kernel, rfl, by decide +kernel, by decide +kernel⟩
theorem inv_group_shares {vs : List V} {H : Hp} {Q : VK} {E : XK} (h : sp_group_shares K ns vs H Q E) : ∃ L W, vs = [.ref L, .ref W] := by
  first
  | (obtain ⟨v0, r0, rfl⟩ := gCons (S := fun l => sp_group_shares K ns (l) H Q E) h id; obtain ⟨w0, rfl⟩ := gRef (S := fun v => sp_group_shares K ns (v :: r0) H Q E) h (fun _ => id) (fun _ => id) id (fun _ => id) (fun _ => id) (fun _ => id) (fun _ => id); obtain ⟨v1, r1, rfl⟩ := gCons (S := fun l => sp_group_shares K ns (.ref w0 :: l) H Q E) h id; obtain ⟨w1, rfl⟩ := gRef (S := fun v => sp_group_shares K ns (.ref w0 :: v :: r1) H Q E) h (fun _ => id) (fun _ => id) id (fun _ => id) (fun _ => id) (fun _ => id) (fun _ => id); obtain rfl := gNil (S := fun l => sp_group_shares K ns (.ref w0 :: .ref w1 :: l) H Q E) h fun _ _ => id; exact ⟨_, _, rfl⟩)
  | (match vs, h with
    | [.ref L, .ref W], _ => exact ⟨_, _, rfl⟩)
theorem ok_group_shares (d : Dfn K mg "group_shares" s_group_shares ["names", "worths"]) (er : Errs K mg c_LadderError c_NoBook c_NoFit c_NoGame c_NoNumber c_NoPlayer c_NoRow c_NoStretch c_NoTable c_NoTree c_NoWorth) (n_sorted : mg "sorted" = none)  (c_first_place : Cal P w K mg base "first_place" ["name", "names", "ways"] 4 (sp_first_place K ns)) (c_ways_to_go : Cal P w K mg base "ways_to_go" ["names", "worths"] 5 (sp_ways_to_go K ns)) (c_check_worths : Cal P w K mg base "check_worths" ["names", "worths"] 1 (sp_check_worths K ns)) (c_check_group : Cal P w K mg base "check_group" ["names"] 2 (sp_check_group K ns)) : Cal P w K mg base "group_shares" ["names", "worths"] 6 (sp_group_shares K ns) := by
  refine d.calX (k := 5) sc_group_shares (fun vs H Q E h => ?_) (fun f cdv A outer s H vs Q E hr h => ?_)
  · obtain ⟨L, W, rfl⟩ := inv_group_shares h
    rfl
  · obtain ⟨L, W, rfl⟩ := inv_group_shares h
    have hh := h
    refine ⟨_, (@pss_cons _ _ _ _ _ (@ps_expr _ _ _ _ (@e_callX _ _ _ _ _ _ _ _ _ _ _ _ _ _ _ _ _ _ _ _ _ _ _ _ _ c_check_group hr (by decide) (by rfl) (@pa_cons _ _ _ _ _ (dv 0) pa_nil (by rfl)) (by decide) (by rfl) (by rfl)) (by rfl)) (@pss_cons _ _ _ _ _ (@ps_expr _ _ _ _ (@e_callX _ _ _ _ _ _ _ _ _ _ _ _ _ _ _ _ _ _ _ _ _ _ _ _ _ c_check_worths hr (by decide) (by rfl) (@pa_cons _ _ _ _ _ (dv 0) (@pa_cons _ _ _ _ _ (dv 1) pa_nil (by rfl)) (by rfl)) (by decide) (by rfl) (by rfl)) (by rfl)) (@pss_cons _ _ _ _ _ (@ps_set _ _ (2) _ _ _ _ sc_group_shares.nd rfl (by first | exact Or.inl rfl | exact Or.inr rfl) (@e_call _ _ _ _ _ _ _ _ _ _ _ c_ways_to_go hr (by decide) (by rfl) (@pa_cons _ _ _ _ _ (dv 0) (@pa_cons _ _ _ _ _ (dv 1) pa_nil (by rfl)) (by rfl)) (by decide) (by rfl) (by rfl)) (by rfl) (by first | exact .inl rfl | exact .inr rfl | assumption)) (@pss_one _ _ _ (@ps_ret _ _ _ _ (@e_compN _ _ _ _ _ _ _ _ _ _ ["name"] ["names", "ways"] [0, 2] rfl (@pi_list _ _ _ _ (@pe_callB _ _ _ _ _ _ _ _ _ c_sortL (by rfl) n_sorted (by decide +kernel) (@pa_cons _ _ _ _ _ (dv 0) pa_nil (by rfl)) (by decide) (by decide) (by rfl) (by rfl))) (fun C s H fp => (@pg_name _ _ (0) _ (show List.Nodup [("name" : Str), ("names" : Str), ("ways" : Str)] by decide +kernel) rfl (by first | exact Or.inl rfl | exact Or.inr rfl) (by first | exact .inl rfl | exact .inr rfl | assumption))) (fun C s H fp => (@e_tup _ _ _ _ _ (@pa_cons _ _ _ _ _ (dv 0) (@pa_cons _ _ _ _ _ (@e_call _ _ _ _ _ _ _ _ _ _ _ c_first_place hr (by decide) (by rfl) (@pa_cons _ _ _ _ _ (dv 0) (@pa_cons _ _ _ _ _ (dv 1) (@pa_cons _ _ _ _ _ (dv 2) pa_nil (by rfl)) (by rfl)) (by rfl)) (by decide) (by rfl) (by rfl)) pa_nil (by rfl)) (by rfl)))) rfl rfl (by decide +kernel) (by decide +kernel) (by rfl) ⟨rfl, ⟨rfl, True.intro⟩⟩ ⟨⟨rfl, rfl, rfl, rfl⟩, ⟨⟨rfl, rfl, rfl, rfl⟩, True.intro⟩⟩ (by intro _; rfl))))))), ?_⟩
    rcases hh with ⟨nm, l, w, ⟨hL, l1, l4, ok, hW, hk⟩, k1, k2⟩ | ⟨vs, hB, k⟩
    rotate_left
    · exact .inr ⟨vs, hB, k⟩
    refine .inl ⟨nm, ⟨hL, l1, l4, ok⟩, fun H1 s1 => ⟨nm, kvI l w, ⟨s1.seq (SqL.of hL), rd_up' s1 hW⟩, fun al => ?_, fun ⟨x, hx, e⟩ => k2 ⟨x, hx, fun c => by rw [kvI, kvV_val c] at e; cases e⟩ H1 s1⟩⟩
    have sub : ∀ x ∈ nm, x ∈ l := fun x hx => Classical.byContradiction fun c => by
      obtain ⟨v, e⟩ := al x hx
      rw [kvI_no c] at e
      cases e
    have hW' : WA H W nm w := kvI_wa hW hk sub
    have k := k1 sub
    have hW := hW'
    clear hW' k1 k2 al
    refine ⟨nm, w, ⟨s1.seq (SqL.of hL), l4, hW.up s1⟩, fun Wl vs H2 s2 e2 a2 => ?_⟩
    have s12 := s1.trans s2
    refine ⟨nm, s12.seq (SqL.of hL), by omega, ok.nd, fun L0 hL0 => ?_⟩
    have s3 : Same H2 (upd H2 L0 (.lst ((srt nm).map V.str))) := same_upd hL0
    have e3 : upd H2 L0 (.lst ((srt nm).map V.str)) L0 = some (.lst ((srt nm).map V.str)) := upd_same
    generalize upd H2 L0 (.lst ((srt nm).map V.str)) = H3 at s3 e3
    have sl := srt_len ok.nd
    refine ⟨L0, rfl, ⟨_, SqL.of e3⟩, comp_abs (fun _ v (x : Str) => v = V.str x) (fun _ _ _ _ _ h => h) (NP (gsh w nm)) np_up (by rw [List.length_map]; omega) (SqL.of e3) (a2_strs64 _) ?_ ?_⟩
    · intro v x H4 hM hx s4 P hP
      subst hM
      have s14 := s12.trans (s3.trans s4)
      exact ⟨rfl, nm, w, vs, ⟨s14.seq (SqL.of hL), l1, l4, SqL.of ((s3.trans s4) _ _ e2), a2.imp fun m v r => r.up (s3.trans s4), hW.2⟩, fun p H5 s5 f5 => fun T H6 s6 e6 => hP _ _ (s5.trans s6) ⟨T, p, rfl, e6, fq_up' (kt_of s6) f5⟩⟩
    intro D H4 ys s4 n4 e4 a4
    exact k D ys H4 (s12.trans (s3.trans s4)) (none_back (s12.trans s3) n4) e4
def sp_l_class (K : PySem.W.Frag) (ns : List Int) : Sp := fun vs H Q _ => match vs with
  | [.ref p] => ((Cgt K "NoTree" H p ∧ ∀ H', Same H H' → Q (.str "tree") H') ∨ (Cgt K "NoPlayer" H p ∧ ∀ H', Same H H' → Q (.str "player") H'))
  | _ => False
theorem sc_l_class : FnScope ["_law_e", "_law_kinds", "_law_others"] ["_law_e"] (defScope s_l_class) := ⟨rfl, rfl, rfl, by decide +kernel, rfl, by decide +kernel, by decide +kernel⟩
theorem inv_l_class {vs : List V} {H : Hp} {Q : VK} {E : XK} (h : sp_l_class K ns vs H Q E) : ∃ p, vs = [.ref p] := by
  first
  | (obtain ⟨v0, r0, rfl⟩ := gCons (S := fun l => sp_l_class K ns (l) H Q E) h id; obtain ⟨w0, rfl⟩ := gRef (S := fun v => sp_l_class K ns (v :: r0) H Q E) h (fun _ => id) (fun _ => id) id (fun _ => id) (fun _ => id) (fun _ => id) (fun _ => id); obtain rfl := gNil (S := fun l => sp_l_class K ns (.ref w0 :: l) H Q E) h fun _ _ => id; exact ⟨_, rfl⟩)
  | (match vs, h with
    | [.ref p], _ => exact ⟨_, rfl⟩)
theorem ok_l_class (d : Dfn K mg "_law_class" s_l_class ["_law_e"]) (er : Errs K mg c_LadderError c_NoBook c_NoFit c_NoGame c_NoNumber c_NoPlayer c_NoRow c_NoStretch c_NoTable c_NoTree c_NoWorth) (n_int : mg "int" = none) (n_isinstance : mg "isinstance" = none) (n_ValueError : mg "ValueError" = none)   : CalU P w K mg base "_law_class" ["_law_e"] 1 (sp_l_class K ns) := by
  refine d.calU (k := 0) sc_l_class (fun vs H Q E h => ?_) (fun f cdv A outer s H vs Q E hr h => ?_)
  · obtain ⟨p, rfl⟩ := inv_l_class h
    rfl
  · obtain ⟨p, rfl⟩ := inv_l_class h
    have hh := h
    refine ⟨_, (@pss_cons _ _ _ _ _ (@ps_set _ _ (1) _ _ _ _ sc_l_class.nd rfl (by first | exact Or.inl rfl | exact Or.inr rfl) (@e_lst _ _ _ _ (@pa_cons _ _ _ _ _ (@pe_callB _ _ _ _ _ _ _ _ _ c_isiX (by rfl) n_isinstance (by decide +kernel) (@pa_cons _ _ _ _ _ (dv 0) (@pa_cons _ _ _ _ _ (@pe_glob _ _ (.ref c_NoTree) _ _ (by rfl) er.b_NoTree rfl (by decide)) pa_nil (by rfl)) (by rfl)) (by decide) (by decide) (by rfl) (by rfl)) (@pa_cons _ _ _ _ _ (@pe_callB _ _ _ _ _ _ _ _ _ c_isiX (by rfl) n_isinstance (by decide +kernel) (@pa_cons _ _ _ _ _ (dv 0) (@pa_cons _ _ _ _ _ (@pe_glob _ _ (.ref c_NoPlayer) _ _ (by rfl) er.b_NoPlayer rfl (by decide)) pa_nil (by rfl)) (by rfl)) (by decide) (by decide) (by rfl) (by rfl)) pa_nil (by rfl)) (by rfl))) (by rfl) (by first | exact .inl rfl | exact .inr rfl | assumption)) (@pss_cons _ _ _ _ _ (@ps_set _ _ (2) _ _ _ _ sc_l_class.nd rfl (by first | exact Or.inl rfl | exact Or.inr rfl) (@pe_callB _ _ _ _ _ _ _ _ _ c_isiT (by rfl) n_isinstance (by decide +kernel) (@pa_cons _ _ _ _ _ (dv 0) (@pa_cons _ _ _ _ _ (@e_tup _ _ _ _ _ (@pa_cons _ _ _ _ _ (@pe_glob _ _ (.ref c_NoBook) _ _ (by rfl) er.b_NoBook rfl (by decide)) (@pa_cons _ _ _ _ _ (@pe_glob _ _ (.ref c_NoFit) _ _ (by rfl) er.b_NoFit rfl (by decide)) (@pa_cons _ _ _ _ _ (@pe_glob _ _ (.ref c_NoGame) _ _ (by rfl) er.b_NoGame rfl (by decide)) (@pa_cons _ _ _ _ _ (@pe_glob _ _ (.ref c_NoNumber) _ _ (by rfl) er.b_NoNumber rfl (by decide)) (@pa_cons _ _ _ _ _ (@pe_glob _ _ (.ref c_NoRow) _ _ (by rfl) er.b_NoRow rfl (by decide)) (@pa_cons _ _ _ _ _ (@pe_glob _ _ (.ref c_NoStretch) _ _ (by rfl) er.b_NoStretch rfl (by decide)) (@pa_cons _ _ _ _ _ (@pe_glob _ _ (.ref c_NoTable) _ _ (by rfl) er.b_NoTable rfl (by decide)) (@pa_cons _ _ _ _ _ (@pe_glob _ _ (.ref c_NoWorth) _ _ (by rfl) er.b_NoWorth rfl (by decide)) pa_nil (by rfl)) (by rfl)) (by rfl)) (by rfl)) (by rfl)) (by rfl)) (by rfl)) (by rfl))) pa_nil (by rfl)) (by rfl)) (by decide) (by decide) (by rfl) (by rfl)) (by rfl) (by first | exact .inl rfl | exact .inr rfl | assumption)) (@pss_cons _ _ _ _ _ (@s_if _ _ _ _ _ _ _ _ (@L2.PW.pt _ _ _ (@w_or _ _ _ _ _ _ _ (@t_val _ _ _ (dv 2) (by intro _; rfl)) (@w_or _ _ _ _ _ _ _ (@pt_not _ _ _ _ (@t_val _ _ _ (@pe_callB _ _ _ _ _ _ _ _ _ c_isiX (by rfl) n_isinstance (by decide +kernel) (@pa_cons _ _ _ _ _ (dv 0) (@pa_cons _ _ _ _ _ (e_ty "ValueError" (by rfl) n_ValueError (by decide +kernel)) pa_nil (by rfl)) (by rfl)) (by decide) (by decide) (by rfl) (by rfl)) (by intro _; rfl))) (@pw_or1 _ _ _ _ (@t_cmp _ _ _ _ _ _ _ _ (@o_eqD _ hr.units) (@pe_ix _ _ _ _ _ _ _ i_lst (dv 1) pe_int (fun _ _ => rfl)) (@pe_ix _ _ _ _ _ _ _ i_lst (dv 1) pe_int (fun _ _ => rfl)) (@nomark _ _ (by decide) (by decide))))))) (@pss_one _ _ _ (@ps_ret _ _ _ _ pe_str)) pss_nil) (@pss_one _ _ _ (@ps_ret _ _ _ _ (@pe_ix _ _ _ _ _ _ _ i_lst (@e_lst _ _ _ _ (@pa_cons _ _ _ _ _ pe_str (@pa_cons _ _ _ _ _ pe_str pa_nil (by rfl)) (by rfl))) (@pe_callTy _ _ _ _ _ _ _ _ _ c_intB (by rfl) n_int (by decide +kernel) (@pa_cons _ _ _ _ _ (@pe_ix _ _ _ _ _ _ _ i_lst (dv 1) pe_int (fun _ _ => rfl)) pa_nil (by rfl)) (by decide) (by decide) (by rfl) (by rfl)) (fun _ _ => rfl))))))), ?_⟩
    rcases hh with ⟨⟨C, hC, e3⟩, k⟩ | ⟨⟨C, hC, e3⟩, k⟩
    · have hC' := ns_inj hC er.y_NoTree
      subst hC'
      have xg := er.x_NoTree
      refine ⟨_, _, e3, xg, er.kk_NoTree_NoTree, _, _, e3, xg, er.kk_NoTree_NoPlayer, fun L1 H1 s1 e1 => ?_⟩
      intro t H4 s4 e4
      have s14 := s1.trans s4
      refine ⟨_, false, [c_NoBook, c_NoFit, c_NoGame, c_NoNumber, c_NoRow, c_NoStretch, c_NoTable, c_NoWorth], s14 _ _ e3, xg, e4, (kitF er.kk_NoTree_NoBook (kitF er.kk_NoTree_NoFit (kitF er.kk_NoTree_NoGame (kitF er.kk_NoTree_NoNumber (kitF er.kk_NoTree_NoRow (kitF er.kk_NoTree_NoStretch (kitF er.kk_NoTree_NoTable (kitF er.kk_NoTree_NoWorth kitN)))))))), ?_⟩
      refine ⟨fun h => nb h, fun _ => ⟨_, _, s14 _ _ e3, xg, er.kv_NoTree, ⟨fun h => nb h, fun _ => ?_⟩⟩⟩
      exact ⟨_, .bl true, SqL.of (s4 _ _ e1), rfl, _, .bl false, SqL.of (s4 _ _ e1), rfl, .bool true, .bool false, .bl true, .bl false, rfl, rfl, ⟨fun h => absurd h (by decide), fun _ => fun L5 H5 s5 e5 => ⟨_, .bl true, SqL.of ((s4.trans s5) _ _ e1), rfl, _, .str "tree", SqL.of e5, rfl, k H5 (s14.trans s5)⟩⟩⟩
    · have hC' := ns_inj hC er.y_NoPlayer
      subst hC'
      have xg := er.x_NoPlayer
      refine ⟨_, _, e3, xg, er.kk_NoPlayer_NoTree, _, _, e3, xg, er.kk_NoPlayer_NoPlayer, fun L1 H1 s1 e1 => ?_⟩
      intro t H4 s4 e4
      have s14 := s1.trans s4
      refine ⟨_, false, [c_NoBook, c_NoFit, c_NoGame, c_NoNumber, c_NoRow, c_NoStretch, c_NoTable, c_NoWorth], s14 _ _ e3, xg, e4, (kitF er.kk_NoPlayer_NoBook (kitF er.kk_NoPlayer_NoFit (kitF er.kk_NoPlayer_NoGame (kitF er.kk_NoPlayer_NoNumber (kitF er.kk_NoPlayer_NoRow (kitF er.kk_NoPlayer_NoStretch (kitF er.kk_NoPlayer_NoTable (kitF er.kk_NoPlayer_NoWorth kitN)))))))), ?_⟩
      refine ⟨fun h => nb h, fun _ => ⟨_, _, s14 _ _ e3, xg, er.kv_NoPlayer, ⟨fun h => nb h, fun _ => ?_⟩⟩⟩
      exact ⟨_, .bl false, SqL.of (s4 _ _ e1), rfl, _, .bl true, SqL.of (s4 _ _ e1), rfl, .bool false, .bool true, .bl false, .bl true, rfl, rfl, ⟨fun h => absurd h (by decide), fun _ => fun L5 H5 s5 e5 => ⟨_, .bl false, SqL.of ((s4.trans s5) _ _ e1), rfl, _, .str "player", SqL.of e5, rfl, k H5 (s14.trans s5)⟩⟩⟩
def sp_l_asked (K : PySem.W.Frag) (ns : List Int) : Sp := fun vs H Q _ => match vs with
  | [.bl b, v, .ref W] => ∃ (l : List Str) (w : Str → Int) (r : Str), (H W = some (.dK (kvI l w)) ∧ Wk w l ∧ l.Nodup ∧ l.length ≤ 20) ∧
    ((b = true ∧ ∃ t, TrAt H t v ∧ TOk t ∧ ((r = Str.ofString "told" ∧ ∀ x ∈ lv t, x ∈ l) ∨ (r = Str.ofString "player" ∧ ∃ x ∈ lv t, x ∉ l))) ∨
     (b = false ∧ ∃ L, v = .ref L ∧ ((∃ nm : List Str, (H L = some (.lst (nm.map V.str)) ∧ 1 ≤ nm.length ∧ nm.length ≤ 4 ∧ NL nm) ∧ ((r = Str.ofString "told" ∧ ∀ x ∈ nm, x ∈ l) ∨ (r = Str.ofString "player" ∧ ∃ x ∈ nm, x ∉ l))) ∨ (r = Str.ofString "tree" ∧ ∃ vs, H L = some (.lst vs) ∧ BadG H vs)))) ∧ ∀ H', Same H H' → Q (.str r) H'
  | _ => False
theorem sc_l_asked : FnScope ["_law_of_tree", "_law_thing", "_law_worths", "_law_told", "_law_handed", "_law_e"] ["_law_of_tree", "_law_thing", "_law_worths"] (defScope s_l_asked) := ⟨rfl, rfl, rfl, by decide +kernel, rfl, by decide +kernel, by decide +kernel⟩
theorem inv_l_asked {vs : List V} {H : Hp} {Q : VK} {E : XK} (h : sp_l_asked K ns vs H Q E) : ∃ b v W, vs = [.bl b, v, .ref W] := by
  match vs, h with
    | [.bl b, v, .ref W], _ => exact ⟨_, _, _, rfl⟩
theorem ok_l_asked (d : Dfn K mg "_law_asked" s_l_asked ["_law_of_tree", "_law_thing", "_law_worths"]) (er : Errs K mg c_LadderError c_NoBook c_NoFit c_NoGame c_NoNumber c_NoPlayer c_NoRow c_NoStretch c_NoTable c_NoTree c_NoWorth) (n_isinstance : mg "isinstance" = none) (n_list : mg "list" = none) (n_dict : mg "dict" = none)  (c_tree_shares : Cal P w K mg base "tree_shares" ["tree", "worths"] 16 (sp_tree_shares K ns)) (c_group_shares : Cal P w K mg base "group_shares" ["names", "worths"] 6 (sp_group_shares K ns)) (c_l_class : CalU P w K mg base "_law_class" ["_law_e"] 1 (sp_l_class K ns)) : Cal P w K mg base "_law_asked" ["_law_of_tree", "_law_thing", "_law_worths"] 17 (sp_l_asked K ns) := by
  refine d.cal (k := 16) sc_l_asked (fun vs H Q E h => ?_) (fun f cdv A outer s H vs Q E hr h => ?_)
  · obtain ⟨b, v, W, rfl⟩ := inv_l_asked h
    rfl
  · obtain ⟨b, v, W, rfl⟩ := inv_l_asked h
    obtain ⟨l, w, r, ⟨hW, hk, nd, l20⟩, hh, k⟩ := h
    refine ⟨_, (@pss_cons _ _ _ _ _ (@ps_set _ _ (3) _ _ _ _ sc_l_asked.nd rfl (by first | exact Or.inl rfl | exact Or.inr rfl) pe_non (by rfl) (by first | exact .inl rfl | exact .inr rfl | assumption)) (@pss_cons _ _ _ _ _ (@ps_set _ _ (4) _ _ _ _ sc_l_asked.nd rfl (by first | exact Or.inl rfl | exact Or.inr rfl) (@pe_callTy _ _ _ _ _ _ _ _ _ c_dictC (by rfl) n_dict (by decide +kernel) (@pa_cons _ _ _ _ _ (dv 2) pa_nil (by rfl)) (by decide) (by decide) (by rfl) (by rfl)) (by rfl) (by first | exact .inl rfl | exact .inr rfl | assumption)) (@ss_cutE _ _ _ _ _ (ps_tryIfA (n := 5) (i := 3) ⟨rfl, rfl, rfl⟩ (@t_val _ _ _ (dv 0) (by intro _; rfl)) c_tree_shares hr (by decide) (by rfl) (@pa_cons _ _ _ _ _ (dv 1) (@pa_cons _ _ _ _ _ (dv 4) pa_nil (by rfl)) (by rfl)) c_group_shares hr (by decide) (by rfl) (@pa_cons _ _ _ _ _ (dv 1) (@pa_cons _ _ _ _ _ (dv 4) pa_nil (by rfl)) (by rfl)) rfl rfl (by rfl) er.b_LadderError er.x_LadderError.cat sc_l_asked.nd rfl rfl (fun v => (@pss_one _ _ _ (@ps_set _ _ (3) _ _ _ _ sc_l_asked.nd rfl (by first | exact Or.inl rfl | exact Or.inr rfl) (e_callU c_l_class hr (by decide) (by rfl) (@pa_cons _ _ _ _ _ (dv 5) pa_nil (by rfl))) (by rfl) (by first | exact .inl rfl | exact .inr rfl | assumption))))) (@pss_cons _ _ _ _ _ (@s_if _ _ _ _ _ _ _ _ (@t_cmp _ _ _ _ _ _ _ _ (o_neK hr.units) (dv 4) (dv 2) (@nomark _ _ (by decide) (by decide))) (@pss_one _ _ _ (@ps_ret _ _ _ _ pe_str)) pss_nil) (@pss_cons _ _ _ _ _ (@s_if _ _ _ _ _ _ _ _ (@t_val _ _ _ (@pe_callB _ _ _ _ _ _ _ _ _ c_isi (by rfl) n_isinstance (by decide +kernel) (@pa_cons _ _ _ _ _ (dv 3) (@pa_cons _ _ _ _ _ (e_ty "list" (by rfl) n_list (by decide +kernel)) pa_nil (by rfl)) (by rfl)) (by decide) (by decide) (by rfl) (by rfl)) (by intro _; rfl)) (@pss_one _ _ _ (@ps_ret _ _ _ _ pe_str)) pss_nil) (@pss_one _ _ _ (@ps_ret _ _ _ _ (dv 3)))))))), ?_⟩
    refine ⟨kvI l w, .inl hW, fun D hD => ?_⟩
    have s1 : Same H (upd H D (.dK (kvI l w))) := same_upd hD
    have eD : upd H D (.dK (kvI l w)) D = some (.dK (kvI l w)) := upd_same
    generalize upd H D (.dK (kvI l w)) = H1 at s1 eD
    have hW1 := s1 _ _ hW
    refine ⟨fun σ H' => ∃ told : V, σ = [some (.bl b), some v, some (.ref W), some told, some (.ref D), none] ∧ Same H1 H' ∧ ((∃ L ys, told = .ref L ∧ H' L = some (.lst ys) ∧ r = Str.ofString "told") ∨ told = .str r), ?_, ?_⟩
    rotate_left
    · rintro σ H2 ⟨told, rfl, s2, hr'⟩
      have s12 := s1.trans s2
      refine ⟨kvI l w, kvI l w, .inl (s2 _ _ eD), .inl (s12 _ _ hW), rfl, fun p hp => ?_, ⟨fun h => nb h, fun _ => ?_⟩⟩
      · unfold kvI kvV at hp
        obtain ⟨x, hx, rfl⟩ := List.mem_map.mp hp
        exact ⟨w x, rfl, kvV_val hx⟩
      rcases hr' with ⟨L, ys, rfl, eL, rfl⟩ | rfl
      · exact ⟨_, true, "list", eL, rfl, rfl, ⟨fun _ => k H2 s12, fun h => nb h⟩⟩
      · exact ⟨false, rfl, ⟨fun h => nb h, fun _ => k H2 s12⟩⟩
    rcases hh with ⟨rfl, t, hT, ok, hr'⟩ | ⟨rfl, L, rfl, hg⟩
    · refine ⟨fun _ => ?_, fun h => nb h⟩
      refine ⟨t, l, w, ⟨tr_up (kt_of s1) _ _ hT, ok, .inl eD, hk⟩, fun sub L ys H2 s2 _ e2 => ?_, fun ⟨x, hx, nx⟩ H2 s2 C hC => ?_⟩
      · rcases hr' with ⟨rfl, _⟩ | ⟨_, x, hx, nx⟩
        · exact ⟨_, rfl, s2, .inl ⟨L, ys, rfl, e2, rfl⟩⟩
        · exact absurd (sub x hx) nx
      · rcases hr' with ⟨_, sub⟩ | ⟨rfl, _⟩
        · exact absurd (sub x hx) nx
        have hC' := ns_inj hC er.y_NoPlayer
        subst hC'
        exact ⟨_, rfl, er.x_NoPlayer, er.km_NoPlayer_LadderError, fun a H3 s3 e3 => .inr ⟨⟨_, hC, e3⟩, fun H4 s4 => ⟨_, rfl, s2.trans (s3.trans s4), .inr rfl⟩⟩⟩
    · refine ⟨fun h => nb h, fun _ => ?_⟩
      rcases hg with ⟨nm, ⟨hL, l1, l4, ok⟩, hr'⟩ | ⟨rfl, vs, hL, bad⟩
      · refine .inl ⟨nm, l, w, ⟨s1 _ _ hL, l1, l4, ok, .inl eD, hk⟩, fun sub D2 ys H2 s2 _ e2 => ?_, fun ⟨x, hx, nx⟩ H2 s2 C hC => ?_⟩
        · rcases hr' with ⟨rfl, _⟩ | ⟨_, x, hx, nx⟩
          · exact ⟨_, rfl, s2, .inl ⟨D2, ys, rfl, e2, rfl⟩⟩
          · exact absurd (sub x hx) nx
        · rcases hr' with ⟨_, sub⟩ | ⟨rfl, _⟩
          · exact absurd (sub x hx) nx
          have hC' := ns_inj hC er.y_NoPlayer
          subst hC'
          exact ⟨_, rfl, er.x_NoPlayer, er.km_NoPlayer_LadderError, fun a H3 s3 e3 => .inr ⟨⟨_, hC, e3⟩, fun H4 s4 => ⟨_, rfl, s2.trans (s3.trans s4), .inr rfl⟩⟩⟩
      · refine .inr ⟨vs, ⟨s1 _ _ hL, bad.up s1⟩, fun H2 s2 C hC => ?_⟩
        have hC' := ns_inj hC er.y_NoTree
        subst hC'
        exact ⟨_, rfl, er.x_NoTree, er.km_NoTree_LadderError, fun a H3 s3 e3 => .inl ⟨⟨_, hC, e3⟩, fun H4 s4 => ⟨_, rfl, s2.trans (s3.trans s4), .inr rfl⟩⟩⟩
theorem cut_to (xs : List V) (j : Nat) : cutV xs none (some (j : Int)) = xs.take j := by
  unfold cutV
  rw [HT.sIx_none, HT.sIx_nat, List.drop_zero, Nat.sub_zero]
  by_cases c : j ≤ xs.length
  · rw [Nat.min_eq_left c]
  · rw [Nat.min_eq_right (by omega), List.take_of_length_le (Nat.le_refl _), List.take_of_length_le (by omega)]
def Odd (H : Hp) (fw : List Str) (o : V) : Prop := (isNm o = false ∧ KdT H o ∧ ∀ z, o = .str z → z.length ≤ 1000) ∨ ∃ x ∈ fw, o = .str x
theorem odd_bad {H : Hp} {fw : List Str} {o : V} {k : Nat} (h : Odd H fw o) (l3 : fw.length ≤ 3) (ok : ∀ x ∈ fw, Nm x) : BadG H (((fw.take k).map V.str ++ [o]) ++ (fw.drop k).map V.str) := by
  have len : (((fw.take k).map V.str ++ [o]) ++ (fw.drop k).map V.str).length = fw.length + 1 := by
    rw [List.length_append, List.length_append, List.length_map, List.length_map, List.length_take, List.length_drop, List.length_singleton]
    omega
  have nm1 : ∀ x ∈ fw, KdT H (.str x) ∧ ∀ z, V.str x = .str z → z.length ≤ 1000 := fun x hx => ⟨True.intro, fun z e => by
    cases e
    have := (ok x hx).len8
    rw [co_len] at this
    omega⟩
  refine ⟨by omega, fun v hv => ?_, ?_⟩
  · rcases List.mem_append.mp hv with hv | hv
    · rcases List.mem_append.mp hv with hv | hv
      · obtain ⟨x, hx, rfl⟩ := List.mem_map.mp hv
        exact nm1 x (List.mem_of_mem_take hx)
      · rw [List.mem_singleton] at hv
        subst hv
        rcases h with ⟨_, h⟩ | ⟨x, hx, rfl⟩
        · exact h
        · exact nm1 x hx
    · obtain ⟨x, hx, rfl⟩ := List.mem_map.mp hv
      exact nm1 x (List.mem_of_mem_drop hx)
  · rcases h with ⟨h, _⟩ | ⟨x, hx, rfl⟩
    · exact .inr (.inr (.inl ⟨o, by simp, h⟩))
    · refine .inr (.inr (.inr ⟨fw.take k ++ [x] ++ fw.drop k, by rw [List.map_append, List.map_append]; rfl, fun nd => ?_⟩))
      rw [← List.take_append_drop k fw] at hx
      rcases List.mem_append.mp hx with c | c
      · exact (List.nodup_append.mp (List.nodup_append.mp nd).1).2.2 x c x (List.mem_singleton.mpr rfl) rfl
      · exact (List.nodup_append.mp nd).2.2 x (List.mem_append_right _ (List.mem_singleton.mpr rfl)) x c rfl
def OkD (K : PySem.W.Frag) (H : Hp) (v : V) : Prop := ∃ d, Rp K H v d ∧ d.canLay0 = true ∧ d.depth ≤ 1
theorem okd_str {K : PySem.W.Frag} {H : Hp} {x : Str} (h : PyData.strOk x = true) : OkD K H (.str x) := ⟨.str x, .str x, h, Nat.zero_le _⟩
theorem OkD.up {K : PySem.W.Frag} {H H' : Hp} {v : V} (s : Same H H') : OkD K H v → OkD K H' v := fun ⟨d, r, h⟩ => ⟨d, r.up s, h⟩
theorem okd_list {K : PySem.W.Frag} {H : Hp} : ∀ {vs : List V}, (∀ v ∈ vs, OkD K H v) → ∃ ds, RpL K H vs ds ∧ PyData.canLayAll0 ds = true ∧ PyData.depthAll ds ≤ 1
  | [], _ => ⟨[], .nil, rfl, Nat.zero_le _⟩
  | v :: vs, h => by
    obtain ⟨ds, r, c, e⟩ := okd_list fun v hv => h v (List.mem_cons_of_mem _ hv)
    obtain ⟨d, r1, c1, e1⟩ := h v List.mem_cons_self
    refine ⟨d :: ds, .cons r1 r, ?_, ?_⟩
    · show (d.canLay0 && PyData.canLayAll0 ds) = true
      rw [c1, c]
      rfl
    · show max d.depth (PyData.depthAll ds) ≤ 1
      omega
theorem sh_ds {ds : List PyData} (h : PyData.canLayAll0 ds = true) (e : PyData.depthAll ds ≤ 1) : SeqAt.shaped (.list ds) = true := by
  unfold SeqAt.shaped
  have z : (PyData.list ds).depth = PyData.depthAll ds + 1 := rfl
  rw [show (PyData.list ds).canLay0 = true from h, z, Bool.true_and]
  exact decide_eq_true (by omega)
def sp_l_odd_group (K : PySem.W.Frag) (ns : List Int) : Sp := fun vs H Q _ => match vs with
  | [.int c, .ref L] => ∃ nm : List Str, (H L = some (.lst (nm.map V.str)) ∧ 1 ≤ nm.length ∧ nm.length ≤ 4 ∧ NL nm) ∧ ∀ D vs H', Same H H' → H' D = some (.lst vs) → BadG H' vs → (∀ v ∈ vs, OkD K H' v) → Q (.ref D) H'
  | _ => False
theorem sc_l_odd_group : FnScope ["_law_cell", "_law_group", "_law_few", "_law_at", "_law_odd"] ["_law_cell", "_law_group"] (defScope s_l_odd_group) := ⟨rfl, rfl, rfl, by decide +kernel, rfl, by decide +kernel, by decide +kernel⟩
theorem inv_l_odd_group {vs : List V} {H : Hp} {Q : VK} {E : XK} (h : sp_l_odd_group K ns vs H Q E) : ∃ c L, vs = [.int c, .ref L] := by
  first
  | (obtain ⟨v0, r0, rfl⟩ := gCons (S := fun l => sp_l_odd_group K ns (l) H Q E) h id; obtain ⟨w0, rfl⟩ := gInt (S := fun v => sp_l_odd_group K ns (v :: r0) H Q E) h (fun _ => id) (fun _ => id) id (fun _ => id) (fun _ => id) (fun _ => id) (fun _ => id); obtain ⟨v1, r1, rfl⟩ := gCons (S := fun l => sp_l_odd_group K ns (.int w0 :: l) H Q E) h id; obtain ⟨w1, rfl⟩ := gRef (S := fun v => sp_l_odd_group K ns (.int w0 :: v :: r1) H Q E) h (fun _ => id) (fun _ => id) id (fun _ => id) (fun _ => id) (fun _ => id) (fun _ => id); obtain rfl := gNil (S := fun l => sp_l_odd_group K ns (.int w0 :: .ref w1 :: l) H Q E) h fun _ _ => id; exact ⟨_, _, rfl⟩)
  | (match vs, h with
    | [.int c, .ref L], _ => exact ⟨_, _, rfl⟩)
theorem ok_l_odd_group (d : Dfn K mg "_law_odd_group" s_l_odd_group ["_law_cell", "_law_group"]) (er : Errs K mg c_LadderError c_NoBook c_NoFit c_NoGame c_NoNumber c_NoPlayer c_NoRow c_NoStretch c_NoTable c_NoTree c_NoWorth) (n_len : mg "len" = none)   : Cal P w K mg base "_law_odd_group" ["_law_cell", "_law_group"] 1 (sp_l_odd_group K ns) := by
  refine d.cal (k := 0) sc_l_odd_group (fun vs H Q E h => ?_) (fun f cdv A outer s H vs Q E hr h => ?_)
  · obtain ⟨c, L, rfl⟩ := inv_l_odd_group h
    rfl
  · obtain ⟨c, L, rfl⟩ := inv_l_odd_group h
    obtain ⟨nm, ⟨hL, l1, l4, ok⟩, k⟩ := h
    refine ⟨_, (@pss_cons _ _ _ _ _ (@ps_set _ _ (2) _ _ _ _ sc_l_odd_group.nd rfl (by first | exact Or.inl rfl | exact Or.inr rfl) (@pe_slice _ _ _ _ _ _ _ _ _ _ sl_lst (dv 1) po_none (po_some pe_int)) (by rfl) (by first | exact .inl rfl | exact .inr rfl | assumption)) (@ss_cutE _ _ _ _ _ (@ps_set _ _ (3) _ _ _ _ sc_l_odd_group.nd rfl (by first | exact Or.inl rfl | exact Or.inr rfl) (@pe_op _ _ _ _ _ _ _ _ o_mod (@pe_op _ _ _ _ _ _ _ _ o_div (dv 0) pe_int) (@pe_op _ _ _ _ _ _ _ _ o_add (@pe_callB _ _ _ _ _ _ _ _ _ c_len (by rfl) n_len (by decide +kernel) (@pa_cons _ _ _ _ _ (dv 2) pa_nil (by rfl)) (by decide) (by decide) (by rfl) (by rfl)) pe_int)) (by rfl) (by first | exact .inl rfl | exact .inr rfl | assumption)) (@pss_cons _ _ _ _ _ (@s_if _ _ _ _ _ _ _ _ (@t_cmp _ _ _ _ _ _ _ _ o_eq (@pe_op _ _ _ _ _ _ _ _ o_mod (dv 0) pe_int) pe_int (@nomark _ _ (by decide) (by decide))) (@pss_one _ _ _ (@ps_ret _ _ _ _ (@pe_lst _ _ _ _ pa_nil))) pss_nil) (@pss_cons _ _ _ _ _ (@s_if _ _ _ _ _ _ _ _ (@t_cmp _ _ _ _ _ _ _ _ o_eq (@pe_op _ _ _ _ _ _ _ _ o_mod (dv 0) pe_int) pe_int (@nomark _ _ (by decide) (by decide))) (@pss_one _ _ _ (@ps_ret _ _ _ _ (@pe_slice _ _ _ _ _ _ _ _ _ _ sl_lst (@pe_op _ _ _ _ _ _ _ _ o_catL (dv 1) (@e_lst _ _ _ _ (@pa_cons _ _ _ _ _ pe_str (@pa_cons _ _ _ _ _ pe_str (@pa_cons _ _ _ _ _ pe_str (@pa_cons _ _ _ _ _ pe_str (@pa_cons _ _ _ _ _ pe_str pa_nil (by rfl)) (by rfl)) (by rfl)) (by rfl)) (by rfl)))) po_none (po_some pe_int)))) pss_nil) (@ss_cutE _ _ _ _ _ (@ps_set _ _ (4) _ _ _ _ sc_l_odd_group.nd rfl (by first | exact Or.inl rfl | exact Or.inr rfl) (@pe_ix _ _ _ _ _ _ _ i_lst (@e_lst _ _ _ _ (@pa_cons _ _ _ _ _ pe_str (@pa_cons _ _ _ _ _ pe_str (@pa_cons _ _ _ _ _ pe_str (@pa_cons _ _ _ _ _ pe_str (@pa_cons _ _ _ _ _ pe_int (@pa_cons _ _ _ _ _ pe_non (@pa_cons _ _ _ _ _ (@e_tup _ _ _ _ _ (@pa_cons _ _ _ _ _ pe_str (@pa_cons _ _ _ _ _ pe_str pa_nil (by rfl)) (by rfl))) (@pa_cons _ _ _ _ _ pe_bl pa_nil (by rfl)) (by rfl)) (by rfl)) (by rfl)) (by rfl)) (by rfl)) (by rfl)) (by rfl))) (@pe_op _ _ _ _ _ _ _ _ o_mod (@pe_op _ _ _ _ _ _ _ _ o_div (dv 0) pe_int) pe_int) (fun _ _ => rfl)) (by rfl) (by first | exact .inl rfl | exact .inr rfl | assumption)) (@ss_cutE _ _ _ _ _ (@s_if _ _ _ _ _ _ _ _ (@t_cmp _ _ _ _ _ _ _ _ o_eq (@pe_op _ _ _ _ _ _ _ _ o_mod (dv 0) pe_int) pe_int (@nomark _ _ (by decide) (by decide))) (@pss_one _ _ _ (@ps_set _ _ (4) _ _ _ _ sc_l_odd_group.nd rfl (by first | exact Or.inl rfl | exact Or.inr rfl) (@pe_ix _ _ _ _ _ _ _ i_lst (dv 2) (@pe_op _ _ _ _ _ _ _ _ o_mod (@pe_op _ _ _ _ _ _ _ _ o_div (dv 0) pe_int) (@pe_callB _ _ _ _ _ _ _ _ _ c_len (by rfl) n_len (by decide +kernel) (@pa_cons _ _ _ _ _ (dv 2) pa_nil (by rfl)) (by decide) (by decide) (by rfl) (by rfl))) (fun _ _ => rfl)) (by rfl) (by first | exact .inl rfl | exact .inr rfl | assumption))) pss_nil) (@pss_one _ _ _ (@ps_ret _ _ _ _ (@pe_op _ _ _ _ _ _ _ _ o_catL (@pe_op _ _ _ _ _ _ _ _ o_catL (@pe_slice _ _ _ _ _ _ _ _ _ _ sl_lst (dv 2) po_none (po_some (dv 3))) (@e_lst _ _ _ _ (@pa_cons _ _ _ _ _ (dv 4) pa_nil (by rfl)))) (@pe_slice _ _ _ _ _ _ _ _ _ _ sl_lst (dv 2) (po_some (dv 3)) po_none)))))))))), ?_⟩
    refine ⟨_, rfl, _, SqL.of hL, fun F H1 s1 e1 => ?_⟩
    have e1 : H1 F = some (.lst ((nm.take 3).map V.str)) := by
      rw [e1, show cutV (nm.map V.str) none (some 3) = (nm.map V.str).take 3 from cut_to _ 3, List.map_take]
    obtain ⟨fw, hfw⟩ : ∃ fw, fw = nm.take 3 := ⟨_, rfl⟩
    have lf : fw.length = min 3 nm.length := by rw [hfw, List.length_take]
    have okf : ∀ x ∈ fw, Nm x := fun x hx => ok.ok x (List.mem_of_mem_take (hfw ▸ hx))
    rw [← hfw] at e1
    have a0 := Int.emod_nonneg (c / 5) (show (fw.length : Int) + 1 ≠ 0 by omega)
    have a1 := Int.emod_lt_of_pos (c / 5) (show 0 < (fw.length : Int) + 1 by omega)
    refine ⟨fun σ H' => ∃ j : Nat, σ = [some (.int c), some (.ref L), some (.ref F), some (.int (j : Int)), none] ∧ H' = H1 ∧ j ≤ fw.length, ?_, ?_⟩
    · refine ⟨⟨by decide, bd_lit rfl⟩, _, .inl (SqL.of e1), ?_⟩
      rw [List.length_map]
      refine ⟨by omega, (c / 5 % ((fw.length : Int) + 1)).toNat, ?_, rfl, by omega⟩
      rw [Int.toNat_of_nonneg a0]
      rfl
    rintro σ H1' ⟨j, rfl, rfl, hj⟩
    have c0 := Int.emod_nonneg c (show (5 : Int) ≠ 0 by decide)
    refine ⟨(by show (0 : Int) < 5; decide), ⟨fun _ => ⟨by decide, fun D hD => k D [] _ (s1.trans (same_upd hD)) upd_same ⟨by decide, fun v hv => by simp at hv, .inl rfl⟩ (fun v hv => by simp at hv)⟩, fun _ => ?_⟩⟩
    refine ⟨(by show (0 : Int) < 5; decide), ⟨fun _ => ?_, fun _ => ?_⟩⟩
    · intro D1 H2 s2 e2
      refine ⟨_, _, (s1.trans s2) _ _ hL, e2, ?_, fun D2 H3 s3 e3 => ⟨_, rfl, _, SqL.of e3, fun D3 H4 s4 e4 => ?_⟩⟩
      · rw [List.length_map]
        show nm.length + 5 ≤ 1000
        omega
      have e4 : H4 D3 = some (.lst (((nm ++ [Str.ofString "ya", Str.ofString "yb", Str.ofString "yc", Str.ofString "yd", Str.ofString "ye"]).take 5).map V.str)) := by
        rw [e4, show cutV _ none (some 5) = _ from cut_to _ 5, List.map_take, List.map_append]
        rfl
      refine k D3 _ H4 (s1.trans (s2.trans (s3.trans s4))) e4 ⟨?_, fun v hv => ?_, .inr (.inl ?_)⟩ (fun v hv => ?_)
      · rw [List.length_map, List.length_take]
        omega
      · obtain ⟨x, hx, rfl⟩ := List.mem_map.mp hv
        refine ⟨True.intro, fun z e => ?_⟩
        cases e
        rcases List.mem_append.mp (List.mem_of_mem_take hx) with h | h
        · have := (ok.ok x h).len8
          rw [co_len] at this
          omega
        · have : ∀ x ∈ [Str.ofString "ya", Str.ofString "yb", Str.ofString "yc", Str.ofString "yd", Str.ofString "ye"], x.length ≤ 1000 := by decide +kernel
          exact this x h
      · rw [List.length_map, List.length_take, List.length_append]
        show 4 < min 5 (nm.length + 5)
        omega
      · obtain ⟨x, hx, rfl⟩ := List.mem_map.mp hv
        refine okd_str ?_
        rcases List.mem_append.mp (List.mem_of_mem_take hx) with h | h
        · exact nm_ok (ok.ok x h)
        · have : ∀ x ∈ [Str.ofString "ya", Str.ofString "yb", Str.ofString "yc", Str.ofString "yd", Str.ofString "ye"], PyData.strOk x = true := by decide +kernel
          exact this x h
    refine ⟨fun σ H' => ∃ o : V, σ = [some (.int c), some (.ref L), some (.ref F), some (.int (j : Int)), some o] ∧ Same H1' H' ∧ Odd H' fw o ∧ OkD K H' o, ?_, ?_⟩
    · intro T H2 s2 e2 D H3 s3 e3
      have s23 := s2.trans s3
      refine ⟨⟨by decide, bd_lit rfl⟩, (by show (0 : Int) < 8; decide), ?_⟩
      have q0 := Int.emod_nonneg (c / 40) (show (8 : Int) ≠ 0 by decide)
      have q1 := Int.emod_lt_of_pos (c / 40) (show (0 : Int) < 8 by decide)
      have hk : c / 40 % 8 = 0 ∨ c / 40 % 8 = 1 ∨ c / 40 % 8 = 2 ∨ c / 40 % 8 = 3 ∨ c / 40 % 8 = 4 ∨ c / 40 % 8 = 5 ∨ c / 40 % 8 = 6 ∨ c / 40 % 8 = 7 := by omega
      have tx : ∀ x : Str, isNmS x = false → x.length ≤ 1000 → PyData.strOk x = true → Odd H3 fw (.str x) ∧ OkD K H3 (.str x) := fun x h1 h2 h3 => ⟨.inl ⟨h1, True.intro, fun z e => by cases e; exact h2⟩, okd_str h3⟩
      have ot : ∀ o : V, isNm o = false → KdT H3 o → (∀ z, o ≠ .str z) → OkD K H3 o → Odd H3 fw o ∧ OkD K H3 o := fun o h1 h2 h3 h4 => ⟨.inl ⟨h1, h2, fun z e => absurd e (h3 z)⟩, h4⟩
      rcases hk with h | h | h | h | h | h | h | h
      · exact ⟨_, .str "", SqL.of e3, (by show atI _ (c / 40 % 8) = _; rw [h]; rfl), _, rfl, s23, tx _ (by decide +kernel) (by decide +kernel) (by decide +kernel)⟩
      · exact ⟨_, .str "abcdefghi", SqL.of e3, (by show atI _ (c / 40 % 8) = _; rw [h]; rfl), _, rfl, s23, tx _ (by decide +kernel) (by decide +kernel) (by decide +kernel)⟩
      · exact ⟨_, .str "Ab", SqL.of e3, (by show atI _ (c / 40 % 8) = _; rw [h]; rfl), _, rfl, s23, tx _ (by decide +kernel) (by decide +kernel) (by decide +kernel)⟩
      · exact ⟨_, .str "a1", SqL.of e3, (by show atI _ (c / 40 % 8) = _; rw [h]; rfl), _, rfl, s23, tx _ (by decide +kernel) (by decide +kernel) (by decide +kernel)⟩
      · exact ⟨_, .int 7, SqL.of e3, (by show atI _ (c / 40 % 8) = _; rw [h]; rfl), _, rfl, s23, ot _ rfl True.intro (fun z => nofun) ⟨_, .int 7, rfl, Nat.zero_le _⟩⟩
      · exact ⟨_, .non, SqL.of e3, (by show atI _ (c / 40 % 8) = _; rw [h]; rfl), _, rfl, s23, ot _ rfl True.intro (fun z => nofun) ⟨_, .non, rfl, Nat.zero_le _⟩⟩
      · exact ⟨_, .ref T, SqL.of e3, (by show atI _ (c / 40 % 8) = _; rw [h]; rfl), _, rfl, s23, ot _ rfl ⟨_, s3 _ _ e2⟩ (fun z => nofun) ⟨_, .tup (SqT.of (s3 _ _ e2)) (.cons (.str _) (.cons (.str _) .nil)), (by decide +kernel), Nat.le_refl _⟩⟩
      · exact ⟨_, .bl true, SqL.of e3, (by show atI _ (c / 40 % 8) = _; rw [h]; rfl), _, rfl, s23, ot _ rfl True.intro (fun z => nofun) ⟨_, .bl true, rfl, Nat.zero_le _⟩⟩
    rintro σ H2 ⟨o, rfl, s2, ho⟩
    have e2 := s2 _ _ e1
    refine ⟨fun σ H' => ∃ o : V, σ = [some (.int c), some (.ref L), some (.ref F), some (.int (j : Int)), some o] ∧ H' = H2 ∧ Odd H' fw o ∧ OkD K H' o, ⟨(by show (0 : Int) < 5; decide), ⟨fun _ => ?_, fun _ => ⟨o, rfl, rfl, ho⟩⟩⟩, ?_⟩
    · refine ⟨⟨by decide, bd_lit rfl⟩, _, .inl (SqL.of e2), ?_⟩
      rw [List.length_map]
      have q0 := Int.emod_nonneg (c / 40) (show (fw.length : Int) ≠ 0 by omega)
      have q1 := Int.emod_lt_of_pos (c / 40) (show 0 < (fw.length : Int) by omega)
      obtain ⟨i, hi⟩ : ∃ i : Nat, c / 40 % (fw.length : Int) = i := ⟨(c / 40 % (fw.length : Int)).toNat, by omega⟩
      have il : i < fw.length := by omega
      refine ⟨(by show 0 < (fw.length : Int); omega), _, .str fw[i], SqL.of e2, ?_, _, rfl, rfl, .inr ⟨fw[i], List.getElem_mem il, rfl⟩, okd_str (nm_ok (okf _ (List.getElem_mem il)))⟩
      show atI _ (c / 40 % (fw.length : Int)) = _
      rw [hi]
      refine atI_nat ?_
      rw [List.getElem?_map, List.getElem?_eq_getElem il]
      rfl
    rintro σ H3 ⟨o', rfl, rfl, ho', od'⟩
    refine ⟨_, rfl, _, SqL.of e2, fun A1 H4 s4 e4 => fun A2 H5 s5 e5 => ⟨_, _, s5 _ _ e4, e5, ?_, fun A3 H6 s6 e6 => ⟨_, rfl, _, SqL.of ((s4.trans (s5.trans s6)) _ _ e2), fun A4 H7 s7 e7 => ⟨_, _, s7 _ _ e6, e7, ?_, fun A5 H8 s8 e8 => ?_⟩⟩⟩⟩
    all_goals rw [cut_take (by rw [List.length_map]; exact hj)] at *
    all_goals try rw [cut_drop (by rw [List.length_map]; exact hj)] at *
    · rw [List.length_take, List.length_map]
      show min j fw.length + 1 ≤ 1000
      omega
    · rw [List.length_append, List.length_take, List.length_drop, List.length_map]
      show min j fw.length + 1 + (fw.length - j) ≤ 1000
      omega
    have s38 := s4.trans (s5.trans (s6.trans (s7.trans s8)))
    refine k A5 _ H8 (s1.trans (s2.trans s38)) e8 ?_ fun v hv => ?_
    rotate_left
    · have hm : ∀ v ∈ fw.map V.str, OkD K H8 v := fun v hv => by
        obtain ⟨x, hx, rfl⟩ := List.mem_map.mp hv
        exact okd_str (nm_ok (okf x hx))
      rcases List.mem_append.mp hv with hv | hv
      · rcases List.mem_append.mp hv with hv | hv
        · exact hm v (List.mem_of_mem_take hv)
        · rw [List.mem_singleton.mp hv]
          exact od'.up s38
      · exact hm v (List.mem_of_mem_drop hv)
    rw [← List.map_take, ← List.map_drop]
    refine odd_bad ?_ (by omega) okf
    rcases ho' with ⟨h1, h2, h3⟩ | h
    · exact .inl ⟨h1, h2.kt (kt_of s38), h3⟩
    · exact .inr h
theorem put_kvI {l : List Str} {w : Str → Int} {x : Str} {v : Int} : ∃ l', putK (kvI l w) (Sum.inr x) (.int v) = kvI l' (fun z => if z = x then v else w z) ∧ l'.length ≤ l.length + 1 ∧ (l.Nodup → l'.Nodup) ∧ ∀ z, z ∈ l' ↔ z ∈ l ∨ z = x := by
  have e : ∀ m : List Str, kvV m (fun y => if y = x then V.int v else V.int (w y)) = kvI m fun z => if z = x then v else w z := fun m => by
    unfold kvI kvV
    refine List.map_congr_left fun z _ => ?_
    show (Sum.inr z, if z = x then V.int v else V.int (w z)) = (Sum.inr z, V.int (if z = x then v else w z))
    split <;> rfl
  by_cases h : x ∈ l
  · refine ⟨l, ?_, Nat.le_succ _, id, fun z => ⟨.inl, fun h' => h'.elim id fun c => c ▸ h⟩⟩
    unfold kvI
    rw [kvV_put h]
    exact e l
  · refine ⟨l ++ [x], ?_, by rw [List.length_append]; exact Nat.le_refl _, fun nd => List.nodup_append.mpr ⟨nd, by simp, fun a ha b hb c => ?_⟩, fun z => by simp⟩
    · unfold kvI
      rw [kvV_new h]
      exact e (l ++ [x])
    · rw [List.mem_singleton.mp hb] at c
      exact h (c ▸ ha)
theorem put_wk {l l' : List Str} {w : Str → Int} {x : Str} {v : Int} (hw : Wk w l) (h : 1 ≤ v ∧ v ≤ 999) (m : ∀ z, z ∈ l' ↔ z ∈ l ∨ z = x) : Wk (fun z => if z = x then v else w z) l' := fun z hz => by
  show 1 ≤ (if z = x then v else w z) ∧ (if z = x then v else w z) ≤ 999
  by_cases e : z = x
  · rw [if_pos e]
    exact h
  · rw [if_neg e]
    exact hw z (((m z).mp hz).resolve_right e)
theorem drop_kvI {l : List Str} {w : Str → Int} {x : Str} : dropK (kvI l w) (Sum.inr x) = kvI (l.filter fun y => decide (y ≠ x)) w := by
  unfold kvI kvV dropK
  induction l with
  | nil => rfl
  | cons y l ih =>
    rw [List.map_cons, List.filter_cons, List.filter_cons, ih]
    by_cases c : y = x
    · subst c
      rw [if_neg (by simp), if_neg (by simp)]
    · rw [if_pos (by simp only [decide_eq_true_eq]; exact fun e => c (Sum.inr.inj e)), if_pos (by simp only [decide_eq_true_eq]; exact c)]
      rfl
theorem sh_strK {x : Str} (h : PyData.strOk x = true) : SeqAt.shaped (.str x) = true := by
  unfold SeqAt.shaped
  rw [show (PyData.str x).canLay0 = true from h]
  rfl
theorem sc_law : FnScope ["_law_script", "_law_many", "_law_names_here", "_law_tree_here", "_law_group", "_law_worths", "_law_k", "_law_gone", "_law_kept", "_law_odd", "_law_handed"] ["_law_script"] (defScope s_law) := ⟨rfl, rfl, rfl, by decide +kernel, rfl, by decide +kernel, by decide +kernel⟩
theorem inv_law {vs : List V} {H : Hp} {Q : VK} {E : XK} (h : sp_law K ns vs H Q E) : ∃ a, vs = [.ref a] := by
  first
  | (obtain ⟨v0, r0, rfl⟩ := gCons (S := fun l => sp_law K ns (l) H Q E) h id; obtain ⟨w0, rfl⟩ := gRef (S := fun v => sp_law K ns (v :: r0) H Q E) h (fun _ => id) (fun _ => id) id (fun _ => id) (fun _ => id) (fun _ => id) (fun _ => id); obtain rfl := gNil (S := fun l => sp_law K ns (.ref w0 :: l) H Q E) h fun _ _ => id; exact ⟨_, rfl⟩)
  | (match vs, h with
    | [.ref a], _ => exact ⟨_, rfl⟩)
theorem ok_law (d : Dfn K mg "law" s_law ["_law_script"]) (er : Errs K mg c_LadderError c_NoBook c_NoFit c_NoGame c_NoNumber c_NoPlayer c_NoRow c_NoStretch c_NoTable c_NoTree c_NoWorth) (n_list : mg "list" = none) (n_int : mg "int" = none) (n_range : mg "range" = none)  (c_l_asked : Cal P w K mg base "_law_asked" ["_law_of_tree", "_law_thing", "_law_worths"] 17 (sp_l_asked K ns)) (c_l_odd_group : Cal P w K mg base "_law_odd_group" ["_law_cell", "_law_group"] 1 (sp_l_odd_group K ns)) (c_l_cell_at : Cal P w K mg base "_law_cell_at" ["_law_script", "_law_k"] 1 (sp_l_cell_at K ns)) (c_l_tree : Cal P w K mg base "_law_tree" ["_law_script", "_law_names_here", "_law_at"] 18 (sp_l_tree K ns)) (c_l_names : Cal P w K mg base "_law_names" ["_law_cell", "_law_many"] 1 (sp_l_names K ns)) : Cal P w K mg base "law" ["_law_script"] 19 (sp_law K ns) := by
  refine d.cal (k := 18) sc_law (fun vs H Q E h => ?_) (fun f cdv A outer s H vs Q E hr h => ?_)
  · obtain ⟨a, rfl⟩ := inv_law h
    rfl
  · obtain ⟨a, rfl⟩ := inv_law h
    obtain ⟨hS, hl, k⟩ := h
    refine ⟨_, (@ss_cutE _ _ _ _ _ (@ps_set _ _ (1) _ _ _ _ sc_law.nd rfl (by first | exact Or.inl rfl | exact Or.inr rfl) (@pe_op _ _ _ _ _ _ _ _ o_add pe_int (@pe_op _ _ _ _ _ _ _ _ o_mod (@e_call _ _ _ _ _ _ _ _ _ _ _ c_l_cell_at hr (by decide) (by rfl) (@pa_cons _ _ _ _ _ (dv 0) (@pa_cons _ _ _ _ _ pe_int pa_nil (by rfl)) (by rfl)) (by decide) (by rfl) (by rfl)) pe_int)) (by rfl) (by first | exact .inl rfl | exact .inr rfl | assumption)) (@pss_cons _ _ _ _ _ (@ps_set _ _ (2) _ _ _ _ sc_law.nd rfl (by first | exact Or.inl rfl | exact Or.inr rfl) (@e_call _ _ _ _ _ _ _ _ _ _ _ c_l_names hr (by decide) (by rfl) (@pa_cons _ _ _ _ _ (@e_call _ _ _ _ _ _ _ _ _ _ _ c_l_cell_at hr (by decide) (by rfl) (@pa_cons _ _ _ _ _ (dv 0) (@pa_cons _ _ _ _ _ pe_int pa_nil (by rfl)) (by rfl)) (by decide) (by rfl) (by rfl)) (@pa_cons _ _ _ _ _ (dv 1) pa_nil (by rfl)) (by rfl)) (by decide) (by rfl) (by rfl)) (by rfl) (by first | exact .inl rfl | exact .inr rfl | assumption)) (@pss_cons _ _ _ _ _ (@ps_set _ _ (3) _ _ _ _ sc_law.nd rfl (by first | exact Or.inl rfl | exact Or.inr rfl) (@e_call _ _ _ _ _ _ _ _ _ _ _ c_l_tree hr (by decide) (by rfl) (@pa_cons _ _ _ _ _ (dv 0) (@pa_cons _ _ _ _ _ (dv 2) (@pa_cons _ _ _ _ _ pe_int pa_nil (by rfl)) (by rfl)) (by rfl)) (by decide) (by rfl) (by rfl)) (by rfl) (by first | exact .inl rfl | exact .inr rfl | assumption)) (@pss_cons _ _ _ _ _ (@ps_set _ _ (4) _ _ _ _ sc_law.nd rfl (by first | exact Or.inl rfl | exact Or.inr rfl) (@pe_slice _ _ _ _ _ _ _ _ _ _ sl_lst (dv 2) po_none (po_some (pe_op o_add pe_int (pe_op o_mod (e_call c_l_cell_at hr (by decide) (by rfl) (pa_cons (dv 0) (pa_cons pe_int pa_nil))) pe_int)))) (by rfl) (by first | exact .inl rfl | exact .inr rfl | assumption)) (@pss_cons _ _ _ _ _ (@ps_set _ _ (5) _ _ _ _ sc_law.nd rfl (by first | exact Or.inl rfl | exact Or.inr rfl) (@pe_disp _ _ _ _ _ (@pps_cons _ _ _ _ _ _ _ _ _ pe_str pe_int (@pps_cons _ _ _ _ _ _ _ _ _ pe_str pe_int pps_nil)) rfl rfl (by simp) (by decide)) (by rfl) (by first | exact .inl rfl | exact .inr rfl | assumption)) (@pss_cons _ _ _ _ _ (@ps_for _ _ _ _ _ _ _ _ PassesOwn.never rfl (@pi_range1 _ _ _ _ _ _ (by rfl) n_range (@pa_cons _ _ _ _ _ (dv 1) pa_nil (by rfl)) (by rfl)) (@pg_name _ _ (6) _ sc_law.nd rfl (by first | exact Or.inl rfl | exact Or.inr rfl) (by first | exact .inl rfl | exact .inr rfl | assumption)) (@pss_one _ _ _ (@ps_dput _ _ _ _ _ _ _ _ _ (@u1 _ _ hr.units) (dv 5) (@pe_ix _ _ _ _ _ _ _ i_lst (dv 2) (dv 6) (fun _ _ => rfl)) (@pe_op _ _ _ _ _ _ _ _ o_add pe_int (@pe_op _ _ _ _ _ _ _ _ o_mod (@e_call _ _ _ _ _ _ _ _ _ _ _ c_l_cell_at hr (by decide) (by rfl) (@pa_cons _ _ _ _ _ (dv 0) (@pa_cons _ _ _ _ _ (@pe_op _ _ _ _ _ _ _ _ o_add pe_int (dv 6)) pa_nil (by rfl)) (by rfl)) (by decide) (by rfl) (by rfl)) pe_int)) rfl)) (by intro _; rfl)) (@pss_cons _ _ _ _ _ (@s_if _ _ _ _ _ _ _ _ (@L2.PW.pt _ _ _ (@w_or _ _ _ _ _ _ _ (@t_cmp _ _ _ _ _ _ _ _ (@o_neD _ hr.units) (@e_call _ _ _ _ _ _ _ _ _ _ _ c_l_asked hr (by decide) (by rfl) (@pa_cons _ _ _ _ _ pe_bl (@pa_cons _ _ _ _ _ (dv 3) (@pa_cons _ _ _ _ _ (dv 5) pa_nil (by rfl)) (by rfl)) (by rfl)) (by decide) (by rfl) (by rfl)) pe_str (@nomark _ _ (by decide) (by decide))) (@pw_or1 _ _ _ _ (@t_cmp _ _ _ _ _ _ _ _ (@o_neD _ hr.units) (@e_call _ _ _ _ _ _ _ _ _ _ _ c_l_asked hr (by decide) (by rfl) (@pa_cons _ _ _ _ _ pe_bl (@pa_cons _ _ _ _ _ (dv 4) (@pa_cons _ _ _ _ _ (dv 5) pa_nil (by rfl)) (by rfl)) (by rfl)) (by decide) (by rfl) (by rfl)) pe_str (@nomark _ _ (by decide) (by decide)))))) (@pss_one _ _ _ (@ps_ret _ _ _ _ pe_bl)) pss_nil) (@pss_cons _ _ _ _ _ (@ps_set _ _ (7) _ _ _ _ sc_law.nd rfl (by first | exact Or.inl rfl | exact Or.inr rfl) (@pe_ix _ _ _ _ _ _ _ i_lst (dv 2) (@pe_op _ _ _ _ _ _ _ _ o_mod (@e_call _ _ _ _ _ _ _ _ _ _ _ c_l_cell_at hr (by decide) (by rfl) (@pa_cons _ _ _ _ _ (dv 0) (@pa_cons _ _ _ _ _ pe_int pa_nil (by rfl)) (by rfl)) (by decide) (by rfl) (by rfl)) (dv 1)) (fun _ _ => rfl)) (by rfl) (by first | exact .inl rfl | exact .inr rfl | assumption)) (@pss_cons _ _ _ _ _ (@ps_set _ _ (8) _ _ _ _ sc_law.nd rfl (by first | exact Or.inl rfl | exact Or.inr rfl) (@pe_dpop1 _ _ _ _ _ _ _ (dv 5) (dv 7) ⟨rfl, rfl, rfl, rfl⟩) (by rfl) (by first | exact .inl rfl | exact .inr rfl | assumption)) (@pss_cons _ _ _ _ _ (@s_if _ _ _ _ _ _ _ _ (@L2.PW.pt _ _ _ (@w_or _ _ _ _ _ _ _ (@t_cmp _ _ _ _ _ _ _ _ (@o_neD _ hr.units) (@e_call _ _ _ _ _ _ _ _ _ _ _ c_l_asked hr (by decide) (by rfl) (@pa_cons _ _ _ _ _ pe_bl (@pa_cons _ _ _ _ _ (dv 3) (@pa_cons _ _ _ _ _ (dv 5) pa_nil (by rfl)) (by rfl)) (by rfl)) (by decide) (by rfl) (by rfl)) pe_str (@nomark _ _ (by decide) (by decide))) (@pw_or1 _ _ _ _ (@t_cmp _ _ _ _ _ _ _ _ (@o_neD _ hr.units) (@e_call _ _ _ _ _ _ _ _ _ _ _ c_l_asked hr (by decide) (by rfl) (@pa_cons _ _ _ _ _ pe_bl (@pa_cons _ _ _ _ _ (dv 3) (@pa_cons _ _ _ _ _ pe_dnewK pa_nil (by rfl)) (by rfl)) (by rfl)) (by decide) (by rfl) (by rfl)) pe_str (@nomark _ _ (by decide) (by decide)))))) (@pss_one _ _ _ (@ps_ret _ _ _ _ pe_bl)) pss_nil) (@pss_cons _ _ _ _ _ (@s_if _ _ _ _ _ _ _ _ (@t_cmp _ _ _ _ _ _ _ _ (@o_neD _ hr.units) (@e_call _ _ _ _ _ _ _ _ _ _ _ c_l_asked hr (by decide) (by rfl) (@pa_cons _ _ _ _ _ pe_bl (@pa_cons _ _ _ _ _ (dv 4) (@pa_cons _ _ _ _ _ (dv 5) pa_nil (by rfl)) (by rfl)) (by rfl)) (by decide) (by rfl) (by rfl)) (@pe_ix _ _ _ _ _ _ _ i_lst (@e_lst _ _ _ _ (@pa_cons _ _ _ _ _ pe_str (@pa_cons _ _ _ _ _ pe_str pa_nil (by rfl)) (by rfl))) (@pe_callTy _ _ _ _ _ _ _ _ _ c_intB (by rfl) n_int (by decide +kernel) (@pa_cons _ _ _ _ _ (@pe_cmpR _ _ _ _ _ _ _ _ (show OpR _ _ (dInS K) from o_in) (dv 7) (dv 4) (by with_unfolding_all rfl)) pa_nil (by rfl)) (by decide) (by decide) (by rfl) (by rfl)) (fun _ _ => rfl)) (@nomark _ _ (by decide) (by decide))) (@pss_one _ _ _ (@ps_ret _ _ _ _ pe_bl)) pss_nil) (@pss_cons _ _ _ _ _ (@ps_set _ _ (9) _ _ _ _ sc_law.nd rfl (by first | exact Or.inl rfl | exact Or.inr rfl) (@e_call _ _ _ _ _ _ _ _ _ _ _ c_l_odd_group hr (by decide) (by rfl) (@pa_cons _ _ _ _ _ (@e_call _ _ _ _ _ _ _ _ _ _ _ c_l_cell_at hr (by decide) (by rfl) (@pa_cons _ _ _ _ _ (dv 0) (@pa_cons _ _ _ _ _ pe_int pa_nil (by rfl)) (by rfl)) (by decide) (by rfl) (by rfl)) (@pa_cons _ _ _ _ _ (dv 4) pa_nil (by rfl)) (by rfl)) (by decide) (by rfl) (by rfl)) (by rfl) (by first | exact .inl rfl | exact .inr rfl | assumption)) (@pss_cons _ _ _ _ _ (@ps_set _ _ (10) _ _ _ _ sc_law.nd rfl (by first | exact Or.inl rfl | exact Or.inr rfl) (@pe_callTy _ _ _ _ _ _ _ _ _ c_list (by rfl) n_list (by decide +kernel) (@pa_cons _ _ _ _ _ (dv 9) pa_nil (by rfl)) (by decide) (by decide) (by rfl) (by rfl)) (by rfl) (by first | exact .inl rfl | exact .inr rfl | assumption)) (@pss_cons _ _ _ _ _ (@s_if _ _ _ _ _ _ _ _ (@L2.PW.pt _ _ _ (@w_or _ _ _ _ _ _ _ (@t_cmp _ _ _ _ _ _ _ _ (@o_neD _ hr.units) (@e_call _ _ _ _ _ _ _ _ _ _ _ c_l_asked hr (by decide) (by rfl) (@pa_cons _ _ _ _ _ pe_bl (@pa_cons _ _ _ _ _ (dv 10) (@pa_cons _ _ _ _ _ (dv 5) pa_nil (by rfl)) (by rfl)) (by rfl)) (by decide) (by rfl) (by rfl)) pe_str (@nomark _ _ (by decide) (by decide))) (@w_or _ _ _ _ _ _ _ (@t_cmp _ _ _ _ _ _ _ _ (@o_neD _ hr.units) (@e_call _ _ _ _ _ _ _ _ _ _ _ c_l_asked hr (by decide) (by rfl) (@pa_cons _ _ _ _ _ pe_bl (@pa_cons _ _ _ _ _ (dv 10) (@pa_cons _ _ _ _ _ pe_dnewK pa_nil (by rfl)) (by rfl)) (by rfl)) (by decide) (by rfl) (by rfl)) pe_str (@nomark _ _ (by decide) (by decide))) (@pw_or1 _ _ _ _ (@t_cmp _ _ _ _ _ _ _ _ (@o_neD _ hr.units) (dv 10) (dv 9) (@nomark _ _ (by decide) (by decide))))))) (@pss_one _ _ _ (@ps_ret _ _ _ _ pe_bl)) pss_nil) (@pss_cons _ _ _ _ _ (@ps_dput _ _ _ _ _ _ _ _ _ (@u1 _ _ hr.units) (dv 5) (dv 7) (dv 8) rfl) (@pss_one _ _ _ (@ps_ret _ _ _ _ (@e_and _ _ _ _ _ _ _ (@pe_cmpR _ _ _ _ _ _ _ _ (@o_eqD _ hr.units) (@e_call _ _ _ _ _ _ _ _ _ _ _ c_l_asked hr (by decide) (by rfl) (@pa_cons _ _ _ _ _ pe_bl (@pa_cons _ _ _ _ _ (dv 3) (@pa_cons _ _ _ _ _ (dv 5) pa_nil (by rfl)) (by rfl)) (by rfl)) (by decide) (by rfl) (by rfl)) pe_str (@nomark _ _ (by decide) (by decide))) (@pe_one _ _ _ _ _ (@pe_cmpR _ _ _ _ _ _ _ _ (@o_eqD _ hr.units) (@e_call _ _ _ _ _ _ _ _ _ _ _ c_l_asked hr (by decide) (by rfl) (@pa_cons _ _ _ _ _ pe_bl (@pa_cons _ _ _ _ _ (dv 4) (@pa_cons _ _ _ _ _ (dv 5) pa_nil (by rfl)) (by rfl)) (by rfl)) (by decide) (by rfl) (by rfl)) pe_str (@nomark _ _ (by decide) (by decide)))))))))))))))))))))), ?_⟩
    refine ⟨fun σ H' => ∃ m : Int, σ = [some (.ref a), some (.int m), none, none, none, none, none, none, none, none, none] ∧ H' = H ∧ 1 ≤ m ∧ m ≤ 8, ⟨hS, by decide, fun c => ⟨(by show (0 : Int) < 8; decide), 1 + c % 8, rfl, rfl, ?_, ?_⟩⟩, ?_⟩
    · have := Int.emod_nonneg c (show (8 : Int) ≠ 0 by decide)
      omega
    · have := Int.emod_lt_of_pos c (show (0 : Int) < 8 by decide)
      omega
    rintro σ H0 ⟨m, rfl, rfl, m1, m8⟩
    refine ⟨hS, by decide, fun c => ⟨⟨by omega, by omega⟩, fun L nm H1 s1 n1 e1 l1 ok => ?_⟩⟩
    refine ⟨nm, ⟨s1.seq hS, SqL.of e1, by omega, (show nm.length ≤ 16 by omega), by decide⟩, fun v t H2 s2 r2 z2 => ?_⟩
    subst z2
    have tok : TOk t := ⟨ok.nd, by omega, fun x hx => (ok.ok x hx).nm⟩
    have e2 := s2 _ _ e1
    have hS2 := (s1.trans s2).seq hS
    have gk : ∀ j, NL ((lv t).take j) := fun j => ⟨(List.take_sublist _ _).nodup ok.nd, fun x hx => (ok.ok x (List.mem_of_mem_take hx)).nm⟩
    clear ok e1 s1 s2 n1 hS
    refine ⟨hS2, by decide, fun c => ⟨(by show (0 : Int) < 4; decide), ?_⟩⟩
    have c0 := Int.emod_nonneg c (show (4 : Int) ≠ 0 by decide)
    have c1 := Int.emod_lt_of_pos c (show (0 : Int) < 4 by decide)
    obtain ⟨j, hj⟩ : ∃ j : Nat, 1 + c % 4 = j := ⟨(1 + c % 4).toNat, by omega⟩
    refine ⟨_, rfl, _, SqL.of e2, fun G H3 s3 e3 => ?_⟩
    have e3 : H3 G = some (.lst (((lv t).take j).map V.str)) := by
      rw [e3, show ((1 : Int) + c % 4) = j from hj, cut_to, List.map_take]
    have g1 : 1 ≤ ((lv t).take j).length := by
      rw [List.length_take]
      omega
    have g4 : ((lv t).take j).length ≤ 4 := by
      rw [List.length_take]
      omega
    have gs : ∀ x ∈ (lv t).take j, x ∈ lv t := fun x hx => List.mem_of_mem_take hx
    have gk := gk j
    generalize (lv t).take j = gm at e3 g1 g4 gs gk
    have e2 := s3 _ _ e2
    have r2 := tr_up (kt_of s3) _ _ r2
    have hS2 := s3.seq hS2
    clear s3 hj c0 c1
    refine fun W hW => ⟨upd_same, [(Sum.inr "yy", .int 5), (Sum.inr "yz", .int 999)], rfl, by decide, ?_⟩
    have s4 : Same H3 (upd (upd H3 W (.dK [])) W (.dK (mergeK [] [(Sum.inr "yy", .int 5), (Sum.inr "yz", .int 999)]))) := same_app' (same_upd hW) hW
    have e4 : upd (upd H3 W (.dK [])) W (.dK (mergeK [] [(Sum.inr "yy", .int 5), (Sum.inr "yz", .int 999)])) W = some (.dK (kvI ["yy", "yz"] fun x => if x = "yy" then 5 else 999)) := upd_same.trans (congrArg (fun l => some (HO.dK l)) (by decide +kernel))
    generalize upd (upd H3 W (.dK [])) W (.dK (mergeK [] [(Sum.inr "yy", .int 5), (Sum.inr "yz", .int 999)])) = H4 at s4 e4
    refine ⟨m, rfl, by omega, by omega, for_range (lo := 0) (n := m.toNat) (fun i σ H' => ∃ (l : List Str) (w : Str → Int) (o6 : Option V), σ = [some (.ref a), some (.int m), some (.ref L), some v, some (.ref G), some (.ref W), o6, none, none, none, none] ∧ Same H3 H' ∧ H' W = some (.dK (kvI l w)) ∧ l.length ≤ 2 + i ∧ l.Nodup ∧ (∀ x ∈ (lv t).take i, x ∈ l) ∧ Wk w l) ⟨["yy", "yz"], _, none, rfl, s4, e4, Nat.le_refl _, by decide +kernel, fun x h => by simp at h, ?_⟩ ?_ ?_⟩
    · intro x _
      show 1 ≤ (if x = "yy" then (5 : Int) else 999) ∧ (if x = "yy" then (5 : Int) else 999) ≤ 999
      split <;> omega
    · rintro i σ H5 hi ⟨l, w, o6, rfl, s5, eW, ll, nd, sub, hw⟩
      have il : i < (lv t).length := by omega
      refine ⟨s5.seq hS2, by omega, fun c => ⟨(by show (0 : Int) < 999; decide), ?_⟩⟩
      have c0 := Int.emod_nonneg c (show (999 : Int) ≠ 0 by decide)
      have c1 := Int.emod_lt_of_pos c (show (0 : Int) < 999 by decide)
      obtain ⟨l', hl', ll', nd', ml'⟩ := put_kvI (l := l) (w := w) (x := (lv t)[i]) (v := 1 + c % 999)
      have tk : (lv t).take (i + 1) = (lv t).take i ++ [(lv t)[i]] := by rw [List.take_add_one, List.getElem?_eq_getElem il]; rfl
      refine ⟨_, .str (lv t)[i], SqL.of (s5 _ _ e2), ?_, W, _, rfl, DPut.k (k := Sum.inr (lv t)[i]) eW ?_, l', fun z => if z = (lv t)[i] then 1 + c % 999 else w z, _, rfl, same_app' s5 hW, ?_, by omega, nd' nd, fun z hz => ?_, put_wk hw (by omega) ml'⟩
      · show atI _ (0 + (i : Int)) = _
        rw [Int.zero_add]
        refine atI_nat ?_
        rw [List.getElem?_map, List.getElem?_eq_getElem il]
        rfl
      · unfold kvI kvV
        rw [List.length_map]
        exact Nat.lt_of_le_of_lt (show _ ≤ 20 by omega) (by decide)
      · rw [upd_same]
        exact congrArg (fun l => some (HO.dK l)) hl'
      · rw [tk] at hz
        rcases List.mem_append.mp hz with h | h
        · exact (ml' z).mpr (.inl (sub z h))
        · exact (ml' z).mpr (.inr (List.mem_singleton.mp h))
    rintro σ H5 ⟨l, w, o6, rfl, s5, eW, ll, nd, sub, hw⟩
    rw [List.take_of_length_le (by omega)] at sub
    clear s4 e4
    have b2 := e2
    have b3 := e3
    have rB := r2
    have e2 := s5 _ _ e2
    have e3 := s5 _ _ e3
    have r2 := tr_up (kt_of s5) _ _ r2
    have shT : SeqAt.shaped (.str "told") = true := sh_strK (by decide +kernel)
    have shP : SeqAt.shaped (.str "player") = true := sh_strK (by decide +kernel)
    have shR : SeqAt.shaped (.str "tree") = true := sh_strK (by decide +kernel)
    have l20 : l.length ≤ 20 := by omega
    refine ⟨l, w, "told", ⟨eW, hw, nd, l20⟩, .inl ⟨rfl, t, r2, tok, .inl ⟨rfl, sub⟩⟩, fun H6 s6 => ⟨_, _, .str _, .str _, shT, shT, ?_⟩⟩
    rw [eqv_shaped shT]
    refine ⟨fun h => nb h, fun _ => ?_⟩
    refine ⟨l, w, "told", ⟨s6 _ _ eW, hw, nd, l20⟩, .inr ⟨rfl, G, rfl, .inl ⟨gm, ⟨s6 _ _ e3, g1, g4, gk⟩, .inl ⟨rfl, fun x hx => sub x (gs x hx)⟩⟩⟩, fun H7 s7 => ⟨_, _, .str _, .str _, shT, shT, ?_⟩⟩
    rw [eqv_shaped shT]
    refine ⟨fun h => nb h, fun _ => ?_⟩
    have s57 := s6.trans s7
    have s37 := s5.trans s57
    refine ⟨s37.seq hS2, by decide, fun c => ⟨(by show (0 : Int) < m; omega), ?_⟩⟩
    have c0 := Int.emod_nonneg c (show m ≠ 0 by omega)
    have c1 := Int.emod_lt_of_pos c (show 0 < m by omega)
    obtain ⟨i, hi⟩ : ∃ i : Nat, c % m = i := ⟨(c % m).toNat, by omega⟩
    have il : i < (lv t).length := by omega
    have gt : (lv t)[i] ∈ lv t := List.getElem_mem il
    refine ⟨_, .str (lv t)[i], SqL.of (s57 _ _ e2), ?_, ?_⟩
    · show atI _ (c % m) = _
      rw [hi]
      refine atI_nat ?_
      rw [List.getElem?_map, List.getElem?_eq_getElem il]
      rfl
    generalize (lv t)[i] = g at gt
    have eW := s57 _ _ eW
    refine ⟨W, rfl, .inl ⟨_, .inl eW⟩, kvI l w, Sum.inr g, .int (w g), eW, rfl, kvV_val (sub g gt), ?_⟩
    have wg := hw g (sub g gt)
    clear e2 e3 r2
    have sub0 := sub
    rw [drop_kvI]
    have s8 : Same H3 (upd H7 W (.dK (kvI (l.filter fun y => decide (y ≠ g)) w))) := same_app' s37 hW
    have eW8 : upd H7 W (.dK (kvI (l.filter fun y => decide (y ≠ g)) w)) W = some (.dK (kvI (l.filter fun y => decide (y ≠ g)) w)) := upd_same
    have sub' : ∀ x ∈ lv t, x ≠ g → x ∈ l.filter fun y => decide (y ≠ g) := fun x hx ne => List.mem_filter.mpr ⟨sub0 x hx, decide_eq_true ne⟩
    have no : g ∉ l.filter fun y => decide (y ≠ g) := fun h => of_decide_eq_true (List.mem_filter.mp h).2 rfl
    have nd := List.Nodup.sublist (List.filter_sublist (p := fun y => decide (y ≠ g))) nd
    have hw : Wk w (l.filter fun y => decide (y ≠ g)) := fun x hx => hw x (List.mem_filter.mp hx).1
    have l19 : (l.filter fun y => decide (y ≠ g)).length ≤ 19 := Nat.le_trans (List.length_filter_le _ _) (by omega)
    have l20 : (l.filter fun y => decide (y ≠ g)).length ≤ 20 := by omega
    generalize upd H7 W (.dK (kvI (l.filter fun y => decide (y ≠ g)) w)) = H8 at s8 eW8
    generalize l.filter (fun y => decide (y ≠ g)) = l' at eW8 sub' no nd hw l19 l20
    clear s57 s37 s5 s6 s7 eW
    refine ⟨l', w, "player", ⟨eW8, hw, nd, l20⟩, .inl ⟨rfl, t, tr_up (kt_of s8) _ _ rB, tok, .inr ⟨rfl, g, gt, no⟩⟩, fun H9 s9 => ⟨_, _, .str _, .str _, shP, shP, ?_⟩⟩
    rw [eqv_shaped shP]
    refine ⟨fun h => nb h, fun _ => fun D hD => ?_⟩
    have s10 : Same H9 (upd H9 D (.dK [])) := same_upd hD
    have e10 : upd H9 D (.dK []) D = some (.dK (kvI [] w)) := upd_same
    generalize upd H9 D (.dK []) = H10 at s10 e10
    refine ⟨[], w, "player", ⟨e10, (fun x hx => by cases hx), List.nodup_nil, Nat.zero_le _⟩, .inl ⟨rfl, t, tr_up (kt_of (s8.trans (s9.trans s10))) _ _ rB, tok, .inr ⟨rfl, g, gt, (fun h => by cases h)⟩⟩, fun H11 s11 => ⟨_, _, .str _, .str _, shP, shP, ?_⟩⟩
    rw [eqv_shaped shP]
    refine ⟨fun h => nb h, fun _ => ?_⟩
    have s811 := s9.trans (s10.trans s11)
    have s311 := s8.trans s811
    clear e10 s10 s9 s11
    refine ⟨l', w, if g ∈ gm then "player" else "told", ⟨s811 _ _ eW8, hw, nd, l20⟩, .inr ⟨rfl, G, rfl, .inl ⟨gm, ⟨s311 _ _ b3, g1, g4, gk⟩, ?_⟩⟩, fun H12 s12 => fun D2 H13 s13 e13 => ?_⟩
    · by_cases c : g ∈ gm
      · exact .inr ⟨if_pos c, g, c, no⟩
      · exact .inl ⟨if_neg c, fun x hx => sub' x (gs x hx) fun z => c (z ▸ hx)⟩
    have s313 := s311.trans (s12.trans s13)
    refine ⟨_, .inl (SqL.of (s313 _ _ b3)), rfl, (List.all_eq_true.mpr fun v hv => ?_), ?_⟩
    · obtain ⟨x, _, rfl⟩ := List.mem_map.mp hv
      rfl
    rw [in_strs]
    have s813 := s811.trans (s12.trans s13)
    refine ⟨_, .str (if g ∈ gm then "player" else "told"), SqL.of e13, ?_, ?_⟩
    · by_cases c : g ∈ gm
      · rw [decide_eq_true c, if_pos c]
        rfl
      · rw [decide_eq_false c, if_neg c]
        rfl
    have shG : SeqAt.shaped (.str (if g ∈ gm then "player" else "told")) = true := by
      by_cases c : g ∈ gm
      · rw [if_pos c]
        exact shP
      · rw [if_neg c]
        exact shT
    refine ⟨_, _, .str _, .str _, shG, shG, ?_⟩
    rw [eqv_shaped shG]
    refine ⟨fun h => nb h, fun _ => ?_⟩
    refine ⟨s313.seq hS2, by decide, fun c => ⟨gm, ⟨s313 _ _ b3, g1, g4, gk⟩, fun O vs H14 s14 e14 bad od => ?_⟩⟩
    refine ⟨vs, .inl (SqL.of e14), fun B H15 s15 e15 => ?_⟩
    have s815 := s813.trans (s14.trans s15)
    refine ⟨l', w, "tree", ⟨s815 _ _ eW8, hw, nd, l20⟩, .inr ⟨rfl, B, rfl, .inr ⟨rfl, vs, e15, bad.up s15⟩⟩, fun H16 s16 => ⟨_, _, .str _, .str _, shR, shR, ?_⟩⟩
    rw [eqv_shaped shR]
    refine ⟨fun h => nb h, fun _ => fun D3 hD3 => ?_⟩
    have s17 : Same H16 (upd H16 D3 (.dK [])) := same_upd hD3
    have e17 : upd H16 D3 (.dK []) D3 = some (.dK (kvI [] w)) := upd_same
    generalize upd H16 D3 (.dK []) = H17 at s17 e17
    have s1517 := s16.trans s17
    refine ⟨[], w, "tree", ⟨e17, (fun x hx => by cases hx), List.nodup_nil, Nat.zero_le _⟩, .inr ⟨rfl, B, rfl, .inr ⟨rfl, vs, s1517 _ _ e15, bad.up (s15.trans s1517)⟩⟩, fun H18 s18 => ⟨_, _, .str _, .str _, shR, shR, ?_⟩⟩
    rw [eqv_shaped shR]
    refine ⟨fun h => nb h, fun _ => ?_⟩
    have s1518 := s1517.trans s18
    obtain ⟨ds, rl, cl, dp⟩ := okd_list fun v hv => (od v hv).up (s15.trans s1518)
    have shD := sh_ds cl dp
    refine ⟨.list ds, .list ds, .lst (SqL.of (s1518 _ _ e15)) rl, .lst (SqL.of ((s15.trans s1518) _ _ e14)) rl, shD, shD, ?_⟩
    rw [eqv_shaped shD]
    refine ⟨fun h => nb h, fun _ => ?_⟩
    have s818 := s815.trans s1518
    obtain ⟨l2, hl2, ll2, nd2, ml2⟩ := put_kvI (l := l') (w := w) (x := g) (v := w g)
    have s318 := s8.trans s818
    refine ⟨W, _, rfl, DPut.k (k := Sum.inr g) (s818 _ _ eW8) ?_, ?_⟩
    · unfold kvI kvV
      rw [List.length_map]
      exact Nat.lt_of_le_of_lt l20 (by decide)
    have s19 : Same H3 (upd H18 W (.dK (putK (kvI l' w) (Sum.inr g) (.int (w g))))) := same_app' s318 hW
    have e19 : upd H18 W (.dK (putK (kvI l' w) (Sum.inr g) (.int (w g)))) W = some (.dK (kvI l2 fun z => if z = g then w g else w z)) := upd_same.trans (congrArg (fun l => some (HO.dK l)) hl2)
    generalize upd H18 W (.dK (putK (kvI l' w) (Sum.inr g) (.int (w g)))) = H19 at s19 e19
    have hw2 := put_wk hw wg ml2
    generalize (fun z => if z = g then w g else w z) = w2 at e19 hw2
    have sub2 : ∀ x ∈ lv t, x ∈ l2 := fun x hx => (ml2 x).mpr (by
      by_cases c : x = g
      · exact .inr c
      · exact .inl (sub' x hx c))
    have l21 : l2.length ≤ 20 := by omega
    refine ⟨l2, w2, "told", ⟨e19, hw2, nd2 nd, l21⟩, .inl ⟨rfl, t, tr_up (kt_of s19) _ _ rB, tok, .inl ⟨rfl, sub2⟩⟩, fun H20 s20 => ⟨_, _, .str _, .str _, shT, shT, ?_⟩⟩
    rw [eqv_shaped shT]
    refine ⟨fun _ => ?_, fun h => nb h⟩
    refine ⟨l2, w2, "told", ⟨s20 _ _ e19, hw2, nd2 nd, l21⟩, .inr ⟨rfl, G, rfl, .inl ⟨gm, ⟨(s19.trans s20) _ _ b3, g1, g4, gk⟩, .inl ⟨rfl, fun x hx => sub2 x (gs x hx)⟩⟩⟩, fun H21 s21 => ⟨_, _, .str _, .str _, shT, shT, ?_⟩⟩
    rw [eqv_shaped shT]
    exact k H21
theorem ok_all {ns : List Int} (d_is_whole : Dfn K mg "is_whole" s_is_whole ["thing"]) (d_fraction : Dfn K mg "fraction" s_fraction ["top", "bottom"]) (d_greatest_divisor : Dfn K mg "greatest_divisor" s_greatest_divisor ["one", "other"]) (d_plus : Dfn K mg "plus" s_plus ["one", "other"]) (d_minus : Dfn K mg "minus" s_minus ["one", "other"]) (d_times : Dfn K mg "times" s_times ["one", "other"]) (d_over : Dfn K mg "over" s_over ["one", "other"]) (d_is_name : Dfn K mg "is_name" s_is_name ["thing"]) (d_share : Dfn K mg "share" s_share ["worth", "other", "side", "edge"]) (d_odds : Dfn K mg "odds" s_odds ["worth", "other", "side", "edge"]) (d_leaves : Dfn K mg "leaves" s_leaves ["tree"]) (d_tree_shares : Dfn K mg "tree_shares" s_tree_shares ["tree", "worths"]) (d_check_worths : Dfn K mg "check_worths" s_check_worths ["names", "worths"]) (d_shares_of : Dfn K mg "shares_of" s_shares_of ["tree", "worths"]) (d_passed : Dfn K mg "passed" s_passed ["own", "others", "worths"]) (d_win_over : Dfn K mg "win_over" s_win_over ["name", "others", "worths"]) (d_game_share : Dfn K mg "game_share" s_game_share ["one", "other", "worths"]) (d_group_shares : Dfn K mg "group_shares" s_group_shares ["names", "worths"]) (d_check_group : Dfn K mg "check_group" s_check_group ["names"]) (d_ways_to_go : Dfn K mg "ways_to_go" s_ways_to_go ["names", "worths"]) (d_meetings : Dfn K mg "meetings" s_meetings ["names"]) (d_gone_on : Dfn K mg "gone_on" s_gone_on ["way", "winner", "likely"]) (d_first_place : Dfn K mg "first_place" s_first_place ["name", "names", "ways"]) (d_leaders : Dfn K mg "leaders" s_leaders ["names", "winners"]) (d_l_cell_at : Dfn K mg "_law_cell_at" s_l_cell_at ["_law_script", "_law_k"]) (d_l_names : Dfn K mg "_law_names" s_l_names ["_law_cell", "_law_many"]) (d_l_tree : Dfn K mg "_law_tree" s_l_tree ["_law_script", "_law_names_here", "_law_at"]) (d_l_class : Dfn K mg "_law_class" s_l_class ["_law_e"]) (d_l_asked : Dfn K mg "_law_asked" s_l_asked ["_law_of_tree", "_law_thing", "_law_worths"]) (d_l_odd_group : Dfn K mg "_law_odd_group" s_l_odd_group ["_law_cell", "_law_group"]) (d_law : Dfn K mg "law" s_law ["_law_script"]) (er : Errs K mg c_LadderError c_NoBook c_NoFit c_NoGame c_NoNumber c_NoPlayer c_NoRow c_NoStretch c_NoTable c_NoTree c_NoWorth) (n_ValueError : mg "ValueError" = none) (n_abs : mg "abs" = none) (n_all : mg "all" = none) (n_bool : mg "bool" = none) (n_dict : mg "dict" = none) (n_enumerate : mg "enumerate" = none) (n_int : mg "int" = none) (n_isinstance : mg "isinstance" = none) (n_len : mg "len" = none) (n_list : mg "list" = none) (n_max : mg "max" = none) (n_range : mg "range" = none) (n_set : mg "set" = none) (n_sorted : mg "sorted" = none) (n_str : mg "str" = none) (n_tuple : mg "tuple" = none) (v_LETTERS : Cst mg "LETTERS" (.str "abcdefghijklmnopqrstuvwxyz")) (v_LONGEST_NAME : Cst mg "LONGEST_NAME" (.int (8))) (v_MOST_IN_GROUP : Cst mg "MOST_IN_GROUP" (.int (4))) (v_MOST_NAMES : Cst mg "MOST_NAMES" (.int (8))) : Cal P w K mg base "law" ["_law_script"] 19 (sp_law K ns) := by
  have c_is_whole : Cal P w K mg base "is_whole" ["thing"] 1 (sp_is_whole K ns) := ok_is_whole d_is_whole er n_isinstance n_bool n_int
  have c_greatest_divisor : Cal P w K mg base "greatest_divisor" ["one", "other"] 1 (sp_greatest_divisor K ns) := ok_greatest_divisor d_greatest_divisor er n_abs
  have c_is_name : Cal P w K mg base "is_name" ["thing"] 1 (sp_is_name K ns) := ok_is_name d_is_name er n_all n_len n_isinstance n_str v_LETTERS v_LONGEST_NAME
  have c_odds : Cal P w K mg base "odds" ["worth", "other", "side", "edge"] 1 (sp_odds K ns) := ok_odds d_odds er
  have c_check_worths : Cal P w K mg base "check_worths" ["names", "worths"] 1 (sp_check_worths K ns) := ok_check_worths d_check_worths er
  have c_meetings : Cal P w K mg base "meetings" ["names"] 1 (sp_meetings K ns) := ok_meetings d_meetings er n_enumerate
  have c_leaders : Cal P w K mg base "leaders" ["names", "winners"] 1 (sp_leaders K ns) := ok_leaders d_leaders er n_max
  have c_l_cell_at : Cal P w K mg base "_law_cell_at" ["_law_script", "_law_k"] 1 (sp_l_cell_at K ns) := ok_l_cell_at d_l_cell_at er n_len
  have c_l_names : Cal P w K mg base "_law_names" ["_law_cell", "_law_many"] 1 (sp_l_names K ns) := ok_l_names d_l_names er n_range
  have c_l_class : CalU P w K mg base "_law_class" ["_law_e"] 1 (sp_l_class K ns) := ok_l_class d_l_class er n_int n_isinstance n_ValueError
  have c_l_odd_group : Cal P w K mg base "_law_odd_group" ["_law_cell", "_law_group"] 1 (sp_l_odd_group K ns) := ok_l_odd_group d_l_odd_group er n_len
  have c_fraction : Cal P w K mg base "fraction" ["top", "bottom"] 2 (sp_fraction K ns) := ok_fraction d_fraction er c_greatest_divisor c_is_whole
  have c_leaves : Cal P w K mg base "leaves" ["tree"] 2 (sp_leaves K ns) := ok_leaves d_leaves er n_len n_isinstance n_tuple v_MOST_NAMES c_is_name
  have c_check_group : Cal P w K mg base "check_group" ["names"] 2 (sp_check_group K ns) := ok_check_group d_check_group er n_len n_set n_all n_isinstance n_list v_MOST_IN_GROUP c_is_name
  have c_plus : Cal P w K mg base "plus" ["one", "other"] 3 (sp_plus K ns) := ok_plus d_plus er c_fraction
  have c_minus : Cal P w K mg base "minus" ["one", "other"] 3 (sp_minus K ns) := ok_minus d_minus er c_fraction
  have c_times : Cal P w K mg base "times" ["one", "other"] 3 (sp_times K ns) := ok_times d_times er c_fraction
  have c_over : Cal P w K mg base "over" ["one", "other"] 3 (sp_over K ns) := ok_over d_over er c_fraction
  have c_share : Cal P w K mg base "share" ["worth", "other", "side", "edge"] 3 (sp_share K ns) := ok_share d_share er c_fraction c_odds
  have c_game_share : Cal P w K mg base "game_share" ["one", "other", "worths"] 4 (sp_game_share K ns) := ok_game_share d_game_share er c_share
  have c_gone_on : Cal P w K mg base "gone_on" ["way", "winner", "likely"] 4 (sp_gone_on K ns) := ok_gone_on d_gone_on er c_times
  have c_first_place : Cal P w K mg base "first_place" ["name", "names", "ways"] 4 (sp_first_place K ns) := ok_first_place d_first_place er n_len c_plus c_over c_leaders
  have c_win_over : Cal P w K mg base "win_over" ["name", "others", "worths"] 5 (sp_win_over K ns) := ok_win_over d_win_over er c_plus c_times c_game_share
  have c_ways_to_go : Cal P w K mg base "ways_to_go" ["names", "worths"] 5 (sp_ways_to_go K ns) := ok_ways_to_go d_ways_to_go er c_meetings c_gone_on c_minus c_game_share
  have c_passed : Cal P w K mg base "passed" ["own", "others", "worths"] 6 (sp_passed K ns) := ok_passed d_passed er n_dict c_times c_win_over
  have c_group_shares : Cal P w K mg base "group_shares" ["names", "worths"] 6 (sp_group_shares K ns) := ok_group_shares d_group_shares er n_sorted c_first_place c_ways_to_go c_check_worths c_check_group
  have c_shares_of : Cal P w K mg base "shares_of" ["tree", "worths"] 15 (sp_shares_of K ns) := ok_shares_of d_shares_of er n_isinstance n_str c_passed
  have c_tree_shares : Cal P w K mg base "tree_shares" ["tree", "worths"] 16 (sp_tree_shares K ns) := ok_tree_shares d_tree_shares er n_sorted c_shares_of c_check_worths c_leaves
  have c_l_asked : Cal P w K mg base "_law_asked" ["_law_of_tree", "_law_thing", "_law_worths"] 17 (sp_l_asked K ns) := ok_l_asked d_l_asked er n_isinstance n_list n_dict c_tree_shares c_group_shares c_l_class
  have c_l_tree : Cal P w K mg base "_law_tree" ["_law_script", "_law_names_here", "_law_at"] 18 (sp_l_tree K ns) := ok_l_tree d_l_tree er n_len c_l_cell_at
  have c_law : Cal P w K mg base "law" ["_law_script"] 19 (sp_law K ns) := ok_law d_law er n_list n_int n_range c_l_asked c_l_odd_group c_l_cell_at c_l_tree c_l_names
  exact c_law
end
theorem lenE1 : ∀ us : List Value, us.length = 1 → ∃ y0 : Value, us = [y0]
  | [y0], _ => ⟨_, rfl⟩
theorem lenE2 : ∀ us : List Value, us.length = 2 → ∃ y0 y1 : Value, us = [y0, y1]
  | [y0, y1], _ => ⟨_, _, rfl⟩
theorem lenE3 : ∀ us : List Value, us.length = 3 → ∃ y0 y1 y2 : Value, us = [y0, y1, y2]
  | [y0, y1, y2], _ => ⟨_, _, _, rfl⟩
theorem lenE4 : ∀ us : List Value, us.length = 4 → ∃ y0 y1 y2 y3 : Value, us = [y0, y1, y2, y3]
  | [y0, y1, y2, y3], _ => ⟨_, _, _, _, rfl⟩
theorem all_mk {l : PySem.W.OpenLaw} {w : World} {K : PySem.W.Frag} {h : Heap} {mg : Str → Option Value} {fa : Addr} {f0 : Addr} {od0 an0 : Option Addr} {sl0 : Array (Option Value)} {oc0 kV0 dc0 pm0 cd0 ct0 : Value} {f1 : Addr} {od1 an1 : Option Addr} {sl1 : Array (Option Value)} {oc1 kV1 dc1 pm1 cd1 ct1 : Value} {f2 : Addr} {od2 an2 : Option Addr} {sl2 : Array (Option Value)} {oc2 kV2 dc2 pm2 cd2 ct2 : Value} {f3 : Addr} {od3 an3 : Option Addr} {sl3 : Array (Option Value)} {oc3 kV3 dc3 pm3 cd3 ct3 : Value} {f4 : Addr} {od4 an4 : Option Addr} {sl4 : Array (Option Value)} {oc4 kV4 dc4 pm4 cd4 ct4 : Value} {f5 : Addr} {od5 an5 : Option Addr} {sl5 : Array (Option Value)} {oc5 kV5 dc5 pm5 cd5 ct5 : Value} {f6 : Addr} {od6 an6 : Option Addr} {sl6 : Array (Option Value)} {oc6 kV6 dc6 pm6 cd6 ct6 : Value} {f7 : Addr} {od7 an7 : Option Addr} {sl7 : Array (Option Value)} {oc7 kV7 dc7 pm7 cd7 ct7 : Value} {f8 : Addr} {od8 an8 : Option Addr} {sl8 : Array (Option Value)} {oc8 kV8 dc8 pm8 cd8 ct8 : Value} {f9 : Addr} {od9 an9 : Option Addr} {sl9 : Array (Option Value)} {oc9 kV9 dc9 pm9 cd9 ct9 : Value} {f10 : Addr} {od10 an10 : Option Addr} {sl10 : Array (Option Value)} {oc10 kV10 dc10 pm10 cd10 ct10 : Value} {f11 : Addr} {od11 an11 : Option Addr} {sl11 : Array (Option Value)} {oc11 kV11 dc11 pm11 cd11 ct11 : Value} {f12 : Addr} {od12 an12 : Option Addr} {sl12 : Array (Option Value)} {oc12 kV12 dc12 pm12 cd12 ct12 : Value} {f13 : Addr} {od13 an13 : Option Addr} {sl13 : Array (Option Value)} {oc13 kV13 dc13 pm13 cd13 ct13 : Value} {f14 : Addr} {od14 an14 : Option Addr} {sl14 : Array (Option Value)} {oc14 kV14 dc14 pm14 cd14 ct14 : Value} {f15 : Addr} {od15 an15 : Option Addr} {sl15 : Array (Option Value)} {oc15 kV15 dc15 pm15 cd15 ct15 : Value} {f16 : Addr} {od16 an16 : Option Addr} {sl16 : Array (Option Value)} {oc16 kV16 dc16 pm16 cd16 ct16 : Value} {f17 : Addr} {od17 an17 : Option Addr} {sl17 : Array (Option Value)} {oc17 kV17 dc17 pm17 cd17 ct17 : Value} {f18 : Addr} {od18 an18 : Option Addr} {sl18 : Array (Option Value)} {oc18 kV18 dc18 pm18 cd18 ct18 : Value} {f19 : Addr} {od19 an19 : Option Addr} {sl19 : Array (Option Value)} {oc19 kV19 dc19 pm19 cd19 ct19 : Value} {f20 : Addr} {od20 an20 : Option Addr} {sl20 : Array (Option Value)} {oc20 kV20 dc20 pm20 cd20 ct20 : Value} {f21 : Addr} {od21 an21 : Option Addr} {sl21 : Array (Option Value)} {oc21 kV21 dc21 pm21 cd21 ct21 : Value} {f22 : Addr} {od22 an22 : Option Addr} {sl22 : Array (Option Value)} {oc22 kV22 dc22 pm22 cd22 ct22 : Value} {f23 : Addr} {od23 an23 : Option Addr} {sl23 : Array (Option Value)} {oc23 kV23 dc23 pm23 cd23 ct23 : Value} {f24 : Addr} {od24 an24 : Option Addr} {sl24 : Array (Option Value)} {oc24 kV24 dc24 pm24 cd24 ct24 : Value} {f25 : Addr} {od25 an25 : Option Addr} {sl25 : Array (Option Value)} {oc25 kV25 dc25 pm25 cd25 ct25 : Value} {f26 : Addr} {od26 an26 : Option Addr} {sl26 : Array (Option Value)} {oc26 kV26 dc26 pm26 cd26 ct26 : Value} {f27 : Addr} {od27 an27 : Option Addr} {sl27 : Array (Option Value)} {oc27 kV27 dc27 pm27 cd27 ct27 : Value} {f28 : Addr} {od28 an28 : Option Addr} {sl28 : Array (Option Value)} {oc28 kV28 dc28 pm28 cd28 ct28 : Value} {f29 : Addr} {od29 an29 : Option Addr} {sl29 : Array (Option Value)} {oc29 kV29 dc29 pm29 cd29 ct29 : Value} {f30 : Addr} {od30 an30 : Option Addr} {sl30 : Array (Option Value)} {oc30 kV30 dc30 pm30 cd30 ct30 : Value} {c_LadderError c_NoBook c_NoFit c_NoGame c_NoNumber c_NoPlayer c_NoRow c_NoStretch c_NoTable c_NoTree c_NoWorth : Addr} {t_LETTERS : Tok} {t_LONGEST_NAME : Tok} {t_MOST_IN_GROUP : Tok} {t_MOST_NAMES : Tok} (X : K.In h) (G : h.Ns mainGlobals mg) (hfa : mg "law" = some (.ref fa)) (a0 : PySem.W.nsIn K mainGlobals "is_whole" = some (some (.ref f0))) (l0 : K.lookup f0 = some ⟨oc0, od0, .func (PySem.W.fnOf "is_whole" "is_whole" (defArgs s_is_whole) (defBody s_is_whole) (defScope s_is_whole) .none kV0 dc0 pm0 an0 cd0 ct0), sl0⟩) (e0 : PySem.W.codeIn K cd0 "is_whole" = true) (k0 : PySem.W.keepIn K (.ref f0) = true) (a1 : PySem.W.nsIn K mainGlobals "fraction" = some (some (.ref f1))) (l1 : K.lookup f1 = some ⟨oc1, od1, .func (PySem.W.fnOf "fraction" "fraction" (defArgs s_fraction) (defBody s_fraction) (defScope s_fraction) .none kV1 dc1 pm1 an1 cd1 ct1), sl1⟩) (e1 : PySem.W.codeIn K cd1 "fraction" = true) (k1 : PySem.W.keepIn K (.ref f1) = true) (a2 : PySem.W.nsIn K mainGlobals "greatest_divisor" = some (some (.ref f2))) (l2 : K.lookup f2 = some ⟨oc2, od2, .func (PySem.W.fnOf "greatest_divisor" "greatest_divisor" (defArgs s_greatest_divisor) (defBody s_greatest_divisor) (defScope s_greatest_divisor) .none kV2 dc2 pm2 an2 cd2 ct2), sl2⟩) (e2 : PySem.W.codeIn K cd2 "greatest_divisor" = true) (k2 : PySem.W.keepIn K (.ref f2) = true) (a3 : PySem.W.nsIn K mainGlobals "plus" = some (some (.ref f3))) (l3 : K.lookup f3 = some ⟨oc3, od3, .func (PySem.W.fnOf "plus" "plus" (defArgs s_plus) (defBody s_plus) (defScope s_plus) .none kV3 dc3 pm3 an3 cd3 ct3), sl3⟩) (e3 : PySem.W.codeIn K cd3 "plus" = true) (k3 : PySem.W.keepIn K (.ref f3) = true) (a4 : PySem.W.nsIn K mainGlobals "minus" = some (some (.ref f4))) (l4 : K.lookup f4 = some ⟨oc4, od4, .func (PySem.W.fnOf "minus" "minus" (defArgs s_minus) (defBody s_minus) (defScope s_minus) .none kV4 dc4 pm4 an4 cd4 ct4), sl4⟩) (e4 : PySem.W.codeIn K cd4 "minus" = true) (k4 : PySem.W.keepIn K (.ref f4) = true) (a5 : PySem.W.nsIn K mainGlobals "times" = some (some (.ref f5))) (l5 : K.lookup f5 = some ⟨oc5, od5, .func (PySem.W.fnOf "times" "times" (defArgs s_times) (defBody s_times) (defScope s_times) .none kV5 dc5 pm5 an5 cd5 ct5), sl5⟩) (e5 : PySem.W.codeIn K cd5 "times" = true) (k5 : PySem.W.keepIn K (.ref f5) = true) (a6 : PySem.W.nsIn K mainGlobals "over" = some (some (.ref f6))) (l6 : K.lookup f6 = some ⟨oc6, od6, .func (PySem.W.fnOf "over" "over" (defArgs s_over) (defBody s_over) (defScope s_over) .none kV6 dc6 pm6 an6 cd6 ct6), sl6⟩) (e6 : PySem.W.codeIn K cd6 "over" = true) (k6 : PySem.W.keepIn K (.ref f6) = true) (a7 : PySem.W.nsIn K mainGlobals "is_name" = some (some (.ref f7))) (l7 : K.lookup f7 = some ⟨oc7, od7, .func (PySem.W.fnOf "is_name" "is_name" (defArgs s_is_name) (defBody s_is_name) (defScope s_is_name) .none kV7 dc7 pm7 an7 cd7 ct7), sl7⟩) (e7 : PySem.W.codeIn K cd7 "is_name" = true) (k7 : PySem.W.keepIn K (.ref f7) = true) (a8 : PySem.W.nsIn K mainGlobals "share" = some (some (.ref f8))) (l8 : K.lookup f8 = some ⟨oc8, od8, .func (PySem.W.fnOf "share" "share" (defArgs s_share) (defBody s_share) (defScope s_share) .none kV8 dc8 pm8 an8 cd8 ct8), sl8⟩) (e8 : PySem.W.codeIn K cd8 "share" = true) (k8 : PySem.W.keepIn K (.ref f8) = true) (a9 : PySem.W.nsIn K mainGlobals "odds" = some (some (.ref f9))) (l9 : K.lookup f9 = some ⟨oc9, od9, .func (PySem.W.fnOf "odds" "odds" (defArgs s_odds) (defBody s_odds) (defScope s_odds) .none kV9 dc9 pm9 an9 cd9 ct9), sl9⟩) (e9 : PySem.W.codeIn K cd9 "odds" = true) (k9 : PySem.W.keepIn K (.ref f9) = true) (a10 : PySem.W.nsIn K mainGlobals "leaves" = some (some (.ref f10))) (l10 : K.lookup f10 = some ⟨oc10, od10, .func (PySem.W.fnOf "leaves" "leaves" (defArgs s_leaves) (defBody s_leaves) (defScope s_leaves) .none kV10 dc10 pm10 an10 cd10 ct10), sl10⟩) (e10 : PySem.W.codeIn K cd10 "leaves" = true) (k10 : PySem.W.keepIn K (.ref f10) = true) (a11 : PySem.W.nsIn K mainGlobals "tree_shares" = some (some (.ref f11))) (l11 : K.lookup f11 = some ⟨oc11, od11, .func (PySem.W.fnOf "tree_shares" "tree_shares" (defArgs s_tree_shares) (defBody s_tree_shares) (defScope s_tree_shares) .none kV11 dc11 pm11 an11 cd11 ct11), sl11⟩) (e11 : PySem.W.codeIn K cd11 "tree_shares" = true) (k11 : PySem.W.keepIn K (.ref f11) = true) (a12 : PySem.W.nsIn K mainGlobals "check_worths" = some (some (.ref f12))) (l12 : K.lookup f12 = some ⟨oc12, od12, .func (PySem.W.fnOf "check_worths" "check_worths" (defArgs s_check_worths) (defBody s_check_worths) (defScope s_check_worths) .none kV12 dc12 pm12 an12 cd12 ct12), sl12⟩) (e12 : PySem.W.codeIn K cd12 "check_worths" = true) (k12 : PySem.W.keepIn K (.ref f12) = true) (a13 : PySem.W.nsIn K mainGlobals "shares_of" = some (some (.ref f13))) (l13 : K.lookup f13 = some ⟨oc13, od13, .func (PySem.W.fnOf "shares_of" "shares_of" (defArgs s_shares_of) (defBody s_shares_of) (defScope s_shares_of) .none kV13 dc13 pm13 an13 cd13 ct13), sl13⟩) (e13 : PySem.W.codeIn K cd13 "shares_of" = true) (k13 : PySem.W.keepIn K (.ref f13) = true) (a14 : PySem.W.nsIn K mainGlobals "passed" = some (some (.ref f14))) (l14 : K.lookup f14 = some ⟨oc14, od14, .func (PySem.W.fnOf "passed" "passed" (defArgs s_passed) (defBody s_passed) (defScope s_passed) .none kV14 dc14 pm14 an14 cd14 ct14), sl14⟩) (e14 : PySem.W.codeIn K cd14 "passed" = true) (k14 : PySem.W.keepIn K (.ref f14) = true) (a15 : PySem.W.nsIn K mainGlobals "win_over" = some (some (.ref f15))) (l15 : K.lookup f15 = some ⟨oc15, od15, .func (PySem.W.fnOf "win_over" "win_over" (defArgs s_win_over) (defBody s_win_over) (defScope s_win_over) .none kV15 dc15 pm15 an15 cd15 ct15), sl15⟩) (e15 : PySem.W.codeIn K cd15 "win_over" = true) (k15 : PySem.W.keepIn K (.ref f15) = true) (a16 : PySem.W.nsIn K mainGlobals "game_share" = some (some (.ref f16))) (l16 : K.lookup f16 = some ⟨oc16, od16, .func (PySem.W.fnOf "game_share" "game_share" (defArgs s_game_share) (defBody s_game_share) (defScope s_game_share) .none kV16 dc16 pm16 an16 cd16 ct16), sl16⟩) (e16 : PySem.W.codeIn K cd16 "game_share" = true) (k16 : PySem.W.keepIn K (.ref f16) = true) (a17 : PySem.W.nsIn K mainGlobals "group_shares" = some (some (.ref f17))) (l17 : K.lookup f17 = some ⟨oc17, od17, .func (PySem.W.fnOf "group_shares" "group_shares" (defArgs s_group_shares) (defBody s_group_shares) (defScope s_group_shares) .none kV17 dc17 pm17 an17 cd17 ct17), sl17⟩) (e17 : PySem.W.codeIn K cd17 "group_shares" = true) (k17 : PySem.W.keepIn K (.ref f17) = true) (a18 : PySem.W.nsIn K mainGlobals "check_group" = some (some (.ref f18))) (l18 : K.lookup f18 = some ⟨oc18, od18, .func (PySem.W.fnOf "check_group" "check_group" (defArgs s_check_group) (defBody s_check_group) (defScope s_check_group) .none kV18 dc18 pm18 an18 cd18 ct18), sl18⟩) (e18 : PySem.W.codeIn K cd18 "check_group" = true) (k18 : PySem.W.keepIn K (.ref f18) = true) (a19 : PySem.W.nsIn K mainGlobals "ways_to_go" = some (some (.ref f19))) (l19 : K.lookup f19 = some ⟨oc19, od19, .func (PySem.W.fnOf "ways_to_go" "ways_to_go" (defArgs s_ways_to_go) (defBody s_ways_to_go) (defScope s_ways_to_go) .none kV19 dc19 pm19 an19 cd19 ct19), sl19⟩) (e19 : PySem.W.codeIn K cd19 "ways_to_go" = true) (k19 : PySem.W.keepIn K (.ref f19) = true) (a20 : PySem.W.nsIn K mainGlobals "meetings" = some (some (.ref f20))) (l20 : K.lookup f20 = some ⟨oc20, od20, .func (PySem.W.fnOf "meetings" "meetings" (defArgs s_meetings) (defBody s_meetings) (defScope s_meetings) .none kV20 dc20 pm20 an20 cd20 ct20), sl20⟩) (e20 : PySem.W.codeIn K cd20 "meetings" = true) (k20 : PySem.W.keepIn K (.ref f20) = true) (a21 : PySem.W.nsIn K mainGlobals "gone_on" = some (some (.ref f21))) (l21 : K.lookup f21 = some ⟨oc21, od21, .func (PySem.W.fnOf "gone_on" "gone_on" (defArgs s_gone_on) (defBody s_gone_on) (defScope s_gone_on) .none kV21 dc21 pm21 an21 cd21 ct21), sl21⟩) (e21 : PySem.W.codeIn K cd21 "gone_on" = true) (k21 : PySem.W.keepIn K (.ref f21) = true) (a22 : PySem.W.nsIn K mainGlobals "first_place" = some (some (.ref f22))) (l22 : K.lookup f22 = some ⟨oc22, od22, .func (PySem.W.fnOf "first_place" "first_place" (defArgs s_first_place) (defBody s_first_place) (defScope s_first_place) .none kV22 dc22 pm22 an22 cd22 ct22), sl22⟩) (e22 : PySem.W.codeIn K cd22 "first_place" = true) (k22 : PySem.W.keepIn K (.ref f22) = true) (a23 : PySem.W.nsIn K mainGlobals "leaders" = some (some (.ref f23))) (l23 : K.lookup f23 = some ⟨oc23, od23, .func (PySem.W.fnOf "leaders" "leaders" (defArgs s_leaders) (defBody s_leaders) (defScope s_leaders) .none kV23 dc23 pm23 an23 cd23 ct23), sl23⟩) (e23 : PySem.W.codeIn K cd23 "leaders" = true) (k23 : PySem.W.keepIn K (.ref f23) = true) (a24 : PySem.W.nsIn K mainGlobals "_law_cell_at" = some (some (.ref f24))) (l24 : K.lookup f24 = some ⟨oc24, od24, .func (PySem.W.fnOf "_law_cell_at" "_law_cell_at" (defArgs s_l_cell_at) (defBody s_l_cell_at) (defScope s_l_cell_at) .none kV24 dc24 pm24 an24 cd24 ct24), sl24⟩) (e24 : PySem.W.codeIn K cd24 "_law_cell_at" = true) (k24 : PySem.W.keepIn K (.ref f24) = true) (a25 : PySem.W.nsIn K mainGlobals "_law_names" = some (some (.ref f25))) (l25 : K.lookup f25 = some ⟨oc25, od25, .func (PySem.W.fnOf "_law_names" "_law_names" (defArgs s_l_names) (defBody s_l_names) (defScope s_l_names) .none kV25 dc25 pm25 an25 cd25 ct25), sl25⟩) (e25 : PySem.W.codeIn K cd25 "_law_names" = true) (k25 : PySem.W.keepIn K (.ref f25) = true) (a26 : PySem.W.nsIn K mainGlobals "_law_tree" = some (some (.ref f26))) (l26 : K.lookup f26 = some ⟨oc26, od26, .func (PySem.W.fnOf "_law_tree" "_law_tree" (defArgs s_l_tree) (defBody s_l_tree) (defScope s_l_tree) .none kV26 dc26 pm26 an26 cd26 ct26), sl26⟩) (e26 : PySem.W.codeIn K cd26 "_law_tree" = true) (k26 : PySem.W.keepIn K (.ref f26) = true) (a27 : PySem.W.nsIn K mainGlobals "_law_class" = some (some (.ref f27))) (l27 : K.lookup f27 = some ⟨oc27, od27, .func (PySem.W.fnOf "_law_class" "_law_class" (defArgs s_l_class) (defBody s_l_class) (defScope s_l_class) .none kV27 dc27 pm27 an27 cd27 ct27), sl27⟩) (e27 : PySem.W.codeIn K cd27 "_law_class" = true) (k27 : PySem.W.keepIn K (.ref f27) = true) (a28 : PySem.W.nsIn K mainGlobals "_law_asked" = some (some (.ref f28))) (l28 : K.lookup f28 = some ⟨oc28, od28, .func (PySem.W.fnOf "_law_asked" "_law_asked" (defArgs s_l_asked) (defBody s_l_asked) (defScope s_l_asked) .none kV28 dc28 pm28 an28 cd28 ct28), sl28⟩) (e28 : PySem.W.codeIn K cd28 "_law_asked" = true) (k28 : PySem.W.keepIn K (.ref f28) = true) (a29 : PySem.W.nsIn K mainGlobals "_law_odd_group" = some (some (.ref f29))) (l29 : K.lookup f29 = some ⟨oc29, od29, .func (PySem.W.fnOf "_law_odd_group" "_law_odd_group" (defArgs s_l_odd_group) (defBody s_l_odd_group) (defScope s_l_odd_group) .none kV29 dc29 pm29 an29 cd29 ct29), sl29⟩) (e29 : PySem.W.codeIn K cd29 "_law_odd_group" = true) (k29 : PySem.W.keepIn K (.ref f29) = true) (a30 : PySem.W.nsIn K mainGlobals "law" = some (some (.ref f30))) (l30 : K.lookup f30 = some ⟨oc30, od30, .func (PySem.W.fnOf "law" "law" (defArgs s_law) (defBody s_law) (defScope s_law) .none kV30 dc30 pm30 an30 cd30 ct30), sl30⟩) (e30 : PySem.W.codeIn K cd30 "law" = true) (k30 : PySem.W.keepIn K (.ref f30) = true) (z_ValueError : PySem.W.nsIn K mainGlobals "ValueError" = some none) (z_abs : PySem.W.nsIn K mainGlobals "abs" = some none) (z_all : PySem.W.nsIn K mainGlobals "all" = some none) (z_bool : PySem.W.nsIn K mainGlobals "bool" = some none) (z_dict : PySem.W.nsIn K mainGlobals "dict" = some none) (z_enumerate : PySem.W.nsIn K mainGlobals "enumerate" = some none) (z_int : PySem.W.nsIn K mainGlobals "int" = some none) (z_isinstance : PySem.W.nsIn K mainGlobals "isinstance" = some none) (z_len : PySem.W.nsIn K mainGlobals "len" = some none) (z_list : PySem.W.nsIn K mainGlobals "list" = some none) (z_max : PySem.W.nsIn K mainGlobals "max" = some none) (z_range : PySem.W.nsIn K mainGlobals "range" = some none) (z_set : PySem.W.nsIn K mainGlobals "set" = some none) (z_sorted : PySem.W.nsIn K mainGlobals "sorted" = some none) (z_str : PySem.W.nsIn K mainGlobals "str" = some none) (z_tuple : PySem.W.nsIn K mainGlobals "tuple" = some none) (y_LadderError : PySem.W.nsIn K mainGlobals "LadderError" = some (some (.ref c_LadderError))) (y_NoBook : PySem.W.nsIn K mainGlobals "NoBook" = some (some (.ref c_NoBook))) (y_NoFit : PySem.W.nsIn K mainGlobals "NoFit" = some (some (.ref c_NoFit))) (y_NoGame : PySem.W.nsIn K mainGlobals "NoGame" = some (some (.ref c_NoGame))) (y_NoNumber : PySem.W.nsIn K mainGlobals "NoNumber" = some (some (.ref c_NoNumber))) (y_NoPlayer : PySem.W.nsIn K mainGlobals "NoPlayer" = some (some (.ref c_NoPlayer))) (y_NoRow : PySem.W.nsIn K mainGlobals "NoRow" = some (some (.ref c_NoRow))) (y_NoStretch : PySem.W.nsIn K mainGlobals "NoStretch" = some (some (.ref c_NoStretch))) (y_NoTable : PySem.W.nsIn K mainGlobals "NoTable" = some (some (.ref c_NoTable))) (y_NoTree : PySem.W.nsIn K mainGlobals "NoTree" = some (some (.ref c_NoTree))) (y_NoWorth : PySem.W.nsIn K mainGlobals "NoWorth" = some (some (.ref c_NoWorth))) (q_LadderError_nw : PySem.W.excIn K c_LadderError vB "ValueError.__new__" = true) (q_LadderError_ga : PySem.W.findIn K (.ref c_LadderError) "__getattribute__" = some (some (.builtin "BaseException.__getattribute__"))) (q_LadderError_gn : PySem.W.findIn K (.ref c_LadderError) "__getattr__" = some none) (q_LadderError_cl : PySem.W.findIn K (.ref c_LadderError) "__class__" = some (some (.builtin "object.__class__"))) (q_LadderError_mo : PySem.W.mroIn K c_LadderError (.type "object") = some true) (q_LadderError_mb : PySem.W.mroIn K c_LadderError (.type "BaseException") = some true) (q_NoPlayer_nw : PySem.W.excIn K c_NoPlayer vB "ValueError.__new__" = true) (q_NoPlayer_ga : PySem.W.findIn K (.ref c_NoPlayer) "__getattribute__" = some (some (.builtin "BaseException.__getattribute__"))) (q_NoPlayer_gn : PySem.W.findIn K (.ref c_NoPlayer) "__getattr__" = some none) (q_NoPlayer_cl : PySem.W.findIn K (.ref c_NoPlayer) "__class__" = some (some (.builtin "object.__class__"))) (q_NoPlayer_mo : PySem.W.mroIn K c_NoPlayer (.type "object") = some true) (q_NoPlayer_mb : PySem.W.mroIn K c_NoPlayer (.type "BaseException") = some true) (q_NoTree_nw : PySem.W.excIn K c_NoTree vB "ValueError.__new__" = true) (q_NoTree_ga : PySem.W.findIn K (.ref c_NoTree) "__getattribute__" = some (some (.builtin "BaseException.__getattribute__"))) (q_NoTree_gn : PySem.W.findIn K (.ref c_NoTree) "__getattr__" = some none) (q_NoTree_cl : PySem.W.findIn K (.ref c_NoTree) "__class__" = some (some (.builtin "object.__class__"))) (q_NoTree_mo : PySem.W.mroIn K c_NoTree (.type "object") = some true) (q_NoTree_mb : PySem.W.mroIn K c_NoTree (.type "BaseException") = some true) (kv_NoTree : PySem.W.kitOne K (.ref c_NoTree) (.type "ValueError") = some true) (kk_NoTree_LadderError : PySem.W.kitOne K (.ref c_NoTree) (.ref c_LadderError) = some true) (kk_NoTree_NoBook : PySem.W.kitOne K (.ref c_NoTree) (.ref c_NoBook) = some false) (kk_NoTree_NoFit : PySem.W.kitOne K (.ref c_NoTree) (.ref c_NoFit) = some false) (kk_NoTree_NoGame : PySem.W.kitOne K (.ref c_NoTree) (.ref c_NoGame) = some false) (kk_NoTree_NoNumber : PySem.W.kitOne K (.ref c_NoTree) (.ref c_NoNumber) = some false) (kk_NoTree_NoPlayer : PySem.W.kitOne K (.ref c_NoTree) (.ref c_NoPlayer) = some false) (kk_NoTree_NoRow : PySem.W.kitOne K (.ref c_NoTree) (.ref c_NoRow) = some false) (kk_NoTree_NoStretch : PySem.W.kitOne K (.ref c_NoTree) (.ref c_NoStretch) = some false) (kk_NoTree_NoTable : PySem.W.kitOne K (.ref c_NoTree) (.ref c_NoTable) = some false) (kk_NoTree_NoTree : PySem.W.kitOne K (.ref c_NoTree) (.ref c_NoTree) = some true) (kk_NoTree_NoWorth : PySem.W.kitOne K (.ref c_NoTree) (.ref c_NoWorth) = some false) (km_NoTree_LadderError : PySem.W.mroIn K c_NoTree (.ref c_LadderError) = some true) (kv_NoPlayer : PySem.W.kitOne K (.ref c_NoPlayer) (.type "ValueError") = some true) (kk_NoPlayer_LadderError : PySem.W.kitOne K (.ref c_NoPlayer) (.ref c_LadderError) = some true) (kk_NoPlayer_NoBook : PySem.W.kitOne K (.ref c_NoPlayer) (.ref c_NoBook) = some false) (kk_NoPlayer_NoFit : PySem.W.kitOne K (.ref c_NoPlayer) (.ref c_NoFit) = some false) (kk_NoPlayer_NoGame : PySem.W.kitOne K (.ref c_NoPlayer) (.ref c_NoGame) = some false) (kk_NoPlayer_NoNumber : PySem.W.kitOne K (.ref c_NoPlayer) (.ref c_NoNumber) = some false) (kk_NoPlayer_NoPlayer : PySem.W.kitOne K (.ref c_NoPlayer) (.ref c_NoPlayer) = some true) (kk_NoPlayer_NoRow : PySem.W.kitOne K (.ref c_NoPlayer) (.ref c_NoRow) = some false) (kk_NoPlayer_NoStretch : PySem.W.kitOne K (.ref c_NoPlayer) (.ref c_NoStretch) = some false) (kk_NoPlayer_NoTable : PySem.W.kitOne K (.ref c_NoPlayer) (.ref c_NoTable) = some false) (kk_NoPlayer_NoTree : PySem.W.kitOne K (.ref c_NoPlayer) (.ref c_NoTree) = some false) (kk_NoPlayer_NoWorth : PySem.W.kitOne K (.ref c_NoPlayer) (.ref c_NoWorth) = some false) (km_NoPlayer_LadderError : PySem.W.mroIn K c_NoPlayer (.ref c_LadderError) = some true) (u_LETTERS : PySem.W.nsIn K mainGlobals "LETTERS" = some (some (.str "abcdefghijklmnopqrstuvwxyz" t_LETTERS))) (u_LONGEST_NAME : PySem.W.nsIn K mainGlobals "LONGEST_NAME" = some (some (.int (8) t_LONGEST_NAME))) (u_MOST_IN_GROUP : PySem.W.nsIn K mainGlobals "MOST_IN_GROUP" = some (some (.int (4) t_MOST_IN_GROUP))) (u_MOST_NAMES : PySem.W.nsIn K mainGlobals "MOST_NAMES" = some (some (.int (8) t_MOST_NAMES))) :
    ∃ fd : FuncData, (∀ (s : Shared) (v : Value), BindsTo s fd ⟨[v], []⟩ [("_law_script", v)]) ∧ ∀ base : Heap, K.In base → base.Ns mainGlobals mg → FnOk l.prog w K mg base (CXE l.prog w) 19 fa fd ["_law_script"] (sp_lawA K) := by
  have F0 := fun_mk (st := s_is_whole) l0 e0 k0
  have d0 : Dfn K mg "is_whole" s_is_whole ["thing"] := ⟨⟨_, _, F0, PySem.W.mg_of X G a0, F0.binds fun _ _ _ _ _ _ us hl => by obtain ⟨_, rfl⟩ := lenE1 us hl; rfl⟩⟩
  have F1 := fun_mk (st := s_fraction) l1 e1 k1
  have d1 : Dfn K mg "fraction" s_fraction ["top", "bottom"] := ⟨⟨_, _, F1, PySem.W.mg_of X G a1, F1.binds fun _ _ _ _ _ _ us hl => by obtain ⟨_, _, rfl⟩ := lenE2 us hl; rfl⟩⟩
  have F2 := fun_mk (st := s_greatest_divisor) l2 e2 k2
  have d2 : Dfn K mg "greatest_divisor" s_greatest_divisor ["one", "other"] := ⟨⟨_, _, F2, PySem.W.mg_of X G a2, F2.binds fun _ _ _ _ _ _ us hl => by obtain ⟨_, _, rfl⟩ := lenE2 us hl; rfl⟩⟩
  have F3 := fun_mk (st := s_plus) l3 e3 k3
  have d3 : Dfn K mg "plus" s_plus ["one", "other"] := ⟨⟨_, _, F3, PySem.W.mg_of X G a3, F3.binds fun _ _ _ _ _ _ us hl => by obtain ⟨_, _, rfl⟩ := lenE2 us hl; rfl⟩⟩
  have F4 := fun_mk (st := s_minus) l4 e4 k4
  have d4 : Dfn K mg "minus" s_minus ["one", "other"] := ⟨⟨_, _, F4, PySem.W.mg_of X G a4, F4.binds fun _ _ _ _ _ _ us hl => by obtain ⟨_, _, rfl⟩ := lenE2 us hl; rfl⟩⟩
  have F5 := fun_mk (st := s_times) l5 e5 k5
  have d5 : Dfn K mg "times" s_times ["one", "other"] := ⟨⟨_, _, F5, PySem.W.mg_of X G a5, F5.binds fun _ _ _ _ _ _ us hl => by obtain ⟨_, _, rfl⟩ := lenE2 us hl; rfl⟩⟩
  have F6 := fun_mk (st := s_over) l6 e6 k6
  have d6 : Dfn K mg "over" s_over ["one", "other"] := ⟨⟨_, _, F6, PySem.W.mg_of X G a6, F6.binds fun _ _ _ _ _ _ us hl => by obtain ⟨_, _, rfl⟩ := lenE2 us hl; rfl⟩⟩
  have F7 := fun_mk (st := s_is_name) l7 e7 k7
  have d7 : Dfn K mg "is_name" s_is_name ["thing"] := ⟨⟨_, _, F7, PySem.W.mg_of X G a7, F7.binds fun _ _ _ _ _ _ us hl => by obtain ⟨_, rfl⟩ := lenE1 us hl; rfl⟩⟩
  have F8 := fun_mk (st := s_share) l8 e8 k8
  have d8 : Dfn K mg "share" s_share ["worth", "other", "side", "edge"] := ⟨⟨_, _, F8, PySem.W.mg_of X G a8, F8.binds fun _ _ _ _ _ _ us hl => by obtain ⟨_, _, _, _, rfl⟩ := lenE4 us hl; rfl⟩⟩
  have F9 := fun_mk (st := s_odds) l9 e9 k9
  have d9 : Dfn K mg "odds" s_odds ["worth", "other", "side", "edge"] := ⟨⟨_, _, F9, PySem.W.mg_of X G a9, F9.binds fun _ _ _ _ _ _ us hl => by obtain ⟨_, _, _, _, rfl⟩ := lenE4 us hl; rfl⟩⟩
  have F10 := fun_mk (st := s_leaves) l10 e10 k10
  have d10 : Dfn K mg "leaves" s_leaves ["tree"] := ⟨⟨_, _, F10, PySem.W.mg_of X G a10, F10.binds fun _ _ _ _ _ _ us hl => by obtain ⟨_, rfl⟩ := lenE1 us hl; rfl⟩⟩
  have F11 := fun_mk (st := s_tree_shares) l11 e11 k11
  have d11 : Dfn K mg "tree_shares" s_tree_shares ["tree", "worths"] := ⟨⟨_, _, F11, PySem.W.mg_of X G a11, F11.binds fun _ _ _ _ _ _ us hl => by obtain ⟨_, _, rfl⟩ := lenE2 us hl; rfl⟩⟩
  have F12 := fun_mk (st := s_check_worths) l12 e12 k12
  have d12 : Dfn K mg "check_worths" s_check_worths ["names", "worths"] := ⟨⟨_, _, F12, PySem.W.mg_of X G a12, F12.binds fun _ _ _ _ _ _ us hl => by obtain ⟨_, _, rfl⟩ := lenE2 us hl; rfl⟩⟩
  have F13 := fun_mk (st := s_shares_of) l13 e13 k13
  have d13 : Dfn K mg "shares_of" s_shares_of ["tree", "worths"] := ⟨⟨_, _, F13, PySem.W.mg_of X G a13, F13.binds fun _ _ _ _ _ _ us hl => by obtain ⟨_, _, rfl⟩ := lenE2 us hl; rfl⟩⟩
  have F14 := fun_mk (st := s_passed) l14 e14 k14
  have d14 : Dfn K mg "passed" s_passed ["own", "others", "worths"] := ⟨⟨_, _, F14, PySem.W.mg_of X G a14, F14.binds fun _ _ _ _ _ _ us hl => by obtain ⟨_, _, _, rfl⟩ := lenE3 us hl; rfl⟩⟩
  have F15 := fun_mk (st := s_win_over) l15 e15 k15
  have d15 : Dfn K mg "win_over" s_win_over ["name", "others", "worths"] := ⟨⟨_, _, F15, PySem.W.mg_of X G a15, F15.binds fun _ _ _ _ _ _ us hl => by obtain ⟨_, _, _, rfl⟩ := lenE3 us hl; rfl⟩⟩
  have F16 := fun_mk (st := s_game_share) l16 e16 k16
  have d16 : Dfn K mg "game_share" s_game_share ["one", "other", "worths"] := ⟨⟨_, _, F16, PySem.W.mg_of X G a16, F16.binds fun _ _ _ _ _ _ us hl => by obtain ⟨_, _, _, rfl⟩ := lenE3 us hl; rfl⟩⟩
  have F17 := fun_mk (st := s_group_shares) l17 e17 k17
  have d17 : Dfn K mg "group_shares" s_group_shares ["names", "worths"] := ⟨⟨_, _, F17, PySem.W.mg_of X G a17, F17.binds fun _ _ _ _ _ _ us hl => by obtain ⟨_, _, rfl⟩ := lenE2 us hl; rfl⟩⟩
  have F18 := fun_mk (st := s_check_group) l18 e18 k18
  have d18 : Dfn K mg "check_group" s_check_group ["names"] := ⟨⟨_, _, F18, PySem.W.mg_of X G a18, F18.binds fun _ _ _ _ _ _ us hl => by obtain ⟨_, rfl⟩ := lenE1 us hl; rfl⟩⟩
  have F19 := fun_mk (st := s_ways_to_go) l19 e19 k19
  have d19 : Dfn K mg "ways_to_go" s_ways_to_go ["names", "worths"] := ⟨⟨_, _, F19, PySem.W.mg_of X G a19, F19.binds fun _ _ _ _ _ _ us hl => by obtain ⟨_, _, rfl⟩ := lenE2 us hl; rfl⟩⟩
  have F20 := fun_mk (st := s_meetings) l20 e20 k20
  have d20 : Dfn K mg "meetings" s_meetings ["names"] := ⟨⟨_, _, F20, PySem.W.mg_of X G a20, F20.binds fun _ _ _ _ _ _ us hl => by obtain ⟨_, rfl⟩ := lenE1 us hl; rfl⟩⟩
  have F21 := fun_mk (st := s_gone_on) l21 e21 k21
  have d21 : Dfn K mg "gone_on" s_gone_on ["way", "winner", "likely"] := ⟨⟨_, _, F21, PySem.W.mg_of X G a21, F21.binds fun _ _ _ _ _ _ us hl => by obtain ⟨_, _, _, rfl⟩ := lenE3 us hl; rfl⟩⟩
  have F22 := fun_mk (st := s_first_place) l22 e22 k22
  have d22 : Dfn K mg "first_place" s_first_place ["name", "names", "ways"] := ⟨⟨_, _, F22, PySem.W.mg_of X G a22, F22.binds fun _ _ _ _ _ _ us hl => by obtain ⟨_, _, _, rfl⟩ := lenE3 us hl; rfl⟩⟩
  have F23 := fun_mk (st := s_leaders) l23 e23 k23
  have d23 : Dfn K mg "leaders" s_leaders ["names", "winners"] := ⟨⟨_, _, F23, PySem.W.mg_of X G a23, F23.binds fun _ _ _ _ _ _ us hl => by obtain ⟨_, _, rfl⟩ := lenE2 us hl; rfl⟩⟩
  have F24 := fun_mk (st := s_l_cell_at) l24 e24 k24
  have d24 : Dfn K mg "_law_cell_at" s_l_cell_at ["_law_script", "_law_k"] := ⟨⟨_, _, F24, PySem.W.mg_of X G a24, F24.binds fun _ _ _ _ _ _ us hl => by obtain ⟨_, _, rfl⟩ := lenE2 us hl; rfl⟩⟩
  have F25 := fun_mk (st := s_l_names) l25 e25 k25
  have d25 : Dfn K mg "_law_names" s_l_names ["_law_cell", "_law_many"] := ⟨⟨_, _, F25, PySem.W.mg_of X G a25, F25.binds fun _ _ _ _ _ _ us hl => by obtain ⟨_, _, rfl⟩ := lenE2 us hl; rfl⟩⟩
  have F26 := fun_mk (st := s_l_tree) l26 e26 k26
  have d26 : Dfn K mg "_law_tree" s_l_tree ["_law_script", "_law_names_here", "_law_at"] := ⟨⟨_, _, F26, PySem.W.mg_of X G a26, F26.binds fun _ _ _ _ _ _ us hl => by obtain ⟨_, _, _, rfl⟩ := lenE3 us hl; rfl⟩⟩
  have F27 := fun_mk (st := s_l_class) l27 e27 k27
  have d27 : Dfn K mg "_law_class" s_l_class ["_law_e"] := ⟨⟨_, _, F27, PySem.W.mg_of X G a27, F27.binds fun _ _ _ _ _ _ us hl => by obtain ⟨_, rfl⟩ := lenE1 us hl; rfl⟩⟩
  have F28 := fun_mk (st := s_l_asked) l28 e28 k28
  have d28 : Dfn K mg "_law_asked" s_l_asked ["_law_of_tree", "_law_thing", "_law_worths"] := ⟨⟨_, _, F28, PySem.W.mg_of X G a28, F28.binds fun _ _ _ _ _ _ us hl => by obtain ⟨_, _, _, rfl⟩ := lenE3 us hl; rfl⟩⟩
  have F29 := fun_mk (st := s_l_odd_group) l29 e29 k29
  have d29 : Dfn K mg "_law_odd_group" s_l_odd_group ["_law_cell", "_law_group"] := ⟨⟨_, _, F29, PySem.W.mg_of X G a29, F29.binds fun _ _ _ _ _ _ us hl => by obtain ⟨_, _, rfl⟩ := lenE2 us hl; rfl⟩⟩
  have F30 := fun_mk (st := s_law) l30 e30 k30
  have d30 : Dfn K mg "law" s_law ["_law_script"] := ⟨⟨_, _, F30, PySem.W.mg_of X G a30, F30.binds fun _ _ _ _ _ _ us hl => by obtain ⟨_, rfl⟩ := lenE1 us hl; rfl⟩⟩
  have e := hfa.symm.trans (PySem.W.mg_of X G a30)
  cases e
  exact ⟨PySem.W.fnOf "law" "law" (defArgs s_law) (defBody s_law) (defScope s_law) .none kV30 dc30 pm30 an30 cd30 ct30, fun s v => .of_eq rfl, fun base _ _ => law_fn F30 (PySem.W.mg_of X G a30) fun ns => ok_all (ns := ns) d0 d1 d2 d3 d4 d5 d6 d7 d8 d9 d10 d11 d12 d13 d14 d15 d16 d17 d18 d19 d20 d21 d22 d23 d24 d25 d26 d27 d28 d29 d30 ⟨PySem.W.mg_of X G y_LadderError, PySem.W.mg_of X G y_NoBook, PySem.W.mg_of X G y_NoFit, PySem.W.mg_of X G y_NoGame, PySem.W.mg_of X G y_NoNumber, PySem.W.mg_of X G y_NoPlayer, PySem.W.mg_of X G y_NoRow, PySem.W.mg_of X G y_NoStretch, PySem.W.mg_of X G y_NoTable, PySem.W.mg_of X G y_NoTree, PySem.W.mg_of X G y_NoWorth, y_NoTree, y_NoPlayer, ⟨q_LadderError_nw, q_LadderError_ga, q_LadderError_gn, q_LadderError_cl, q_LadderError_mo, q_LadderError_mb⟩, ⟨q_NoPlayer_nw, q_NoPlayer_ga, q_NoPlayer_gn, q_NoPlayer_cl, q_NoPlayer_mo, q_NoPlayer_mb⟩, ⟨q_NoTree_nw, q_NoTree_ga, q_NoTree_gn, q_NoTree_cl, q_NoTree_mo, q_NoTree_mb⟩, kv_NoTree, kk_NoTree_LadderError, kk_NoTree_NoBook, kk_NoTree_NoFit, kk_NoTree_NoGame, kk_NoTree_NoNumber, kk_NoTree_NoPlayer, kk_NoTree_NoRow, kk_NoTree_NoStretch, kk_NoTree_NoTable, kk_NoTree_NoTree, kk_NoTree_NoWorth, km_NoTree_LadderError, kv_NoPlayer, kk_NoPlayer_LadderError, kk_NoPlayer_NoBook, kk_NoPlayer_NoFit, kk_NoPlayer_NoGame, kk_NoPlayer_NoNumber, kk_NoPlayer_NoPlayer, kk_NoPlayer_NoRow, kk_NoPlayer_NoStretch, kk_NoPlayer_NoTable, kk_NoPlayer_NoTree, kk_NoPlayer_NoWorth, km_NoPlayer_LadderError⟩ (PySem.W.mg_none_of X G z_ValueError) (PySem.W.mg_none_of X G z_abs) (PySem.W.mg_none_of X G z_all) (PySem.W.mg_none_of X G z_bool) (PySem.W.mg_none_of X G z_dict) (PySem.W.mg_none_of X G z_enumerate) (PySem.W.mg_none_of X G z_int) (PySem.W.mg_none_of X G z_isinstance) (PySem.W.mg_none_of X G z_len) (PySem.W.mg_none_of X G z_list) (PySem.W.mg_none_of X G z_max) (PySem.W.mg_none_of X G z_range) (PySem.W.mg_none_of X G z_set) (PySem.W.mg_none_of X G z_sorted) (PySem.W.mg_none_of X G z_str) (PySem.W.mg_none_of X G z_tuple) ⟨_, PySem.W.mg_of X G u_LETTERS, ⟨_, rfl⟩⟩ ⟨_, PySem.W.mg_of X G u_LONGEST_NAME, ⟨_, rfl⟩⟩ ⟨_, PySem.W.mg_of X G u_MOST_IN_GROUP, ⟨_, rfl⟩⟩ ⟨_, PySem.W.mg_of X G u_MOST_NAMES, ⟨_, rfl⟩⟩⟩
theorem walk {l : PySem.W.OpenLaw} {q : Program} {loose : List Str} {XP : (Str → Option Value) → Heap → Prop} {YP : World → Heap → Prop} {d : DefRec} {K : Params → PySem.W.Frag} (hn : l.most = some 63) (hdf : d.params.defaults = [])
    (hY : ∀ (w : World) (h : Heap), YP w h → (K w.params).In h)
    (F : ∀ (w : World) (mg : Str → Option Value) (fa : Addr) (h : Heap), (K w.params).In h → h.Ns mainGlobals mg → mg d.name = some (.ref fa) →
      ∃ fd : FuncData, (∀ (s : Shared) (u : Value), BindsTo s fd ⟨[u], []⟩ [("_law_script", u)]) ∧ ∀ base : Heap, (K w.params).In base → base.Ns mainGlobals mg → FnOk l.prog w (K w.params) mg base (CXE l.prog w) 19 fa fd ["_law_script"] (sp_lawA (K w.params))) :
    PySem.W.WalkO q loose XP YP l.row.toRowW d [] (fun f vs => PySem.call f vs) :=
  L2.walk_of (n := 63) (k := 19) (x := "_law_script") (CX := fun w => CXE l.prog w) (sp := fun w => sp_lawA (K w.params)) hn (by decide) hdf ⟨rfl, by decide, by decide⟩ hY F (fun _ _ a ns hl _ hS => ⟨ns, a, rfl, hS, hl, fun _ => rfl⟩) fun _ _ _ _ _ z => cxe0 z
end My
def PySem.W.Fast.tw15427526739222301604 := 0
def PySem.W.Fast.tw17705194867186076006 := 0
def PySem.W.Fast.tw16877506060005513036 := 0
def PySem.W.Fast.tw17454334341597466555 := 0
def PySem.W.Fast.tw7738783980379693265 := 0
def PySem.W.Fast.tw9189820229607273963 := 0
def PySem.W.Fast.tw870919276183414961 := 0
def PySem.W.Fast.tw12848276093939331685 := 0
def PySem.W.Fast.tw5386698283040696510 := 0
def PySem.W.Fast.tw14580953890256899362 := 0
def PySem.W.Fast.tw2722121332500407994 := 0
def PySem.W.Fast.tw4281814987776951584 := 0
def PySem.W.Fast.tw14370629895133615496 := 0
def PySem.W.Fast.tw2594429001748050700 := 0
def PySem.W.Fast.tw3472717917715687240 := 0
def PySem.W.Fast.tw14667310326917070444 := 0
def PySem.W.Fast.tw6619936991817563112 := 0
def PySem.W.Fast.tw15884538233176165784 := 0
def PySem.W.Fast.tw12259820456267493338 := 0
def PySem.W.Fast.tw11949524697994508315 := 0
def PySem.W.Fast.tw1301020715794638452 := 0
def PySem.W.Fast.tw1744378287663181542 := 0
def PySem.W.Fast.tw17572247217840457358 := 0
def PySem.W.Fast.tw4999638813894577613 := 0
def PySem.W.Fast.tw6599078422071484288 := 0
def PySem.W.Fast.tw9312295300251584827 := 0
def PySem.W.Fast.tw8536410783255380973 := 0
def PySem.W.Fast.tw2313828836985246406 := 0
def PySem.W.Fast.tw126110395785262836 := 0
def PySem.W.Fast.tw2528577719533790610 := 0
def PySem.W.Fast.tw4661656417783130372 := 0
def PySem.W.Fast.tw2059240195917204010 := 0
def PySem.W.Fast.tw4680799663783019347 := 0
def PySem.W.Fast.tw1113321169379101590 := 0
def PySem.W.Fast.tw14922451933458726598 := 0
def PySem.W.Fast.tw12318728104135851251 := 0
def PySem.W.Fast.tw13687879767456655468 := 0
def PySem.W.Fast.tw3540571960160730427 := 0
def PySem.W.Fast.tw1307500315391660128 := 0
def PySem.W.Fast.tw4756728670904056034 := 0
def PySem.W.Fast.tw18195809694219510119 := 0
def PySem.W.Fast.tw12376115053719575783 := 0
def PySem.W.Fast.tw3408566763267657287 := 0
def PySem.W.Fast.tw12034296206240121768 := 0
def PySem.W.Fast.tw15948999678942715756 := 0
def PySem.W.Fast.tw6037710032887105938 := 0
def PySem.W.Fast.tw9223801609131078583 := 0
def PySem.W.Fast.tw9157881212953201895 := 0
def PySem.W.Fast.tw4592843441607510868 := 0
def PySem.W.Fast.tw444007607863222634 := 0
def PySem.W.Fast.tw5874542518221412546 := 0
def PySem.W.Fast.tw11683975572982429925 := 0
def PySem.W.Fast.tw5039449493767969498 := 0
def PySem.W.Fast.tw2459643495848237914 := 0
def PySem.W.Fast.tw311580101739477302 := 0
def PySem.W.Fast.tw14861523806854501197 := 0
def PySem.W.Fast.tw14379494610177805969 := 0
def PySem.W.Fast.tw13337933607475024370 := 0
def PySem.W.Fast.tw7911277988330819235 := 0
def PySem.W.Fast.tw17893532952793358125 := 0
def PySem.W.Fast.tw10943041567184784248 := 0
def PySem.W.Fast.tw7135932003464239195 := 0
def PySem.W.Fast.tw5554846346769930420 := 0
def PySem.W.Fast.tw6550958962504743994 := 0
def PySem.W.Fast.tw15736318079048426338 := 0
def PySem.W.Fast.tw3272034521305501287 := 0
def PySem.W.Fast.tw10301292393625101177 := 0
def PySem.W.Fast.tw12140761660340078428 := 0
def PySem.W.Fast.tw5227093329949116966 := 0
def PySem.W.Fast.tw6525649587433871351 := 0
def PySem.W.Fast.tw7215856323229718353 := 0
def PySem.W.Fast.tw9488623613929996684 := 0
def PySem.W.Fast.tw4690765331614015594 := 0
def PySem.W.Fast.tw5623797820561381843 := 0
def PySem.W.Fast.tw7754370726923018002 := 0
def PySem.W.Fast.tw14343259786391415693 := 0
def PySem.W.Fast.tw2333985346830845197 := 0
def PySem.W.Fast.tw14295507245287304233 := 0
def PySem.W.Fast.tw7085654249490651106 := 0
def PySem.W.Fast.tw12619044249489655057 := 0
def PySem.W.Fast.tw3745479856042590084 := 0
def PySem.W.Fast.tw8976088403337561677 := 0
def PySem.W.Fast.tw3702056217758744155 := 0
def PySem.W.Fast.tw13185293926522191 := 0
def PySem.W.Fast.tw11058447098732419294 := 0
def PySem.W.Fast.tw7200871180482578149 := 0
def PySem.W.Fast.tw6403842060688786777 := 0
def PySem.W.Fast.tw3433278643500476035 := 0
def PySem.W.Fast.tw13251324323264313826 := 0
def PySem.W.Fast.tw3812428833341708171 := 0
def PySem.W.Fast.tw5805645846337255850 := 0
def PySem.W.Fast.tw17177312306955629387 := 0
def PySem.W.Fast.tw17998732591997028003 := 0
def PySem.W.Fast.tw11163937865217390550 := 0
def PySem.W.Fast.tw8062070992946489394 := 0
def PySem.W.Fast.tw17250276044796043657 := 0
def PySem.W.Fast.tw14191898267455271080 := 0
def PySem.W.Fast.tw5297788431748294440 := 0
def PySem.W.Fast.tw17609975791937226365 := 0
def PySem.W.Fast.tw6224367756157659642 := 0
def PySem.W.Fast.tw16085585199984302553 := 0
def PySem.W.Fast.tw14125353076250013742 := 0
def PySem.W.Fast.tw1429103471500505339 := 0
def PySem.W.Fast.tw7822896993233785050 := 0
open PySem PySem.W PyProof.Rows
set_option maxRecDepth 100000 in
set_option maxHeartbeats 0 in
theorem PySem.Challenge.cw_ladderworth_k63_names_without_worths_holds : PySem.Challenge.rw_ladderworth_k63_names_without_worths.Holds := by
  w_on; o_law; k_head; (case hw => w_witness2)
  k_fill
  refine My.walk (l := PySem.Challenge.rw_ladderworth_k63_names_without_worths) rfl rfl (fun w h Y => PySem.W.kIn_of Y) ?F
  case F =>
    intro w mg fa h KX G hmg
    refine' My.all_mk KX G hmg ?a0 ?l0 ?e0 ?k0 ?a1 ?l1 ?e1 ?k1 ?a2 ?l2 ?e2 ?k2 ?a3 ?l3 ?e3 ?k3 ?a4 ?l4 ?e4 ?k4 ?a5 ?l5 ?e5 ?k5 ?a6 ?l6 ?e6 ?k6 ?a7 ?l7 ?e7 ?k7 ?a8 ?l8 ?e8 ?k8 ?a9 ?l9 ?e9 ?k9 ?a10 ?l10 ?e10 ?k10 ?a11 ?l11 ?e11 ?k11 ?a12 ?l12 ?e12 ?k12 ?a13 ?l13 ?e13 ?k13 ?a14 ?l14 ?e14 ?k14 ?a15 ?l15 ?e15 ?k15 ?a16 ?l16 ?e16 ?k16 ?a17 ?l17 ?e17 ?k17 ?a18 ?l18 ?e18 ?k18 ?a19 ?l19 ?e19 ?k19 ?a20 ?l20 ?e20 ?k20 ?a21 ?l21 ?e21 ?k21 ?a22 ?l22 ?e22 ?k22 ?a23 ?l23 ?e23 ?k23 ?a24 ?l24 ?e24 ?k24 ?a25 ?l25 ?e25 ?k25 ?a26 ?l26 ?e26 ?k26 ?a27 ?l27 ?e27 ?k27 ?a28 ?l28 ?e28 ?k28 ?a29 ?l29 ?e29 ?k29 ?a30 ?l30 ?e30 ?k30 ?z_ValueError ?z_abs ?z_all ?z_bool ?z_dict ?z_enumerate ?z_int ?z_isinstance ?z_len ?z_list ?z_max ?z_range ?z_set ?z_sorted ?z_str ?z_tuple ?y_LadderError ?y_NoBook ?y_NoFit ?y_NoGame ?y_NoNumber ?y_NoPlayer ?y_NoRow ?y_NoStretch ?y_NoTable ?y_NoTree ?y_NoWorth ?q_LadderError_nw ?q_LadderError_ga ?q_LadderError_gn ?q_LadderError_cl ?q_LadderError_mo ?q_LadderError_mb ?q_NoPlayer_nw ?q_NoPlayer_ga ?q_NoPlayer_gn ?q_NoPlayer_cl ?q_NoPlayer_mo ?q_NoPlayer_mb ?q_NoTree_nw ?q_NoTree_ga ?q_NoTree_gn ?q_NoTree_cl ?q_NoTree_mo ?q_NoTree_mb ?kv_NoTree ?kk_NoTree_LadderError ?kk_NoTree_NoBook ?kk_NoTree_NoFit ?kk_NoTree_NoGame ?kk_NoTree_NoNumber ?kk_NoTree_NoPlayer ?kk_NoTree_NoRow ?kk_NoTree_NoStretch ?kk_NoTree_NoTable ?kk_NoTree_NoTree ?kk_NoTree_NoWorth ?km_NoTree_LadderError ?kv_NoPlayer ?kk_NoPlayer_LadderError ?kk_NoPlayer_NoBook ?kk_NoPlayer_NoFit ?kk_NoPlayer_NoGame ?kk_NoPlayer_NoNumber ?kk_NoPlayer_NoPlayer ?kk_NoPlayer_NoRow ?kk_NoPlayer_NoStretch ?kk_NoPlayer_NoTable ?kk_NoPlayer_NoTree ?kk_NoPlayer_NoWorth ?km_NoPlayer_LadderError ?u_LETTERS ?u_LONGEST_NAME ?u_MOST_IN_GROUP ?u_MOST_NAMES
    (case a0 => k_is)
    (case l0 => k_is)
    (case e0 => k_is)
    (case k0 => k_is)
    (case a1 => k_is)
    (case l1 => k_is)
    (case e1 => k_is)
    (case k1 => k_is)
    (case a2 => k_is)
    (case l2 => k_is)
    (case e2 => k_is)
    (case k2 => k_is)
    (case a3 => k_is)
    (case l3 => k_is)
    (case e3 => k_is)
    (case k3 => k_is)
    (case a4 => k_is)
    (case l4 => k_is)
    (case e4 => k_is)
    (case k4 => k_is)
    (case a5 => k_is)
    (case l5 => k_is)
    (case e5 => k_is)
    (case k5 => k_is)
    (case a6 => k_is)
    (case l6 => k_is)
    (case e6 => k_is)
    (case k6 => k_is)
    (case a7 => k_is)
    (case l7 => k_is)
    (case e7 => k_is)
    (case k7 => k_is)
    (case a8 => k_is)
    (case l8 => k_is)
    (case e8 => k_is)
    (case k8 => k_is)
    (case a9 => k_is)
    (case l9 => k_is)
    (case e9 => k_is)
    (case k9 => k_is)
    (case a10 => k_is)
    (case l10 => k_is)
    (case e10 => k_is)
    (case k10 => k_is)
    (case a11 => k_is)
    (case l11 => k_is)
    (case e11 => k_is)
    (case k11 => k_is)
    (case a12 => k_is)
    (case l12 => k_is)
    (case e12 => k_is)
    (case k12 => k_is)
    (case a13 => k_is)
    (case l13 => k_is)
    (case e13 => k_is)
    (case k13 => k_is)
    (case a14 => k_is)
    (case l14 => k_is)
    (case e14 => k_is)
    (case k14 => k_is)
    (case a15 => k_is)
    (case l15 => k_is)
    (case e15 => k_is)
    (case k15 => k_is)
    (case a16 => k_is)
    (case l16 => k_is)
    (case e16 => k_is)
    (case k16 => k_is)
    (case a17 => k_is)
    (case l17 => k_is)
    (case e17 => k_is)
    (case k17 => k_is)
    (case a18 => k_is)
    (case l18 => k_is)
    (case e18 => k_is)
    (case k18 => k_is)
    (case a19 => k_is)
    (case l19 => k_is)
    (case e19 => k_is)
    (case k19 => k_is)
    (case a20 => k_is)
    (case l20 => k_is)
    (case e20 => k_is)
    (case k20 => k_is)
    (case a21 => k_is)
    (case l21 => k_is)
    (case e21 => k_is)
    (case k21 => k_is)
    (case a22 => k_is)
    (case l22 => k_is)
    (case e22 => k_is)
    (case k22 => k_is)
    (case a23 => k_is)
    (case l23 => k_is)
    (case e23 => k_is)
    (case k23 => k_is)
    (case a24 => k_is)
    (case l24 => k_is)
    (case e24 => k_is)
    (case k24 => k_is)
    (case a25 => k_is)
    (case l25 => k_is)
    (case e25 => k_is)
    (case k25 => k_is)
    (case a26 => k_is)
    (case l26 => k_is)
    (case e26 => k_is)
    (case k26 => k_is)
    (case a27 => k_is)
    (case l27 => k_is)
    (case e27 => k_is)
    (case k27 => k_is)
    (case a28 => k_is)
    (case l28 => k_is)
    (case e28 => k_is)
    (case k28 => k_is)
    (case a29 => k_is)
    (case l29 => k_is)
    (case e29 => k_is)
    (case k29 => k_is)
    (case a30 => k_is)
    (case l30 => k_is)
    (case e30 => k_is)
    (case k30 => k_is)
    (case z_ValueError => k_is)
    (case z_abs => k_is)
    (case z_all => k_is)
    (case z_bool => k_is)
    (case z_dict => k_is)
    (case z_enumerate => k_is)
    (case z_int => k_is)
    (case z_isinstance => k_is)
    (case z_len => k_is)
    (case z_list => k_is)
    (case z_max => k_is)
    (case z_range => k_is)
    (case z_set => k_is)
    (case z_sorted => k_is)
    (case z_str => k_is)
    (case z_tuple => k_is)
    (case y_LadderError => first | k_is | k_exc | kernel_rfl)
    (case y_NoBook => first | k_is | k_exc | kernel_rfl)
    (case y_NoFit => first | k_is | k_exc | kernel_rfl)
    (case y_NoGame => first | k_is | k_exc | kernel_rfl)
    (case y_NoNumber => first | k_is | k_exc | kernel_rfl)
    (case y_NoPlayer => first | k_is | k_exc | kernel_rfl)
    (case y_NoRow => first | k_is | k_exc | kernel_rfl)
    (case y_NoStretch => first | k_is | k_exc | kernel_rfl)
    (case y_NoTable => first | k_is | k_exc | kernel_rfl)
    (case y_NoTree => first | k_is | k_exc | kernel_rfl)
    (case y_NoWorth => first | k_is | k_exc | kernel_rfl)
    (case q_LadderError_nw => first | k_is | k_exc | kernel_rfl)
    (case q_LadderError_ga => first | k_is | k_exc | kernel_rfl)
    (case q_LadderError_gn => first | k_is | k_exc | kernel_rfl)
    (case q_LadderError_cl => first | k_is | k_exc | kernel_rfl)
    (case q_LadderError_mo => first | k_is | k_exc | kernel_rfl)
    (case q_LadderError_mb => first | k_is | k_exc | kernel_rfl)
    (case q_NoPlayer_nw => first | k_is | k_exc | kernel_rfl)
    (case q_NoPlayer_ga => first | k_is | k_exc | kernel_rfl)
    (case q_NoPlayer_gn => first | k_is | k_exc | kernel_rfl)
    (case q_NoPlayer_cl => first | k_is | k_exc | kernel_rfl)
    (case q_NoPlayer_mo => first | k_is | k_exc | kernel_rfl)
    (case q_NoPlayer_mb => first | k_is | k_exc | kernel_rfl)
    (case q_NoTree_nw => first | k_is | k_exc | kernel_rfl)
    (case q_NoTree_ga => first | k_is | k_exc | kernel_rfl)
    (case q_NoTree_gn => first | k_is | k_exc | kernel_rfl)
    (case q_NoTree_cl => first | k_is | k_exc | kernel_rfl)
    (case q_NoTree_mo => first | k_is | k_exc | kernel_rfl)
    (case q_NoTree_mb => first | k_is | k_exc | kernel_rfl)
    (case kv_NoTree => first | k_is | k_exc | kernel_rfl)
    (case kk_NoTree_LadderError => first | k_is | k_exc | kernel_rfl)
    (case kk_NoTree_NoBook => first | k_is | k_exc | kernel_rfl)
    (case kk_NoTree_NoFit => first | k_is | k_exc | kernel_rfl)
    (case kk_NoTree_NoGame => first | k_is | k_exc | kernel_rfl)
    (case kk_NoTree_NoNumber => first | k_is | k_exc | kernel_rfl)
    (case kk_NoTree_NoPlayer => first | k_is | k_exc | kernel_rfl)
    (case kk_NoTree_NoRow => first | k_is | k_exc | kernel_rfl)
    (case kk_NoTree_NoStretch => first | k_is | k_exc | kernel_rfl)
    (case kk_NoTree_NoTable => first | k_is | k_exc | kernel_rfl)
    (case kk_NoTree_NoTree => first | k_is | k_exc | kernel_rfl)
    (case kk_NoTree_NoWorth => first | k_is | k_exc | kernel_rfl)
    (case km_NoTree_LadderError => first | k_is | k_exc | kernel_rfl)
    (case kv_NoPlayer => first | k_is | k_exc | kernel_rfl)
    (case kk_NoPlayer_LadderError => first | k_is | k_exc | kernel_rfl)
    (case kk_NoPlayer_NoBook => first | k_is | k_exc | kernel_rfl)
    (case kk_NoPlayer_NoFit => first | k_is | k_exc | kernel_rfl)
    (case kk_NoPlayer_NoGame => first | k_is | k_exc | kernel_rfl)
    (case kk_NoPlayer_NoNumber => first | k_is | k_exc | kernel_rfl)
    (case kk_NoPlayer_NoPlayer => first | k_is | k_exc | kernel_rfl)
    (case kk_NoPlayer_NoRow => first | k_is | k_exc | kernel_rfl)
    (case kk_NoPlayer_NoStretch => first | k_is | k_exc | kernel_rfl)
    (case kk_NoPlayer_NoTable => first | k_is | k_exc | kernel_rfl)
    (case kk_NoPlayer_NoTree => first | k_is | k_exc | kernel_rfl)
    (case kk_NoPlayer_NoWorth => first | k_is | k_exc | kernel_rfl)
    (case km_NoPlayer_LadderError => first | k_is | k_exc | kernel_rfl)
    (case u_LETTERS => first | k_is | k_exc | kernel_rfl)
    (case u_LONGEST_NAME => first | k_is | k_exc | kernel_rfl)
    (case u_MOST_IN_GROUP => first | k_is | k_exc | kernel_rfl)
    (case u_MOST_NAMES => first | k_is | k_exc | kernel_rfl)
#print axioms PySem.Challenge.cw_ladderworth_k63_names_without_worths_holds
